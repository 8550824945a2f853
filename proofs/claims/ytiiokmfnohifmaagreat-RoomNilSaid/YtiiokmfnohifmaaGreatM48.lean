/- Proved parts: B5f B5h. Conditions: each theorem's own. -/
import Derived.Test.YtiiokmfnohifmaaGreatM47
namespace Go.Proofs.YtiiokmfnohifmaaGreat
open Go.RowKit

section
variable {w0 w : World} {N : Nat → Prop} {b : Nat} {s : Sh} {L : Ch} {P : Nat} {os : List Ob} {i : Nat}
/-- take, whether a place is free or not -/
theorem xTakeR {A : Option Addr} {c : List Ver} {n cap : Nat} {k : ByteArray} (hn : n = c.length) (h : Side w0 N w (s.os b ++ [oCh A c])) (hcap : n ≤ cap) (a : s.AtF L P) (hk : k.size ≤ 1000) (hh : L.has k = false) :
    Calls Tryz.prog 98 #[PtrS b, .slice A n cap] w fun e w' => ∃ (n0 : Nat) (cv fv : Value) (vs : List Value) (cs : List (List Ver)) (fr : List Nat), e = .returned (.int .i64 (n0 : Int)) ∧ Side w0 N w' ((s.rows cv fv vs cs fr).os b) ∧ Fine (s.l.put k n0) cs fr (L.give k c) ∧ cs.length ≤ s.cs.length + 1 := by
  have n3 := a.n3
  have n4 := a.n4
  have fl := a.fine.len
  rcases List.eq_nil_or_concat s.fr with e | ⟨fr, p, e⟩
  · refine (xTake1R hn h hcap e (by omega)).mono fun r w' ⟨cv, h1, h2⟩ => ?_
    refine ⟨s.cs.length, cv, s.fv, _, _, _, h1, h2, ?_, by simp⟩
    exact a.fine.push hh hk
  · rw [List.concat_eq_append] at e
    have hf := a.fine
    rw [e] at hf
    refine (xTake2R hn h hcap e (hf.frlt p (by simp)) (by rw [e] at fl; simp at fl; omega)).mono fun r w' ⟨fv, h1, h2⟩ => ?_
    exact ⟨p, s.cv, fv, _, _, _, h1, h2, hf.reuse hh hk, by rw [List.length_set]; omega⟩
/-- lay, whether there is a tree or not -/
theorem xLayR (h : Side w0 N w (s.os b)) (h0 : s.T = none → s.tv = .slice none 0 0 ∧ s.l = []) (k : ByteArray) (n : Nat) (hl : s.l.length ≤ 4000) (hb : s.bd ≤ 800000) (hk : k.size ≤ 1000000) :
    Calls Tryz.prog 97 #[PtrS b, .string k, .int .i64 (n : Int)] w fun e w' => e = .returned (.tuple #[]) ∧ ∃ (T : Option Nat) (tv : Value) (bd : Nat), Side w0 N w' (({ s with T := T, tv := tv, l := s.l.put k n, bd := bd } : Sh).os b) ∧ T ≠ none ∧ bd ≤ s.bd + 29 := by
  cases ht : s.T with
  | none =>
    obtain ⟨e1, e2⟩ := h0 ht
    exact (xLay0R h ht e1 e2 k n hk).mono fun e w' ⟨h1, t, tv, h2⟩ => ⟨h1, some t, tv, 29, h2, by simp, by omega⟩
  | some t =>
    refine (xLay1R h ht k n hl hb hk).mono fun e w' ⟨h1, h2⟩ => ⟨h1, some t, s.tv, s.bd + 29, ?_, by simp, Nat.le_refl _⟩
    rw [← ht]; exact h2
set_option maxRecDepth 100000 in
set_option maxHeartbeats 4000000 in
/-- set, of a new key -/
theorem xSetNewR {A : Option Addr} {c : List Ver} {n cap : Nat} {k : ByteArray} (h : Side w0 N w (s.os b ++ [oCh A c])) (a : s.At L P) (hn : n = c.length) (hcap : n ≤ cap) (hP : P + 1 ≤ 13200) (hL : L.length + 1 ≤ 3950) (hg : GoodL c) (hr : rightL c = true) (hk : k.size ≤ 1000) (hh : L.has k = false) :
    Calls Tryz.prog 64 #[PtrS b, .string k, .slice A n cap] w fun e w' => e = .returned (.tuple #[]) ∧ ∃ s', Side w0 N w' (s'.os b) ∧ Sh.Hd s s' ∧ s'.At (L.give k c) (P + 1) := by
  have fk := good_of a.f.good a.f.right k
  have hx1 := a.x1
  have hx2 := a.x2
  have hx3 := a.x3
  obtain ⟨b1, b2, b3⟩ := sums_small a.f.good a.f.n5
  have wu := wgt_small fk.1 fk.2.1 hk
  have wv := wgt_small hg hr hk
  have au := aliv_le (k, L.of k)
  have av := aliv_le (k, c)
  have ln := hg.len
  obtain ⟨m, hm⟩ : ∃ m, m = (L.of k).length := ⟨_, rfl⟩
  obtain ⟨u1, hu1⟩ : ∃ m, m = Ch.wgt (k, L.of k) := ⟨_, rfl⟩
  obtain ⟨u2, hu2⟩ : ∃ m, m = Ch.aliv (k, L.of k) := ⟨_, rfl⟩
  obtain ⟨v1, hv1⟩ : ∃ m, m = Ch.wgt (k, c) := ⟨_, rfl⟩
  obtain ⟨v2, hv2⟩ : ∃ m, m = Ch.aliv (k, c) := ⟨_, rfl⟩
  obtain ⟨d1, hd1⟩ : ∃ d, d = s.x1 - (u1 : Int) := ⟨_, rfl⟩
  obtain ⟨d2, hd2⟩ : ∃ d, d = s.x2 - (u2 : Int) := ⟨_, rfl⟩
  obtain ⟨d3, hd3⟩ : ∃ d, d = s.x3 - (m : Int) := ⟨_, rfl⟩
  obtain ⟨y1, hy1⟩ : ∃ d, d = d1 + (v1 : Int) := ⟨_, rfl⟩
  obtain ⟨y2, hy2⟩ : ∃ d, d = d2 + (v2 : Int) := ⟨_, rfl⟩
  obtain ⟨y3, hy3⟩ : ∃ d, d = d3 + (n : Int) := ⟨_, rfl⟩
  have SUM := Lib.hid (show y1 = (L.live : Int) - (u1 : Int) + (v1 : Int) ∧ y2 = (L.alive : Int) - (u2 : Int) + (v2 : Int) ∧ y3 = (L.vers : Int) - (m : Int) + (n : Int) from ⟨by omega, by omega, by omega⟩)
  have HU := Lib.hid (show u1 = Ch.wgt (k, L.of k) ∧ u2 = Ch.aliv (k, L.of k) ∧ m = (L.of k).length ∧ v1 = Ch.wgt (k, c) ∧ v2 = Ch.aliv (k, c) ∧ n = c.length from ⟨hu1, hu2, hm, hv1, hv2, hn⟩)
  have KC := Lib.hid (fun W (hb : Below w.heap.size w W) => show Calls Tryz.prog 68 #[PtrS b, .string k] W fun e w' => ∃ A c, e = .returned (.slice A m c) ∧ SlV w' A (L.of k) ∧ Below W.heap.size W w' from (xChainR (h.below hb) a.f k).mono fun e w' ⟨A', c', h1, _, h3, h4⟩ => ⟨A', c', by rw [hm]; exact h1, h3, h4⟩)
  have KS := Lib.hid (fun W A' c' (hs : SlV W A' (L.of k)) => show Calls Tryz.prog 94 #[.string k, .slice A' m c'] W fun e w' => e = .returned (.agg #[.int .i64 (u1 : Int), .int .i64 (u2 : Int), .int .i64 (m : Int)]) ∧ Below W.heap.size W w' from by
    rw [hm, hu1, hu2]
    exact xSumsR k (L.of k) A' c' W hs fk.1 fk.2.1 (by omega))
  have KT := Lib.hid (fun W (hb : Below w.heap.size w W) => show Calls Tryz.prog 94 #[.string k, .slice A n cap] W fun e w' => e = .returned (.agg #[.int .i64 (v1 : Int), .int .i64 (v2 : Int), .int .i64 (n : Int)]) ∧ Below W.heap.size W w' from by
    rw [hn, hv1, hv2]
    obtain ⟨F, hP⟩ := (h.below hb).get (i := 8) (o := oCh A c) rfl
    exact xSumsR k c A cap W hP.1.1 hg hr (by omega))
  have KL := Lib.hid (fun W => xLessR s.x1 s.x2 s.x3 u1 u2 m d1 d2 d3 W (by rw [hd1, hx1]; unfold wrap64; omega) (by rw [hd2, hx2]; unfold wrap64; omega) (by rw [hd3, hx3]; unfold wrap64; omega))
  have KP := Lib.hid (fun W => xPlusR d1 d2 d3 v1 v2 n y1 y2 y3 W (by rw [hy1, hd1, hx1]; unfold wrap64; omega) (by rw [hy2, hd2, hx2]; unfold wrap64; omega) (by rw [hy3, hd3, hx3]; unfold wrap64; omega))
  have CX := Lib.hid (fun W (hb : Below w.heap.size w W) => show W.cell? ⟨b, 8, none⟩ = some (.int .i64 s.x1) ∧ W.cell? ⟨b, 9, none⟩ = some (.int .i64 s.x2) ∧ W.cell? ⟨b, 10, none⟩ = some (.int .i64 s.x3) ∧ (∀ j, W.frozen? ⟨b, j, none⟩ = false) from by
    have r := Sh.rowAt (h.below hb)
    exact ⟨r.cell 8, r.cell 9, r.cell 10, fun j => r.frozen j⟩)
  have HS := Lib.hid (fun W (hb : Below w.heap.size w W) => Sh.sumSet (y1 := y1) (y2 := y2) (y3 := y3) (h.below hb))
  have B0 := Lib.hid (show Below w.heap.size w w.drew from (Below.refl _ _).drew)
  have HA := Lib.hid a
  have HG := Lib.hid (And.intro hg hr)
  have HN := Lib.hid hn
  have HCAP := Lib.hid hcap
  clear fk hx1 hx2 hx3 b1 b2 b3 wu wv au av ln hm hu1 hu2 hv1 hv2 hd1 hd2 hd3 hy1 hy2 hy3
  clear h a hn hg hr hcap
  go_enter Tryz.func64, Tryz.ntmps64
  go_wp2_with fail
  refine wp_region_held_drew (S := (fun _ => True)) (by kernel_rfl) (trivial) (fun hHeld => ?_)
  refine rgnTake 0 rfl (by kernel_rfl) (by kernel_rfl) (by kernel_rfl) (fun _ _ _ h => h) (by rfl) (v := ?v1) ?hy1 hHeld ?rest1
  case hy1 => (intro v hSw; first | (go_simp; done) | (go_simp; with_reducible rfl))
  try simp only [Act.put, List.setIfInBounds_toArray, List.set_cons_zero, List.set_cons_succ]
  refine rgnTake 1 rfl (by kernel_rfl) (by kernel_rfl) (by kernel_rfl) (fun _ _ _ h => h) (by rfl) (v := ?v2) ?hy2 hHeld ?rest2
  case hy2 => (intro v hSw; first | (go_simp; done) | (go_simp; with_reducible rfl))
  try simp only [Act.put, List.setIfInBounds_toArray, List.set_cons_zero, List.set_cons_succ]
  refine rgnTake 2 rfl (by kernel_rfl) (by kernel_rfl) (by kernel_rfl) (fun _ _ _ h => h) (by rfl) (v := ?v3) ?hy3 hHeld ?rest3
  case hy3 => (intro v hSw; first | (go_simp; done) | (go_simp; with_reducible rfl))
  try simp only [Act.put, List.setIfInBounds_toArray, List.set_cons_zero, List.set_cons_succ]
  refine rgnTake 3 rfl (by kernel_rfl) (by kernel_rfl) (by kernel_rfl) (fun _ _ _ h => h) (by rfl) (v := ?v4) ?hy4 hHeld ?rest4
  case hy4 => (intro v hSw; first | (go_simp; done) | (go_simp; with_reducible rfl))
  try simp only [Act.put, List.setIfInBounds_toArray, List.set_cons_zero, List.set_cons_succ]
  refine rgnTake 5 rfl (by kernel_rfl) (by kernel_rfl) (by kernel_rfl) (fun _ _ _ h => h) (by rfl) (v := ?v5) ?hy5 hHeld ?rest5
  case hy5 => (intro v hSw; first | (go_simp; done) | (go_simp; with_reducible rfl))
  try simp only [Act.put, List.setIfInBounds_toArray, List.set_cons_zero, List.set_cons_succ]
  refine rgnTake 6 rfl (by kernel_rfl) (by kernel_rfl) (by kernel_rfl) (fun _ _ _ h => h) (by rfl) (v := ?v6) ?hy6 hHeld ?rest6
  case hy6 => (intro v hSw; first | (go_simp; done) | (go_simp; with_reducible rfl))
  try simp only [Act.put, List.setIfInBounds_toArray, List.set_cons_zero, List.set_cons_succ]
  refine rgnTake 7 rfl (by kernel_rfl) (by kernel_rfl) (by kernel_rfl) (fun _ _ _ h => h) (by rfl) (v := ?v7) ?hy7 hHeld ?rest7
  case hy7 => (intro v hSw; first | (go_simp; done) | (go_simp; with_reducible rfl))
  try simp only [Act.put, List.setIfInBounds_toArray, List.set_cons_zero, List.set_cons_succ]
  refine rgnTake 11 rfl (by kernel_rfl) (by kernel_rfl) (by kernel_rfl) (fun _ _ _ h => h) (by rfl) (v := ?v8) ?hy8 hHeld ?rest8
  case hy8 => (intro v hSw; first | (go_simp; done) | (go_simp; with_reducible rfl))
  try simp only [Act.put, List.setIfInBounds_toArray, List.set_cons_zero, List.set_cons_succ]
  refine rgnTake 12 rfl (by kernel_rfl) (by kernel_rfl) (by kernel_rfl) (fun _ _ _ h => h) (by rfl) (v := ?v9) ?hy9 hHeld ?rest9
  case hy9 => (intro v hSw; first | (go_simp; done) | (go_simp; with_reducible rfl))
  try simp only [Act.put, List.setIfInBounds_toArray, List.set_cons_zero, List.set_cons_succ]
  have BX := B0
  refine rgnTwo 4 8 rfl rfl (by kernel_rfl) (fun K hK => ?_) (fun K hK => ?_)
  · obtain ⟨c8, c9, c10, -⟩ := CX.out _ BX.out
    go_simp
    refine hK.out _ _ trivial (fun hHeld => ?_)
    clear hK K c8 c9 c10
    try simp only [Act.put, List.setIfInBounds_toArray, List.set_cons_zero, List.set_cons_succ]
    refine rgnOne 8 rfl (by kernel_rfl) (fun K hK => ?_)
    go_simp
    refine (KC.out _ BX.out).mono ?_
    rintro r W1 ⟨A1, c1, rfl, hs1, hb1⟩
    refine hK.out _ _ trivial (fun hHeld => ?_)
    clear hK K
    try simp only [Act.put, List.setIfInBounds_toArray, List.set_cons_zero, List.set_cons_succ]
    have S1 := Lib.hid hs1
    have B1 := Lib.hid (below_then BX.out hb1)
    clear hs1 hb1
    refine rgnOne 9 rfl (by kernel_rfl) (fun K hK => ?_)
    go_simp
    refine (KS.out _ _ _ S1.out).mono ?_
    rintro r W2 ⟨rfl, hb2⟩
    refine hK.out _ _ trivial (fun hHeld => ?_)
    clear hK K
    try simp only [Act.put, List.setIfInBounds_toArray, List.set_cons_zero, List.set_cons_succ]
    have B2 := Lib.hid (below_then B1.out hb2)
    clear hb2
    refine rgnOne 10 rfl (by kernel_rfl) (fun K hK => ?_)
    go_simp
    refine (KL.out _).mono ?_
    rintro r W3 ⟨rfl, hb3⟩
    refine hK.out _ _ trivial (fun hHeld => ?_)
    clear hK K
    try simp only [Act.put, List.setIfInBounds_toArray, List.set_cons_zero, List.set_cons_succ]
    have B3 := Lib.hid (below_then B2.out hb3)
    clear hb3
    refine rgnOne 13 rfl (by kernel_rfl) (fun K hK => ?_)
    go_simp
    refine (KT.out _ B3.out).mono ?_
    rintro r W4 ⟨rfl, hb4⟩
    refine hK.out _ _ trivial (fun hHeld => ?_)
    clear hK K
    try simp only [Act.put, List.setIfInBounds_toArray, List.set_cons_zero, List.set_cons_succ]
    have B4 := Lib.hid (below_then B3.out hb4)
    clear hb4
    refine rgnOne 14 rfl (by kernel_rfl) (fun K hK => ?_)
    go_simp
    refine (KP.out _).mono ?_
    rintro r W5 ⟨rfl, hb5⟩
    refine hK.out _ _ trivial (fun hHeld => ?_)
    clear hK K
    try simp only [Act.put, List.setIfInBounds_toArray, List.set_cons_zero, List.set_cons_succ]
    have B5 := Lib.hid (below_then B4.out hb5)
    obtain ⟨c8, c9, c10, cf⟩ := CX.out _ B5.out
    have f8 := cf 8
    have f9 := cf 9
    have f10 := cf 10
    have HS5 := Lib.hid (HS.out _ B5.out)
    clear hb5 cf
    refine rgnTake 15 rfl (by kernel_rfl) (by kernel_rfl) (by kernel_rfl) (fun _ _ _ h => h) (by rfl) (v := ?v10) ?hy10 hHeld ?rest10
    case hy10 => (intro v hSw; first | (go_simp; done) | (go_simp; with_reducible rfl))
    try simp only [Act.put, List.setIfInBounds_toArray, List.set_cons_zero, List.set_cons_succ]
    refine rgnTake 16 rfl (by kernel_rfl) (by kernel_rfl) (by kernel_rfl) (fun _ _ _ h => h) (by rfl) (v := ?v11) ?hy11 hHeld ?rest11
    case hy11 => (intro v hSw; first | (go_simp; done) | (go_simp; with_reducible rfl))
    try simp only [Act.put, List.setIfInBounds_toArray, List.set_cons_zero, List.set_cons_succ]
    refine rgnOne 17 rfl (by kernel_rfl) (fun K hK => ?_)
    go_simp
    refine hK.out _ _ trivial (fun hHeld => ?_)
    clear hK K c8 c9 c10 f8 f9 f10
    try simp only [Act.put, List.setIfInBounds_toArray, List.set_cons_zero, List.set_cons_succ]
    obtain ⟨W6, hW6⟩ : ∃ W6, W6 = ((W5.setCell ⟨b, 8, none⟩ (.int .i64 y1)).setCell ⟨b, 9, none⟩ (.int .i64 y2)).setCell ⟨b, 10, none⟩ (.int .i64 y3) := ⟨_, rfl⟩
    rw [← hW6] at HS5 ⊢
    clear hW6
    refine wpAnyH_done (by kernel_rfl) ?_ _
    have af : (s.sum y1 y2 y3).AtF L P := HA.out.f.sums
    have FC := Lib.hid ((xFindR HS5.out af k).mono (R' := fun e w' => e = .returned (.tuple #[.pointer none, .int .i64 0]) ∧ Side w0 N w' ((s.sum y1 y2 y3).os b ++ [oCh A c])) fun e w' ⟨tp, p, q1, q2, q3, _⟩ => by
      obtain ⟨rfl, rfl⟩ := q3 hh
      exact ⟨q1, HS5.out.below q2⟩)
    have KTK := Lib.hid (fun W (hW : Side w0 N W ((s.sum y1 y2 y3).os b ++ [oCh A c])) => xTakeR (k := k) HN.out hW HCAP.out af hk hh)
    have nn1 := af.n1
    have nn2 := af.n2
    have nn4 := af.n4
    have nn5 := af.n5
    have LL := Lib.hid (show s.l.length = L.length from af.fine.llen)
    have BD := Lib.hid (show s.bd ≤ 800000 from by have : s.bd ≤ 29 * (2 * P - L.length) := nn2; omega)
    have KLY := Lib.hid (fun W cv fv vs cs fr (n0 : Nat) (hW : Side w0 N W (((s.sum y1 y2 y3).rows cv fv vs cs fr).os b)) => xLayR hW (show s.T = none → _ from HA.out.f.t0) k n0 (show s.l.length ≤ 4000 by rw [LL.out]; omega) BD.out (by omega))
    clear af nn1 nn2 nn4 nn5
    go_wp2_with fail
    refine FC.out.mono ?_
    rintro e W7 ⟨rfl, h7⟩
    have K7 := Lib.hid (KTK.out _ h7)
    clear h7 FC KTK
    go_wp2_with fail
    refine K7.out.mono ?_
    rintro e W8 ⟨n0, cv, fv, vs, cs, fr, rfl, h8, f8, l8⟩
    have K8 := Lib.hid (KLY.out _ _ _ _ _ _ n0 h8)
    have F8 := Lib.hid f8
    have L8 := Lib.hid l8
    clear h8 f8 l8 K7 KLY
    go_wp2_with fail
    refine K8.out.mono ?_
    rintro e W9 ⟨rfl, T, tv, bd, h9, t9, b9⟩
    have H9 := Lib.hid h9
    have T9 := Lib.hid t9
    have B9 := Lib.hid b9
    clear h9 t9 b9 K8
    go_wp2_with fail
    refine bodyPost_end (results_none rfl _ _ _) rfl ⟨rfl, _, H9.out, ⟨rfl, rfl, rfl, rfl, rfl, rfl, rfl⟩, ?_⟩
    have af := HA.out.f
    have gl : (L.give k c).length = L.length + 1 := by rw [Ch.give_len, hh]; rfl
    obtain ⟨z1, z2, z3⟩ := sums_give L k c
    obtain ⟨w1, w2, w3⟩ := SUM.out
    obtain ⟨w4, w5, w6, w7, w8, w9⟩ := HU.out
    have b9 : bd ≤ s.bd + 29 := B9.out
    have l8 : cs.length ≤ s.cs.length + 1 := L8.out
    have e1 := af.n1
    have e2 := af.n2
    have e3 := af.n3
    have e4 := af.good.len
    refine ⟨⟨F8.out, fun e => absurd e T9.out, by rw [gl]; omega, by rw [gl]; show bd ≤ _; omega, by show cs.length ≤ P + 1; omega, hP, good_give af.good HG.out.1 HG.out.2 hk (by rw [gl]; omega), right_give af.good af.right HG.out.2, by rw [gl]; exact hL⟩, ?_, ?_, ?_⟩
    · show y1 = _; omega
    · show y2 = _; omega
    · show y3 = _; omega
  · go_simp
    refine (KC.out _ BX.out).mono ?_
    rintro r W1 ⟨A1, c1, rfl, hs1, hb1⟩
    refine hK.out _ _ trivial (fun hHeld => ?_)
    clear hK K
    try simp only [Act.put, List.setIfInBounds_toArray, List.set_cons_zero, List.set_cons_succ]
    have S1 := Lib.hid hs1
    have B1 := Lib.hid (below_then BX.out hb1)
    clear hs1 hb1
    refine rgnTwo 4 9 rfl rfl (by kernel_rfl) (fun K hK => ?_) (fun K hK => ?_)
    · obtain ⟨c8, c9, c10, -⟩ := CX.out _ B1.out
      go_simp
      refine hK.out _ _ trivial (fun hHeld => ?_)
      clear hK K c8 c9 c10
      try simp only [Act.put, List.setIfInBounds_toArray, List.set_cons_zero, List.set_cons_succ]
      refine rgnOne 9 rfl (by kernel_rfl) (fun K hK => ?_)
      go_simp
      refine (KS.out _ _ _ S1.out).mono ?_
      rintro r W2 ⟨rfl, hb2⟩
      refine hK.out _ _ trivial (fun hHeld => ?_)
      clear hK K
      try simp only [Act.put, List.setIfInBounds_toArray, List.set_cons_zero, List.set_cons_succ]
      have B2 := Lib.hid (below_then B1.out hb2)
      clear hb2
      refine rgnOne 10 rfl (by kernel_rfl) (fun K hK => ?_)
      go_simp
      refine (KL.out _).mono ?_
      rintro r W3 ⟨rfl, hb3⟩
      refine hK.out _ _ trivial (fun hHeld => ?_)
      clear hK K
      try simp only [Act.put, List.setIfInBounds_toArray, List.set_cons_zero, List.set_cons_succ]
      have B3 := Lib.hid (below_then B2.out hb3)
      clear hb3
      refine rgnOne 13 rfl (by kernel_rfl) (fun K hK => ?_)
      go_simp
      refine (KT.out _ B3.out).mono ?_
      rintro r W4 ⟨rfl, hb4⟩
      refine hK.out _ _ trivial (fun hHeld => ?_)
      clear hK K
      try simp only [Act.put, List.setIfInBounds_toArray, List.set_cons_zero, List.set_cons_succ]
      have B4 := Lib.hid (below_then B3.out hb4)
      clear hb4
      refine rgnOne 14 rfl (by kernel_rfl) (fun K hK => ?_)
      go_simp
      refine (KP.out _).mono ?_
      rintro r W5 ⟨rfl, hb5⟩
      refine hK.out _ _ trivial (fun hHeld => ?_)
      clear hK K
      try simp only [Act.put, List.setIfInBounds_toArray, List.set_cons_zero, List.set_cons_succ]
      have B5 := Lib.hid (below_then B4.out hb5)
      obtain ⟨c8, c9, c10, cf⟩ := CX.out _ B5.out
      have f8 := cf 8
      have f9 := cf 9
      have f10 := cf 10
      have HS5 := Lib.hid (HS.out _ B5.out)
      clear hb5 cf
      refine rgnTake 15 rfl (by kernel_rfl) (by kernel_rfl) (by kernel_rfl) (fun _ _ _ h => h) (by rfl) (v := ?v12) ?hy12 hHeld ?rest12
      case hy12 => (intro v hSw; first | (go_simp; done) | (go_simp; with_reducible rfl))
      try simp only [Act.put, List.setIfInBounds_toArray, List.set_cons_zero, List.set_cons_succ]
      refine rgnTake 16 rfl (by kernel_rfl) (by kernel_rfl) (by kernel_rfl) (fun _ _ _ h => h) (by rfl) (v := ?v13) ?hy13 hHeld ?rest13
      case hy13 => (intro v hSw; first | (go_simp; done) | (go_simp; with_reducible rfl))
      try simp only [Act.put, List.setIfInBounds_toArray, List.set_cons_zero, List.set_cons_succ]
      refine rgnOne 17 rfl (by kernel_rfl) (fun K hK => ?_)
      go_simp
      refine hK.out _ _ trivial (fun hHeld => ?_)
      clear hK K c8 c9 c10 f8 f9 f10
      try simp only [Act.put, List.setIfInBounds_toArray, List.set_cons_zero, List.set_cons_succ]
      obtain ⟨W6, hW6⟩ : ∃ W6, W6 = ((W5.setCell ⟨b, 8, none⟩ (.int .i64 y1)).setCell ⟨b, 9, none⟩ (.int .i64 y2)).setCell ⟨b, 10, none⟩ (.int .i64 y3) := ⟨_, rfl⟩
      rw [← hW6] at HS5 ⊢
      clear hW6
      refine wpAnyH_done (by kernel_rfl) ?_ _
      have af : (s.sum y1 y2 y3).AtF L P := HA.out.f.sums
      have FC := Lib.hid ((xFindR HS5.out af k).mono (R' := fun e w' => e = .returned (.tuple #[.pointer none, .int .i64 0]) ∧ Side w0 N w' ((s.sum y1 y2 y3).os b ++ [oCh A c])) fun e w' ⟨tp, p, q1, q2, q3, _⟩ => by
        obtain ⟨rfl, rfl⟩ := q3 hh
        exact ⟨q1, HS5.out.below q2⟩)
      have KTK := Lib.hid (fun W (hW : Side w0 N W ((s.sum y1 y2 y3).os b ++ [oCh A c])) => xTakeR (k := k) HN.out hW HCAP.out af hk hh)
      have nn1 := af.n1
      have nn2 := af.n2
      have nn4 := af.n4
      have nn5 := af.n5
      have LL := Lib.hid (show s.l.length = L.length from af.fine.llen)
      have BD := Lib.hid (show s.bd ≤ 800000 from by have : s.bd ≤ 29 * (2 * P - L.length) := nn2; omega)
      have KLY := Lib.hid (fun W cv fv vs cs fr (n0 : Nat) (hW : Side w0 N W (((s.sum y1 y2 y3).rows cv fv vs cs fr).os b)) => xLayR hW (show s.T = none → _ from HA.out.f.t0) k n0 (show s.l.length ≤ 4000 by rw [LL.out]; omega) BD.out (by omega))
      clear af nn1 nn2 nn4 nn5
      go_wp2_with fail
      refine FC.out.mono ?_
      rintro e W7 ⟨rfl, h7⟩
      have K7 := Lib.hid (KTK.out _ h7)
      clear h7 FC KTK
      go_wp2_with fail
      refine K7.out.mono ?_
      rintro e W8 ⟨n0, cv, fv, vs, cs, fr, rfl, h8, f8, l8⟩
      have K8 := Lib.hid (KLY.out _ _ _ _ _ _ n0 h8)
      have F8 := Lib.hid f8
      have L8 := Lib.hid l8
      clear h8 f8 l8 K7 KLY
      go_wp2_with fail
      refine K8.out.mono ?_
      rintro e W9 ⟨rfl, T, tv, bd, h9, t9, b9⟩
      have H9 := Lib.hid h9
      have T9 := Lib.hid t9
      have B9 := Lib.hid b9
      clear h9 t9 b9 K8
      go_wp2_with fail
      refine bodyPost_end (results_none rfl _ _ _) rfl ⟨rfl, _, H9.out, ⟨rfl, rfl, rfl, rfl, rfl, rfl, rfl⟩, ?_⟩
      have af := HA.out.f
      have gl : (L.give k c).length = L.length + 1 := by rw [Ch.give_len, hh]; rfl
      obtain ⟨z1, z2, z3⟩ := sums_give L k c
      obtain ⟨w1, w2, w3⟩ := SUM.out
      obtain ⟨w4, w5, w6, w7, w8, w9⟩ := HU.out
      have b9 : bd ≤ s.bd + 29 := B9.out
      have l8 : cs.length ≤ s.cs.length + 1 := L8.out
      have e1 := af.n1
      have e2 := af.n2
      have e3 := af.n3
      have e4 := af.good.len
      refine ⟨⟨F8.out, fun e => absurd e T9.out, by rw [gl]; omega, by rw [gl]; show bd ≤ _; omega, by show cs.length ≤ P + 1; omega, hP, good_give af.good HG.out.1 HG.out.2 hk (by rw [gl]; omega), right_give af.good af.right HG.out.2, by rw [gl]; exact hL⟩, ?_, ?_, ?_⟩
      · show y1 = _; omega
      · show y2 = _; omega
      · show y3 = _; omega
    · go_simp
      refine (KS.out _ _ _ S1.out).mono ?_
      rintro r W2 ⟨rfl, hb2⟩
      refine hK.out _ _ trivial (fun hHeld => ?_)
      clear hK K
      try simp only [Act.put, List.setIfInBounds_toArray, List.set_cons_zero, List.set_cons_succ]
      have B2 := Lib.hid (below_then B1.out hb2)
      clear hb2
      obtain ⟨c8, c9, c10, -⟩ := CX.out _ B2.out
      refine rgnOne 4 rfl (by kernel_rfl) (fun K hK => ?_)
      go_simp
      refine hK.out _ _ trivial (fun hHeld => ?_)
      clear hK K c8 c9 c10
      try simp only [Act.put, List.setIfInBounds_toArray, List.set_cons_zero, List.set_cons_succ]
      refine rgnOne 10 rfl (by kernel_rfl) (fun K hK => ?_)
      go_simp
      refine (KL.out _).mono ?_
      rintro r W3 ⟨rfl, hb3⟩
      refine hK.out _ _ trivial (fun hHeld => ?_)
      clear hK K
      try simp only [Act.put, List.setIfInBounds_toArray, List.set_cons_zero, List.set_cons_succ]
      have B3 := Lib.hid (below_then B2.out hb3)
      clear hb3
      refine rgnOne 13 rfl (by kernel_rfl) (fun K hK => ?_)
      go_simp
      refine (KT.out _ B3.out).mono ?_
      rintro r W4 ⟨rfl, hb4⟩
      refine hK.out _ _ trivial (fun hHeld => ?_)
      clear hK K
      try simp only [Act.put, List.setIfInBounds_toArray, List.set_cons_zero, List.set_cons_succ]
      have B4 := Lib.hid (below_then B3.out hb4)
      clear hb4
      refine rgnOne 14 rfl (by kernel_rfl) (fun K hK => ?_)
      go_simp
      refine (KP.out _).mono ?_
      rintro r W5 ⟨rfl, hb5⟩
      refine hK.out _ _ trivial (fun hHeld => ?_)
      clear hK K
      try simp only [Act.put, List.setIfInBounds_toArray, List.set_cons_zero, List.set_cons_succ]
      have B5 := Lib.hid (below_then B4.out hb5)
      obtain ⟨c8, c9, c10, cf⟩ := CX.out _ B5.out
      have f8 := cf 8
      have f9 := cf 9
      have f10 := cf 10
      have HS5 := Lib.hid (HS.out _ B5.out)
      clear hb5 cf
      refine rgnTake 15 rfl (by kernel_rfl) (by kernel_rfl) (by kernel_rfl) (fun _ _ _ h => h) (by rfl) (v := ?v14) ?hy14 hHeld ?rest14
      case hy14 => (intro v hSw; first | (go_simp; done) | (go_simp; with_reducible rfl))
      try simp only [Act.put, List.setIfInBounds_toArray, List.set_cons_zero, List.set_cons_succ]
      refine rgnTake 16 rfl (by kernel_rfl) (by kernel_rfl) (by kernel_rfl) (fun _ _ _ h => h) (by rfl) (v := ?v15) ?hy15 hHeld ?rest15
      case hy15 => (intro v hSw; first | (go_simp; done) | (go_simp; with_reducible rfl))
      try simp only [Act.put, List.setIfInBounds_toArray, List.set_cons_zero, List.set_cons_succ]
      refine rgnOne 17 rfl (by kernel_rfl) (fun K hK => ?_)
      go_simp
      refine hK.out _ _ trivial (fun hHeld => ?_)
      clear hK K c8 c9 c10 f8 f9 f10
      try simp only [Act.put, List.setIfInBounds_toArray, List.set_cons_zero, List.set_cons_succ]
      obtain ⟨W6, hW6⟩ : ∃ W6, W6 = ((W5.setCell ⟨b, 8, none⟩ (.int .i64 y1)).setCell ⟨b, 9, none⟩ (.int .i64 y2)).setCell ⟨b, 10, none⟩ (.int .i64 y3) := ⟨_, rfl⟩
      rw [← hW6] at HS5 ⊢
      clear hW6
      refine wpAnyH_done (by kernel_rfl) ?_ _
      have af : (s.sum y1 y2 y3).AtF L P := HA.out.f.sums
      have FC := Lib.hid ((xFindR HS5.out af k).mono (R' := fun e w' => e = .returned (.tuple #[.pointer none, .int .i64 0]) ∧ Side w0 N w' ((s.sum y1 y2 y3).os b ++ [oCh A c])) fun e w' ⟨tp, p, q1, q2, q3, _⟩ => by
        obtain ⟨rfl, rfl⟩ := q3 hh
        exact ⟨q1, HS5.out.below q2⟩)
      have KTK := Lib.hid (fun W (hW : Side w0 N W ((s.sum y1 y2 y3).os b ++ [oCh A c])) => xTakeR (k := k) HN.out hW HCAP.out af hk hh)
      have nn1 := af.n1
      have nn2 := af.n2
      have nn4 := af.n4
      have nn5 := af.n5
      have LL := Lib.hid (show s.l.length = L.length from af.fine.llen)
      have BD := Lib.hid (show s.bd ≤ 800000 from by have : s.bd ≤ 29 * (2 * P - L.length) := nn2; omega)
      have KLY := Lib.hid (fun W cv fv vs cs fr (n0 : Nat) (hW : Side w0 N W (((s.sum y1 y2 y3).rows cv fv vs cs fr).os b)) => xLayR hW (show s.T = none → _ from HA.out.f.t0) k n0 (show s.l.length ≤ 4000 by rw [LL.out]; omega) BD.out (by omega))
      clear af nn1 nn2 nn4 nn5
      go_wp2_with fail
      refine FC.out.mono ?_
      rintro e W7 ⟨rfl, h7⟩
      have K7 := Lib.hid (KTK.out _ h7)
      clear h7 FC KTK
      go_wp2_with fail
      refine K7.out.mono ?_
      rintro e W8 ⟨n0, cv, fv, vs, cs, fr, rfl, h8, f8, l8⟩
      have K8 := Lib.hid (KLY.out _ _ _ _ _ _ n0 h8)
      have F8 := Lib.hid f8
      have L8 := Lib.hid l8
      clear h8 f8 l8 K7 KLY
      go_wp2_with fail
      refine K8.out.mono ?_
      rintro e W9 ⟨rfl, T, tv, bd, h9, t9, b9⟩
      have H9 := Lib.hid h9
      have T9 := Lib.hid t9
      have B9 := Lib.hid b9
      clear h9 t9 b9 K8
      go_wp2_with fail
      refine bodyPost_end (results_none rfl _ _ _) rfl ⟨rfl, _, H9.out, ⟨rfl, rfl, rfl, rfl, rfl, rfl, rfl⟩, ?_⟩
      have af := HA.out.f
      have gl : (L.give k c).length = L.length + 1 := by rw [Ch.give_len, hh]; rfl
      obtain ⟨z1, z2, z3⟩ := sums_give L k c
      obtain ⟨w1, w2, w3⟩ := SUM.out
      obtain ⟨w4, w5, w6, w7, w8, w9⟩ := HU.out
      have b9 : bd ≤ s.bd + 29 := B9.out
      have l8 : cs.length ≤ s.cs.length + 1 := L8.out
      have e1 := af.n1
      have e2 := af.n2
      have e3 := af.n3
      have e4 := af.good.len
      refine ⟨⟨F8.out, fun e => absurd e T9.out, by rw [gl]; omega, by rw [gl]; show bd ≤ _; omega, by show cs.length ≤ P + 1; omega, hP, good_give af.good HG.out.1 HG.out.2 hk (by rw [gl]; omega), right_give af.good af.right HG.out.2, by rw [gl]; exact hL⟩, ?_, ?_, ?_⟩
      · show y1 = _; omega
      · show y2 = _; omega
      · show y3 = _; omega
end

end Go.Proofs.YtiiokmfnohifmaaGreat

namespace Go.Proofs.YtiiokmfnohifmaaGreat
open Go.RowKit

section
variable {w0 w : World} {N : Nat → Prop} {b : Nat} {s : Sh} {L : Ch} {P : Nat}
theorem Sh.At.more {P' : Nat} (a : s.At L P) (h : P ≤ P') (h2 : P' ≤ 13200) : s.At L P' :=
  ⟨⟨a.f.fine, a.f.t0, Nat.le_trans a.f.n1 h, by have := a.f.n2; omega, Nat.le_trans a.f.n3 h, h2, a.f.good, a.f.right, a.f.n5⟩, a.x1, a.x2, a.x3⟩
/-- set, of whatever key, to a chain with versions -/
theorem xSetR {A : Option Addr} {c : List Ver} {n cap : Nat} {k : ByteArray} (h : Side w0 N w (s.os b ++ [oCh A c])) (a : s.At L P) (hn : n = c.length) (hcap : n ≤ cap) (h0 : 0 < n) (hP : P + 1 ≤ 13200) (hL : L.length + 1 ≤ 3950) (hg : GoodL c) (hr : rightL c = true) (hk : k.size ≤ 1000) :
    Calls Tryz.prog 64 #[PtrS b, .string k, .slice A n cap] w fun e w' => e = .returned (.tuple #[]) ∧ ∃ s', Side w0 N w' (s'.os b) ∧ Sh.Hd s s' ∧ s'.At (L.give k c) (P + 1) := by
  cases hh : L.has k with
  | true => exact (xSetOldR h a hn hcap h0 hg hr hk hh).mono fun e w' ⟨h1, s', h2, h3, h4⟩ => ⟨h1, s', h2, h3, h4.more (by omega) hP⟩
  | false => exact xSetNewR h a hn hcap hP hL hg hr hk hh
set_option maxRecDepth 100000 in
set_option maxHeartbeats 2000000 in
/-- add -/
theorem xAddR {k : ByteArray} (v : Ver) (h : Side w0 N w (s.os b)) (a : s.At L P) (hP : P + 1 ≤ 13200) (hL : L.length + 1 ≤ 3950) (hg : GoodL (L.of k ++ [v])) (hr : rightL (L.of k ++ [v]) = true) (hk : k.size ≤ 1000) :
    Calls Tryz.prog 60 #[PtrS b, .string k, v.v] w fun e w' => e = .returned (.tuple #[]) ∧ ∃ s', Side w0 N w' (s'.os b) ∧ Sh.Hd s s' ∧ s'.At (L.put k v) (P + 1) := by
  rw [Ch.put_give]
  have r0 := RowAt.new w v.cs 92
  have b0 : Below w.heap.size w (w.alloc (.cells v.cs.toArray 92)) := (Below.refl _ _).alloc (Nat.le_refl _) _
  obtain ⟨B, hB⟩ : ∃ B, B = w.heap.size := ⟨_, rfl⟩
  obtain ⟨w1, hw1⟩ : ∃ w1, w1 = w.alloc (.cells v.cs.toArray 92) := ⟨_, rfl⟩
  rw [← hw1] at b0 r0
  rw [← hB] at r0
  have h1 := h.below b0
  obtain ⟨c, hc⟩ : ∃ c, c = L.of k ++ [v] := ⟨_, rfl⟩
  obtain ⟨m, hm⟩ : ∃ m, m = (L.of k).length := ⟨_, rfl⟩
  obtain ⟨n, hn⟩ : ∃ m, m = c.length := ⟨_, rfl⟩
  have nm : n = m + 1 := by rw [hn, hc, hm]; simp
  have KC := Lib.hid (fun W (hb : Below w1.heap.size w1 W) => show Calls Tryz.prog 68 #[PtrS b, .string k] W fun e w' => ∃ A c, e = .returned (.slice A m c) ∧ SlV w' A (L.of k) ∧ Below W.heap.size W w' from by
    have h2 : Side w0 N W (s.os b ++ []) := by rw [List.append_nil]; exact h1.below hb
    exact (xChainR h2 a.f k).mono fun e w' ⟨A', c', h1, _, h3, h4⟩ => ⟨A', c', by rw [hm]; exact h1, h3, h4⟩)
  have KA := Lib.hid (fun W A' c' (hb : Below w1.heap.size w1 W) (hs : SlV W A' (L.of k)) => show Calls Tryz.prog 88 #[.slice A' m c', v.v] W fun e w' => ∃ A2 c2, e = .returned (.tuple #[.slice A2 n c2, .int .i64 0]) ∧ Side w0 N w' (s.os b ++ [oCh A2 c]) ∧ n ≤ c2 ∧ Below W.heap.size W w' from by
    rw [hm]
    refine (xAdd9 (L.of k) v A' c' W hs hg).mono fun e w' ⟨A2, c2, e1, e2, e3, e4, e5⟩ => ?_
    rw [hr, if_pos rfl, if_pos rfl, ← hc, ← hn] at e1
    rw [hr, if_pos rfl, ← hc] at e2 e4 e5
    obtain ⟨g, rfl, hg2⟩ := e5 (by omega)
    refine ⟨_, c2, e1, ?_, by omega, e3⟩
    exact (h1.below hb).more e3 (o := oCh (some ⟨g, 0, none⟩) c) (F' := fun k => k = g) ⟨⟨e2, fun _ => ⟨g, 0, rfl, rfl⟩⟩, fun k e => by
      obtain ⟨b', o, e6, hlt, _⟩ := e2 (by omega)
      injection e6 with e6
      injection e6 with e6 _ _
      rw [e, e6]; exact hlt⟩ fun k e => by rw [e]; exact hg2)
  have KS := Lib.hid (fun W A2 c2 (hW : Side w0 N W (s.os b ++ [oCh A2 c])) (hc2 : n ≤ c2) => xSetR hW a hn hc2 (by omega) hP hL (by rw [hc]; exact hg) (by rw [hc]; exact hr) hk)
  have R0 := Lib.hid r0
  have HW1 := Lib.hid hw1
  have HB := Lib.hid hB
  have BX := Lib.hid (show Below w1.heap.size w1 w1.drew from (Below.refl _ _).drew)
  obtain ⟨sq, gn, u⟩ := v
  obtain ⟨nu, t, bt⟩ := u
  rw [← hc]
  clear h a hP hL hg hr hk r0 b0 hB hw1 h1 hc hm hn nm
  have KA : Hid (∀ W A' c', Below w1.heap.size w1 W → SlV W A' (L.of k) → Calls Tryz.prog 88 #[.slice A' m c', .agg #[.int .i64 sq, .bool gn, .bool nu, .string t, .int .u64 (bt : Int)]] W fun e w' => ∃ A2 c2, e = .returned (.tuple #[.slice A2 n c2, .int .i64 0]) ∧ Side w0 N w' (s.os b ++ [oCh A2 c]) ∧ n ≤ c2 ∧ Below W.heap.size W w') := KA
  have HW1 : Hid (w1 = w.alloc (.cells #[.int .i64 sq, .bool gn, .bool nu, .string t, .int .u64 (bt : Int)] 92)) := HW1
  show Calls Tryz.prog 60 #[PtrS b, .string k, .agg #[.int .i64 sq, .bool gn, .bool nu, .string t, .int .u64 (bt : Int)]] w _
  go_enter Tryz.func60, Tryz.ntmps60
  go_wp2_with fail
  rw [← HW1.out, ← HB.out]
  have CF := Lib.hid (fun W (hb : Below w1.heap.size w1 W) => verF (R0.out.below hb))
  obtain ⟨d0, d1, d2, d3, d4⟩ := CF.out _ BX.out
  refine wp_region_held_drew (S := (fun w' => w'.cell? ⟨B, 0, none⟩ = some (.int .i64 sq) ∧ w'.cell? ⟨B, 1, none⟩ = some (.bool gn) ∧ w'.cell? ⟨B, 2, none⟩ = some (.bool nu) ∧ w'.cell? ⟨B, 3, none⟩ = some (.string t) ∧ w'.cell? ⟨B, 4, none⟩ = some (.int .u64 (bt : Int)))) (by kernel_rfl) (⟨d0, d1, d2, d3, d4⟩) (fun hHeld => ?_)
  refine rgnTake 0 rfl (by kernel_rfl) (by kernel_rfl) (by kernel_rfl) (fun _ _ _ h => h) (by rfl) (v := ?v1) ?hy1 hHeld ?rest1
  case hy1 => (intro v hSw; obtain ⟨y0, y1, y2, y3, y4⟩ := hSw; first | (go_simp; done) | (go_simp; with_reducible rfl))
  try simp only [Act.put, List.setIfInBounds_toArray, List.set_cons_zero, List.set_cons_succ]
  refine rgnTake 1 rfl (by kernel_rfl) (by kernel_rfl) (by kernel_rfl) (fun _ _ _ h => h) (by rfl) (v := ?v2) ?hy2 hHeld ?rest2
  case hy2 => (intro v hSw; obtain ⟨y0, y1, y2, y3, y4⟩ := hSw; first | (go_simp; done) | (go_simp; with_reducible rfl))
  try simp only [Act.put, List.setIfInBounds_toArray, List.set_cons_zero, List.set_cons_succ]
  refine rgnTake 3 rfl (by kernel_rfl) (by kernel_rfl) (by kernel_rfl) (fun _ _ _ h => h) (by rfl) (v := ?v3) ?hy3 hHeld ?rest3
  case hy3 => (intro v hSw; obtain ⟨y0, y1, y2, y3, y4⟩ := hSw; first | (go_simp; done) | (go_simp; with_reducible rfl))
  try simp only [Act.put, List.setIfInBounds_toArray, List.set_cons_zero, List.set_cons_succ]
  refine rgnOne 2 rfl (by kernel_rfl) (fun K hK => ?_)
  go_simp
  refine (KC.out _ BX.out).mono ?_
  rintro r W1 ⟨A1, c1, rfl, hs1, hb1⟩
  have S1 := Lib.hid hs1
  have B1 := Lib.hid (below_then BX.out hb1)
  clear hs1 hb1
  refine hK.out _ _ ((CF.out _ B1.out)) (fun hHeld => ?_)
  clear hK K
  try simp only [Act.put, List.setIfInBounds_toArray, List.set_cons_zero, List.set_cons_succ]
  refine rgnOne 4 rfl (by kernel_rfl) (fun K hK => ?_)
  go_simp
  refine (KA.out _ _ _ B1.out S1.out).mono ?_
  rintro r W2 ⟨A2, c2, rfl, hs2, hc2, hb2⟩
  have S2 := Lib.hid hs2
  have C2 := Lib.hid hc2
  have B2 := Lib.hid (below_then B1.out hb2)
  clear hs2 hb2 hc2
  refine hK.out _ _ ((CF.out _ B2.out)) (fun hHeld => ?_)
  clear hK K
  try simp only [Act.put, List.setIfInBounds_toArray, List.set_cons_zero, List.set_cons_succ]
  refine rgnTake 5 rfl (by kernel_rfl) (by kernel_rfl) (by kernel_rfl) (fun _ _ _ h => h) (by rfl) (v := ?v4) ?hy4 hHeld ?rest4
  case hy4 => (intro v hSw; obtain ⟨y0, y1, y2, y3, y4⟩ := hSw; first | (go_simp; done) | (go_simp; with_reducible rfl))
  try simp only [Act.put, List.setIfInBounds_toArray, List.set_cons_zero, List.set_cons_succ]
  refine rgnTake 6 rfl (by kernel_rfl) (by kernel_rfl) (by kernel_rfl) (fun _ _ _ h => h) (by rfl) (v := ?v5) ?hy5 hHeld ?rest5
  case hy5 => (intro v hSw; obtain ⟨y0, y1, y2, y3, y4⟩ := hSw; first | (go_simp; done) | (go_simp; with_reducible rfl))
  try simp only [Act.put, List.setIfInBounds_toArray, List.set_cons_zero, List.set_cons_succ]
  refine rgnTake 7 rfl (by kernel_rfl) (by kernel_rfl) (by kernel_rfl) (fun _ _ _ h => h) (by rfl) (v := ?v6) ?hy6 hHeld ?rest6
  case hy6 => (intro v hSw; obtain ⟨y0, y1, y2, y3, y4⟩ := hSw; first | (go_simp; done) | (go_simp; with_reducible rfl))
  try simp only [Act.put, List.setIfInBounds_toArray, List.set_cons_zero, List.set_cons_succ]
  refine rgnTake 8 rfl (by kernel_rfl) (by kernel_rfl) (by kernel_rfl) (fun _ _ _ h => h) (by rfl) (v := ?v7) ?hy7 hHeld ?rest7
  case hy7 => (intro v hSw; obtain ⟨y0, y1, y2, y3, y4⟩ := hSw; first | (go_simp; done) | (go_simp; with_reducible rfl))
  try simp only [Act.put, List.setIfInBounds_toArray, List.set_cons_zero, List.set_cons_succ]
  refine rgnTake 9 rfl (by kernel_rfl) (by kernel_rfl) (by kernel_rfl) (fun _ _ _ h => h) (by rfl) (v := ?v8) ?hy8 hHeld ?rest8
  case hy8 => (intro v hSw; obtain ⟨y0, y1, y2, y3, y4⟩ := hSw; first | (go_simp; done) | (go_simp; with_reducible rfl))
  try simp only [Act.put, List.setIfInBounds_toArray, List.set_cons_zero, List.set_cons_succ]
  refine wpAnyH_done (by kernel_rfl) ?_ _
  go_wp2_with fail
  refine (KS.out _ _ _ S2.out C2.out).mono ?_
  rintro e W3 ⟨rfl, hp⟩
  have HP := Lib.hid hp
  clear hp
  go_wp2_with fail
  exact bodyPost_end (results_none rfl _ _ _) rfl ⟨rfl, HP.out⟩
end

end Go.Proofs.YtiiokmfnohifmaaGreat
