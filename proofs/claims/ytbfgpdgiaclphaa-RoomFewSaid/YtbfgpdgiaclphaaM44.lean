/- Proved parts: B5e B5f. Conditions: each theorem's own. -/
import Derived.Test.YtbfgpdgiaclphaaM43
import Derived.Test.YtbfgpdgiaclphaaM12
namespace Go.Proofs.Ytbfgpdgiaclphaa
open Go.RowKit

section
variable {w0 w : World} {N : Nat → Prop} {b : Nat} {s : Sh} {L : Ch} {P : Nat} {os : List Ob} {i : Nat}
theorem good_of {L : Ch} (h : GoodC L) (hR : ∀ x, x ∈ L → rightL x.2 = true) (k : ByteArray) : GoodL (L.of k) ∧ rightL (L.of k) = true ∧ (L.of k).length ≤ 1000 := by
  cases q : L.has k with
  | false => rw [Ch.of_no q]; exact ⟨GoodL.nil, rfl, by decide⟩
  | true =>
    obtain ⟨j, hj, e1, e2⟩ := Ch.mem_at.1 (Ch.mem_has q)
    have g := h.get hj
    rw [e2] at g
    exact ⟨⟨g.1, g.2.1, g.2.2.1⟩, hR _ (Ch.mem_has q), g.2.2.1⟩
theorem wgt_small {k : ByteArray} {l : List Ver} (hg : GoodL l) (hr : rightL l = true) (hk : k.size ≤ 1000) : Ch.wgt (k, l) ≤ 2000 := by
  rw [wgt_last hr hg]
  split
  · omega
  · rename_i z
    have hp : 0 < l.length := by
      have : ¬ l.length = 0 := fun e => z (.inl e)
      omega
    have := (Val.pack_size _ (last_right hr hg hp).2.2).1
    omega
theorem aliv_le (x : ByteArray × List Ver) : Ch.aliv x ≤ 1 := by unfold Ch.aliv; split <;> omega
theorem sum_le {f : ByteArray × List Ver → Nat} {B : Nat} : ∀ {L : Ch}, (∀ x, x ∈ L → f x ≤ B) → (L.map f).sum ≤ L.length * B
  | [], _ => by simp
  | x :: L, h => by
    have := sum_le (L := L) fun y hy => h y (List.mem_cons_of_mem _ hy)
    have := h x (by simp)
    rw [List.map_cons, List.sum_cons, List.length_cons, Nat.add_mul]
    omega
/-- the sums are no giants -/
theorem sums_small {L : Ch} (h : GoodC L) (hl : L.length ≤ 3950) : L.live ≤ 11850000 ∧ L.alive ≤ 3950 ∧ L.vers ≤ 3950000 := by
  have a := sum_le (f := Ch.wgt) (B := 3000) (wgt_le h)
  have b := sum_le (L := L) (f := Ch.aliv) (B := 1) fun x _ => aliv_le x
  have c := sum_le (f := fun x => x.2.length) (B := 1000) h.lens
  refine ⟨?_, ?_, ?_⟩
  · unfold Ch.live; omega
  · unfold Ch.alive; omega
  · unfold Ch.vers; omega
/-- the room with other sums -/
def Sh.sum (s : Sh) (y1 y2 y3 : Int) : Sh := { s with x1 := y1, x2 := y2, x3 := y3 }
theorem Sh.sumSet {y1 y2 y3 : Int} {os2 : List Ob} {W : World} (h : Side w0 N W (s.os b ++ os2)) : Side w0 N (((W.setCell ⟨b, 8, none⟩ (.int .i64 y1)).setCell ⟨b, 9, none⟩ (.int .i64 y2)).setCell ⟨b, 10, none⟩ (.int .i64 y3)) ((s.sum y1 y2 y3).os b ++ os2) := by
  have r := Sh.rowAt h
  have c : Chg (fun k => k = b) W (((W.setCell ⟨b, 8, none⟩ (.int .i64 y1)).setCell ⟨b, 9, none⟩ (.int .i64 y2)).setCell ⟨b, 10, none⟩ (.int .i64 y3)) :=
    (((Chg.refl (fun k => k = b) W).setCell (p := ⟨b, 8, none⟩) (.inl rfl) _).setCell (p := ⟨b, 9, none⟩) (.inl rfl) _).setCell (p := ⟨b, 10, none⟩) (.inl rfl) _
  exact h.rowSet (i := 0) (g := b) (cs' := (s.sum y1 y2 y3).row) rfl c (((r.set 8 _).set 9 _).set 10 _)
theorem Sh.AtF.sums {y1 y2 y3 : Int} (a : s.AtF L P) : (s.sum y1 y2 y3).AtF L P := ⟨a.fine, a.t0, a.n1, a.n2, a.n3, a.n4, a.good, a.right, a.n5⟩
theorem sums_give (L : Ch) (k : ByteArray) (c : List Ver) : (L.give k c).live + Ch.wgt (k, L.of k) = L.live + Ch.wgt (k, c) ∧ (L.give k c).alive + Ch.aliv (k, L.of k) = L.alive + Ch.aliv (k, c) ∧ (L.give k c).vers + (L.of k).length = L.vers + c.length :=
  ⟨Ch.sum_give Ch.wgt rfl c, Ch.sum_give Ch.aliv rfl c, Ch.sum_give (fun x => x.2.length) rfl c⟩
theorem sums_cut {L : Ch} {k : ByteArray} (h : L.has k = true) : (L.cut k).live + Ch.wgt (k, L.of k) = L.live ∧ (L.cut k).alive + Ch.aliv (k, L.of k) = L.alive ∧ (L.cut k).vers + (L.of k).length = L.vers :=
  ⟨Ch.sum_cut Ch.wgt h, Ch.sum_cut Ch.aliv h, Ch.sum_cut (fun x => x.2.length) h⟩
theorem good_give {L : Ch} {k : ByteArray} {c : List Ver} (h : GoodC L) (hg : GoodL c) (hr : rightL c = true) (hk : k.size ≤ 1000) (hl : (L.give k c).length ≤ 100000) : GoodC (L.give k c) := by
  refine ⟨hl, fun x hx => ?_, fun x hx => ?_, fun x hx => ?_, fun x hx => ?_, Ch.rise_give h.rise, fun x hx => ?_⟩
  all_goals rcases (Ch.mem_give h.rise).1 hx with rfl | ⟨e, _⟩
  · exact hg.fits
  · exact h.fits x e
  · exact hg.texts
  · exact h.texts x e
  · exact hg.len
  · exact h.lens x e
  · exact hk
  · exact h.keys x e
  · exact rise_of_right hr
  · exact h.rises x e
theorem right_give {L : Ch} {k : ByteArray} {c : List Ver} (h : GoodC L) (hR : ∀ x, x ∈ L → rightL x.2 = true) (hr : rightL c = true) : ∀ x, x ∈ L.give k c → rightL x.2 = true := fun x hx => by
  rcases (Ch.mem_give h.rise).1 hx with rfl | ⟨e, _⟩
  · exact hr
  · exact hR x e
theorem good_cut {L : Ch} {k : ByteArray} (h : GoodC L) (hk : L.has k = true) : GoodC (L.cut k) := by
  have m : ∀ x, x ∈ L.cut k → x ∈ L := fun x hx => ((Ch.mem_cut h.rise hk).1 hx).1
  exact ⟨by have := h.len; have := Ch.cut_len hk; omega, fun x hx => h.fits x (m x hx), fun x hx => h.texts x (m x hx), fun x hx => h.lens x (m x hx), fun x hx => h.keys x (m x hx), Ch.rise_cut h.rise, fun x hx => h.rises x (m x hx)⟩
theorem Sh.hasT {os2 : List Ob} {k : ByteArray} (h : Side w0 N w (s.os b ++ os2)) (a : s.AtF L P) (hk : L.has k = true) : ∃ t, s.T = some t := by
  rcases Sh.tview h a with ⟨_, e2, _⟩ | ⟨t, _, _, _, e1, _⟩
  · have := a.fine.has k; rw [e2, hk] at this; cases this
  · exact ⟨t, e1⟩
set_option maxRecDepth 100000 in
set_option maxHeartbeats 4000000 in
/-- set, of a key that is there -/
theorem xSetOldR {A : Option Addr} {c : List Ver} {n cap : Nat} {k : ByteArray} (h : Side w0 N w (s.os b ++ [oCh A c])) (a : s.At L P) (hn : n = c.length) (hcap : n ≤ cap) (h0 : 0 < n) (hg : GoodL c) (hr : rightL c = true) (hk : k.size ≤ 1000) (hh : L.has k = true) :
    Calls Try.prog 20 #[PtrS b, .string k, .slice A n cap] w fun e w' => e = .returned (.tuple #[]) ∧ ∃ s', Side w0 N w' (s'.os b) ∧ Sh.Hd s s' ∧ s'.At (L.give k c) P := by
  have fk := good_of a.f.good a.f.right k
  have hx1 := a.x1
  have hx2 := a.x2
  have hx3 := a.x3
  obtain ⟨b1, b2, b3⟩ := sums_small a.f.good a.f.n5
  have wu := wgt_small fk.1 fk.2.1 hk
  have wv := wgt_small hg hr hk
  have au := aliv_le (k, L.of k)
  have av := aliv_le (k, c)
  have ln := hg.len
  obtain ⟨m, hm⟩ : ∃ m, m = (L.of k).length := ⟨_, rfl⟩
  obtain ⟨u1, hu1⟩ : ∃ m, m = Ch.wgt (k, L.of k) := ⟨_, rfl⟩
  obtain ⟨u2, hu2⟩ : ∃ m, m = Ch.aliv (k, L.of k) := ⟨_, rfl⟩
  obtain ⟨v1, hv1⟩ : ∃ m, m = Ch.wgt (k, c) := ⟨_, rfl⟩
  obtain ⟨v2, hv2⟩ : ∃ m, m = Ch.aliv (k, c) := ⟨_, rfl⟩
  obtain ⟨d1, hd1⟩ : ∃ d, d = s.x1 - (u1 : Int) := ⟨_, rfl⟩
  obtain ⟨d2, hd2⟩ : ∃ d, d = s.x2 - (u2 : Int) := ⟨_, rfl⟩
  obtain ⟨d3, hd3⟩ : ∃ d, d = s.x3 - (m : Int) := ⟨_, rfl⟩
  obtain ⟨y1, hy1⟩ : ∃ d, d = d1 + (v1 : Int) := ⟨_, rfl⟩
  obtain ⟨y2, hy2⟩ : ∃ d, d = d2 + (v2 : Int) := ⟨_, rfl⟩
  obtain ⟨y3, hy3⟩ : ∃ d, d = d3 + (n : Int) := ⟨_, rfl⟩
  have SUM := Lib.hid (show y1 = (L.live : Int) - (u1 : Int) + (v1 : Int) ∧ y2 = (L.alive : Int) - (u2 : Int) + (v2 : Int) ∧ y3 = (L.vers : Int) - (m : Int) + (n : Int) from ⟨by omega, by omega, by omega⟩)
  have HU := Lib.hid (show u1 = Ch.wgt (k, L.of k) ∧ u2 = Ch.aliv (k, L.of k) ∧ m = (L.of k).length ∧ v1 = Ch.wgt (k, c) ∧ v2 = Ch.aliv (k, c) ∧ n = c.length from ⟨hu1, hu2, hm, hv1, hv2, hn⟩)
  have KC := Lib.hid (fun W (hb : Below w.heap.size w W) => show Calls Try.prog 35 #[PtrS b, .string k] W fun e w' => ∃ A c, e = .returned (.slice A m c) ∧ SlV w' A (L.of k) ∧ Below W.heap.size W w' from (xChainR (h.below hb) a.f k).mono fun e w' ⟨A', c', h1, _, h3, h4⟩ => ⟨A', c', by rw [hm]; exact h1, h3, h4⟩)
  have KS := Lib.hid (fun W A' c' (hs : SlV W A' (L.of k)) => show Calls Try.prog 42 #[.string k, .slice A' m c'] W fun e w' => e = .returned (.agg #[.int .i64 (u1 : Int), .int .i64 (u2 : Int), .int .i64 (m : Int)]) ∧ Below W.heap.size W w' from by
    rw [hm, hu1, hu2]
    exact xSumsR k (L.of k) A' c' W hs fk.1 fk.2.1 (by omega))
  have KT := Lib.hid (fun W (hb : Below w.heap.size w W) => show Calls Try.prog 42 #[.string k, .slice A n cap] W fun e w' => e = .returned (.agg #[.int .i64 (v1 : Int), .int .i64 (v2 : Int), .int .i64 (n : Int)]) ∧ Below W.heap.size W w' from by
    rw [hn, hv1, hv2]
    obtain ⟨F, hP⟩ := (h.below hb).get (i := 8) (o := oCh A c) rfl
    exact xSumsR k c A cap W hP.1.1 hg hr (by omega))
  have KL := Lib.hid (fun W => xLessR s.x1 s.x2 s.x3 u1 u2 m d1 d2 d3 W (by rw [hd1, hx1]; unfold wrap64; omega) (by rw [hd2, hx2]; unfold wrap64; omega) (by rw [hd3, hx3]; unfold wrap64; omega))
  have KP := Lib.hid (fun W => xPlusR d1 d2 d3 v1 v2 n y1 y2 y3 W (by rw [hy1, hd1, hx1]; unfold wrap64; omega) (by rw [hy2, hd2, hx2]; unfold wrap64; omega) (by rw [hy3, hd3, hx3]; unfold wrap64; omega))
  have CX := Lib.hid (fun W (hb : Below w.heap.size w W) => show W.cell? ⟨b, 8, none⟩ = some (.int .i64 s.x1) ∧ W.cell? ⟨b, 9, none⟩ = some (.int .i64 s.x2) ∧ W.cell? ⟨b, 10, none⟩ = some (.int .i64 s.x3) ∧ (∀ j, W.frozen? ⟨b, j, none⟩ = false) from by
    have r := Sh.rowAt (h.below hb)
    exact ⟨r.cell 8, r.cell 9, r.cell 10, fun j => r.frozen j⟩)
  have HS := Lib.hid (fun W (hb : Below w.heap.size w W) => Sh.sumSet (y1 := y1) (y2 := y2) (y3 := y3) (h.below hb))
  have B0 := Lib.hid (show Below w.heap.size w w.drew from (Below.refl _ _).drew)
  have HA := Lib.hid a
  have HG := Lib.hid (And.intro hg hr)
  have HN := Lib.hid hn
  have HCAP := Lib.hid hcap
  clear fk hx1 hx2 hx3 b1 b2 b3 wu wv au av ln hm hu1 hu2 hv1 hv2 hd1 hd2 hd3 hy1 hy2 hy3
  clear h a hn hg hr hcap
  go_enter Try.func20, Try.ntmps20
  go_wp2_with fail
  refine wp_region_held_drew (S := (fun _ => True)) (by kernel_rfl) (trivial) (fun hHeld => ?_)
  refine rgnTake 0 rfl (by kernel_rfl) (by kernel_rfl) (by kernel_rfl) (fun _ _ _ h => h) (by rfl) (v := ?v1) ?hy1 hHeld ?rest1
  case hy1 => (intro v hSw; first | (go_simp; done) | (go_simp; with_reducible rfl))
  try simp only [Act.put, List.setIfInBounds_toArray, List.set_cons_zero, List.set_cons_succ]
  refine rgnTake 1 rfl (by kernel_rfl) (by kernel_rfl) (by kernel_rfl) (fun _ _ _ h => h) (by rfl) (v := ?v2) ?hy2 hHeld ?rest2
  case hy2 => (intro v hSw; first | (go_simp; done) | (go_simp; with_reducible rfl))
  try simp only [Act.put, List.setIfInBounds_toArray, List.set_cons_zero, List.set_cons_succ]
  refine rgnTake 2 rfl (by kernel_rfl) (by kernel_rfl) (by kernel_rfl) (fun _ _ _ h => h) (by rfl) (v := ?v3) ?hy3 hHeld ?rest3
  case hy3 => (intro v hSw; first | (go_simp; done) | (go_simp; with_reducible rfl))
  try simp only [Act.put, List.setIfInBounds_toArray, List.set_cons_zero, List.set_cons_succ]
  refine rgnTake 3 rfl (by kernel_rfl) (by kernel_rfl) (by kernel_rfl) (fun _ _ _ h => h) (by rfl) (v := ?v4) ?hy4 hHeld ?rest4
  case hy4 => (intro v hSw; first | (go_simp; done) | (go_simp; with_reducible rfl))
  try simp only [Act.put, List.setIfInBounds_toArray, List.set_cons_zero, List.set_cons_succ]
  refine rgnTake 5 rfl (by kernel_rfl) (by kernel_rfl) (by kernel_rfl) (fun _ _ _ h => h) (by rfl) (v := ?v5) ?hy5 hHeld ?rest5
  case hy5 => (intro v hSw; first | (go_simp; done) | (go_simp; with_reducible rfl))
  try simp only [Act.put, List.setIfInBounds_toArray, List.set_cons_zero, List.set_cons_succ]
  refine rgnTake 6 rfl (by kernel_rfl) (by kernel_rfl) (by kernel_rfl) (fun _ _ _ h => h) (by rfl) (v := ?v6) ?hy6 hHeld ?rest6
  case hy6 => (intro v hSw; first | (go_simp; done) | (go_simp; with_reducible rfl))
  try simp only [Act.put, List.setIfInBounds_toArray, List.set_cons_zero, List.set_cons_succ]
  refine rgnTake 7 rfl (by kernel_rfl) (by kernel_rfl) (by kernel_rfl) (fun _ _ _ h => h) (by rfl) (v := ?v7) ?hy7 hHeld ?rest7
  case hy7 => (intro v hSw; first | (go_simp; done) | (go_simp; with_reducible rfl))
  try simp only [Act.put, List.setIfInBounds_toArray, List.set_cons_zero, List.set_cons_succ]
  refine rgnTake 11 rfl (by kernel_rfl) (by kernel_rfl) (by kernel_rfl) (fun _ _ _ h => h) (by rfl) (v := ?v8) ?hy8 hHeld ?rest8
  case hy8 => (intro v hSw; first | (go_simp; done) | (go_simp; with_reducible rfl))
  try simp only [Act.put, List.setIfInBounds_toArray, List.set_cons_zero, List.set_cons_succ]
  refine rgnTake 12 rfl (by kernel_rfl) (by kernel_rfl) (by kernel_rfl) (fun _ _ _ h => h) (by rfl) (v := ?v9) ?hy9 hHeld ?rest9
  case hy9 => (intro v hSw; first | (go_simp; done) | (go_simp; with_reducible rfl))
  try simp only [Act.put, List.setIfInBounds_toArray, List.set_cons_zero, List.set_cons_succ]
  have BX := B0
  refine rgnTwo 4 8 rfl rfl (by kernel_rfl) (fun K hK => ?_) (fun K hK => ?_)
  · obtain ⟨c8, c9, c10, -⟩ := CX.out _ BX.out
    go_simp
    refine hK.out _ _ trivial (fun hHeld => ?_)
    clear hK K c8 c9 c10
    try simp only [Act.put, List.setIfInBounds_toArray, List.set_cons_zero, List.set_cons_succ]
    refine rgnOne 8 rfl (by kernel_rfl) (fun K hK => ?_)
    go_simp
    refine (KC.out _ BX.out).mono ?_
    rintro r W1 ⟨A1, c1, rfl, hs1, hb1⟩
    refine hK.out _ _ trivial (fun hHeld => ?_)
    clear hK K
    try simp only [Act.put, List.setIfInBounds_toArray, List.set_cons_zero, List.set_cons_succ]
    have S1 := Lib.hid hs1
    have B1 := Lib.hid (below_then BX.out hb1)
    clear hs1 hb1
    refine rgnOne 9 rfl (by kernel_rfl) (fun K hK => ?_)
    go_simp
    refine (KS.out _ _ _ S1.out).mono ?_
    rintro r W2 ⟨rfl, hb2⟩
    refine hK.out _ _ trivial (fun hHeld => ?_)
    clear hK K
    try simp only [Act.put, List.setIfInBounds_toArray, List.set_cons_zero, List.set_cons_succ]
    have B2 := Lib.hid (below_then B1.out hb2)
    clear hb2
    refine rgnOne 10 rfl (by kernel_rfl) (fun K hK => ?_)
    go_simp
    refine (KL.out _).mono ?_
    rintro r W3 ⟨rfl, hb3⟩
    refine hK.out _ _ trivial (fun hHeld => ?_)
    clear hK K
    try simp only [Act.put, List.setIfInBounds_toArray, List.set_cons_zero, List.set_cons_succ]
    have B3 := Lib.hid (below_then B2.out hb3)
    clear hb3
    refine rgnOne 13 rfl (by kernel_rfl) (fun K hK => ?_)
    go_simp
    refine (KT.out _ B3.out).mono ?_
    rintro r W4 ⟨rfl, hb4⟩
    refine hK.out _ _ trivial (fun hHeld => ?_)
    clear hK K
    try simp only [Act.put, List.setIfInBounds_toArray, List.set_cons_zero, List.set_cons_succ]
    have B4 := Lib.hid (below_then B3.out hb4)
    clear hb4
    refine rgnOne 14 rfl (by kernel_rfl) (fun K hK => ?_)
    go_simp
    refine (KP.out _).mono ?_
    rintro r W5 ⟨rfl, hb5⟩
    refine hK.out _ _ trivial (fun hHeld => ?_)
    clear hK K
    try simp only [Act.put, List.setIfInBounds_toArray, List.set_cons_zero, List.set_cons_succ]
    have B5 := Lib.hid (below_then B4.out hb5)
    obtain ⟨c8, c9, c10, cf⟩ := CX.out _ B5.out
    have f8 := cf 8
    have f9 := cf 9
    have f10 := cf 10
    have HS5 := Lib.hid (HS.out _ B5.out)
    clear hb5 cf
    refine rgnTake 15 rfl (by kernel_rfl) (by kernel_rfl) (by kernel_rfl) (fun _ _ _ h => h) (by rfl) (v := ?v10) ?hy10 hHeld ?rest10
    case hy10 => (intro v hSw; first | (go_simp; done) | (go_simp; with_reducible rfl))
    try simp only [Act.put, List.setIfInBounds_toArray, List.set_cons_zero, List.set_cons_succ]
    refine rgnTake 16 rfl (by kernel_rfl) (by kernel_rfl) (by kernel_rfl) (fun _ _ _ h => h) (by rfl) (v := ?v11) ?hy11 hHeld ?rest11
    case hy11 => (intro v hSw; first | (go_simp; done) | (go_simp; with_reducible rfl))
    try simp only [Act.put, List.setIfInBounds_toArray, List.set_cons_zero, List.set_cons_succ]
    refine rgnOne 17 rfl (by kernel_rfl) (fun K hK => ?_)
    go_simp
    refine hK.out _ _ trivial (fun hHeld => ?_)
    clear hK K c8 c9 c10 f8 f9 f10
    try simp only [Act.put, List.setIfInBounds_toArray, List.set_cons_zero, List.set_cons_succ]
    obtain ⟨W6, hW6⟩ : ∃ W6, W6 = ((W5.setCell ⟨b, 8, none⟩ (.int .i64 y1)).setCell ⟨b, 9, none⟩ (.int .i64 y2)).setCell ⟨b, 10, none⟩ (.int .i64 y3) := ⟨_, rfl⟩
    rw [← hW6] at HS5 ⊢
    clear hW6
    refine wpAnyH_done (by kernel_rfl) ?_ _
    have af : (s.sum y1 y2 y3).AtF L P := HA.out.f.sums
    obtain ⟨n0, p1, p2, p3, -, p5⟩ := af.fine.place hh
    obtain ⟨t, ht⟩ := Sh.hasT HS5.out af hh
    have FC := Lib.hid ((xFindR HS5.out af k).mono (R' := fun e w' => e = .returned (.tuple #[Ptr t, .int .i64 (n0 : Int)]) ∧ Side w0 N w' ((s.sum y1 y2 y3).os b ++ [oCh A c])) fun e w' ⟨tp, p, q1, q2, _, q4⟩ => by
      obtain ⟨t', e1, rfl, rfl⟩ := q4 hh
      rw [ht] at e1
      injection e1 with e1
      subst e1
      rw [p1] at q1
      exact ⟨q1, HS5.out.below q2⟩)
    have P2 := Lib.hid p2
    have P5 := Lib.hid p5
    have n3 := af.n3
    have n4 := af.n4
    clear af p1 p2 p3 p5 ht
    go_wp2_with fail
    refine FC.out.mono ?_
    rintro e W7 ⟨rfl, h7⟩
    have H7 := Lib.hid h7
    obtain ⟨g6, c4, A5, c5, e4, q4, fz, -, -⟩ := Sh.cview h7 P2.out
    have n6 : g6 ≠ b := h7.vecNe (i := 0) (j := 3) (t2 := 64) (n := (s.sum y1 y2 y3).cs.length) (c := c4) (xs := (s.sum y1 y2 y3).vs) rfl (by rw [← e4]; rfl) (by decide)
    have c6 := (Sh.rowAt h7).cell 6
    simp only [Sh.row, List.getElem?_cons_succ, List.getElem?_cons_zero] at c6
    obtain ⟨z, hz⟩ : ∃ z, z = ((s.sum y1 y2 y3).cs.getD n0 []).length := ⟨_, rfl⟩
    obtain ⟨M, hM⟩ : ∃ M, M = (s.sum y1 y2 y3).cs.length := ⟨_, rfl⟩
    rw [← hz] at q4
    rw [e4, ← hM] at c6
    have E4 := Lib.hid e4
    have HM := Lib.hid hM
    have i5 : (0 : Int) ≤ (n0 : Int) := by omega
    have i6 : (n0 : Int) < (M : Int) := by have := P2.out; omega
    have n0' : ((n : Int) == 0) = false := by simp; omega
    clear h7 e4 hM hz FC
    go_wp2_with fail
    refine bodyPost_end (results_none rfl _ _ _) rfl ⟨rfl, ?_⟩
    have h8 := H7.out.vecSetV (i := 3) (t := 64) (v := (s.sum y1 y2 y3).cv) (xs := (s.sum y1 y2 y3).vs) (p := n0) (u := .slice A n cap) rfl E4.out
    have h9 : Side w0 N (W7.setCell ⟨g6, n0, none⟩ (.slice A n cap)) (((((s.sum y1 y2 y3).rows s.cv s.fv (s.vs.set n0 (.slice A n cap)) (s.cs.set n0 c) s.fr).os b).set 5 (oDat s.vs s.cs)) ++ [oCh A c]) := h8
    have h10 := h9.merge (i := 5) (oi := oDat s.vs s.cs) (o' := oDat (s.vs.set n0 (.slice A n cap)) (s.cs.set n0 c)) rfl (fun F F' q1 q2 => by have q := DatP.put (c := cap) q1 q2 (by rw [← HN.out]; exact HCAP.out) (p := n0) P2.out; rw [← HN.out] at q; exact q)
    refine ⟨(s.sum y1 y2 y3).rows s.cv s.fv (s.vs.set n0 (.slice A n cap)) (s.cs.set n0 c) s.fr, h10, ⟨rfl, rfl, rfl, rfl, rfl, rfl, rfl⟩, ?_⟩
    have af := HA.out.f
    have gl : (L.give k c).length = L.length := by rw [Ch.give_len, if_pos hh]
    obtain ⟨z1, z2, z3⟩ := sums_give L k c
    obtain ⟨w1, w2, w3⟩ := SUM.out
    obtain ⟨w4, w5, w6, w7, w8, w9⟩ := HU.out
    refine ⟨⟨af.fine.old P5.out hh, af.t0, by rw [gl]; exact af.n1, by rw [gl]; exact af.n2, by show (s.cs.set n0 c).length ≤ P; rw [List.length_set]; exact af.n3, af.n4, good_give af.good HG.out.1 HG.out.2 hk (by rw [gl]; exact af.good.len), right_give af.good af.right HG.out.2, by rw [gl]; exact af.n5⟩, ?_, ?_, ?_⟩
    · show y1 = _; omega
    · show y2 = _; omega
    · show y3 = _; omega
  · go_simp
    refine (KC.out _ BX.out).mono ?_
    rintro r W1 ⟨A1, c1, rfl, hs1, hb1⟩
    refine hK.out _ _ trivial (fun hHeld => ?_)
    clear hK K
    try simp only [Act.put, List.setIfInBounds_toArray, List.set_cons_zero, List.set_cons_succ]
    have S1 := Lib.hid hs1
    have B1 := Lib.hid (below_then BX.out hb1)
    clear hs1 hb1
    refine rgnTwo 4 9 rfl rfl (by kernel_rfl) (fun K hK => ?_) (fun K hK => ?_)
    · obtain ⟨c8, c9, c10, -⟩ := CX.out _ B1.out
      go_simp
      refine hK.out _ _ trivial (fun hHeld => ?_)
      clear hK K c8 c9 c10
      try simp only [Act.put, List.setIfInBounds_toArray, List.set_cons_zero, List.set_cons_succ]
      refine rgnOne 9 rfl (by kernel_rfl) (fun K hK => ?_)
      go_simp
      refine (KS.out _ _ _ S1.out).mono ?_
      rintro r W2 ⟨rfl, hb2⟩
      refine hK.out _ _ trivial (fun hHeld => ?_)
      clear hK K
      try simp only [Act.put, List.setIfInBounds_toArray, List.set_cons_zero, List.set_cons_succ]
      have B2 := Lib.hid (below_then B1.out hb2)
      clear hb2
      refine rgnOne 10 rfl (by kernel_rfl) (fun K hK => ?_)
      go_simp
      refine (KL.out _).mono ?_
      rintro r W3 ⟨rfl, hb3⟩
      refine hK.out _ _ trivial (fun hHeld => ?_)
      clear hK K
      try simp only [Act.put, List.setIfInBounds_toArray, List.set_cons_zero, List.set_cons_succ]
      have B3 := Lib.hid (below_then B2.out hb3)
      clear hb3
      refine rgnOne 13 rfl (by kernel_rfl) (fun K hK => ?_)
      go_simp
      refine (KT.out _ B3.out).mono ?_
      rintro r W4 ⟨rfl, hb4⟩
      refine hK.out _ _ trivial (fun hHeld => ?_)
      clear hK K
      try simp only [Act.put, List.setIfInBounds_toArray, List.set_cons_zero, List.set_cons_succ]
      have B4 := Lib.hid (below_then B3.out hb4)
      clear hb4
      refine rgnOne 14 rfl (by kernel_rfl) (fun K hK => ?_)
      go_simp
      refine (KP.out _).mono ?_
      rintro r W5 ⟨rfl, hb5⟩
      refine hK.out _ _ trivial (fun hHeld => ?_)
      clear hK K
      try simp only [Act.put, List.setIfInBounds_toArray, List.set_cons_zero, List.set_cons_succ]
      have B5 := Lib.hid (below_then B4.out hb5)
      obtain ⟨c8, c9, c10, cf⟩ := CX.out _ B5.out
      have f8 := cf 8
      have f9 := cf 9
      have f10 := cf 10
      have HS5 := Lib.hid (HS.out _ B5.out)
      clear hb5 cf
      refine rgnTake 15 rfl (by kernel_rfl) (by kernel_rfl) (by kernel_rfl) (fun _ _ _ h => h) (by rfl) (v := ?v12) ?hy12 hHeld ?rest12
      case hy12 => (intro v hSw; first | (go_simp; done) | (go_simp; with_reducible rfl))
      try simp only [Act.put, List.setIfInBounds_toArray, List.set_cons_zero, List.set_cons_succ]
      refine rgnTake 16 rfl (by kernel_rfl) (by kernel_rfl) (by kernel_rfl) (fun _ _ _ h => h) (by rfl) (v := ?v13) ?hy13 hHeld ?rest13
      case hy13 => (intro v hSw; first | (go_simp; done) | (go_simp; with_reducible rfl))
      try simp only [Act.put, List.setIfInBounds_toArray, List.set_cons_zero, List.set_cons_succ]
      refine rgnOne 17 rfl (by kernel_rfl) (fun K hK => ?_)
      go_simp
      refine hK.out _ _ trivial (fun hHeld => ?_)
      clear hK K c8 c9 c10 f8 f9 f10
      try simp only [Act.put, List.setIfInBounds_toArray, List.set_cons_zero, List.set_cons_succ]
      obtain ⟨W6, hW6⟩ : ∃ W6, W6 = ((W5.setCell ⟨b, 8, none⟩ (.int .i64 y1)).setCell ⟨b, 9, none⟩ (.int .i64 y2)).setCell ⟨b, 10, none⟩ (.int .i64 y3) := ⟨_, rfl⟩
      rw [← hW6] at HS5 ⊢
      clear hW6
      refine wpAnyH_done (by kernel_rfl) ?_ _
      have af : (s.sum y1 y2 y3).AtF L P := HA.out.f.sums
      obtain ⟨n0, p1, p2, p3, -, p5⟩ := af.fine.place hh
      obtain ⟨t, ht⟩ := Sh.hasT HS5.out af hh
      have FC := Lib.hid ((xFindR HS5.out af k).mono (R' := fun e w' => e = .returned (.tuple #[Ptr t, .int .i64 (n0 : Int)]) ∧ Side w0 N w' ((s.sum y1 y2 y3).os b ++ [oCh A c])) fun e w' ⟨tp, p, q1, q2, _, q4⟩ => by
        obtain ⟨t', e1, rfl, rfl⟩ := q4 hh
        rw [ht] at e1
        injection e1 with e1
        subst e1
        rw [p1] at q1
        exact ⟨q1, HS5.out.below q2⟩)
      have P2 := Lib.hid p2
      have P5 := Lib.hid p5
      have n3 := af.n3
      have n4 := af.n4
      clear af p1 p2 p3 p5 ht
      go_wp2_with fail
      refine FC.out.mono ?_
      rintro e W7 ⟨rfl, h7⟩
      have H7 := Lib.hid h7
      obtain ⟨g6, c4, A5, c5, e4, q4, fz, -, -⟩ := Sh.cview h7 P2.out
      have n6 : g6 ≠ b := h7.vecNe (i := 0) (j := 3) (t2 := 64) (n := (s.sum y1 y2 y3).cs.length) (c := c4) (xs := (s.sum y1 y2 y3).vs) rfl (by rw [← e4]; rfl) (by decide)
      have c6 := (Sh.rowAt h7).cell 6
      simp only [Sh.row, List.getElem?_cons_succ, List.getElem?_cons_zero] at c6
      obtain ⟨z, hz⟩ : ∃ z, z = ((s.sum y1 y2 y3).cs.getD n0 []).length := ⟨_, rfl⟩
      obtain ⟨M, hM⟩ : ∃ M, M = (s.sum y1 y2 y3).cs.length := ⟨_, rfl⟩
      rw [← hz] at q4
      rw [e4, ← hM] at c6
      have E4 := Lib.hid e4
      have HM := Lib.hid hM
      have i5 : (0 : Int) ≤ (n0 : Int) := by omega
      have i6 : (n0 : Int) < (M : Int) := by have := P2.out; omega
      have n0' : ((n : Int) == 0) = false := by simp; omega
      clear h7 e4 hM hz FC
      go_wp2_with fail
      refine bodyPost_end (results_none rfl _ _ _) rfl ⟨rfl, ?_⟩
      have h8 := H7.out.vecSetV (i := 3) (t := 64) (v := (s.sum y1 y2 y3).cv) (xs := (s.sum y1 y2 y3).vs) (p := n0) (u := .slice A n cap) rfl E4.out
      have h9 : Side w0 N (W7.setCell ⟨g6, n0, none⟩ (.slice A n cap)) (((((s.sum y1 y2 y3).rows s.cv s.fv (s.vs.set n0 (.slice A n cap)) (s.cs.set n0 c) s.fr).os b).set 5 (oDat s.vs s.cs)) ++ [oCh A c]) := h8
      have h10 := h9.merge (i := 5) (oi := oDat s.vs s.cs) (o' := oDat (s.vs.set n0 (.slice A n cap)) (s.cs.set n0 c)) rfl (fun F F' q1 q2 => by have q := DatP.put (c := cap) q1 q2 (by rw [← HN.out]; exact HCAP.out) (p := n0) P2.out; rw [← HN.out] at q; exact q)
      refine ⟨(s.sum y1 y2 y3).rows s.cv s.fv (s.vs.set n0 (.slice A n cap)) (s.cs.set n0 c) s.fr, h10, ⟨rfl, rfl, rfl, rfl, rfl, rfl, rfl⟩, ?_⟩
      have af := HA.out.f
      have gl : (L.give k c).length = L.length := by rw [Ch.give_len, if_pos hh]
      obtain ⟨z1, z2, z3⟩ := sums_give L k c
      obtain ⟨w1, w2, w3⟩ := SUM.out
      obtain ⟨w4, w5, w6, w7, w8, w9⟩ := HU.out
      refine ⟨⟨af.fine.old P5.out hh, af.t0, by rw [gl]; exact af.n1, by rw [gl]; exact af.n2, by show (s.cs.set n0 c).length ≤ P; rw [List.length_set]; exact af.n3, af.n4, good_give af.good HG.out.1 HG.out.2 hk (by rw [gl]; exact af.good.len), right_give af.good af.right HG.out.2, by rw [gl]; exact af.n5⟩, ?_, ?_, ?_⟩
      · show y1 = _; omega
      · show y2 = _; omega
      · show y3 = _; omega
    · go_simp
      refine (KS.out _ _ _ S1.out).mono ?_
      rintro r W2 ⟨rfl, hb2⟩
      refine hK.out _ _ trivial (fun hHeld => ?_)
      clear hK K
      try simp only [Act.put, List.setIfInBounds_toArray, List.set_cons_zero, List.set_cons_succ]
      have B2 := Lib.hid (below_then B1.out hb2)
      clear hb2
      obtain ⟨c8, c9, c10, -⟩ := CX.out _ B2.out
      refine rgnOne 4 rfl (by kernel_rfl) (fun K hK => ?_)
      go_simp
      refine hK.out _ _ trivial (fun hHeld => ?_)
      clear hK K c8 c9 c10
      try simp only [Act.put, List.setIfInBounds_toArray, List.set_cons_zero, List.set_cons_succ]
      refine rgnOne 10 rfl (by kernel_rfl) (fun K hK => ?_)
      go_simp
      refine (KL.out _).mono ?_
      rintro r W3 ⟨rfl, hb3⟩
      refine hK.out _ _ trivial (fun hHeld => ?_)
      clear hK K
      try simp only [Act.put, List.setIfInBounds_toArray, List.set_cons_zero, List.set_cons_succ]
      have B3 := Lib.hid (below_then B2.out hb3)
      clear hb3
      refine rgnOne 13 rfl (by kernel_rfl) (fun K hK => ?_)
      go_simp
      refine (KT.out _ B3.out).mono ?_
      rintro r W4 ⟨rfl, hb4⟩
      refine hK.out _ _ trivial (fun hHeld => ?_)
      clear hK K
      try simp only [Act.put, List.setIfInBounds_toArray, List.set_cons_zero, List.set_cons_succ]
      have B4 := Lib.hid (below_then B3.out hb4)
      clear hb4
      refine rgnOne 14 rfl (by kernel_rfl) (fun K hK => ?_)
      go_simp
      refine (KP.out _).mono ?_
      rintro r W5 ⟨rfl, hb5⟩
      refine hK.out _ _ trivial (fun hHeld => ?_)
      clear hK K
      try simp only [Act.put, List.setIfInBounds_toArray, List.set_cons_zero, List.set_cons_succ]
      have B5 := Lib.hid (below_then B4.out hb5)
      obtain ⟨c8, c9, c10, cf⟩ := CX.out _ B5.out
      have f8 := cf 8
      have f9 := cf 9
      have f10 := cf 10
      have HS5 := Lib.hid (HS.out _ B5.out)
      clear hb5 cf
      refine rgnTake 15 rfl (by kernel_rfl) (by kernel_rfl) (by kernel_rfl) (fun _ _ _ h => h) (by rfl) (v := ?v14) ?hy14 hHeld ?rest14
      case hy14 => (intro v hSw; first | (go_simp; done) | (go_simp; with_reducible rfl))
      try simp only [Act.put, List.setIfInBounds_toArray, List.set_cons_zero, List.set_cons_succ]
      refine rgnTake 16 rfl (by kernel_rfl) (by kernel_rfl) (by kernel_rfl) (fun _ _ _ h => h) (by rfl) (v := ?v15) ?hy15 hHeld ?rest15
      case hy15 => (intro v hSw; first | (go_simp; done) | (go_simp; with_reducible rfl))
      try simp only [Act.put, List.setIfInBounds_toArray, List.set_cons_zero, List.set_cons_succ]
      refine rgnOne 17 rfl (by kernel_rfl) (fun K hK => ?_)
      go_simp
      refine hK.out _ _ trivial (fun hHeld => ?_)
      clear hK K c8 c9 c10 f8 f9 f10
      try simp only [Act.put, List.setIfInBounds_toArray, List.set_cons_zero, List.set_cons_succ]
      obtain ⟨W6, hW6⟩ : ∃ W6, W6 = ((W5.setCell ⟨b, 8, none⟩ (.int .i64 y1)).setCell ⟨b, 9, none⟩ (.int .i64 y2)).setCell ⟨b, 10, none⟩ (.int .i64 y3) := ⟨_, rfl⟩
      rw [← hW6] at HS5 ⊢
      clear hW6
      refine wpAnyH_done (by kernel_rfl) ?_ _
      have af : (s.sum y1 y2 y3).AtF L P := HA.out.f.sums
      obtain ⟨n0, p1, p2, p3, -, p5⟩ := af.fine.place hh
      obtain ⟨t, ht⟩ := Sh.hasT HS5.out af hh
      have FC := Lib.hid ((xFindR HS5.out af k).mono (R' := fun e w' => e = .returned (.tuple #[Ptr t, .int .i64 (n0 : Int)]) ∧ Side w0 N w' ((s.sum y1 y2 y3).os b ++ [oCh A c])) fun e w' ⟨tp, p, q1, q2, _, q4⟩ => by
        obtain ⟨t', e1, rfl, rfl⟩ := q4 hh
        rw [ht] at e1
        injection e1 with e1
        subst e1
        rw [p1] at q1
        exact ⟨q1, HS5.out.below q2⟩)
      have P2 := Lib.hid p2
      have P5 := Lib.hid p5
      have n3 := af.n3
      have n4 := af.n4
      clear af p1 p2 p3 p5 ht
      go_wp2_with fail
      refine FC.out.mono ?_
      rintro e W7 ⟨rfl, h7⟩
      have H7 := Lib.hid h7
      obtain ⟨g6, c4, A5, c5, e4, q4, fz, -, -⟩ := Sh.cview h7 P2.out
      have n6 : g6 ≠ b := h7.vecNe (i := 0) (j := 3) (t2 := 64) (n := (s.sum y1 y2 y3).cs.length) (c := c4) (xs := (s.sum y1 y2 y3).vs) rfl (by rw [← e4]; rfl) (by decide)
      have c6 := (Sh.rowAt h7).cell 6
      simp only [Sh.row, List.getElem?_cons_succ, List.getElem?_cons_zero] at c6
      obtain ⟨z, hz⟩ : ∃ z, z = ((s.sum y1 y2 y3).cs.getD n0 []).length := ⟨_, rfl⟩
      obtain ⟨M, hM⟩ : ∃ M, M = (s.sum y1 y2 y3).cs.length := ⟨_, rfl⟩
      rw [← hz] at q4
      rw [e4, ← hM] at c6
      have E4 := Lib.hid e4
      have HM := Lib.hid hM
      have i5 : (0 : Int) ≤ (n0 : Int) := by omega
      have i6 : (n0 : Int) < (M : Int) := by have := P2.out; omega
      have n0' : ((n : Int) == 0) = false := by simp; omega
      clear h7 e4 hM hz FC
      go_wp2_with fail
      refine bodyPost_end (results_none rfl _ _ _) rfl ⟨rfl, ?_⟩
      have h8 := H7.out.vecSetV (i := 3) (t := 64) (v := (s.sum y1 y2 y3).cv) (xs := (s.sum y1 y2 y3).vs) (p := n0) (u := .slice A n cap) rfl E4.out
      have h9 : Side w0 N (W7.setCell ⟨g6, n0, none⟩ (.slice A n cap)) (((((s.sum y1 y2 y3).rows s.cv s.fv (s.vs.set n0 (.slice A n cap)) (s.cs.set n0 c) s.fr).os b).set 5 (oDat s.vs s.cs)) ++ [oCh A c]) := h8
      have h10 := h9.merge (i := 5) (oi := oDat s.vs s.cs) (o' := oDat (s.vs.set n0 (.slice A n cap)) (s.cs.set n0 c)) rfl (fun F F' q1 q2 => by have q := DatP.put (c := cap) q1 q2 (by rw [← HN.out]; exact HCAP.out) (p := n0) P2.out; rw [← HN.out] at q; exact q)
      refine ⟨(s.sum y1 y2 y3).rows s.cv s.fv (s.vs.set n0 (.slice A n cap)) (s.cs.set n0 c) s.fr, h10, ⟨rfl, rfl, rfl, rfl, rfl, rfl, rfl⟩, ?_⟩
      have af := HA.out.f
      have gl : (L.give k c).length = L.length := by rw [Ch.give_len, if_pos hh]
      obtain ⟨z1, z2, z3⟩ := sums_give L k c
      obtain ⟨w1, w2, w3⟩ := SUM.out
      obtain ⟨w4, w5, w6, w7, w8, w9⟩ := HU.out
      refine ⟨⟨af.fine.old P5.out hh, af.t0, by rw [gl]; exact af.n1, by rw [gl]; exact af.n2, by show (s.cs.set n0 c).length ≤ P; rw [List.length_set]; exact af.n3, af.n4, good_give af.good HG.out.1 HG.out.2 hk (by rw [gl]; exact af.good.len), right_give af.good af.right HG.out.2, by rw [gl]; exact af.n5⟩, ?_, ?_, ?_⟩
      · show y1 = _; omega
      · show y2 = _; omega
      · show y3 = _; omega
end

end Go.Proofs.Ytbfgpdgiaclphaa

namespace Go.Proofs.Ytbfgpdgiaclphaa
open Go.RowKit

section
variable {w0 w : World} {N : Nat → Prop} {b : Nat} {s : Sh} {L : Ch} {P : Nat} {os : List Ob} {i : Nat}
/-- take, whether a place is free or not -/
theorem xTakeR {A : Option Addr} {c : List Ver} {n cap : Nat} {k : ByteArray} (hn : n = c.length) (h : Side w0 N w (s.os b ++ [oCh A c])) (hcap : n ≤ cap) (a : s.AtF L P) (hk : k.size ≤ 1000) (hh : L.has k = false) :
    Calls Try.prog 46 #[PtrS b, .slice A n cap] w fun e w' => ∃ (n0 : Nat) (cv fv : Value) (vs : List Value) (cs : List (List Ver)) (fr : List Nat), e = .returned (.int .i64 (n0 : Int)) ∧ Side w0 N w' ((s.rows cv fv vs cs fr).os b) ∧ Fine (s.l.put k n0) cs fr (L.give k c) ∧ cs.length ≤ s.cs.length + 1 := by
  have n3 := a.n3
  have n4 := a.n4
  have fl := a.fine.len
  rcases List.eq_nil_or_concat s.fr with e | ⟨fr, p, e⟩
  · refine (xTake1R hn h hcap e (by omega)).mono fun r w' ⟨cv, h1, h2⟩ => ?_
    refine ⟨s.cs.length, cv, s.fv, _, _, _, h1, h2, ?_, by simp⟩
    exact a.fine.push hh hk
  · rw [List.concat_eq_append] at e
    have hf := a.fine
    rw [e] at hf
    refine (xTake2R hn h hcap e (hf.frlt p (by simp)) (by rw [e] at fl; simp at fl; omega)).mono fun r w' ⟨fv, h1, h2⟩ => ?_
    exact ⟨p, s.cv, fv, _, _, _, h1, h2, hf.reuse hh hk, by rw [List.length_set]; omega⟩
/-- lay, whether there is a tree or not -/
theorem xLayR (h : Side w0 N w (s.os b)) (h0 : s.T = none → s.tv = .slice none 0 0 ∧ s.l = []) (k : ByteArray) (n : Nat) (hl : s.l.length ≤ 4000) (hb : s.bd ≤ 800000) (hk : k.size ≤ 1000000) :
    Calls Try.prog 45 #[PtrS b, .string k, .int .i64 (n : Int)] w fun e w' => e = .returned (.tuple #[]) ∧ ∃ (T : Option Nat) (tv : Value) (bd : Nat), Side w0 N w' (({ s with T := T, tv := tv, l := s.l.put k n, bd := bd } : Sh).os b) ∧ T ≠ none ∧ bd ≤ s.bd + 29 := by
  cases ht : s.T with
  | none =>
    obtain ⟨e1, e2⟩ := h0 ht
    exact (xLay0R h ht e1 e2 k n hk).mono fun e w' ⟨h1, t, tv, h2⟩ => ⟨h1, some t, tv, 29, h2, by simp, by omega⟩
  | some t =>
    refine (xLay1R h ht k n hl hb hk).mono fun e w' ⟨h1, h2⟩ => ⟨h1, some t, s.tv, s.bd + 29, ?_, by simp, Nat.le_refl _⟩
    rw [← ht]; exact h2
set_option maxRecDepth 100000 in
set_option maxHeartbeats 4000000 in
/-- set, of a new key -/
theorem xSetNewR {A : Option Addr} {c : List Ver} {n cap : Nat} {k : ByteArray} (h : Side w0 N w (s.os b ++ [oCh A c])) (a : s.At L P) (hn : n = c.length) (hcap : n ≤ cap) (hP : P + 1 ≤ 13200) (hL : L.length + 1 ≤ 3950) (hg : GoodL c) (hr : rightL c = true) (hk : k.size ≤ 1000) (hh : L.has k = false) :
    Calls Try.prog 20 #[PtrS b, .string k, .slice A n cap] w fun e w' => e = .returned (.tuple #[]) ∧ ∃ s', Side w0 N w' (s'.os b) ∧ Sh.Hd s s' ∧ s'.At (L.give k c) (P + 1) := by
  have fk := good_of a.f.good a.f.right k
  have hx1 := a.x1
  have hx2 := a.x2
  have hx3 := a.x3
  obtain ⟨b1, b2, b3⟩ := sums_small a.f.good a.f.n5
  have wu := wgt_small fk.1 fk.2.1 hk
  have wv := wgt_small hg hr hk
  have au := aliv_le (k, L.of k)
  have av := aliv_le (k, c)
  have ln := hg.len
  obtain ⟨m, hm⟩ : ∃ m, m = (L.of k).length := ⟨_, rfl⟩
  obtain ⟨u1, hu1⟩ : ∃ m, m = Ch.wgt (k, L.of k) := ⟨_, rfl⟩
  obtain ⟨u2, hu2⟩ : ∃ m, m = Ch.aliv (k, L.of k) := ⟨_, rfl⟩
  obtain ⟨v1, hv1⟩ : ∃ m, m = Ch.wgt (k, c) := ⟨_, rfl⟩
  obtain ⟨v2, hv2⟩ : ∃ m, m = Ch.aliv (k, c) := ⟨_, rfl⟩
  obtain ⟨d1, hd1⟩ : ∃ d, d = s.x1 - (u1 : Int) := ⟨_, rfl⟩
  obtain ⟨d2, hd2⟩ : ∃ d, d = s.x2 - (u2 : Int) := ⟨_, rfl⟩
  obtain ⟨d3, hd3⟩ : ∃ d, d = s.x3 - (m : Int) := ⟨_, rfl⟩
  obtain ⟨y1, hy1⟩ : ∃ d, d = d1 + (v1 : Int) := ⟨_, rfl⟩
  obtain ⟨y2, hy2⟩ : ∃ d, d = d2 + (v2 : Int) := ⟨_, rfl⟩
  obtain ⟨y3, hy3⟩ : ∃ d, d = d3 + (n : Int) := ⟨_, rfl⟩
  have SUM := Lib.hid (show y1 = (L.live : Int) - (u1 : Int) + (v1 : Int) ∧ y2 = (L.alive : Int) - (u2 : Int) + (v2 : Int) ∧ y3 = (L.vers : Int) - (m : Int) + (n : Int) from ⟨by omega, by omega, by omega⟩)
  have HU := Lib.hid (show u1 = Ch.wgt (k, L.of k) ∧ u2 = Ch.aliv (k, L.of k) ∧ m = (L.of k).length ∧ v1 = Ch.wgt (k, c) ∧ v2 = Ch.aliv (k, c) ∧ n = c.length from ⟨hu1, hu2, hm, hv1, hv2, hn⟩)
  have KC := Lib.hid (fun W (hb : Below w.heap.size w W) => show Calls Try.prog 35 #[PtrS b, .string k] W fun e w' => ∃ A c, e = .returned (.slice A m c) ∧ SlV w' A (L.of k) ∧ Below W.heap.size W w' from (xChainR (h.below hb) a.f k).mono fun e w' ⟨A', c', h1, _, h3, h4⟩ => ⟨A', c', by rw [hm]; exact h1, h3, h4⟩)
  have KS := Lib.hid (fun W A' c' (hs : SlV W A' (L.of k)) => show Calls Try.prog 42 #[.string k, .slice A' m c'] W fun e w' => e = .returned (.agg #[.int .i64 (u1 : Int), .int .i64 (u2 : Int), .int .i64 (m : Int)]) ∧ Below W.heap.size W w' from by
    rw [hm, hu1, hu2]
    exact xSumsR k (L.of k) A' c' W hs fk.1 fk.2.1 (by omega))
  have KT := Lib.hid (fun W (hb : Below w.heap.size w W) => show Calls Try.prog 42 #[.string k, .slice A n cap] W fun e w' => e = .returned (.agg #[.int .i64 (v1 : Int), .int .i64 (v2 : Int), .int .i64 (n : Int)]) ∧ Below W.heap.size W w' from by
    rw [hn, hv1, hv2]
    obtain ⟨F, hP⟩ := (h.below hb).get (i := 8) (o := oCh A c) rfl
    exact xSumsR k c A cap W hP.1.1 hg hr (by omega))
  have KL := Lib.hid (fun W => xLessR s.x1 s.x2 s.x3 u1 u2 m d1 d2 d3 W (by rw [hd1, hx1]; unfold wrap64; omega) (by rw [hd2, hx2]; unfold wrap64; omega) (by rw [hd3, hx3]; unfold wrap64; omega))
  have KP := Lib.hid (fun W => xPlusR d1 d2 d3 v1 v2 n y1 y2 y3 W (by rw [hy1, hd1, hx1]; unfold wrap64; omega) (by rw [hy2, hd2, hx2]; unfold wrap64; omega) (by rw [hy3, hd3, hx3]; unfold wrap64; omega))
  have CX := Lib.hid (fun W (hb : Below w.heap.size w W) => show W.cell? ⟨b, 8, none⟩ = some (.int .i64 s.x1) ∧ W.cell? ⟨b, 9, none⟩ = some (.int .i64 s.x2) ∧ W.cell? ⟨b, 10, none⟩ = some (.int .i64 s.x3) ∧ (∀ j, W.frozen? ⟨b, j, none⟩ = false) from by
    have r := Sh.rowAt (h.below hb)
    exact ⟨r.cell 8, r.cell 9, r.cell 10, fun j => r.frozen j⟩)
  have HS := Lib.hid (fun W (hb : Below w.heap.size w W) => Sh.sumSet (y1 := y1) (y2 := y2) (y3 := y3) (h.below hb))
  have B0 := Lib.hid (show Below w.heap.size w w.drew from (Below.refl _ _).drew)
  have HA := Lib.hid a
  have HG := Lib.hid (And.intro hg hr)
  have HN := Lib.hid hn
  have HCAP := Lib.hid hcap
  clear fk hx1 hx2 hx3 b1 b2 b3 wu wv au av ln hm hu1 hu2 hv1 hv2 hd1 hd2 hd3 hy1 hy2 hy3
  clear h a hn hg hr hcap
  go_enter Try.func20, Try.ntmps20
  go_wp2_with fail
  refine wp_region_held_drew (S := (fun _ => True)) (by kernel_rfl) (trivial) (fun hHeld => ?_)
  refine rgnTake 0 rfl (by kernel_rfl) (by kernel_rfl) (by kernel_rfl) (fun _ _ _ h => h) (by rfl) (v := ?v1) ?hy1 hHeld ?rest1
  case hy1 => (intro v hSw; first | (go_simp; done) | (go_simp; with_reducible rfl))
  try simp only [Act.put, List.setIfInBounds_toArray, List.set_cons_zero, List.set_cons_succ]
  refine rgnTake 1 rfl (by kernel_rfl) (by kernel_rfl) (by kernel_rfl) (fun _ _ _ h => h) (by rfl) (v := ?v2) ?hy2 hHeld ?rest2
  case hy2 => (intro v hSw; first | (go_simp; done) | (go_simp; with_reducible rfl))
  try simp only [Act.put, List.setIfInBounds_toArray, List.set_cons_zero, List.set_cons_succ]
  refine rgnTake 2 rfl (by kernel_rfl) (by kernel_rfl) (by kernel_rfl) (fun _ _ _ h => h) (by rfl) (v := ?v3) ?hy3 hHeld ?rest3
  case hy3 => (intro v hSw; first | (go_simp; done) | (go_simp; with_reducible rfl))
  try simp only [Act.put, List.setIfInBounds_toArray, List.set_cons_zero, List.set_cons_succ]
  refine rgnTake 3 rfl (by kernel_rfl) (by kernel_rfl) (by kernel_rfl) (fun _ _ _ h => h) (by rfl) (v := ?v4) ?hy4 hHeld ?rest4
  case hy4 => (intro v hSw; first | (go_simp; done) | (go_simp; with_reducible rfl))
  try simp only [Act.put, List.setIfInBounds_toArray, List.set_cons_zero, List.set_cons_succ]
  refine rgnTake 5 rfl (by kernel_rfl) (by kernel_rfl) (by kernel_rfl) (fun _ _ _ h => h) (by rfl) (v := ?v5) ?hy5 hHeld ?rest5
  case hy5 => (intro v hSw; first | (go_simp; done) | (go_simp; with_reducible rfl))
  try simp only [Act.put, List.setIfInBounds_toArray, List.set_cons_zero, List.set_cons_succ]
  refine rgnTake 6 rfl (by kernel_rfl) (by kernel_rfl) (by kernel_rfl) (fun _ _ _ h => h) (by rfl) (v := ?v6) ?hy6 hHeld ?rest6
  case hy6 => (intro v hSw; first | (go_simp; done) | (go_simp; with_reducible rfl))
  try simp only [Act.put, List.setIfInBounds_toArray, List.set_cons_zero, List.set_cons_succ]
  refine rgnTake 7 rfl (by kernel_rfl) (by kernel_rfl) (by kernel_rfl) (fun _ _ _ h => h) (by rfl) (v := ?v7) ?hy7 hHeld ?rest7
  case hy7 => (intro v hSw; first | (go_simp; done) | (go_simp; with_reducible rfl))
  try simp only [Act.put, List.setIfInBounds_toArray, List.set_cons_zero, List.set_cons_succ]
  refine rgnTake 11 rfl (by kernel_rfl) (by kernel_rfl) (by kernel_rfl) (fun _ _ _ h => h) (by rfl) (v := ?v8) ?hy8 hHeld ?rest8
  case hy8 => (intro v hSw; first | (go_simp; done) | (go_simp; with_reducible rfl))
  try simp only [Act.put, List.setIfInBounds_toArray, List.set_cons_zero, List.set_cons_succ]
  refine rgnTake 12 rfl (by kernel_rfl) (by kernel_rfl) (by kernel_rfl) (fun _ _ _ h => h) (by rfl) (v := ?v9) ?hy9 hHeld ?rest9
  case hy9 => (intro v hSw; first | (go_simp; done) | (go_simp; with_reducible rfl))
  try simp only [Act.put, List.setIfInBounds_toArray, List.set_cons_zero, List.set_cons_succ]
  have BX := B0
  refine rgnTwo 4 8 rfl rfl (by kernel_rfl) (fun K hK => ?_) (fun K hK => ?_)
  · obtain ⟨c8, c9, c10, -⟩ := CX.out _ BX.out
    go_simp
    refine hK.out _ _ trivial (fun hHeld => ?_)
    clear hK K c8 c9 c10
    try simp only [Act.put, List.setIfInBounds_toArray, List.set_cons_zero, List.set_cons_succ]
    refine rgnOne 8 rfl (by kernel_rfl) (fun K hK => ?_)
    go_simp
    refine (KC.out _ BX.out).mono ?_
    rintro r W1 ⟨A1, c1, rfl, hs1, hb1⟩
    refine hK.out _ _ trivial (fun hHeld => ?_)
    clear hK K
    try simp only [Act.put, List.setIfInBounds_toArray, List.set_cons_zero, List.set_cons_succ]
    have S1 := Lib.hid hs1
    have B1 := Lib.hid (below_then BX.out hb1)
    clear hs1 hb1
    refine rgnOne 9 rfl (by kernel_rfl) (fun K hK => ?_)
    go_simp
    refine (KS.out _ _ _ S1.out).mono ?_
    rintro r W2 ⟨rfl, hb2⟩
    refine hK.out _ _ trivial (fun hHeld => ?_)
    clear hK K
    try simp only [Act.put, List.setIfInBounds_toArray, List.set_cons_zero, List.set_cons_succ]
    have B2 := Lib.hid (below_then B1.out hb2)
    clear hb2
    refine rgnOne 10 rfl (by kernel_rfl) (fun K hK => ?_)
    go_simp
    refine (KL.out _).mono ?_
    rintro r W3 ⟨rfl, hb3⟩
    refine hK.out _ _ trivial (fun hHeld => ?_)
    clear hK K
    try simp only [Act.put, List.setIfInBounds_toArray, List.set_cons_zero, List.set_cons_succ]
    have B3 := Lib.hid (below_then B2.out hb3)
    clear hb3
    refine rgnOne 13 rfl (by kernel_rfl) (fun K hK => ?_)
    go_simp
    refine (KT.out _ B3.out).mono ?_
    rintro r W4 ⟨rfl, hb4⟩
    refine hK.out _ _ trivial (fun hHeld => ?_)
    clear hK K
    try simp only [Act.put, List.setIfInBounds_toArray, List.set_cons_zero, List.set_cons_succ]
    have B4 := Lib.hid (below_then B3.out hb4)
    clear hb4
    refine rgnOne 14 rfl (by kernel_rfl) (fun K hK => ?_)
    go_simp
    refine (KP.out _).mono ?_
    rintro r W5 ⟨rfl, hb5⟩
    refine hK.out _ _ trivial (fun hHeld => ?_)
    clear hK K
    try simp only [Act.put, List.setIfInBounds_toArray, List.set_cons_zero, List.set_cons_succ]
    have B5 := Lib.hid (below_then B4.out hb5)
    obtain ⟨c8, c9, c10, cf⟩ := CX.out _ B5.out
    have f8 := cf 8
    have f9 := cf 9
    have f10 := cf 10
    have HS5 := Lib.hid (HS.out _ B5.out)
    clear hb5 cf
    refine rgnTake 15 rfl (by kernel_rfl) (by kernel_rfl) (by kernel_rfl) (fun _ _ _ h => h) (by rfl) (v := ?v10) ?hy10 hHeld ?rest10
    case hy10 => (intro v hSw; first | (go_simp; done) | (go_simp; with_reducible rfl))
    try simp only [Act.put, List.setIfInBounds_toArray, List.set_cons_zero, List.set_cons_succ]
    refine rgnTake 16 rfl (by kernel_rfl) (by kernel_rfl) (by kernel_rfl) (fun _ _ _ h => h) (by rfl) (v := ?v11) ?hy11 hHeld ?rest11
    case hy11 => (intro v hSw; first | (go_simp; done) | (go_simp; with_reducible rfl))
    try simp only [Act.put, List.setIfInBounds_toArray, List.set_cons_zero, List.set_cons_succ]
    refine rgnOne 17 rfl (by kernel_rfl) (fun K hK => ?_)
    go_simp
    refine hK.out _ _ trivial (fun hHeld => ?_)
    clear hK K c8 c9 c10 f8 f9 f10
    try simp only [Act.put, List.setIfInBounds_toArray, List.set_cons_zero, List.set_cons_succ]
    obtain ⟨W6, hW6⟩ : ∃ W6, W6 = ((W5.setCell ⟨b, 8, none⟩ (.int .i64 y1)).setCell ⟨b, 9, none⟩ (.int .i64 y2)).setCell ⟨b, 10, none⟩ (.int .i64 y3) := ⟨_, rfl⟩
    rw [← hW6] at HS5 ⊢
    clear hW6
    refine wpAnyH_done (by kernel_rfl) ?_ _
    have af : (s.sum y1 y2 y3).AtF L P := HA.out.f.sums
    have FC := Lib.hid ((xFindR HS5.out af k).mono (R' := fun e w' => e = .returned (.tuple #[.pointer none, .int .i64 0]) ∧ Side w0 N w' ((s.sum y1 y2 y3).os b ++ [oCh A c])) fun e w' ⟨tp, p, q1, q2, q3, _⟩ => by
      obtain ⟨rfl, rfl⟩ := q3 hh
      exact ⟨q1, HS5.out.below q2⟩)
    have KTK := Lib.hid (fun W (hW : Side w0 N W ((s.sum y1 y2 y3).os b ++ [oCh A c])) => xTakeR (k := k) HN.out hW HCAP.out af hk hh)
    have nn1 := af.n1
    have nn2 := af.n2
    have nn4 := af.n4
    have nn5 := af.n5
    have LL := Lib.hid (show s.l.length = L.length from af.fine.llen)
    have BD := Lib.hid (show s.bd ≤ 800000 from by have : s.bd ≤ 29 * (2 * P - L.length) := nn2; omega)
    have KLY := Lib.hid (fun W cv fv vs cs fr (n0 : Nat) (hW : Side w0 N W (((s.sum y1 y2 y3).rows cv fv vs cs fr).os b)) => xLayR hW (show s.T = none → _ from HA.out.f.t0) k n0 (show s.l.length ≤ 4000 by rw [LL.out]; omega) BD.out (by omega))
    clear af nn1 nn2 nn4 nn5
    go_wp2_with fail
    refine FC.out.mono ?_
    rintro e W7 ⟨rfl, h7⟩
    have K7 := Lib.hid (KTK.out _ h7)
    clear h7 FC KTK
    go_wp2_with fail
    refine K7.out.mono ?_
    rintro e W8 ⟨n0, cv, fv, vs, cs, fr, rfl, h8, f8, l8⟩
    have K8 := Lib.hid (KLY.out _ _ _ _ _ _ n0 h8)
    have F8 := Lib.hid f8
    have L8 := Lib.hid l8
    clear h8 f8 l8 K7 KLY
    go_wp2_with fail
    refine K8.out.mono ?_
    rintro e W9 ⟨rfl, T, tv, bd, h9, t9, b9⟩
    have H9 := Lib.hid h9
    have T9 := Lib.hid t9
    have B9 := Lib.hid b9
    clear h9 t9 b9 K8
    go_wp2_with fail
    refine bodyPost_end (results_none rfl _ _ _) rfl ⟨rfl, _, H9.out, ⟨rfl, rfl, rfl, rfl, rfl, rfl, rfl⟩, ?_⟩
    have af := HA.out.f
    have gl : (L.give k c).length = L.length + 1 := by rw [Ch.give_len, hh]; rfl
    obtain ⟨z1, z2, z3⟩ := sums_give L k c
    obtain ⟨w1, w2, w3⟩ := SUM.out
    obtain ⟨w4, w5, w6, w7, w8, w9⟩ := HU.out
    have b9 : bd ≤ s.bd + 29 := B9.out
    have l8 : cs.length ≤ s.cs.length + 1 := L8.out
    have e1 := af.n1
    have e2 := af.n2
    have e3 := af.n3
    have e4 := af.good.len
    refine ⟨⟨F8.out, fun e => absurd e T9.out, by rw [gl]; omega, by rw [gl]; show bd ≤ _; omega, by show cs.length ≤ P + 1; omega, hP, good_give af.good HG.out.1 HG.out.2 hk (by rw [gl]; omega), right_give af.good af.right HG.out.2, by rw [gl]; exact hL⟩, ?_, ?_, ?_⟩
    · show y1 = _; omega
    · show y2 = _; omega
    · show y3 = _; omega
  · go_simp
    refine (KC.out _ BX.out).mono ?_
    rintro r W1 ⟨A1, c1, rfl, hs1, hb1⟩
    refine hK.out _ _ trivial (fun hHeld => ?_)
    clear hK K
    try simp only [Act.put, List.setIfInBounds_toArray, List.set_cons_zero, List.set_cons_succ]
    have S1 := Lib.hid hs1
    have B1 := Lib.hid (below_then BX.out hb1)
    clear hs1 hb1
    refine rgnTwo 4 9 rfl rfl (by kernel_rfl) (fun K hK => ?_) (fun K hK => ?_)
    · obtain ⟨c8, c9, c10, -⟩ := CX.out _ B1.out
      go_simp
      refine hK.out _ _ trivial (fun hHeld => ?_)
      clear hK K c8 c9 c10
      try simp only [Act.put, List.setIfInBounds_toArray, List.set_cons_zero, List.set_cons_succ]
      refine rgnOne 9 rfl (by kernel_rfl) (fun K hK => ?_)
      go_simp
      refine (KS.out _ _ _ S1.out).mono ?_
      rintro r W2 ⟨rfl, hb2⟩
      refine hK.out _ _ trivial (fun hHeld => ?_)
      clear hK K
      try simp only [Act.put, List.setIfInBounds_toArray, List.set_cons_zero, List.set_cons_succ]
      have B2 := Lib.hid (below_then B1.out hb2)
      clear hb2
      refine rgnOne 10 rfl (by kernel_rfl) (fun K hK => ?_)
      go_simp
      refine (KL.out _).mono ?_
      rintro r W3 ⟨rfl, hb3⟩
      refine hK.out _ _ trivial (fun hHeld => ?_)
      clear hK K
      try simp only [Act.put, List.setIfInBounds_toArray, List.set_cons_zero, List.set_cons_succ]
      have B3 := Lib.hid (below_then B2.out hb3)
      clear hb3
      refine rgnOne 13 rfl (by kernel_rfl) (fun K hK => ?_)
      go_simp
      refine (KT.out _ B3.out).mono ?_
      rintro r W4 ⟨rfl, hb4⟩
      refine hK.out _ _ trivial (fun hHeld => ?_)
      clear hK K
      try simp only [Act.put, List.setIfInBounds_toArray, List.set_cons_zero, List.set_cons_succ]
      have B4 := Lib.hid (below_then B3.out hb4)
      clear hb4
      refine rgnOne 14 rfl (by kernel_rfl) (fun K hK => ?_)
      go_simp
      refine (KP.out _).mono ?_
      rintro r W5 ⟨rfl, hb5⟩
      refine hK.out _ _ trivial (fun hHeld => ?_)
      clear hK K
      try simp only [Act.put, List.setIfInBounds_toArray, List.set_cons_zero, List.set_cons_succ]
      have B5 := Lib.hid (below_then B4.out hb5)
      obtain ⟨c8, c9, c10, cf⟩ := CX.out _ B5.out
      have f8 := cf 8
      have f9 := cf 9
      have f10 := cf 10
      have HS5 := Lib.hid (HS.out _ B5.out)
      clear hb5 cf
      refine rgnTake 15 rfl (by kernel_rfl) (by kernel_rfl) (by kernel_rfl) (fun _ _ _ h => h) (by rfl) (v := ?v12) ?hy12 hHeld ?rest12
      case hy12 => (intro v hSw; first | (go_simp; done) | (go_simp; with_reducible rfl))
      try simp only [Act.put, List.setIfInBounds_toArray, List.set_cons_zero, List.set_cons_succ]
      refine rgnTake 16 rfl (by kernel_rfl) (by kernel_rfl) (by kernel_rfl) (fun _ _ _ h => h) (by rfl) (v := ?v13) ?hy13 hHeld ?rest13
      case hy13 => (intro v hSw; first | (go_simp; done) | (go_simp; with_reducible rfl))
      try simp only [Act.put, List.setIfInBounds_toArray, List.set_cons_zero, List.set_cons_succ]
      refine rgnOne 17 rfl (by kernel_rfl) (fun K hK => ?_)
      go_simp
      refine hK.out _ _ trivial (fun hHeld => ?_)
      clear hK K c8 c9 c10 f8 f9 f10
      try simp only [Act.put, List.setIfInBounds_toArray, List.set_cons_zero, List.set_cons_succ]
      obtain ⟨W6, hW6⟩ : ∃ W6, W6 = ((W5.setCell ⟨b, 8, none⟩ (.int .i64 y1)).setCell ⟨b, 9, none⟩ (.int .i64 y2)).setCell ⟨b, 10, none⟩ (.int .i64 y3) := ⟨_, rfl⟩
      rw [← hW6] at HS5 ⊢
      clear hW6
      refine wpAnyH_done (by kernel_rfl) ?_ _
      have af : (s.sum y1 y2 y3).AtF L P := HA.out.f.sums
      have FC := Lib.hid ((xFindR HS5.out af k).mono (R' := fun e w' => e = .returned (.tuple #[.pointer none, .int .i64 0]) ∧ Side w0 N w' ((s.sum y1 y2 y3).os b ++ [oCh A c])) fun e w' ⟨tp, p, q1, q2, q3, _⟩ => by
        obtain ⟨rfl, rfl⟩ := q3 hh
        exact ⟨q1, HS5.out.below q2⟩)
      have KTK := Lib.hid (fun W (hW : Side w0 N W ((s.sum y1 y2 y3).os b ++ [oCh A c])) => xTakeR (k := k) HN.out hW HCAP.out af hk hh)
      have nn1 := af.n1
      have nn2 := af.n2
      have nn4 := af.n4
      have nn5 := af.n5
      have LL := Lib.hid (show s.l.length = L.length from af.fine.llen)
      have BD := Lib.hid (show s.bd ≤ 800000 from by have : s.bd ≤ 29 * (2 * P - L.length) := nn2; omega)
      have KLY := Lib.hid (fun W cv fv vs cs fr (n0 : Nat) (hW : Side w0 N W (((s.sum y1 y2 y3).rows cv fv vs cs fr).os b)) => xLayR hW (show s.T = none → _ from HA.out.f.t0) k n0 (show s.l.length ≤ 4000 by rw [LL.out]; omega) BD.out (by omega))
      clear af nn1 nn2 nn4 nn5
      go_wp2_with fail
      refine FC.out.mono ?_
      rintro e W7 ⟨rfl, h7⟩
      have K7 := Lib.hid (KTK.out _ h7)
      clear h7 FC KTK
      go_wp2_with fail
      refine K7.out.mono ?_
      rintro e W8 ⟨n0, cv, fv, vs, cs, fr, rfl, h8, f8, l8⟩
      have K8 := Lib.hid (KLY.out _ _ _ _ _ _ n0 h8)
      have F8 := Lib.hid f8
      have L8 := Lib.hid l8
      clear h8 f8 l8 K7 KLY
      go_wp2_with fail
      refine K8.out.mono ?_
      rintro e W9 ⟨rfl, T, tv, bd, h9, t9, b9⟩
      have H9 := Lib.hid h9
      have T9 := Lib.hid t9
      have B9 := Lib.hid b9
      clear h9 t9 b9 K8
      go_wp2_with fail
      refine bodyPost_end (results_none rfl _ _ _) rfl ⟨rfl, _, H9.out, ⟨rfl, rfl, rfl, rfl, rfl, rfl, rfl⟩, ?_⟩
      have af := HA.out.f
      have gl : (L.give k c).length = L.length + 1 := by rw [Ch.give_len, hh]; rfl
      obtain ⟨z1, z2, z3⟩ := sums_give L k c
      obtain ⟨w1, w2, w3⟩ := SUM.out
      obtain ⟨w4, w5, w6, w7, w8, w9⟩ := HU.out
      have b9 : bd ≤ s.bd + 29 := B9.out
      have l8 : cs.length ≤ s.cs.length + 1 := L8.out
      have e1 := af.n1
      have e2 := af.n2
      have e3 := af.n3
      have e4 := af.good.len
      refine ⟨⟨F8.out, fun e => absurd e T9.out, by rw [gl]; omega, by rw [gl]; show bd ≤ _; omega, by show cs.length ≤ P + 1; omega, hP, good_give af.good HG.out.1 HG.out.2 hk (by rw [gl]; omega), right_give af.good af.right HG.out.2, by rw [gl]; exact hL⟩, ?_, ?_, ?_⟩
      · show y1 = _; omega
      · show y2 = _; omega
      · show y3 = _; omega
    · go_simp
      refine (KS.out _ _ _ S1.out).mono ?_
      rintro r W2 ⟨rfl, hb2⟩
      refine hK.out _ _ trivial (fun hHeld => ?_)
      clear hK K
      try simp only [Act.put, List.setIfInBounds_toArray, List.set_cons_zero, List.set_cons_succ]
      have B2 := Lib.hid (below_then B1.out hb2)
      clear hb2
      obtain ⟨c8, c9, c10, -⟩ := CX.out _ B2.out
      refine rgnOne 4 rfl (by kernel_rfl) (fun K hK => ?_)
      go_simp
      refine hK.out _ _ trivial (fun hHeld => ?_)
      clear hK K c8 c9 c10
      try simp only [Act.put, List.setIfInBounds_toArray, List.set_cons_zero, List.set_cons_succ]
      refine rgnOne 10 rfl (by kernel_rfl) (fun K hK => ?_)
      go_simp
      refine (KL.out _).mono ?_
      rintro r W3 ⟨rfl, hb3⟩
      refine hK.out _ _ trivial (fun hHeld => ?_)
      clear hK K
      try simp only [Act.put, List.setIfInBounds_toArray, List.set_cons_zero, List.set_cons_succ]
      have B3 := Lib.hid (below_then B2.out hb3)
      clear hb3
      refine rgnOne 13 rfl (by kernel_rfl) (fun K hK => ?_)
      go_simp
      refine (KT.out _ B3.out).mono ?_
      rintro r W4 ⟨rfl, hb4⟩
      refine hK.out _ _ trivial (fun hHeld => ?_)
      clear hK K
      try simp only [Act.put, List.setIfInBounds_toArray, List.set_cons_zero, List.set_cons_succ]
      have B4 := Lib.hid (below_then B3.out hb4)
      clear hb4
      refine rgnOne 14 rfl (by kernel_rfl) (fun K hK => ?_)
      go_simp
      refine (KP.out _).mono ?_
      rintro r W5 ⟨rfl, hb5⟩
      refine hK.out _ _ trivial (fun hHeld => ?_)
      clear hK K
      try simp only [Act.put, List.setIfInBounds_toArray, List.set_cons_zero, List.set_cons_succ]
      have B5 := Lib.hid (below_then B4.out hb5)
      obtain ⟨c8, c9, c10, cf⟩ := CX.out _ B5.out
      have f8 := cf 8
      have f9 := cf 9
      have f10 := cf 10
      have HS5 := Lib.hid (HS.out _ B5.out)
      clear hb5 cf
      refine rgnTake 15 rfl (by kernel_rfl) (by kernel_rfl) (by kernel_rfl) (fun _ _ _ h => h) (by rfl) (v := ?v14) ?hy14 hHeld ?rest14
      case hy14 => (intro v hSw; first | (go_simp; done) | (go_simp; with_reducible rfl))
      try simp only [Act.put, List.setIfInBounds_toArray, List.set_cons_zero, List.set_cons_succ]
      refine rgnTake 16 rfl (by kernel_rfl) (by kernel_rfl) (by kernel_rfl) (fun _ _ _ h => h) (by rfl) (v := ?v15) ?hy15 hHeld ?rest15
      case hy15 => (intro v hSw; first | (go_simp; done) | (go_simp; with_reducible rfl))
      try simp only [Act.put, List.setIfInBounds_toArray, List.set_cons_zero, List.set_cons_succ]
      refine rgnOne 17 rfl (by kernel_rfl) (fun K hK => ?_)
      go_simp
      refine hK.out _ _ trivial (fun hHeld => ?_)
      clear hK K c8 c9 c10 f8 f9 f10
      try simp only [Act.put, List.setIfInBounds_toArray, List.set_cons_zero, List.set_cons_succ]
      obtain ⟨W6, hW6⟩ : ∃ W6, W6 = ((W5.setCell ⟨b, 8, none⟩ (.int .i64 y1)).setCell ⟨b, 9, none⟩ (.int .i64 y2)).setCell ⟨b, 10, none⟩ (.int .i64 y3) := ⟨_, rfl⟩
      rw [← hW6] at HS5 ⊢
      clear hW6
      refine wpAnyH_done (by kernel_rfl) ?_ _
      have af : (s.sum y1 y2 y3).AtF L P := HA.out.f.sums
      have FC := Lib.hid ((xFindR HS5.out af k).mono (R' := fun e w' => e = .returned (.tuple #[.pointer none, .int .i64 0]) ∧ Side w0 N w' ((s.sum y1 y2 y3).os b ++ [oCh A c])) fun e w' ⟨tp, p, q1, q2, q3, _⟩ => by
        obtain ⟨rfl, rfl⟩ := q3 hh
        exact ⟨q1, HS5.out.below q2⟩)
      have KTK := Lib.hid (fun W (hW : Side w0 N W ((s.sum y1 y2 y3).os b ++ [oCh A c])) => xTakeR (k := k) HN.out hW HCAP.out af hk hh)
      have nn1 := af.n1
      have nn2 := af.n2
      have nn4 := af.n4
      have nn5 := af.n5
      have LL := Lib.hid (show s.l.length = L.length from af.fine.llen)
      have BD := Lib.hid (show s.bd ≤ 800000 from by have : s.bd ≤ 29 * (2 * P - L.length) := nn2; omega)
      have KLY := Lib.hid (fun W cv fv vs cs fr (n0 : Nat) (hW : Side w0 N W (((s.sum y1 y2 y3).rows cv fv vs cs fr).os b)) => xLayR hW (show s.T = none → _ from HA.out.f.t0) k n0 (show s.l.length ≤ 4000 by rw [LL.out]; omega) BD.out (by omega))
      clear af nn1 nn2 nn4 nn5
      go_wp2_with fail
      refine FC.out.mono ?_
      rintro e W7 ⟨rfl, h7⟩
      have K7 := Lib.hid (KTK.out _ h7)
      clear h7 FC KTK
      go_wp2_with fail
      refine K7.out.mono ?_
      rintro e W8 ⟨n0, cv, fv, vs, cs, fr, rfl, h8, f8, l8⟩
      have K8 := Lib.hid (KLY.out _ _ _ _ _ _ n0 h8)
      have F8 := Lib.hid f8
      have L8 := Lib.hid l8
      clear h8 f8 l8 K7 KLY
      go_wp2_with fail
      refine K8.out.mono ?_
      rintro e W9 ⟨rfl, T, tv, bd, h9, t9, b9⟩
      have H9 := Lib.hid h9
      have T9 := Lib.hid t9
      have B9 := Lib.hid b9
      clear h9 t9 b9 K8
      go_wp2_with fail
      refine bodyPost_end (results_none rfl _ _ _) rfl ⟨rfl, _, H9.out, ⟨rfl, rfl, rfl, rfl, rfl, rfl, rfl⟩, ?_⟩
      have af := HA.out.f
      have gl : (L.give k c).length = L.length + 1 := by rw [Ch.give_len, hh]; rfl
      obtain ⟨z1, z2, z3⟩ := sums_give L k c
      obtain ⟨w1, w2, w3⟩ := SUM.out
      obtain ⟨w4, w5, w6, w7, w8, w9⟩ := HU.out
      have b9 : bd ≤ s.bd + 29 := B9.out
      have l8 : cs.length ≤ s.cs.length + 1 := L8.out
      have e1 := af.n1
      have e2 := af.n2
      have e3 := af.n3
      have e4 := af.good.len
      refine ⟨⟨F8.out, fun e => absurd e T9.out, by rw [gl]; omega, by rw [gl]; show bd ≤ _; omega, by show cs.length ≤ P + 1; omega, hP, good_give af.good HG.out.1 HG.out.2 hk (by rw [gl]; omega), right_give af.good af.right HG.out.2, by rw [gl]; exact hL⟩, ?_, ?_, ?_⟩
      · show y1 = _; omega
      · show y2 = _; omega
      · show y3 = _; omega
end

end Go.Proofs.Ytbfgpdgiaclphaa
