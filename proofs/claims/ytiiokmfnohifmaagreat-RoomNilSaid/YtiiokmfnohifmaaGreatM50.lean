/- Proved parts: B5v. Conditions: each theorem's own. -/
import Derived.Test.YtiiokmfnohifmaaGreatM49
namespace Go.Proofs.YtiiokmfnohifmaaGreat
open Go.RowKit

section
variable {w0 w : World} {N : Nat → Prop} {b : Nat} {s : Sh} {L : Ch} {P : Nat} {os2 : List Ob}
theorem withW_of {k : ByteArray} : ∀ {ws : List Wr} {L : Ch} (q : Int), L.Rise → (∀ x, x ∈ ws → x.key ≠ k) → (L.withW ws q).of k = L.of k
  | [], _, _, _, _ => rfl
  | x :: ws, L, q, h, hn => by
    have e : L.withW (x :: ws) q = (L.put x.key (x.ver q)).withW ws q := rfl
    rw [e, withW_of q (Ch.rise_put h) fun y hy => hn y (List.mem_cons_of_mem _ hy), Ch.of_put h, if_neg (fun z => hn x (by simp) z.symm)]
theorem wrOk_parts {p : Option ByteArray} {x : Wr} (h : wrOk p x = true) : x.val.ok = true ∧ x.key.size ≤ 32 := by
  unfold wrOk keyOk at h
  simp only [Bool.and_eq_true, decide_eq_true_eq] at h
  exact ⟨h.2.1, h.1.2⟩
theorem wgt_snoc {k : ByteArray} {l : List Ver} {x : Wr} (q : Int) (h : x.val.ok = true) : Ch.wgt (k, l ++ [x.ver q]) = if x.gone then 0 else k.size + x.val.pack.size := by
  have e : lastL (l ++ [x.ver q]) = x.ver q := by unfold lastL; rw [List.length_append, List.length_singleton, Nat.add_sub_cancel, snoc_last]
  show (if weightL (l ++ [x.ver q]) = 0 then 0 else _ + k.size) = _
  have e2 : weightL (l ++ [x.ver q]) = if x.gone then 0 else x.val.pack.size := by
    unfold weightL
    rw [e]
    by_cases z : x.gone = true
    · rw [if_pos (.inr z), if_pos z]
    · rw [if_neg, if_neg z]
      · rfl
      · rintro (y | y)
        · rw [List.length_append] at y; simp at y
        · exact z y
  rw [e2]
  have := (Val.pack_size _ h).2
  cases x.gone with
  | true => simp
  | false =>
    simp only [Bool.false_eq_true, if_false]
    rw [if_neg (by omega)]; omega
/-- one write more -/
theorem live_step {L : Ch} {ws : List Wr} {q : Int} (h : L.Rise) (hm : mayW ws = true) {i : Nat} (hi : i < ws.length) :
    (L.withW (ws.take (i + 1)) q).live + Ch.wgt ((ws.getD i Wr.Z).key, L.of (ws.getD i Wr.Z).key) = (L.withW (ws.take i) q).live + (if (ws.getD i Wr.Z).gone then 0 else (ws.getD i Wr.Z).key.size + (ws.getD i Wr.Z).val.pack.size) := by
  obtain ⟨o1, _⟩ := wrOk_parts (mayW_at hm hi)
  rw [withW_succ L ws q hi, Ch.put_give]
  have hr : (L.withW (ws.take i) q).Rise := Sim.rise_with h _ _
  have e : (L.withW (ws.take i) q).of (ws.getD i Wr.Z).key = L.of (ws.getD i Wr.Z).key := withW_of q h fun x hx z => by
    obtain ⟨j, hj, rfl⟩ := List.getElem_of_mem hx
    rw [List.length_take] at hj
    have := mayW_rise hm (i := j) (j := i) (by omega) hi
    rw [List.getElem_take] at z
    rw [List.getD_eq_getElem?_getD, List.getElem?_eq_getElem (by omega)] at this
    have z : (ws[j]).key = (ws.getD i Wr.Z).key := z
    rw [show (some ws[j]).getD Wr.Z = ws[j] from rfl, z, ltB_irr] at this
    cases this
  have := (sums_give (L.withW (ws.take i) q) (ws.getD i Wr.Z).key ((L.withW (ws.take i) q).of (ws.getD i Wr.Z).key ++ [(ws.getD i Wr.Z).ver q])).1
  rw [wgt_snoc q o1, e] at this
  rw [e]
  exact this
set_option maxRecDepth 100000 in
set_option maxHeartbeats 2000000 in
/-- with -/
theorem xWithR (h : Side w0 N w (s.os b ++ os2)) (a : s.At L P) (ws : List Wr) (A : Option Addr) (c : Nat) (q : Int) (hw : SlWr w A ws) (hf : FitsW ws) (ht : ∀ x, x ∈ ws → x.val.txt.size ≤ 1000) (hm : mayW ws = true) (hG : ∀ i, i ≤ ws.length → GoodC (L.withW (ws.take i) q) ∧ (L.withW (ws.take i) q).length ≤ 10000) :
    Calls Tryz.prog 85 #[PtrM b, .slice A ws.length c] w fun e w' => e = .returned (.int .i64 ((L.withW ws q).live : Nat)) ∧ Below w.heap.size w w' := by
  have LV := Lib.hid (xLiveR h)
  have hx1 := a.x1
  have ni := mayW_size hm
  have SU := Lib.hid (fun i (hi : i < ws.length) => live_step (q := q) a.f.good.rise hm hi)
  have SB := Lib.hid (fun i (hi : i ≤ ws.length) => show (L.withW (ws.take i) q).live ≤ 30000000 from by
    have := sum_le (f := Ch.wgt) (B := 3000) (wgt_le (hG i hi).1)
    have := (hG i hi).2
    unfold Ch.live; omega)
  have KC := Lib.hid (fun k W (hb : Below w.heap.size w W) => show Calls Tryz.prog 68 #[PtrS b, .string k] W fun e w' => ∃ A c, e = .returned (.slice A (L.of k).length c) ∧ SlV w' A (L.of k) ∧ Below W.heap.size W w' from (xChainR (h.below hb) a.f k).mono fun e w' ⟨A', c', h1, _, h3, h4⟩ => ⟨A', c', h1, h3, h4⟩)
  have KS := Lib.hid (fun k W A' c' (hk : k.size ≤ 32) (hs : SlV W A' (L.of k)) => xSumsR k (L.of k) A' c' W hs (good_of a.f.good a.f.right k).1 (good_of a.f.good a.f.right k).2.1 (by omega))
  have WS := Lib.hid (fun k (hk : k.size ≤ 32) => wgt_small (k := k) (good_of a.f.good a.f.right k).1 (good_of a.f.good a.f.right k).2.1 (by omega))
  have XF := Lib.hid (fun i (hi : i < ws.length) => show (ws.getD i Wr.Z).val.Fits ∧ (ws.getD i Wr.Z).val.txt.size ≤ 1000 ∧ (ws.getD i Wr.Z).val.ok = true ∧ (ws.getD i Wr.Z).key.size ≤ 32 from by
    obtain ⟨o1, o2⟩ := wrOk_parts (mayW_at hm hi)
    refine ⟨(hf.get hi).1, ht _ ?_, o1, o2⟩
    rw [List.getD_eq_getElem?_getD, List.getElem?_eq_getElem hi]
    exact List.getElem_mem _)
  obtain ⟨n, hn⟩ : ∃ n, n = ws.length := ⟨_, rfl⟩
  obtain ⟨x1, hx⟩ : ∃ x, x = s.x1 := ⟨_, rfl⟩
  rw [← hx] at LV hx1
  have E0 := Lib.hid (show x1 = ((L.withW (ws.take 0) q).live : Nat) from hx1)
  have EN := Lib.hid (show (L.withW (ws.take n) q).live = (L.withW ws q).live from by rw [hn, List.take_length])
  rw [← hn] at ni
  rw [← hn]
  have HN := Lib.hid hn
  have HS := Lib.hid hw
  obtain ⟨T, hT⟩ : ∃ T, T = (L.withW ws q).live := ⟨_, rfl⟩
  rw [← hT] at EN ⊢
  clear h a hw hf ht hm hG hx1 hn hT hx
  go_enter Tryz.func85, Tryz.ntmps85
  go_wp2_with fail
  refine LV.out.mono ?_
  rintro e w1 ⟨rfl, hb⟩
  have B1 := Lib.hid hb
  rw [E0.out]
  clear hb LV E0
  go_wp2_with fail
  go_loopw [5, 12] (fun va vi wr => ∃ i : Nat, i ≤ n ∧ vi = .int .i64 i ∧ va = .int .i64 ((L.withW (ws.take i) q).live : Nat) ∧ Hid (Below w.heap.size w wr)) (fun _ vi _ => n - (intOf vi).toNat)
  case atStart => exact ⟨0, Nat.zero_le _, rfl, rfl, B1⟩
  case round =>
    obtain ⟨i, hi, rfl, rfl, HB⟩ := hrel
    by_cases z : i < n
    · obtain ⟨bb, o, rfl, hb, c0, c1, c2, c3, c4⟩ := (HS.out.below HB.out).at (j := i) (by rw [← HN.out]; exact z)
      obtain ⟨f1, f2, f3, f4⟩ := XF.out i (by rw [← HN.out]; exact z)
      have su := SU.out i (by rw [← HN.out]; exact z)
      have sb := SB.out i (by rw [← HN.out]; exact hi)
      have sb2 := SB.out (i + 1) (by rw [← HN.out]; exact z)
      obtain ⟨x, hx⟩ : ∃ x, x = ws.getD i Wr.Z := ⟨_, rfl⟩
      rw [← hx] at c0 c1 c2 c3 c4 f1 f2 f3 f4 su
      have ws_ := WS.out x.key f4
      have CW := Lib.hid (fun W => xWeightR x.key x.val W f1 f2 (by omega) f3)
      have KC1 := Lib.hid (fun W (hb : Below w.heap.size w W) => KC.out x.key W hb)
      have KS1 := Lib.hid (fun W A' c' (hs : SlV W A' (L.of x.key)) => KS.out x.key W A' c' f4 hs)
      obtain ⟨y, hy⟩ : ∃ z, z = x.key.size + x.val.pack.size := ⟨_, rfl⟩
      obtain ⟨u, hu⟩ : ∃ u, u = Ch.wgt (x.key, L.of x.key) := ⟨_, rfl⟩
      obtain ⟨u2, hu2⟩ : ∃ u, u = Ch.aliv (x.key, L.of x.key) := ⟨_, rfl⟩
      obtain ⟨m, hm⟩ : ∃ m, m = (L.of x.key).length := ⟨_, rfl⟩
      simp only [← hy] at CW su
      rw [← hu] at su ws_
      simp only [← hu, ← hu2, ← hm] at KS1
      simp only [← hm] at KC1
      obtain ⟨v0, hv0⟩ : ∃ a, a = (L.withW (ws.take i) q).live := ⟨_, rfl⟩
      obtain ⟨v1, hv1⟩ : ∃ a, a = (L.withW (ws.take (i + 1)) q).live := ⟨_, rfl⟩
      rw [← hv0] at su sb
      rw [← hv1] at su sb2
      obtain ⟨d, hd⟩ : ∃ d : Int, d = (v0 : Int) - (u : Int) := ⟨_, rfl⟩
      have WD := Lib.hid (show IntKind.i64.wrap ((v0 : Int) - (u : Int)) = d by rw [IntKind.wrap_i64]; omega)
      have WF := Lib.hid (fun (hg : x.gone = false) => show wrap64 (d + (y : Int)) = (v1 : Int) by rw [hg] at su; simp at su; unfold wrap64; omega)
      have WT := Lib.hid (fun (hg : x.gone = true) => show d = (v1 : Int) by rw [hg] at su; simp at su; omega)
      have HV1 := Lib.hid hv1
      rw [← hv0]
      obtain ⟨k, g, v⟩ := x
      obtain ⟨nm, t, bt⟩ := v
      have CW : Hid (∀ W, Calls Tryz.prog 107 #[.string k, .agg #[.bool nm, .string t, .int .u64 (bt : Int)]] W fun e w' => e = .returned (.int .i64 (y : Int)) ∧ Below W.heap.size W w') := CW
      have i0 : (0 : Int) ≤ (i : Int) := by omega
      have i1 : (i : Int) < (n : Int) := by omega
      have c0 : wr.cell? ⟨bb, o + i * 5, none⟩ = some (.string k) := c0
      have c1 : wr.cell? ⟨bb, o + i * 5 + 1, none⟩ = some (.bool g) := c1
      have c2 : wr.cell? ⟨bb, o + i * 5 + 2, none⟩ = some (.bool nm) := c2
      have c3 : wr.cell? ⟨bb, o + i * 5 + 3, none⟩ = some (.string t) := c3
      have c4 : wr.cell? ⟨bb, o + i * 5 + 4, none⟩ = some (.int .u64 (bt : Int)) := c4
      obtain ⟨X, hX⟩ : ∃ X, X = wr.heap.size := ⟨_, rfl⟩
      obtain ⟨r1, hr1⟩ : ∃ r, r = wr.alloc (.cells #[.string k, .bool g, .bool nm, .string t, .int .u64 (bt : Int)] 74) := ⟨_, rfl⟩
      have R1 := Lib.hid (show RowAt r1 X [.string k, .bool g, .bool nm, .string t, .int .u64 (bt : Int)] 74 from by rw [hr1, hX]; exact RowAt.new wr _ _)
      have BB := Lib.hid (show Below w.heap.size w r1 from by rw [hr1]; exact HB.out.alloc HB.out.size _)
      have HR1 := Lib.hid hr1
      have HX := Lib.hid hX
      clear hx hy hu hu2 hm hv0 hv1 hd hb su sb sb2 f1 f2 f3 f4 ws_ hr1 hX
      go_wp2_with fail
      rw [← HR1.out, ← HX.out]
      clear c0 c1 c2 c3 c4
      have BX := Lib.hid (show Below r1.heap.size r1 r1.drew from (Below.refl _ _).drew)
      have CF := Lib.hid (fun W (hb : Below r1.heap.size r1 W) => row5 (R1.out.below hb))
      have c0 := (CF.out _ BX.out).1
      refine wp_region_held_drew (S := (fun w' => w'.cell? ⟨X, 0, none⟩ = some (.string k))) (by kernel_rfl) (c0) (fun hHeld => ?_)
      refine rgnTake 0 rfl (by kernel_rfl) (by kernel_rfl) (by kernel_rfl) (fun _ _ _ h => h) (by rfl) (v := ?v1) ?hy1 hHeld ?rest1
      case hy1 => (intro v hSw; first | (go_simp; done) | (go_simp; with_reducible rfl))
      try simp only [Act.put, List.setIfInBounds_toArray, List.set_cons_zero, List.set_cons_succ]
      refine rgnTake 1 rfl (by kernel_rfl) (by kernel_rfl) (by kernel_rfl) (fun _ _ _ h => h) (by rfl) (v := ?v2) ?hy2 hHeld ?rest2
      case hy2 => (intro v hSw; first | (go_simp; done) | (go_simp; with_reducible rfl))
      try simp only [Act.put, List.setIfInBounds_toArray, List.set_cons_zero, List.set_cons_succ]
      refine rgnTake 2 rfl (by kernel_rfl) (by kernel_rfl) (by kernel_rfl) (fun _ _ _ h => h) (by rfl) (v := ?v3) ?hy3 hHeld ?rest3
      case hy3 => (intro v hSw; first | (go_simp; done) | (go_simp; with_reducible rfl))
      try simp only [Act.put, List.setIfInBounds_toArray, List.set_cons_zero, List.set_cons_succ]
      refine rgnTake 3 rfl (by kernel_rfl) (by kernel_rfl) (by kernel_rfl) (fun _ _ _ h => h) (by rfl) (v := ?v4) ?hy4 hHeld ?rest4
      case hy4 => (intro v hSw; first | (go_simp; done) | (go_simp; with_reducible rfl))
      try simp only [Act.put, List.setIfInBounds_toArray, List.set_cons_zero, List.set_cons_succ]
      refine rgnTake 4 rfl (by kernel_rfl) (by kernel_rfl) (by kernel_rfl) (fun _ _ _ h => h) (by rfl) (v := ?v5) ?hy5 hHeld ?rest5
      case hy5 => (intro v hSw; first | (go_simp; done) | (go_simp; with_reducible rfl))
      try simp only [Act.put, List.setIfInBounds_toArray, List.set_cons_zero, List.set_cons_succ]
      refine rgnTake 5 rfl (by kernel_rfl) (by kernel_rfl) (by kernel_rfl) (fun _ _ _ h => h) (by rfl) (v := ?v6) ?hy6 hHeld ?rest6
      case hy6 => (intro v hSw; first | (go_simp; done) | (go_simp; with_reducible rfl))
      try simp only [Act.put, List.setIfInBounds_toArray, List.set_cons_zero, List.set_cons_succ]
      refine rgnTake 6 rfl (by kernel_rfl) (by kernel_rfl) (by kernel_rfl) (fun _ _ _ h => h) (by rfl) (v := ?v7) ?hy7 hHeld ?rest7
      case hy7 => (intro v hSw; first | (go_simp; done) | (go_simp; with_reducible rfl))
      try simp only [Act.put, List.setIfInBounds_toArray, List.set_cons_zero, List.set_cons_succ]
      refine rgnTake 7 rfl (by kernel_rfl) (by kernel_rfl) (by kernel_rfl) (fun _ _ _ h => h) (by rfl) (v := ?v8) ?hy8 hHeld ?rest8
      case hy8 => (intro v hSw; first | (go_simp; done) | (go_simp; with_reducible rfl))
      try simp only [Act.put, List.setIfInBounds_toArray, List.set_cons_zero, List.set_cons_succ]
      refine rgnOne 8 rfl (by kernel_rfl) (fun K hK => ?_)
      go_simp
      refine (KC1.out _ (below_then BB.out BX.out)).mono ?_
      rintro r W3 ⟨A3, c3, rfl, hs3, hb3⟩
      have S3 := Lib.hid hs3
      have B3 := Lib.hid (below_then BX.out hb3)
      clear hs3 hb3
      refine hK.out _ _ ((CF.out _ B3.out).1) (fun hHeld => ?_)
      clear hK K
      try simp only [Act.put, List.setIfInBounds_toArray, List.set_cons_zero, List.set_cons_succ]
      refine rgnOne 9 rfl (by kernel_rfl) (fun K hK => ?_)
      go_simp
      refine (KS1.out _ _ _ S3.out).mono ?_
      rintro r W4 ⟨rfl, hb4⟩
      have B4 := Lib.hid (below_then B3.out hb4)
      clear hb4
      refine hK.out _ _ ((CF.out _ B4.out).1) (fun hHeld => ?_)
      clear hK K
      try simp only [Act.put, List.setIfInBounds_toArray, List.set_cons_zero, List.set_cons_succ]
      have hfd : ∀ w, (Instr.field 83 (.agg #[.int .i64 (u : Int), .int .i64 (u2 : Int), .int .i64 (m : Int)]) 0).run Tryz.prog w = .ok (.int .i64 (u : Int)) w := fun _ => by kernel_rfl
      refine rgnTake 10 rfl (by kernel_rfl) (by kernel_rfl) (by kernel_rfl) (fun _ _ _ h => h) (by rfl) (v := ?v9) ?hy9 hHeld ?rest9
      case hy9 => (intro v hSw; first | (go_simp; done) | (go_simp; with_reducible rfl))
      try simp only [Act.put, List.setIfInBounds_toArray, List.set_cons_zero, List.set_cons_succ]
      refine rgnTake 11 rfl (by kernel_rfl) (by kernel_rfl) (by kernel_rfl) (fun _ _ _ h => h) (by rfl) (v := ?v10) ?hy10 hHeld ?rest10
      case hy10 => (intro v hSw; first | (go_simp; done) | (go_simp; with_reducible rfl))
      try simp only [Act.put, List.setIfInBounds_toArray, List.set_cons_zero, List.set_cons_succ]
      refine rgnTake 12 rfl (by kernel_rfl) (by kernel_rfl) (by kernel_rfl) (fun _ _ _ h => h) (by rfl) (v := ?v11) ?hy11 hHeld ?rest11
      case hy11 => (intro v hSw; first | (go_simp; done) | (go_simp; with_reducible rfl))
      try simp only [Act.put, List.setIfInBounds_toArray, List.set_cons_zero, List.set_cons_succ]
      refine wpAnyH_done (by kernel_rfl) ?_ _
      rw [WD.out]
      have BE := Lib.hid (below_then BB.out B4.out)
      have R4 := Lib.hid (R1.out.below B4.out)
      clear c0 hfd
      obtain ⟨e0, e1, e2, e3, e4⟩ := row5 R4.out
      cases g with
      | true =>
        have ev := WT.out rfl
        go_wp2_with fail
        go_roundw
        case rel => exact ⟨i + 1, by omega, by go_num, by rw [← HV1.out, ← ev], BE⟩
        case measure => simp [intOf]; omega
      | false =>
        have ev := Lib.hid (WF.out rfl)
        go_wp2_with fail
        refine (CW.out _).mono ?_
        rintro r W5 ⟨rfl, hb5⟩
        have BF := Lib.hid (below_then BE.out hb5)
        clear hb5 e0 e1 e2 e3 e4
        go_wp2_with fail
        go_roundw
        case rel => exact ⟨i + 1, by omega, by go_num, by rw [← HV1.out, ← ev.out], BF⟩
        case measure => simp [intOf]; omega
    · obtain rfl : i = n := by omega
      rw [EN.out]
      go_wp2_with fail
      go_ret
      exact ⟨rfl, HB.out⟩
set_option maxRecDepth 100000 in
set_option maxHeartbeats 1000000 in
/-- fits -/
theorem xFitsR (h : Side w0 N w (s.os b ++ os2)) (a : s.At L P) (ws : List Wr) (A : Option Addr) (c : Nat) (hw : SlWr w A ws) (hf : FitsW ws) (ht : ∀ x, x ∈ ws → x.val.txt.size ≤ 1000) (hm : mayW ws = true)
    (hG : (s.r.seq : Int) < s.g3 → ∀ i, i ≤ ws.length → GoodC (L.withW (ws.take i) ((s.r.seq : Int) + 1)) ∧ (L.withW (ws.take i) ((s.r.seq : Int) + 1)).length ≤ 10000) :
    Calls Tryz.prog 58 #[PtrM b, .slice A ws.length c] w fun e w' => e = .returned (.int .i64 (spcE s.r L ws s.g2 s.g3)) ∧ Below w.heap.size w w' := by
  have SQ := Lib.hid (fun W (hb : Below w.heap.size w W) => xSeqR (h.below hb))
  have WT := Lib.hid (fun (hs : (s.r.seq : Int) < s.g3) W (hb : Below w.heap.size w W) => xWithR (h.below hb) a ws A c ((s.r.seq : Int) + 1) (hw.below hb) hf ht hm (hG hs))
  have CX := Lib.hid (fun W (hb : Below w.heap.size w W) => show W.cell? ⟨b, 3, none⟩ = some (.int .i64 s.g3) ∧ W.cell? ⟨b, 2, none⟩ = some (.int .i64 s.g2) from ⟨(Sh.cells (h.below hb)).2.2.2.1, (Sh.cells (h.below hb)).2.2.1⟩)
  obtain ⟨n, hn⟩ : ∃ n, n = ws.length := ⟨_, rfl⟩
  obtain ⟨q, hq⟩ : ∃ q : Int, q = (s.r.seq : Nat) := ⟨_, rfl⟩
  obtain ⟨v, hv⟩ : ∃ v : Int, v = ((L.withW ws ((s.r.seq : Int) + 1)).live : Nat) := ⟨_, rfl⟩
  obtain ⟨T, hT⟩ : ∃ T, T = spcE s.r L ws s.g2 s.g3 := ⟨_, rfl⟩
  have ET := Lib.hid (show T = if s.g3 ≤ q then 17 else if s.g2 < v then 15 else 0 from by rw [hT, hq, hv]; rfl)
  obtain ⟨g2, hg2⟩ : ∃ g, g = s.g2 := ⟨_, rfl⟩
  obtain ⟨g3, hg3⟩ : ∃ g, g = s.g3 := ⟨_, rfl⟩
  rw [← hT]
  simp only [← hn, ← hv] at WT
  simp only [← hq, ← hg3] at WT
  simp only [← hq] at SQ
  rw [← hg2, ← hg3] at ET
  simp only [← hg2, ← hg3] at CX
  rw [← hn]
  clear h a hw hf ht hm hG hn hq hv hT hg2 hg3
  have BX := Lib.hid (show Below w.heap.size w w.drew from (Below.refl _ _).drew)
  have SQ' := Lib.hid (SQ.out _ BX.out)
  have c3 := (CX.out _ BX.out).1
  go_enter Tryz.func58, Tryz.ntmps58
  go_wp2_with fail
  refine wp_region_held_drew (S := (fun w' => w'.cell? ⟨b, 3, none⟩ = some (.int .i64 g3))) (by kernel_rfl) (c3) (fun hHeld => ?_)
  refine rgnTake 0 rfl (by kernel_rfl) (by kernel_rfl) (by kernel_rfl) (fun _ _ _ h => h) (by rfl) (v := ?v12) ?hy12 hHeld ?rest12
  case hy12 => (intro v hSw; first | (go_simp; done) | (go_simp; with_reducible rfl))
  try simp only [Act.put, List.setIfInBounds_toArray, List.set_cons_zero, List.set_cons_succ]
  refine rgnTake 2 rfl (by kernel_rfl) (by kernel_rfl) (by kernel_rfl) (fun _ _ _ h => h) (by rfl) (v := ?v13) ?hy13 hHeld ?rest13
  case hy13 => (intro v hSw; first | (go_simp; done) | (go_simp; with_reducible rfl))
  try simp only [Act.put, List.setIfInBounds_toArray, List.set_cons_zero, List.set_cons_succ]
  refine rgnTake 3 rfl (by kernel_rfl) (by kernel_rfl) (by kernel_rfl) (fun _ _ _ h => h) (by rfl) (v := ?v14) ?hy14 hHeld ?rest14
  case hy14 => (intro v hSw; first | (go_simp; done) | (go_simp; with_reducible rfl))
  try simp only [Act.put, List.setIfInBounds_toArray, List.set_cons_zero, List.set_cons_succ]
  refine rgnTake 4 rfl (by kernel_rfl) (by kernel_rfl) (by kernel_rfl) (fun _ _ _ h => h) (by rfl) (v := ?v15) ?hy15 hHeld ?rest15
  case hy15 => (intro v hSw; first | (go_simp; done) | (go_simp; with_reducible rfl))
  try simp only [Act.put, List.setIfInBounds_toArray, List.set_cons_zero, List.set_cons_succ]
  refine rgnTake 5 rfl (by kernel_rfl) (by kernel_rfl) (by kernel_rfl) (fun _ _ _ h => h) (by rfl) (v := ?v16) ?hy16 hHeld ?rest16
  case hy16 => (intro v hSw; first | (go_simp; done) | (go_simp; with_reducible rfl))
  try simp only [Act.put, List.setIfInBounds_toArray, List.set_cons_zero, List.set_cons_succ]
  refine rgnTake 6 rfl (by kernel_rfl) (by kernel_rfl) (by kernel_rfl) (fun _ _ _ h => h) (by rfl) (v := ?v17) ?hy17 hHeld ?rest17
  case hy17 => (intro v hSw; first | (go_simp; done) | (go_simp; with_reducible rfl))
  try simp only [Act.put, List.setIfInBounds_toArray, List.set_cons_zero, List.set_cons_succ]
  refine rgnOne 1 rfl (by kernel_rfl) (fun K hK => ?_)
  go_simp
  refine SQ'.out.mono ?_
  rintro r W1 ⟨rfl, hb1⟩
  have B1 := Lib.hid (below_then BX.out hb1)
  clear hb1
  refine hK.out _ _ ((CX.out _ B1.out).1) (fun hHeld => ?_)
  clear hK K
  try simp only [Act.put, List.setIfInBounds_toArray, List.set_cons_zero, List.set_cons_succ]
  by_cases z : g3 ≤ q
  · have e := ET.out
    rw [if_pos z] at e
    subst e
    refine rgnTake 7 rfl (by kernel_rfl) (by kernel_rfl) (by kernel_rfl) (fun _ _ _ h => h) (by rfl) (v := ?v18) ?hy18 hHeld ?rest18
    case hy18 => (intro v hSw; first | (go_simp; done) | (go_simp; with_reducible rfl))
    try simp only [Act.put, List.setIfInBounds_toArray, List.set_cons_zero, List.set_cons_succ]
    refine wpAnyH_done (by kernel_rfl) ?_ _
    go_wp2_with fail
    go_ret
    exact ⟨rfl, B1.out⟩
  · have e := ET.out
    rw [if_neg z] at e
    have E := Lib.hid e
    clear e
    have WT' := Lib.hid (WT.out (by omega) W1.drew B1.out.drew)
    have c2 := (CX.out W1.drew B1.out.drew).2
    have BY := Lib.hid (show Below w.heap.size w W1.drew from B1.out.drew)
    refine rgnTake 7 rfl (by kernel_rfl) (by kernel_rfl) (by kernel_rfl) (fun _ _ _ h => h) (by rfl) (v := ?v19) ?hy19 hHeld ?rest19
    case hy19 => (intro v hSw; first | (go_simp; done) | (go_simp; with_reducible rfl))
    try simp only [Act.put, List.setIfInBounds_toArray, List.set_cons_zero, List.set_cons_succ]
    refine wpAnyH_done (by kernel_rfl) ?_ _
    go_wp2_with fail
    refine wp_region_held_drew (S := (fun w' => w'.cell? ⟨b, 2, none⟩ = some (.int .i64 g2))) (by kernel_rfl) (c2) (fun hHeld => ?_)
    refine rgnTake 0 rfl (by kernel_rfl) (by kernel_rfl) (by kernel_rfl) (fun _ _ _ h => h) (by rfl) (v := ?v20) ?hy20 hHeld ?rest20
    case hy20 => (intro v hSw; first | (go_simp; done) | (go_simp; with_reducible rfl))
    try simp only [Act.put, List.setIfInBounds_toArray, List.set_cons_zero, List.set_cons_succ]
    refine rgnTake 1 rfl (by kernel_rfl) (by kernel_rfl) (by kernel_rfl) (fun _ _ _ h => h) (by rfl) (v := ?v21) ?hy21 hHeld ?rest21
    case hy21 => (intro v hSw; first | (go_simp; done) | (go_simp; with_reducible rfl))
    try simp only [Act.put, List.setIfInBounds_toArray, List.set_cons_zero, List.set_cons_succ]
    refine rgnTake 3 rfl (by kernel_rfl) (by kernel_rfl) (by kernel_rfl) (fun _ _ _ h => h) (by rfl) (v := ?v22) ?hy22 hHeld ?rest22
    case hy22 => (intro v hSw; first | (go_simp; done) | (go_simp; with_reducible rfl))
    try simp only [Act.put, List.setIfInBounds_toArray, List.set_cons_zero, List.set_cons_succ]
    refine rgnTake 4 rfl (by kernel_rfl) (by kernel_rfl) (by kernel_rfl) (fun _ _ _ h => h) (by rfl) (v := ?v23) ?hy23 hHeld ?rest23
    case hy23 => (intro v hSw; first | (go_simp; done) | (go_simp; with_reducible rfl))
    try simp only [Act.put, List.setIfInBounds_toArray, List.set_cons_zero, List.set_cons_succ]
    refine rgnTake 5 rfl (by kernel_rfl) (by kernel_rfl) (by kernel_rfl) (fun _ _ _ h => h) (by rfl) (v := ?v24) ?hy24 hHeld ?rest24
    case hy24 => (intro v hSw; first | (go_simp; done) | (go_simp; with_reducible rfl))
    try simp only [Act.put, List.setIfInBounds_toArray, List.set_cons_zero, List.set_cons_succ]
    refine rgnTake 6 rfl (by kernel_rfl) (by kernel_rfl) (by kernel_rfl) (fun _ _ _ h => h) (by rfl) (v := ?v25) ?hy25 hHeld ?rest25
    case hy25 => (intro v hSw; first | (go_simp; done) | (go_simp; with_reducible rfl))
    try simp only [Act.put, List.setIfInBounds_toArray, List.set_cons_zero, List.set_cons_succ]
    refine rgnTake 7 rfl (by kernel_rfl) (by kernel_rfl) (by kernel_rfl) (fun _ _ _ h => h) (by rfl) (v := ?v26) ?hy26 hHeld ?rest26
    case hy26 => (intro v hSw; first | (go_simp; done) | (go_simp; with_reducible rfl))
    try simp only [Act.put, List.setIfInBounds_toArray, List.set_cons_zero, List.set_cons_succ]
    refine rgnOne 2 rfl (by kernel_rfl) (fun K hK => ?_)
    go_simp
    refine WT'.out.mono ?_
    rintro r W2 ⟨rfl, hb2⟩
    have B2 := Lib.hid (below_then BY.out hb2)
    clear hb2
    refine hK.out _ _ ((CX.out _ B2.out).2) (fun hHeld => ?_)
    clear hK K
    try simp only [Act.put, List.setIfInBounds_toArray, List.set_cons_zero, List.set_cons_succ]
    by_cases z2 : g2 < v
    · have e := E.out
      rw [if_pos z2] at e
      subst e
      refine rgnTake 8 rfl (by kernel_rfl) (by kernel_rfl) (by kernel_rfl) (fun _ _ _ h => h) (by rfl) (v := ?v27) ?hy27 hHeld ?rest27
      case hy27 => (intro v hSw; first | (go_simp; done) | (go_simp; with_reducible rfl))
      try simp only [Act.put, List.setIfInBounds_toArray, List.set_cons_zero, List.set_cons_succ]
      refine wpAnyH_done (by kernel_rfl) ?_ _
      go_wp2_with fail
      go_ret
      exact ⟨rfl, B2.out⟩
    · have e := E.out
      rw [if_neg z2] at e
      subst e
      refine rgnTake 8 rfl (by kernel_rfl) (by kernel_rfl) (by kernel_rfl) (fun _ _ _ h => h) (by rfl) (v := ?v28) ?hy28 hHeld ?rest28
      case hy28 => (intro v hSw; first | (go_simp; done) | (go_simp; with_reducible rfl))
      try simp only [Act.put, List.setIfInBounds_toArray, List.set_cons_zero, List.set_cons_succ]
      refine wpAnyH_done (by kernel_rfl) ?_ _
      go_wp2_with fail
      go_ret
      exact ⟨rfl, B2.out⟩
end

end Go.Proofs.YtiiokmfnohifmaaGreat
