/- chain's end, Right, copied: walked. -/
import Derived.Test.YtpafnjdaiagdiaaC9f
namespace Go.Proofs.Ytpafnjdaiagdiaa
open Go.RowKit Go.Shelf

theorem GoodL.get {l : List Ver} (h : GoodL l) {i : Nat} (hi : i < l.length) : (l.getD i Ver.Z).val.Fits ∧ (l.getD i Ver.Z).val.txt.size ≤ 1000 := by
  refine ⟨h.fits.get hi, ?_⟩
  rw [List.getD_eq_getElem?_getD, List.getElem?_eq_getElem hi]
  exact h.texts _ (List.getElem_mem hi)
theorem zeroF {w : World} {g : Nat} {t : TypeId} (h : RowAt w g Ver.Z.cs t) : w.frozen? ⟨g, 0, none⟩ = false ∧ w.frozen? ⟨g, 1, none⟩ = false ∧ w.frozen? ⟨g, 2, none⟩ = false ∧ w.frozen? ⟨g, 3, none⟩ = false ∧ w.frozen? ⟨g, 4, none⟩ = false ∧
    w.cell? ⟨g, 0, none⟩ = some (.int .i64 0) ∧ w.cell? ⟨g, 1, none⟩ = some (.bool false) ∧ w.cell? ⟨g, 2, none⟩ = some (.bool false) ∧ w.cell? ⟨g, 3, none⟩ = some (.string ⟨#[]⟩) ∧ w.cell? ⟨g, 4, none⟩ = some (.int .u64 0) :=
  ⟨h.frozen 0, h.frozen 1, h.frozen 2, h.frozen 3, h.frozen 4, h.cell 0, h.cell 1, h.cell 2, h.cell 3, h.cell 4⟩
theorem verF {w : World} {g : Nat} {t : TypeId} {x : Ver} (h : RowAt w g x.cs t) : w.cell? ⟨g, 0, none⟩ = some (.int .i64 x.seq) ∧ w.cell? ⟨g, 1, none⟩ = some (.bool x.gone) ∧ w.cell? ⟨g, 2, none⟩ = some (.bool x.val.num) ∧ w.cell? ⟨g, 3, none⟩ = some (.string x.val.txt) ∧ w.cell? ⟨g, 4, none⟩ = some (.int .u64 (x.val.bits : Int)) :=
  ⟨h.cell 0, h.cell 1, h.cell 2, h.cell 3, h.cell 4⟩
set_option maxRecDepth 100000 in
set_option maxHeartbeats 1000000 in
/-- end -/
theorem xEnd9 (l : List Ver) (A : Option Addr) (c : Nat) (w : World) (h : SlV w A l) (hg : GoodL l) :
    Calls Try.prog 23 #[.slice A l.length c] w fun e w' => e = .returned (.tuple #[(if decide (0 < l.length) then lastL l else Ver.Z).v, .bool (decide (0 < l.length))]) ∧ Below w.heap.size w w' := by
  obtain ⟨n, hn⟩ : ∃ n, n = l.length := ⟨_, rfl⟩
  obtain ⟨B, hB⟩ : ∃ B, B = w.heap.size := ⟨_, rfl⟩
  have hl := hg.len
  rw [← hn] at hl ⊢
  rw [← hB]
  have R0 := RowAt.new w Ver.Z.cs 29
  rw [← hB] at R0
  have B0 := (show Below B w (w.alloc (.cells Ver.Z.cs.toArray 29)) by rw [hB]; exact (Below.refl _ _).alloc (Nat.le_refl _) _)
  have W0 : Below w.heap.size w (w.alloc (.cells Ver.Z.cs.toArray 29)) := by rw [← hB]; exact B0
  by_cases q : n = 0
  · rw [decide_eq_false (show ¬ 0 < n by omega), if_neg (by simp)]
    subst q
    have R0 := Lib.hid R0
    have B0 := Lib.hid B0
    have HB := Lib.hid hB
    clear hB hn h hg hl W0
    go_enter Try.func23, Try.ntmps23
    go_wp2_with fail
    rw [← HB.out]
    refine bodyPost_ret (results_cell_tmp rfl _ (w.alloc (.cells Ver.Z.cs.toArray 29)) B _ _ _ rfl R0.out Try.underlying29 rfl (by kernel_rfl)) rfl ?_
    exact ⟨rfl, B0.out⟩
  · obtain ⟨i, hi⟩ : ∃ i, i = n - 1 := ⟨_, rfl⟩
    have hi' : i < l.length := by omega
    obtain ⟨b, o, rfl, hb, cc⟩ := (h.below W0).at hi'
    have cl : lastL l = l.getD i Ver.Z := by unfold lastL; rw [← hn, ← hi]
    obtain ⟨_, xt⟩ := hg.get hi'
    rw [decide_eq_true (show 0 < n by omega), if_pos rfl, cl]
    obtain ⟨x, hx⟩ : ∃ x, x = l.getD i Ver.Z := ⟨_, rfl⟩
    rw [← hx] at cc xt ⊢
    have FR := Lib.hid (fun w => xFresh9 x w xt)
    have FR : Hid (∀ w, Calls Try.prog 28 #[.agg #[.int .i64 x.seq, .bool x.gone, .bool x.val.num, .string x.val.txt, .int .u64 (x.val.bits : Int)]] w fun e w' => e = .returned (.agg #[.int .i64 x.seq, .bool x.gone, .bool x.val.num, .string x.val.txt, .int .u64 (x.val.bits : Int)]) ∧ Below w.heap.size w w') := FR
    obtain ⟨c0, c1, c2, c3, c4⟩ := cc
    have c0 : (w.alloc (.cells #[.int .i64 0, .bool false, .bool false, .string ⟨#[]⟩, .int .u64 0] 29)).cell? ⟨b, o + i * 5, none⟩ = some (.int .i64 x.seq) := c0
    have c1 : (w.alloc (.cells #[.int .i64 0, .bool false, .bool false, .string ⟨#[]⟩, .int .u64 0] 29)).cell? ⟨b, o + i * 5 + 1, none⟩ = some (.bool x.gone) := c1
    have c2 : (w.alloc (.cells #[.int .i64 0, .bool false, .bool false, .string ⟨#[]⟩, .int .u64 0] 29)).cell? ⟨b, o + i * 5 + 2, none⟩ = some (.bool x.val.num) := c2
    have c3 : (w.alloc (.cells #[.int .i64 0, .bool false, .bool false, .string ⟨#[]⟩, .int .u64 0] 29)).cell? ⟨b, o + i * 5 + 3, none⟩ = some (.string x.val.txt) := c3
    have c4 : (w.alloc (.cells #[.int .i64 0, .bool false, .bool false, .string ⟨#[]⟩, .int .u64 0] 29)).cell? ⟨b, o + i * 5 + 4, none⟩ = some (.int .u64 (x.val.bits : Int)) := c4
    have HB := Lib.hid hB
    have R0 := Lib.hid R0
    have B0 := Lib.hid B0
    have i2 : (0 : Int) ≤ (i : Int) := by omega
    have i3 : (i : Int) < (n : Int) := by omega
    have i1 : (n : Int) - 1 = (i : Int) := by omega
    have n0 : ((n : Int) == 0) = false := by rw [beq_eq_false_iff_ne]; omega
    clear hB hn h hg W0 hx cl xt hi hi' hb q
    go_enter Try.func23, Try.ntmps23
    go_wp2_with fail
    rw [← HB.out]
    refine (FR.out _).mono ?_
    rintro e w1 ⟨rfl, hb1⟩
    have q0 := R0.out.below hb1
    have Q0 := Lib.hid q0
    have B1 := Lib.hid (show Below B w w1 from B0.out.trans (hb1.mono (by rw [HB.out]; exact B0.out.size)))
    obtain ⟨g0, g1, g2, g3, g4, e0, e1, e2, e3, e4⟩ := zeroF q0
    have F1 := Lib.hid (show Below B w (setV w1 B x) from setV_below B1.out (Nat.le_refl _))
    have F2 := Lib.hid (show RowAt (setV w1 B x) B x.cs _ from setV_row Q0.out)
    clear hb1 q0 c0 c1 c2 c3 c4
    go_wp2_with fail
    refine bodyPost_ret (results_cell_tmp rfl _ (setV w1 B x) B _ _ _ rfl F2.out Try.underlying29 rfl (by kernel_rfl)) rfl ?_
    exact ⟨rfl, F1.out⟩

set_option maxRecDepth 100000 in
set_option maxHeartbeats 2000000 in
/-- Right -/
theorem xRight9 (l : List Ver) (A : Option Addr) (c : Nat) (w : World) (h : SlV w A l) (hg : GoodL l) :
    Calls Try.prog 12 #[.slice A l.length c] w fun e w' => e = .returned (.bool (rightL l)) ∧ Below w.heap.size w w' := by
  obtain ⟨n, hn⟩ : ∃ n, n = l.length := ⟨_, rfl⟩
  obtain ⟨R, hR⟩ : ∃ R, R = rightL l := ⟨_, rfl⟩
  have hl := hg.len
  rw [← hn] at hl
  rw [← hn, ← hR]
  have HN := Lib.hid hn
  have HR := Lib.hid hR
  have HS := Lib.hid h
  have HG := Lib.hid hg
  clear hn hR h hg
  go_enter Try.func12, Try.ntmps12
  go_wp2_with fail
  go_loopw [3, 8] (fun vp vi wr => ∃ i : Nat, i ≤ n ∧ vp = .int .i64 (prevS l i) ∧ vi = .int .i64 i ∧ Hid (∀ j, j < i → mayV (prevS l j) (l.getD j Ver.Z) = true) ∧ Hid (Below w.heap.size w wr)) (fun _ vi _ => n - (intOf vi).toNat)
  case atStart => exact ⟨0, Nat.zero_le _, rfl, rfl, Lib.hid (fun j hj => by cases hj), Lib.hid (Below.refl _ _)⟩
  case round =>
    obtain ⟨i, hi, rfl, rfl, HM, HB⟩ := hrel
    by_cases q : i < n
    · have hil : i < l.length := by rw [← HN.out]; exact q
      obtain ⟨b, o, rfl, hb, c0, c1, c2, c3, c4⟩ := (HS.out.below HB.out).at hil
      have RN := Lib.hid (fun (hm : mayV (prevS l i) (l.getD i Ver.Z) = false) => show R = false by rw [HR.out]; exact right_no hil hm)
      have PS := Lib.hid (prevS_succ l i)
      have XF := (HG.out.get hil).1
      obtain ⟨p, hp⟩ : ∃ p, p = prevS l i := ⟨_, rfl⟩
      obtain ⟨x, hx⟩ : ∃ x, x = l.getD i Ver.Z := ⟨_, rfl⟩
      have HMY := Lib.hid (show mayV p x = true → ∀ j, j < i + 1 → mayV (prevS l j) (l.getD j Ver.Z) = true from fun hm j hj => by
        by_cases e : j = i
        · rw [e, ← hp, ← hx]; exact hm
        · exact HM.out j (by omega))
      rw [← hx] at c0 c1 c2 c3 c4 RN PS XF
      rw [← hp] at RN ⊢
      have FO := Lib.hid (fun w => xFollows9 x p w XF)
      obtain ⟨K, hK⟩ : ∃ K, K = mayV p x := ⟨_, rfl⟩
      rw [← hK] at FO RN HMY
      have FO : Hid (∀ w, Calls Try.prog 25 #[.agg #[.int .i64 x.seq, .bool x.gone, .bool x.val.num, .string x.val.txt, .int .u64 (x.val.bits : Int)], .int .i64 p] w fun e w' => e = .returned (.bool K) ∧ Below w.heap.size w w') := FO
      have i0 : (0 : Int) ≤ (i : Int) := by omega
      have i1 : (i : Int) < (n : Int) := by omega
      have RW := RowAt.new wr x.cs 29
      have RW := Lib.hid RW
      have AB := Lib.hid (show Below wr.heap.size wr (wr.alloc (.cells x.cs.toArray 29)) from (Below.refl _ _).alloc (Nat.le_refl _) _)
      clear hp hx hK hb XF hil
      go_wp2_with fail
      refine (FO.out _).mono ?_
      rintro e w1 ⟨rfl, hb1⟩
      have e0 := (RW.out.below hb1).cell 0
      simp only [Ver.cs, List.getElem?_cons_zero] at e0
      have hb2 : Below wr.heap.size wr w1 := AB.out.trans (hb1.mono AB.out.size)
      have B1 := Lib.hid (HB.out.trans (hb2.mono HB.out.size))
      clear hb1 hb2
      cases K with
      | false =>
        go_wp2_with fail
        go_ret
        exact ⟨by rw [RN.out (by simp)]; rfl, B1.out⟩
      | true =>
        go_wp2_with fail
        go_roundw
        case rel => exact ⟨i + 1, by omega, by rw [PS.out], by go_num, Lib.hid (HMY.out (by simp)), B1⟩
        case measure => simp [intOf]; omega
    · obtain rfl : i = n := by omega
      have RT := Lib.hid (show R = true by rw [HR.out, rightL_iff]; rw [← HN.out]; exact HM.out)
      go_wp2_with fail
      go_ret
      exact ⟨by rw [RT.out]; rfl, HB.out⟩

end Go.Proofs.Ytpafnjdaiagdiaa
