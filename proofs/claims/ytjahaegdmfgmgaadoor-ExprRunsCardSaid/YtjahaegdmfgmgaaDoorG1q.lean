/- cloisonneref14.Right: walked. -/
import Derived.Test.YtjahaegdmfgmgaaDoorG1h
import Derived.Test.YtjahaegdmfgmgaaDoorRgn
namespace Go.Proofs.YtjahaegdmfgmgaaDoor
open Go.RowKit Ex Fl

theorem isC_cases (c : Cd) : isC c = !(decide (c.op < 1) || (decide (16 < c.op) || ((!decide (c.op = 2) && !decide (c.b = 0)) || !decide (bitsOf c.b = c.b)))) := by
  rw [Bool.eq_iff_iff, isC_iff]
  simp
  try omega

set_option maxRecDepth 100000 in
set_option maxHeartbeats 1000000 in
/-- Right -/
theorem rRight14 (p : List Cd) (A : Option Addr) (c : Nat) (w : World) (h : SlC w A p) (hf : FitC p) (hl : p.length ≤ maxLen) :
    Calls Tryd.prog 12 #[.slice A p.length c] w fun e w' => e = .returned (.bool (right p)) ∧ Below w.heap.size w w' := by
  unfold maxLen at hl
  obtain ⟨n, hn⟩ : ∃ n, n = p.length := ⟨_, rfl⟩
  obtain ⟨R, hR⟩ : ∃ R, R = right p := ⟨_, rfl⟩
  rw [← hn, ← hR]
  rw [← hn] at hl
  have HN := Lib.hid hn
  have HR := Lib.hid hR
  have HS := Lib.hid h
  have HF := Lib.hid hf
  have RX := Lib.hid (show n < 1 ∨ 32 < n → R = false from fun q => by
    rw [hR]; unfold right; rw [← hn]
    rcases q with q | q
    · rw [decide_eq_false (by omega)]; rfl
    · rw [decide_eq_false (show ¬ n ≤ 32 by omega), Bool.false_and, Bool.and_false])
  clear hn hR h hf
  by_cases q1 : n < 1
  · go_enter Tryd.func12, Tryd.ntmps12
    go_wp2_with fail
    go_ret
    exact ⟨ret_bool (RX.out (.inl q1)).symm, Below.refl _ _⟩
  by_cases q2 : 32 < n
  · go_enter Tryd.func12, Tryd.ntmps12
    go_wp2_with fail
    go_ret
    exact ⟨ret_bool (RX.out (.inr q2)).symm, Below.refl _ _⟩
  go_enter Tryd.func12, Tryd.ntmps12
  go_wp2_with fail
  go_loopw [3] (fun vi wr => ∃ i : Nat, i ≤ n ∧ vi = .int .i64 i ∧ Hid (∀ j, j < i → isC (p.getD j Cd.Z) = true) ∧ Hid (Below w.heap.size w wr)) (fun vi _ => n - (intOf vi).toNat)
  case atStart => exact ⟨0, Nat.zero_le _, rfl, Lib.hid (fun j hj => by cases hj), Lib.hid (Below.refl _ _)⟩
  case round =>
    obtain ⟨i, hi, rfl, HM, HB⟩ := hrel
    by_cases q : i < n
    · obtain ⟨b, o, rfl, hb, c0, c1⟩ := (HS.out.below HB.out).at_ (by rw [← HN.out]; exact q)
      have RN := Lib.hid (fun (hm : isC (p.getD i Cd.Z) = false) => show R = false by rw [HR.out]; exact right_no (by rw [← HN.out]; exact q) hm)
      have XF := HF.out.get (i := i) (by rw [← HN.out]; exact q)
      obtain ⟨⟨op, bb⟩, hx⟩ : ∃ x, x = p.getD i Cd.Z := ⟨_, rfl⟩
      have HMY := Lib.hid (show isC ⟨op, bb⟩ = true → ∀ j, j < i + 1 → isC (p.getD j Cd.Z) = true from fun hm j hj => by
        by_cases e : j = i
        · rw [e, ← hx]; exact hm
        · exact HM.out j (by omega))
      rw [← hx] at c0 c1 RN XF
      change wr.cell? _ = some (.int .i64 op) at c0
      change wr.cell? _ = some (.int .u64 (bb : Int)) at c1
      have i0 : (0 : Int) ≤ (i : Int) := by omega
      have i1 : (i : Int) < (n : Int) := by omega
      have RB := Lib.hid (rbits bb XF)
      have IC := isC_cases ⟨op, bb⟩
      change isC ⟨op, bb⟩ = !(decide (op < 1) || (decide (16 < op) || ((!decide (op = 2) && !decide (bb = 0)) || !decide (bitsOf bb = bb)))) at IC
      have IC2 := Lib.hid IC
      have BD := Lib.hid (below_drew HB.out)
      clear hx hb XF IC
      by_cases p1 : op < 1
      · have NO := Lib.hid (RN.out (by rw [IC2.out, decide_eq_true p1]; rfl))
        go_wp2_with fail
        go_quiet (fail)
        go_wp2_with fail
        go_ret
        exact ⟨ret_bool NO.out.symm, below_drewN HB.out _⟩
      have d1 : decide (op < 1) = false := decide_eq_false p1
      have P1 := Lib.hid p1
      clear p1
      by_cases p2 : 16 < op
      · have NO := Lib.hid (RN.out (by rw [IC2.out, decide_eq_true p2]; simp))
        go_wp2_with fail
        go_quiet (fail)
        go_wp2_with fail
        go_ret
        exact ⟨ret_bool NO.out.symm, below_drewN HB.out _⟩
      have d2 : decide (16 < op) = false := decide_eq_false p2
      have P2 := Lib.hid p2
      clear p2
      by_cases p3 : op = 2
      · have n2 : (op != 2) = false := by simp [p3]
        by_cases p5 : bitsOf bb = bb
        · have YES := Lib.hid (HMY.out (by rw [IC2.out, decide_eq_false P1.out, decide_eq_false P2.out, decide_eq_true p3, decide_eq_true p5]; rfl))
          rw [p5] at RB
          have e5 : ((bb : Int) != (bb : Int)) = false := by simp
          go_wp2_with fail
          go_quiet ((go_at_call 14; exact Calls.quiet_of_same ((RB.out _).mono fun _ _ hh => ⟨hh.1, hh.2.symm⟩)))
          go_wp2_with fail
          go_roundw
          case rel => exact ⟨i + 1, by omega, by go_num, YES, Lib.hid (below_drewN HB.out _)⟩
          case measure => simp [intOf]; omega
        · have NO := Lib.hid (RN.out (by rw [IC2.out, decide_eq_false p5]; simp))
          have e5 : ((bitsOf bb : Int) != (bb : Int)) = true := by simp; omega
          clear p5
          go_wp2_with fail
          go_quiet ((go_at_call 14; exact Calls.quiet_of_same ((RB.out _).mono fun _ _ hh => ⟨hh.1, hh.2.symm⟩)))
          go_wp2_with fail
          go_ret
          exact ⟨ret_bool NO.out.symm, below_drewN HB.out _⟩
      · have n2 : (op != 2) = true := by simp [p3]
        by_cases p4 : bb = 0
        · subst p4
          have z0 : bitsOf 0 = 0 := by decide
          have YES := Lib.hid (HMY.out (by rw [IC2.out, decide_eq_false P1.out, decide_eq_false P2.out, z0]; simp))
          rw [z0] at RB
          clear z0 p3
          go_wp2_with fail
          go_quiet ((go_at_call 14; exact Calls.quiet_of_same ((RB.out _).mono fun _ _ hh => ⟨hh.1, hh.2.symm⟩)))
          go_wp2_with fail
          go_roundw
          case rel => exact ⟨i + 1, by omega, by go_num, YES, Lib.hid (below_drewN HB.out _)⟩
          case measure => simp [intOf]; omega
        · have NO := Lib.hid (RN.out (by rw [IC2.out, decide_eq_false p3, decide_eq_false p4]; simp))
          have e4 : ((bb : Int) != 0) = true := by simp; omega
          clear p3 p4
          go_wp2_with fail
          go_quiet (fail)
          go_wp2_with fail
          go_ret
          exact ⟨ret_bool NO.out.symm, below_drewN HB.out _⟩
    · have RY := Lib.hid (show R = true by
        rw [HR.out]
        exact right_yes (by rw [← HN.out]; omega) (by rw [← HN.out]; omega) (fun j hj => HM.out j (by rw [← HN.out] at hj; omega)))
      obtain rfl : i = n := by omega
      go_wp2_with fail
      go_ret
      exact ⟨ret_bool RY.out.symm, HB.out⟩


end Go.Proofs.YtjahaegdmfgmgaaDoor
