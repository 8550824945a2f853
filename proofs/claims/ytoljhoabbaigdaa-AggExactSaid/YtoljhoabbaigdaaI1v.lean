/- What the program's value does, walked: Right and Float alone. -/
import Derived.Test.YtoljhoabbaigdaaVo
import Derived.Test.YtoljhoabbaigdaaVu
import Derived.Test.YtoljhoabbaigdaaChg
import Derived.Deep.RegionHeld3
import Derived.BigQuiet
namespace Go.Proofs.Ytoljhoabbaigdaa
open Go.RowKit

theorem bitsOf_twice (b : Nat) : Fl.bitsOf (Fl.bitsOf b) = Fl.bitsOf b := by
  unfold Fl.bitsOf
  cases h : Fl.nanB b with
  | true => rw [if_pos rfl]; split <;> rfl
  | false => simp [h]
theorem bitsOf_fits {b : Nat} (h : b < 18446744073709551616) : Fl.Fits (Fl.bitsOf b) := fits_small _ (Val.bits_lt b h)

set_option maxRecDepth 100000 in
set_option maxHeartbeats 1000000 in
/-- value.Right -/
theorem vpRight (x : Val) (w : World) (hf : x.Fits) : Calls Try.prog 36 #[x.v] w fun e w' => e = .returned (.bool x.ok) ∧ Below w.heap.size w w' := by
  obtain ⟨n, t, b⟩ := x
  obtain ⟨hb, ht⟩ := hf
  change b < 18446744073709551616 at hb
  change t.size ≤ maxLen at ht
  unfold maxLen at ht
  show Calls Try.prog 36 #[.agg #[.bool n, .string t, .int .u64 (b : Int)]] w _
  have B0 := Lib.hid ((Below.refl w.heap.size w).alloc (Nat.le_refl _) (.cells #[.bool n, .string t, .int .u64 (b : Int)] 40))
  cases n with
  | false =>
    have R := Lib.hid (show Val.ok ⟨false, t, b⟩ = (decide (b = 0) && decide (t.size ≤ 64)) from rfl)
    by_cases b0 : b = 0
    · have T0 : ((b : Int) == 0) = true := by rw [beq_iff_eq]; omega
      have D0 := Lib.hid b0
      clear b0 hb
      go_enter Try.func36, Try.ntmps36
      go_wp2_with fail
      go_ret
      refine ⟨ret_bool ?_, B0.out⟩
      rw [R.out, decide_eq_true D0.out, Bool.true_and, Bool.eq_iff_iff]
      simp only [decide_eq_true_eq]
      omega
    · have T0 : ((b : Int) == 0) = false := by rw [beq_eq_false_iff_ne]; omega
      have D0 := Lib.hid b0
      clear b0 hb
      go_enter Try.func36, Try.ntmps36
      go_wp2_with fail
      go_ret
      refine ⟨ret_bool ?_, B0.out⟩
      rw [R.out, decide_eq_false D0.out]; rfl
  | true =>
    have R := Lib.hid (show Val.ok ⟨true, t, b⟩ = (decide (t.size = 0) && decide (Fl.bitsOf b = b)) from rfl)
    have bn : ((b : Int)).toNat = b := by omega
    have FR := Lib.hid (show ∀ w, Calls Try.prog 37 #[.int .u64 (b : Int)] w fun e w' => e = .returned (.float .f64 (Fl.bitsOf b)) ∧ w = w' from fun w => by have h := nfrom (b : Int) w; rw [bn] at h; exact h)
    have FB := Lib.hid (show ∀ w, Calls Try.prog 24 #[.float .f64 (Fl.bitsOf b)] w fun e w' => e = .returned (.int .u64 (Fl.bitsOf b : Nat)) ∧ w = w' from fun w => by have h := nbits (Fl.bitsOf b) w; rw [bitsOf_twice] at h; exact h)
    by_cases t0 : t.size = 0
    · have T0 : (t.toList == []) = true := by rw [Val.nil_of t0, Val.toL]; rfl
      have D0 := Lib.hid t0
      clear t0 hb bn
      go_enter Try.func36, Try.ntmps36
      go_wp2_with fail
      go_quiet (first | (go_at_call 37; exact Calls.quiet_of_same ((FR.out _).mono fun _ _ hh => ⟨hh.1, hh.2.symm⟩)) | (go_at_call 24; exact Calls.quiet_of_same ((FB.out _).mono fun _ _ hh => ⟨hh.1, hh.2.symm⟩)))
      go_wp2_with fail
      go_ret
      refine ⟨ret_bool ?_, below_drewN B0.out _⟩
      rw [R.out, decide_eq_true D0.out, Bool.true_and, Bool.eq_iff_iff, beq_iff_eq, decide_eq_true_eq]
      omega
    · have T0 : (t.toList == []) = false := by
        rw [beq_eq_false_iff_ne]; intro e; apply t0; rw [Val.toL] at e
        have := congrArg List.length e; simpa using this
      have D0 := Lib.hid t0
      clear t0 hb bn
      go_enter Try.func36, Try.ntmps36
      go_wp2_with fail
      go_quiet (fail)
      go_wp2_with fail
      go_ret
      refine ⟨ret_bool ?_, below_drewN B0.out _⟩
      rw [R.out, decide_eq_false D0.out]; rfl


set_option maxRecDepth 100000 in
set_option maxHeartbeats 1000000 in
/-- value.Float -/
theorem vpFloat (x : Val) (w : World) (hf : x.Fits) : Calls Try.prog 26 #[x.v] w fun e w' => e = .returned (.tuple #[.float .f64 (if x.num && x.ok then x.bits else 0), .int .i64 (if x.num && x.ok then 0 else 1)]) ∧ Below w.heap.size w w' := by
  have RI := Lib.hid (vpRight x)
  have HF := Lib.hid hf
  obtain ⟨o, ho⟩ : ∃ o, o = x.ok := ⟨_, rfl⟩
  have hq : x.num = true → o = true → Fl.bitsOf x.bits = x.bits := fun hn h => (Val.num_of (ho ▸ h) hn).2
  rw [← ho] at RI ⊢
  clear ho hf
  obtain ⟨n, t, b⟩ := x
  have bn : ((b : Int)).toNat = b := by omega
  change Hid (∀ w, _ → Calls Try.prog 36 #[.agg #[.bool n, .string t, .int .u64 (b : Int)]] w _) at RI
  show Calls Try.prog 26 #[.agg #[.bool n, .string t, .int .u64 (b : Int)]] w fun e w' => e = .returned (.tuple #[.float .f64 (if n && o then b else 0), .int .i64 (if n && o then 0 else 1)]) ∧ _
  have B0 := Lib.hid ((Below.refl w.heap.size w).alloc (Nat.le_refl _) (.cells #[.bool n, .string t, .int .u64 (b : Int)] 40))
  cases n with
  | false =>
    clear hq
    simp only [Bool.false_and, Bool.false_eq_true, if_false]
    go_enter Try.func26, Try.ntmps26
    go_wp2_with fail
    go_ret2
    exact ⟨rfl, B0.out⟩
  | true =>
    cases o with
    | false =>
      clear hq
      simp only [Bool.and_false, Bool.false_eq_true, if_false]
      go_enter Try.func26, Try.ntmps26
      go_wp2_with fail
      refine (RI.out _ HF.out).mono ?_
      rintro e w1 ⟨rfl, hb1⟩
      have HB1 := Lib.hid (below_then B0.out hb1)
      clear hb1
      go_wp2_with fail
      go_ret2
      exact ⟨rfl, HB1.out⟩
    | true =>
      have Q := hq rfl rfl
      change Fl.bitsOf b = b at Q
      simp only [Bool.and_self, if_true]
      have FR := Lib.hid (show ∀ w, Calls Try.prog 37 #[.int .u64 (b : Int)] w fun e w' => e = .returned (.float .f64 b) ∧ w = w' from fun w => by have h := nfrom (b : Int) w; rw [bn, Q] at h; exact h)
      clear hq Q
      have X0 := Lib.hid (BoxV.new w true t b 40)
      clear bn
      go_enter Try.func26, Try.ntmps26
      go_wp2_with fail
      refine (RI.out _ HF.out).mono ?_
      rintro e w1 ⟨rfl, hb1⟩
      have X1 := X0.out.below hb1
      obtain ⟨a0, a1, a2⟩ := X1
      have HB1 := Lib.hid (below_then B0.out hb1)
      clear hb1
      go_wp2_with fail
      refine (FR.out _).mono ?_
      rintro e w2 ⟨rfl, rfl⟩
      go_wp2_with fail
      go_ret2
      exact ⟨rfl, HB1.out⟩

end Go.Proofs.Ytoljhoabbaigdaa
