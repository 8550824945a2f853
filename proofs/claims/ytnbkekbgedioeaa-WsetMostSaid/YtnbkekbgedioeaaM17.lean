/- Proved parts: Vq. Conditions: each theorem's own. -/
import Derived.Test.YtnbkekbgedioeaaM6
import Derived.Test.YtnbkekbgedioeaaM16
import Derived.Test.YtnbkekbgedioeaaM2
import Derived.Test.YtnbkekbgedioeaaM15
import Derived.Test.YtnbkekbgedioeaaM5
import Derived.Lib.Bytealg
import Derived.Deep.RegionHeld3
import Derived.BigQuiet
import Derived.Lib.SmallJoins
namespace Go.Proofs.Ytnbkekbgedioeaa
open Go.RowKit

@[go_sem] theorem run_cmpstring (a b : ByteArray) (w : World) : (callFunc 50 #[.string a, .string b]).run Try.prog w = .ok (.value (.int .i64 (Lib.compareBytes a.data.toList b.data.toList))) w := by
  rw [run_callFunc_extern Try.func50 (by kernel_rfl) (by kernel_rfl) (by kernel_rfl) (e := Extern.BytealgCompare.compare) (by kernel_rfl)]
  show Result.andThen _ _ = _
  rw [Lib.run_compareString]
  rfl

theorem cmpBytes_eq : ∀ x y : List UInt8, Lib.compareBytes x y = (if Op.bytesLess x y then -1 else if Op.bytesLess y x then 1 else 0)
  | [], [] => rfl
  | [], _ :: _ => rfl
  | _ :: _, [] => rfl
  | a :: x, b :: y => by
    have ih := cmpBytes_eq x y
    unfold Lib.compareBytes
    rw [ih]
    by_cases h1 : a < b
    · have h2 : Op.bytesLess (a :: x) (b :: y) = true := by unfold Op.bytesLess; simp [h1]
      rw [if_pos h1, h2]; rfl
    · rw [if_neg h1]
      by_cases h2 : b < a
      · have h3 : Op.bytesLess (b :: y) (a :: x) = true := by unfold Op.bytesLess; simp [h2]
        rw [if_pos h2, h3, Val.less_asym _ _ h3]; rfl
      · rw [if_neg h2]
        have e : a = b := by
          apply UInt8.toNat_inj.1
          have q1 : ¬ a.toNat < b.toNat := fun q => h1 (UInt8.lt_iff_toNat_lt.2 q)
          have q2 : ¬ b.toNat < a.toNat := fun q => h2 (UInt8.lt_iff_toNat_lt.2 q)
          omega
        subst e
        rw [Val.less_cons, Val.less_cons]

/-- internal/bytealg.CompareString -/
theorem bcmpString (a b : ByteArray) (w : World) : Calls Try.prog 44 #[.string a, .string b] w fun e w' => e = .returned (.int .i64 (Lib.compareBytes a.data.toList b.data.toList)) ∧ w = w' := by
  go_enter Try.func44, Try.ntmps44
  go_wp2_with fail
  go_ret
  exact ⟨rfl, rfl⟩
/-- strings.Compare -/
theorem scmpString (a b : ByteArray) (w : World) : Calls Try.prog 38 #[.string a, .string b] w fun e w' => e = .returned (.int .i64 (Lib.compareBytes a.data.toList b.data.toList)) ∧ w = w' := by
  go_enter Try.func38, Try.ntmps38
  go_wp2_with fail
  refine (bcmpString a b _).mono ?_
  rintro e w1 ⟨rfl, rfl⟩
  go_wp2_with fail
  go_ret
  exact ⟨rfl, rfl⟩

theorem bitsOf_twice (b : Nat) : Fl.bitsOf (Fl.bitsOf b) = Fl.bitsOf b := by
  unfold Fl.bitsOf
  cases h : Fl.nanB b with
  | true => rw [if_pos rfl]; split <;> rfl
  | false => simp [h]
set_option maxRecDepth 100000 in
set_option maxHeartbeats 4000000 in
/-- value.Right -/
theorem vpRight (x : Val) (w : World) (hf : x.Fits) : Calls Try.prog 45 #[x.v] w fun e w' => e = .returned (.bool x.ok) ∧ Below w.heap.size w w' := by
  obtain ⟨n, t, b⟩ := x
  obtain ⟨hb, ht⟩ := hf
  change b < 18446744073709551616 at hb
  change t.size ≤ maxLen at ht
  unfold maxLen at ht
  show Calls Try.prog 45 #[.agg #[.bool n, .string t, .int .u64 (b : Int)]] w _
  have B0 := Lib.hid ((Below.refl w.heap.size w).alloc (Nat.le_refl _) (.cells #[.bool n, .string t, .int .u64 (b : Int)] 34))
  cases n with
  | false =>
    have R := Lib.hid (show Val.ok ⟨false, t, b⟩ = (decide (b = 0) && decide (t.size ≤ 64)) from rfl)
    by_cases b0 : b = 0
    · have T0 : ((b : Int) == 0) = true := by rw [beq_iff_eq]; omega
      have D0 := Lib.hid b0
      clear b0 hb
      go_enter Try.func45, Try.ntmps45
      go_wp2_with fail
      go_ret
      refine ⟨ret_bool ?_, B0.out⟩
      rw [R.out, decide_eq_true D0.out, Bool.true_and, Bool.eq_iff_iff]
      simp only [decide_eq_true_eq]
      omega
    · have T0 : ((b : Int) == 0) = false := by rw [beq_eq_false_iff_ne]; omega
      have D0 := Lib.hid b0
      clear b0 hb
      go_enter Try.func45, Try.ntmps45
      go_wp2_with fail
      go_ret
      refine ⟨ret_bool ?_, B0.out⟩
      rw [R.out, decide_eq_false D0.out]; rfl
  | true =>
    have R := Lib.hid (show Val.ok ⟨true, t, b⟩ = (decide (t.size = 0) && decide (Fl.bitsOf b = b)) from rfl)
    have bn : ((b : Int)).toNat = b := by omega
    have FR := Lib.hid (show ∀ w, Calls Try.prog 52 #[.int .u64 (b : Int)] w fun e w' => e = .returned (.float .f64 (Fl.bitsOf b)) ∧ w = w' from fun w => by have h := nfrom (b : Int) w; rw [bn] at h; exact h)
    have FB := Lib.hid (show ∀ w, Calls Try.prog 51 #[.float .f64 (Fl.bitsOf b)] w fun e w' => e = .returned (.int .u64 (Fl.bitsOf b : Nat)) ∧ w = w' from fun w => by have h := nbits (Fl.bitsOf b) w; rw [bitsOf_twice] at h; exact h)
    by_cases t0 : t.size = 0
    · have T0 : (t.toList == []) = true := by rw [Val.nil_of t0, Val.toL]; rfl
      have D0 := Lib.hid t0
      clear t0 hb bn
      go_enter Try.func45, Try.ntmps45
      go_wp2_with fail
      go_quiet (first | (go_at_call 52; exact Calls.quiet_of_same ((FR.out _).mono fun _ _ hh => ⟨hh.1, hh.2.symm⟩)) | (go_at_call 51; exact Calls.quiet_of_same ((FB.out _).mono fun _ _ hh => ⟨hh.1, hh.2.symm⟩)))
      go_wp2_with fail
      go_ret
      refine ⟨ret_bool ?_, below_drewN B0.out _⟩
      rw [R.out, decide_eq_true D0.out, Bool.true_and, Bool.eq_iff_iff, beq_iff_eq, decide_eq_true_eq]
      omega
    · have T0 : (t.toList == []) = false := by
        rw [beq_eq_false_iff_ne]; intro e; apply t0; rw [Val.toL] at e
        have := congrArg List.length e; simpa using this
      have D0 := Lib.hid t0
      clear t0 hb bn
      go_enter Try.func45, Try.ntmps45
      go_wp2_with fail
      go_quiet (fail)
      go_wp2_with fail
      go_ret
      refine ⟨ret_bool ?_, below_drewN B0.out _⟩
      rw [R.out, decide_eq_false D0.out]; rfl


end Go.Proofs.Ytnbkekbgedioeaa
