/- What num.Whole and its reference answer, walked. -/
import Derived.Test.YtoljhoabbaigdaaAwk
import Derived.Test.YtoljhoabbaigdaaWh
namespace Go.Proofs.Ytoljhoabbaigdaa
open Go.RowKit

theorem decode_num {b : Nat} (h : Fl.Fits b) (hn : Fl.nanB b = false) (w : World) : (Extern.MathFloor.toIntegral "math.archTrunc" .zero #[.float .f64 b]).run Try.prog w = .ok (.float .f64 (Fl.truncB b)) w := by
  have ht := Fl.trunc_eq h hn
  have hd : FloatKind.f64.decode b = Ieee.double.read b := rfl
  conv => lhs; arg 2; whnf
  rw [hd]
  cases hr : Ieee.double.read b with
  | number s m e => rw [hr] at ht; exact congrArg (fun x => Result.ok (Value.float FloatKind.f64 x) w) ht
  | infinity s => rw [hr] at ht; exact congrArg (fun x => Result.ok (Value.float FloatKind.f64 x) w) ht
  | nan s t =>
    exfalso
    have hb : ¬ Fl.INF < b % Fl.S63 := by unfold Fl.nanB at hn; simpa using hn
    rcases Nat.lt_or_ge (b % Fl.S63) Fl.INF with h1 | h1
    · obtain ⟨m, k, r1, _⟩ := Fl.read_num b h1
      rw [r1] at hr; cases hr
    · rw [Fl.read_inf b (by omega)] at hr; cases hr

theorem decode_nan {b : Nat} (hn : Fl.nanB b = true) (w : World) : ∃ y w', (Extern.MathFloor.toIntegral "math.archTrunc" .zero #[.float .f64 b]).run Try.prog w = .ok (.float .f64 y) w' ∧ (w' = w ∨ w' = w.drew) := by
  have hb : Fl.INF < b % Fl.S63 := by unfold Fl.nanB at hn; simpa using hn
  have hd : FloatKind.f64.decode b = Ieee.double.read b := rfl
  conv => arg 1; intro y; arg 1; intro w'; arg 1; lhs; arg 2; whnf
  rw [hd, Fl.read_nan b hb]
  dsimp only
  split
  · exact ⟨_, _, rfl, Or.inl rfl⟩
  · simp only [Sem.run_bind, run_choose_drew]
    split
    · exact ⟨_, _, rfl, Or.inl rfl⟩
    · exact ⟨_, _, rfl, Or.inr rfl⟩

/-- math.Trunc -/
theorem trunc_num (b : Nat) (h : Fl.Fits b) (hn : Fl.nanB b = false) (w : World) : Calls Try.prog 41 #[.float .f64 b] w fun e w' => e = .returned (.float .f64 (Fl.truncB b)) ∧ w = w' := by
  have hr : ∀ w, (callFunc 42 #[.float .f64 b]).run Try.prog w = .ok (.value (.float .f64 (Fl.truncB b))) w := by
    intro w
    rw [run_callFunc_extern Try.func42 (by kernel_rfl) (by kernel_rfl) (by kernel_rfl) (e := Extern.MathFloor.toIntegral "math.archTrunc" .zero) (by kernel_rfl), decode_num h hn]
    rfl
  clear h hn
  go_enter Try.func41, Try.ntmps41
  go_wp2
  go_ret
  exact ⟨rfl, rfl⟩

theorem trunc_nan (b : Nat) (hn : Fl.nanB b = true) (W w : World) (hg : Grown W w) : Calls Try.prog 41 #[.float .f64 b] w fun e w' => (∃ y, e = .returned (.float .f64 y)) ∧ Grown W w' := by
  obtain ⟨y, w1, hr0, hw⟩ := decode_nan hn w
  have hr : (callFunc 42 #[.float .f64 b]).run Try.prog w = .ok (.value (.float .f64 y)) w1 := by
    rw [run_callFunc_extern Try.func42 (by kernel_rfl) (by kernel_rfl) (by kernel_rfl) (e := Extern.MathFloor.toIntegral "math.archTrunc" .zero) (by kernel_rfl), hr0]
    rfl
  have hg1 : Grown W w1 := by
    rcases hw with rfl | rfl
    · exact hg
    · exact hg.drew
  have HG := Lib.hid hg1
  clear hr0 hw hn hg hg1
  go_enter Try.func41, Try.ntmps41
  go_wp2
  go_ret
  exact ⟨⟨y, rfl⟩, HG.out⟩

theorem ret_ii {a a' c c' : Int} (h1 : a = a') (h2 : c = c') : Ending.returned (.tuple #[.int .i64 a, .int .i64 c]) = .returned (.tuple #[.int .i64 a', .int .i64 c']) := by rw [h1, h2]
theorem ret_ib {a a' : Int} {c c' : Bool} (h1 : a = a') (h2 : c = c') : Ending.returned (.tuple #[.int .i64 a, .bool c]) = .returned (.tuple #[.int .i64 a', .bool c']) := by rw [h1, h2]

/-- num.Whole of the NaN -/
theorem nwhole_nan (b : Nat) (hn : Fl.nanB b = true) (W w : World) (hg : Grown W w) : Calls Try.prog 38 #[.float .f64 b] w fun e w' => e = .returned (.tuple #[.int .i64 0, .int .i64 1]) ∧ Grown W w' := by
  have hb : Fl.INF < b % Fl.S63 := by unfold Fl.nanB at hn; simpa using hn
  have T : ∀ y, (FloatKind.f64.format.order y b != some Ordering.eq) = true := by
    intro y; rw [fcmp, Fl.order_nan_right y b hb]; rfl
  have N := Lib.hid hn
  have HG := Lib.hid hg
  clear hb hn hg
  go_enter Try.func38, Try.ntmps38
  go_wp2_with fail
  refine (trunc_nan b N.out W _ HG.out).mono ?_
  rintro e w1 ⟨⟨y, rfl⟩, hg1⟩
  have HG1 := Lib.hid hg1
  clear hg1
  go_wp2
  go_ret2
  exact ⟨rfl, HG1.out⟩

/-- num.Whole of a number that is no whole one of 64 bits -/
theorem nwhole_no (b : Nat) (h : Fl.Fits b) (hn : Fl.nanB b = false) (hw : Fl.wOk b = false) (w : World) : Calls Try.prog 38 #[.float .f64 b] w fun e w' => e = .returned (.tuple #[.int .i64 0, .int .i64 1]) ∧ w = w' := by
  have t1 := Fl.trunc_same h hn
  have t2 := Fl.order_low hn
  have t3 := Fl.order_high hn
  unfold Fl.wOk at hw
  have F := Lib.hid h
  have N := Lib.hid hn
  clear h hn
  cases c1 : Fl.isW b
  · have T1 : (FloatKind.f64.format.order (Fl.truncB b) b != some Ordering.eq) = true := by rw [fcmp, t1, c1]; rfl
    clear t1 t2 t3 hw c1
    go_enter Try.func38, Try.ntmps38
    go_wp2_with fail
    refine (trunc_num b F.out N.out _).mono ?_
    rintro e w1 ⟨rfl, rfl⟩
    go_wp2
    go_ret2
    exact ⟨rfl, rfl⟩
  · have T1 : (FloatKind.f64.format.order (Fl.truncB b) b != some Ordering.eq) = false := by rw [fcmp, t1, c1]; rfl
    cases c2 : decide (Fl.rank b < -Fl.LIM)
    · have T2 : (FloatKind.f64.format.order b 14114281232179134464 == some Ordering.lt) = false := by rw [fcmp, t2, c2]
      have c3 : decide (Fl.rank b < Fl.LIM) = false := by rw [c1, c2] at hw; simpa using hw
      have T3 : (FloatKind.f64.format.order b 4890909195324358656 == some Ordering.gt || FloatKind.f64.format.order b 4890909195324358656 == some Ordering.eq) = true := by rw [fcmp, t3, c3]; rfl
      clear t1 t2 t3 hw c1 c2 c3
      go_enter Try.func38, Try.ntmps38
      go_wp2_with fail
      refine (trunc_num b F.out N.out _).mono ?_
      rintro e w1 ⟨rfl, rfl⟩
      go_wp2
      all_goals (go_ret2; exact ⟨rfl, rfl⟩)
    · have T2 : (FloatKind.f64.format.order b 14114281232179134464 == some Ordering.lt) = true := by rw [fcmp, t2, c2]
      clear t1 t2 t3 hw c1 c2
      go_enter Try.func38, Try.ntmps38
      go_wp2_with fail
      refine (trunc_num b F.out N.out _).mono ?_
      rintro e w1 ⟨rfl, rfl⟩
      go_wp2
      go_ret2
      exact ⟨rfl, rfl⟩

/-- num.Whole of a whole number of 64 bits -/
theorem nwhole_yes (b : Nat) (h : Fl.Fits b) (hn : Fl.nanB b = false) (hw : Fl.wOk b = true) (w : World) : Calls Try.prog 38 #[.float .f64 b] w fun e w' => e = .returned (.tuple #[.int .i64 (Fl.wVal b), .int .i64 0]) ∧ w = w' := by
  have t1 := Fl.trunc_same h hn
  have t2 := Fl.order_low hn
  have t3 := Fl.order_high hn
  have hr := Fl.wVal_range h hw
  have hE := Fl.wOk_E h hw
  have hv : floatToIntVal .f64 b .i64 = some (Fl.wVal b) := by
    have e1 := Fl.toInt_eq h (by omega)
    have e2 : (FloatKind.f64.decode b).toInt .zero = some (Fl.wVal b) := e1
    unfold floatToIntVal
    rw [e2]
    simp only []
    rw [if_pos ⟨by show IntKind.i64.min ≤ _; rw [show IntKind.i64.min = -9223372036854775808 from by decide]; exact hr.1, by show _ ≤ IntKind.i64.max; rw [show IntKind.i64.max = 9223372036854775807 from by decide]; exact hr.2⟩]
  have hc : ∀ w, (convert 36 2 (.float .f64 b)).run Try.prog w = .ok (.int .i64 (Fl.wVal b)) w := fun w =>
    run_convert_float_int w 36 2 .f64 .i64 b _ (by kernel_rfl) (by kernel_rfl) hv
  unfold Fl.wOk at hw
  have F := Lib.hid h
  have N := Lib.hid hn
  have hw1 : Fl.isW b = true := by cases c : Fl.isW b <;> simp_all
  have hw2 : decide (Fl.rank b < -Fl.LIM) = false := by cases c : decide (Fl.rank b < -Fl.LIM) <;> simp_all
  have hw3 : decide (Fl.rank b < Fl.LIM) = true := by cases c : decide (Fl.rank b < Fl.LIM) <;> simp_all
  have T1 : (FloatKind.f64.format.order (Fl.truncB b) b != some Ordering.eq) = false := by rw [fcmp, t1, hw1]; rfl
  have T2 : (FloatKind.f64.format.order b 14114281232179134464 == some Ordering.lt) = false := by rw [fcmp, t2, hw2]
  have T3 : (FloatKind.f64.format.order b 4890909195324358656 == some Ordering.gt || FloatKind.f64.format.order b 4890909195324358656 == some Ordering.eq) = false := by rw [fcmp, t3, hw3]; rfl
  clear h hn hw t1 t2 t3 hr hE hv hw1 hw2 hw3
  go_enter Try.func38, Try.ntmps38
  go_wp2_with fail
  refine (trunc_num b F.out N.out _).mono ?_
  rintro e w1 ⟨rfl, rfl⟩
  go_wp2
  go_ret2
  exact ⟨rfl, rfl⟩

end Go.Proofs.Ytoljhoabbaigdaa
