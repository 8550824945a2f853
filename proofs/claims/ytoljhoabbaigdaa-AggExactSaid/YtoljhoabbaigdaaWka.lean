/- What each function of layer 1 and of its reference answers, walked: places, orders, the next one. -/
import Derived.Test.YtoljhoabbaigdaaWk
namespace Go.Proofs.Ytoljhoabbaigdaa
open Go.RowKit

theorem ret_fi {a a' : Nat} {c c' : Int} (h1 : a = a') (h2 : c = c') : Ending.returned (.tuple #[.float .f64 a, .int .i64 c]) = .returned (.tuple #[.float .f64 a', .int .i64 c']) := by rw [h1, h2]
theorem ret_fb {a a' : Nat} {c c' : Bool} (h1 : a = a') (h2 : c = c') : Ending.returned (.tuple #[.float .f64 a, .bool c]) = .returned (.tuple #[.float .f64 a', .bool c']) := by rw [h1, h2]

def cmpI (x y : Nat) : Int := if x < y then -1 else if y < x then 1 else 0

/-- cmp.Compare at uint64 -/
theorem ncmp (x y : Nat) (w : World) : Calls Try.prog 34 #[.int .u64 (x : Int), .int .u64 (y : Int)] w fun e w' => e = .returned (.int .i64 (cmpI x y)) ∧ w = w' := by
  have T0 : ((x : Int) != x) = false := by simp
  have T1 : ((y : Int) != y) = false := by simp
  go_enter Try.func34, Try.ntmps34
  go_wp2
  all_goals (go_ret; refine ⟨ret_int ?_, rfl⟩; unfold cmpI; (repeat' split) <;> first | rfl | omega)

/-- num.Order -/
theorem norder (a b : Nat) (ha : Fl.Fits a) (hb : Fl.Fits b) (w : World) : Calls Try.prog 25 #[.float .f64 a, .float .f64 b] w fun e w' => e = .returned (.int .i64 (cmpI (Fl.place a) (Fl.place b))) ∧ w = w' := by
  go_enter Try.func25, Try.ntmps25
  go_wp2_with fail
  refine (nplace a ha _).mono ?_
  rintro e w' ⟨rfl, rfl⟩
  go_wp2_with fail
  refine (nplace b hb _).mono ?_
  rintro e w' ⟨rfl, rfl⟩
  go_wp2_with fail
  refine (ncmp _ _ _).mono ?_
  rintro e w' ⟨rfl, rfl⟩
  go_wp2
  go_ret
  exact ⟨rfl, rfl⟩

theorem ord_facts (a b : Nat) (ha : Fl.Fits a) (hb : Fl.Fits b) (na : Fl.nanB a = false) (nb : Fl.nanB b = false) :
    (Ieee.double.order a b == some .eq) = decide (Fl.rank a = Fl.rank b) ∧ (Ieee.double.order a b == some .lt) = decide (Fl.rank a < Fl.rank b)
    ∧ decide (Fl.place a < Fl.place b) = if Fl.rank a = Fl.rank b then (Fl.cls a == 4 && Fl.cls b == 5) else decide (Fl.rank a < Fl.rank b) := by
  have h1 : ¬ Fl.INF < a % Fl.S63 := by unfold Fl.nanB at na; simpa using na
  have h2 : ¬ Fl.INF < b % Fl.S63 := by unfold Fl.nanB at nb; simpa using nb
  have ho := Fl.order_eq a b h1 h2
  refine ⟨?_, ?_, ?_⟩
  · rw [ho, Int.compare_eq_ite_lt]
    by_cases h : Fl.rank a = Fl.rank b
    · rw [h]; simp
    · rw [Bool.eq_iff_iff]; simp [h]; split <;> (repeat' split) <;> first | (simp; done) | (simp; omega)
  · rw [ho, Int.compare_eq_ite_lt]
    by_cases h : Fl.rank a < Fl.rank b
    · simp [h]
    · rw [Bool.eq_iff_iff]; simp [h]; split <;> simp
  · have u1 := Fl.ucr_range (a % Fl.S63)
    have u2 := Fl.ucr_range (b % Fl.S63)
    have z1 : Fl.ucr (a % Fl.S63) = 5 ↔ a % Fl.S63 = 0 := by unfold Fl.ucr; (repeat' split) <;> simp_all
    have z2 : Fl.ucr (b % Fl.S63) = 5 ↔ b % Fl.S63 = 0 := by unfold Fl.ucr; (repeat' split) <;> simp_all
    have l1 := ha.lt
    have l2 := hb.lt
    unfold Fl.place Fl.cls Fl.rank
    rw [na, nb, Fl.neg_iff ha, Fl.neg_iff hb]
    rw [Fl.INF_eq, Fl.S63_eq] at *
    generalize Fl.ucr (a % 9223372036854775808) = ua at *
    generalize Fl.ucr (b % 9223372036854775808) = ub at *
    simp only [Bool.false_eq_true, if_false]
    by_cases s1 : 9223372036854775808 ≤ a <;> by_cases s2 : 9223372036854775808 ≤ b
    all_goals
      simp only [s1, s2, decide_true, decide_false, Bool.false_eq_true, if_true, if_false]
      rw [Bool.eq_iff_iff]
      split <;> simp <;> omega

end Go.Proofs.Ytoljhoabbaigdaa
