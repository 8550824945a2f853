/- What each function of layer 1 and of its reference answers, walked: places, orders, the next one. -/
import Derived.Test.YtpafnjdaiagdiaaWk
namespace Go.Proofs.Ytpafnjdaiagdiaa
open Go.RowKit

/-- cloisonneref01.Place -/
theorem rplace (b : Nat) (hb : Fl.Fits b) (w : World) : Calls Try.prog 37 #[.float .f64 b] w fun e w' => e = .returned (.int .u64 (Fl.place b : Nat)) ∧ w = w' := by
  cases hn : Fl.nanB b
  · have h1 := hb.lt
    have hsz : Fl.place b = if Fl.neg b then 9218868437227405312 - (eOf b * 4503599627370496 + fOf b) else 9218868437227405313 + (eOf b * 4503599627370496 + fOf b) := by
      unfold Fl.place; rw [hn, Fl.INF_eq, Fl.S63_eq, Fl.neg_iff hb]; unfold eOf fOf
      simp only [Bool.false_eq_true, if_false]
      by_cases hs : 9223372036854775808 ≤ b
      · simp only [hs, decide_true, if_true]; omega
      · simp only [hs, decide_false, Bool.false_eq_true, if_false]; omega
    have k0 : eOf b < 2048 := by unfold eOf; omega
    have k1 : fOf b < 4503599627370496 := by unfold fOf; omega
    have k2 : eOf b * 4503599627370496 + fOf b ≤ 9218868437227405312 := by
      rw [Fl.nanB_iff] at hn; simp at hn; unfold eOf fOf; omega
    have H0 := Lib.hid hsz
    have H2 := Lib.hid k2
    have G := Lib.hid hb
    have GN := Lib.hid hn
    clear h1 hsz k2 hb hn
    cases hs : Fl.neg b
    all_goals
      have GS := Lib.hid hs
      clear hs
      go_enter Try.func37, Try.ntmps37
      go_wp2_with fail
      refine (rnan b G.out _).mono ?_
      rintro e w' ⟨rfl, rfl⟩
      rw [GN.out]
      go_wp2_with fail
      refine (parts b G.out _).mono ?_
      rintro e w' ⟨rfl, rfl⟩
      rw [GS.out]
      go_wp2
      go_ret
      refine ⟨ret_int ?_, rfl⟩
      rw [H0.out, GS.out]
      have g2 := H2.out
      clear H0 H2 G GN GS
      simp only [if_true, Bool.false_eq_true, if_false, IntKind.wrap_u64]; omega
  · have H0 := Lib.hid (show Fl.place b = 18437736874454810626 by unfold Fl.place; rw [hn]; rfl)
    have GN := Lib.hid hn
    clear hn
    go_enter Try.func37, Try.ntmps37
    go_wp2_with fail
    refine (rnan b hb _).mono ?_
    rintro e w' ⟨rfl, rfl⟩
    rw [GN.out]
    go_wp2
    go_ret
    exact ⟨ret_int (by rw [H0.out]; rfl), rfl⟩

theorem ret_fi {a a' : Nat} {c c' : Int} (h1 : a = a') (h2 : c = c') : Ending.returned (.tuple #[.float .f64 a, .int .i64 c]) = .returned (.tuple #[.float .f64 a', .int .i64 c']) := by rw [h1, h2]
theorem ret_fb {a a' : Nat} {c c' : Bool} (h1 : a = a') (h2 : c = c') : Ending.returned (.tuple #[.float .f64 a, .bool c]) = .returned (.tuple #[.float .f64 a', .bool c']) := by rw [h1, h2]

def cmpI (x y : Nat) : Int := if x < y then -1 else if y < x then 1 else 0

theorem ord_facts (a b : Nat) (ha : Fl.Fits a) (hb : Fl.Fits b) (na : Fl.nanB a = false) (nb : Fl.nanB b = false) :
    (Ieee.double.order a b == some .eq) = decide (Fl.rank a = Fl.rank b) ∧ (Ieee.double.order a b == some .lt) = decide (Fl.rank a < Fl.rank b)
    ∧ decide (Fl.place a < Fl.place b) = if Fl.rank a = Fl.rank b then (Fl.cls a == 4 && Fl.cls b == 5) else decide (Fl.rank a < Fl.rank b) := by
  have h1 : ¬ Fl.INF < a % Fl.S63 := by unfold Fl.nanB at na; simpa using na
  have h2 : ¬ Fl.INF < b % Fl.S63 := by unfold Fl.nanB at nb; simpa using nb
  have ho := Fl.order_eq a b h1 h2
  refine ⟨?_, ?_, ?_⟩
  · rw [ho, Int.compare_eq_ite_lt]
    by_cases h : Fl.rank a = Fl.rank b
    · rw [h]; simp
    · rw [Bool.eq_iff_iff]; simp [h]; split <;> (repeat' split) <;> first | (simp; done) | (simp; omega)
  · rw [ho, Int.compare_eq_ite_lt]
    by_cases h : Fl.rank a < Fl.rank b
    · simp [h]
    · rw [Bool.eq_iff_iff]; simp [h]; split <;> simp
  · have u1 := Fl.ucr_range (a % Fl.S63)
    have u2 := Fl.ucr_range (b % Fl.S63)
    have z1 : Fl.ucr (a % Fl.S63) = 5 ↔ a % Fl.S63 = 0 := by unfold Fl.ucr; (repeat' split) <;> simp_all
    have z2 : Fl.ucr (b % Fl.S63) = 5 ↔ b % Fl.S63 = 0 := by unfold Fl.ucr; (repeat' split) <;> simp_all
    have l1 := ha.lt
    have l2 := hb.lt
    unfold Fl.place Fl.cls Fl.rank
    rw [na, nb, Fl.neg_iff ha, Fl.neg_iff hb]
    rw [Fl.INF_eq, Fl.S63_eq] at *
    generalize Fl.ucr (a % 9223372036854775808) = ua at *
    generalize Fl.ucr (b % 9223372036854775808) = ub at *
    simp only [Bool.false_eq_true, if_false]
    by_cases s1 : 9223372036854775808 ≤ a <;> by_cases s2 : 9223372036854775808 ≤ b
    all_goals
      simp only [s1, s2, decide_true, decide_false, Bool.false_eq_true, if_true, if_false]
      rw [Bool.eq_iff_iff]
      split <;> simp <;> omega

end Go.Proofs.Ytpafnjdaiagdiaa
