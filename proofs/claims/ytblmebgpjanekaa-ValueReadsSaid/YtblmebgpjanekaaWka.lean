/- What each function of layer 1 and of its reference answers, walked: places, orders, the next one. -/
import Derived.Test.YtblmebgpjanekaaWk
namespace Go.Proofs.Ytblmebgpjanekaa
open Go.RowKit

/-- cloisonneref01.Place -/
theorem rplace (b : Nat) (hb : Fl.Fits b) (w : World) : Calls Try.prog 37 #[.float .f64 b] w fun e w' => e = .returned (.int .u64 (Fl.place b : Nat)) ∧ w = w' := by
  cases hn : Fl.nanB b
  · have h1 := hb.lt
    have hsz : Fl.place b = if Fl.neg b then 9218868437227405312 - (eOf b * 4503599627370496 + fOf b) else 9218868437227405313 + (eOf b * 4503599627370496 + fOf b) := by
      unfold Fl.place; rw [hn, Fl.INF_eq, Fl.S63_eq, Fl.neg_iff hb]; unfold eOf fOf
      simp only [Bool.false_eq_true, if_false]
      by_cases hs : 9223372036854775808 ≤ b
      · simp only [hs, decide_true, if_true]; omega
      · simp only [hs, decide_false, Bool.false_eq_true, if_false]; omega
    have k0 : eOf b < 2048 := by unfold eOf; omega
    have k1 : fOf b < 4503599627370496 := by unfold fOf; omega
    have k2 : eOf b * 4503599627370496 + fOf b ≤ 9218868437227405312 := by
      rw [Fl.nanB_iff] at hn; simp at hn; unfold eOf fOf; omega
    have H0 := Lib.hid hsz
    have H2 := Lib.hid k2
    have G := Lib.hid hb
    have GN := Lib.hid hn
    clear h1 hsz k2 hb hn
    cases hs : Fl.neg b
    all_goals
      have GS := Lib.hid hs
      clear hs
      go_enter Try.func37, Try.ntmps37
      go_wp2_with fail
      refine (rnan b G.out _).mono ?_
      rintro e w' ⟨rfl, rfl⟩
      rw [GN.out]
      go_wp2_with fail
      refine (parts b G.out _).mono ?_
      rintro e w' ⟨rfl, rfl⟩
      rw [GS.out]
      go_wp2
      go_ret
      refine ⟨ret_int ?_, rfl⟩
      rw [H0.out, GS.out]
      have g2 := H2.out
      clear H0 H2 G GN GS
      simp only [if_true, Bool.false_eq_true, if_false, IntKind.wrap_u64]; omega
  · have H0 := Lib.hid (show Fl.place b = 18437736874454810626 by unfold Fl.place; rw [hn]; rfl)
    have GN := Lib.hid hn
    clear hn
    go_enter Try.func37, Try.ntmps37
    go_wp2_with fail
    refine (rnan b hb _).mono ?_
    rintro e w' ⟨rfl, rfl⟩
    rw [GN.out]
    go_wp2
    go_ret
    exact ⟨ret_int (by rw [H0.out]; rfl), rfl⟩

theorem ret_fi {a a' : Nat} {c c' : Int} (h1 : a = a') (h2 : c = c') : Ending.returned (.tuple #[.float .f64 a, .int .i64 c]) = .returned (.tuple #[.float .f64 a', .int .i64 c']) := by rw [h1, h2]
theorem ret_fb {a a' : Nat} {c c' : Bool} (h1 : a = a') (h2 : c = c') : Ending.returned (.tuple #[.float .f64 a, .bool c]) = .returned (.tuple #[.float .f64 a', .bool c']) := by rw [h1, h2]

/-- num.At above the NaN's place -/
theorem nat_no (p : Nat) (hp : Fl.NANP < p) (w : World) : Calls Try.prog 36 #[.int .u64 (p : Int)] w fun e w' => e = .returned (.tuple #[.float .f64 0, .int .i64 1]) ∧ w = w' := by
  have T1 : decide ((18437736874454810626 : Int) < p) = true := by unfold Fl.NANP at hp; simp; omega
  clear hp
  go_enter Try.func36, Try.ntmps36
  go_wp2
  go_ret2
  exact ⟨rfl, rfl⟩

/-- num.At -/
theorem nat_yes (p : Nat) (hp : p ≤ Fl.NANP) (w : World) : Calls Try.prog 36 #[.int .u64 (p : Int)] w fun e w' => e = .returned (.tuple #[.float .f64 (Fl.atB p), .int .i64 0]) ∧ w = w' := by
  have hnb := Fl.nanB_atB hp
  unfold Fl.NANP at hp hnb
  have T0 : decide ((18437736874454810626 : Int) < p) = false := by simp; omega
  by_cases t1 : p = 18437736874454810626
  · subst t1
    clear T0
    go_enter Try.func36, Try.ntmps36
    go_wp2_with fail
    refine (nfrom _ _).mono ?_
    rintro e w' ⟨rfl, rfl⟩
    go_wp2
    go_ret2
    exact ⟨ret_fi (by decide) rfl, rfl⟩
  · have T1 : ((p : Int) == 18437736874454810626) = false := by simp; omega
    have hbo : Fl.bitsOf (Fl.atB p) = Fl.atB p := by unfold Fl.bitsOf; rw [hnb]; simp [t1]
    by_cases t2 : 9218868437227405313 ≤ p
    · have T2 : decide ((9218868437227405313 : Int) ≤ p) = true := by simp; omega
      have ha : Fl.atB p = ((p : Int) - 9218868437227405313).toNat := by
        unfold Fl.atB Fl.NANP; rw [if_neg t1, Fl.INF_eq, if_pos (by omega)]; omega
      have HB := Lib.hid hbo
      have HA := Lib.hid ha
      have k : 0 ≤ (p : Int) - 9218868437227405313 := by omega
      have k2 : (p : Int) - 9218868437227405313 ≤ 9218868437227405313 := by omega
      clear hbo ha hnb t1 t2 hp
      go_enter Try.func36, Try.ntmps36
      go_wp2_with fail
      refine (nfrom _ _).mono ?_
      rintro e w' ⟨rfl, rfl⟩
      go_wp2
      go_ret2
      exact ⟨ret_fi (by rw [← HB.out, HA.out]) rfl, rfl⟩
    · have T2 : decide ((9218868437227405313 : Int) ≤ p) = false := by simp; omega
      have ha : Fl.atB p = (9223372036854775808 + (9218868437227405312 - (p : Int))).toNat := by
        unfold Fl.atB Fl.NANP; rw [if_neg t1, Fl.INF_eq, if_neg (by omega), Fl.S63_eq]; omega
      have HB := Lib.hid hbo
      have HA := Lib.hid ha
      have k : 0 ≤ 9218868437227405312 - (p : Int) := by omega
      have k2 : 9218868437227405312 - (p : Int) ≤ 9218868437227405312 := by omega
      clear hbo ha hnb t1 t2 hp
      go_enter Try.func36, Try.ntmps36
      go_wp2_with fail
      refine (nfrom _ _).mono ?_
      rintro e w' ⟨rfl, rfl⟩
      go_wp2
      go_ret2
      exact ⟨ret_fi (by rw [← HB.out, HA.out]) rfl, rfl⟩

/-- cloisonneref01.At above the NaN's place -/
theorem rat_no (p : Nat) (hp : Fl.NANP < p) (w : World) : Calls Try.prog 38 #[.int .u64 (p : Int)] w fun e w' => e = .returned (.tuple #[.float .f64 0, .bool false]) ∧ w = w' := by
  have T1 : decide ((18437736874454810626 : Int) < p) = true := by unfold Fl.NANP at hp; simp; omega
  clear hp
  go_enter Try.func38, Try.ntmps38
  go_wp2
  go_ret2
  exact ⟨rfl, rfl⟩

/-- cloisonneref01.At -/
theorem rat_yes (p : Nat) (hp : p ≤ Fl.NANP) (w : World) : Calls Try.prog 38 #[.int .u64 (p : Int)] w fun e w' => e = .returned (.tuple #[.float .f64 (Fl.atB p), .bool true]) ∧ w = w' := by
  unfold Fl.NANP at hp
  have T0 : decide ((18437736874454810626 : Int) < p) = false := by simp; omega
  by_cases t1 : p = 18437736874454810626
  · subst t1
    clear T0
    go_enter Try.func38, Try.ntmps38
    go_wp2
    go_ret2
    exact ⟨ret_fb (by decide) rfl, rfl⟩
  · have T1 : ((p : Int) == 18437736874454810626) = false := by simp; omega
    by_cases t2 : 9218868437227405313 ≤ p
    · have T2 : decide ((9218868437227405313 : Int) ≤ p) = true := by simp; omega
      have ha : Fl.atB p = ((p : Int) - 9218868437227405313).toNat := by
        unfold Fl.atB Fl.NANP; rw [if_neg t1, Fl.INF_eq, if_pos (by omega)]; omega
      have HA := Lib.hid ha
      have k : 0 ≤ (p : Int) - 9218868437227405313 := by omega
      have k2 : (p : Int) - 9218868437227405313 ≤ 9218868437227405313 := by omega
      clear ha t1 t2 hp
      go_enter Try.func38, Try.ntmps38
      go_wp2
      go_ret2
      exact ⟨ret_fb (by rw [HA.out]; omega) rfl, rfl⟩
    · have T2 : decide ((9218868437227405313 : Int) ≤ p) = false := by simp; omega
      have ha : Fl.atB p = (9223372036854775808 + (9218868437227405312 - (p : Int))).toNat := by
        unfold Fl.atB Fl.NANP; rw [if_neg t1, Fl.INF_eq, if_neg (by omega), Fl.S63_eq]; omega
      have HA := Lib.hid ha
      have k : 0 ≤ 9218868437227405312 - (p : Int) := by omega
      have k2 : 9218868437227405312 - (p : Int) ≤ 9218868437227405312 := by omega
      clear ha t1 t2 hp
      go_enter Try.func38, Try.ntmps38
      go_wp2
      go_ret2
      exact ⟨ret_fb (by rw [HA.out]; omega) rfl, rfl⟩

def cmpI (x y : Nat) : Int := if x < y then -1 else if y < x then 1 else 0

/-- cmp.Compare at uint64 -/
theorem ncmp (x y : Nat) (w : World) : Calls Try.prog 41 #[.int .u64 (x : Int), .int .u64 (y : Int)] w fun e w' => e = .returned (.int .i64 (cmpI x y)) ∧ w = w' := by
  have T0 : ((x : Int) != x) = false := by simp
  have T1 : ((y : Int) != y) = false := by simp
  go_enter Try.func41, Try.ntmps41
  go_wp2
  all_goals (go_ret; refine ⟨ret_int ?_, rfl⟩; unfold cmpI; (repeat' split) <;> first | rfl | omega)

/-- num.Order -/
theorem norder (a b : Nat) (ha : Fl.Fits a) (hb : Fl.Fits b) (w : World) : Calls Try.prog 31 #[.float .f64 a, .float .f64 b] w fun e w' => e = .returned (.int .i64 (cmpI (Fl.place a) (Fl.place b))) ∧ w = w' := by
  go_enter Try.func31, Try.ntmps31
  go_wp2_with fail
  refine (nplace a ha _).mono ?_
  rintro e w' ⟨rfl, rfl⟩
  go_wp2_with fail
  refine (nplace b hb _).mono ?_
  rintro e w' ⟨rfl, rfl⟩
  go_wp2_with fail
  refine (ncmp _ _ _).mono ?_
  rintro e w' ⟨rfl, rfl⟩
  go_wp2
  go_ret
  exact ⟨rfl, rfl⟩

theorem ord_facts (a b : Nat) (ha : Fl.Fits a) (hb : Fl.Fits b) (na : Fl.nanB a = false) (nb : Fl.nanB b = false) :
    (Ieee.double.order a b == some .eq) = decide (Fl.rank a = Fl.rank b) ∧ (Ieee.double.order a b == some .lt) = decide (Fl.rank a < Fl.rank b)
    ∧ decide (Fl.place a < Fl.place b) = if Fl.rank a = Fl.rank b then (Fl.cls a == 4 && Fl.cls b == 5) else decide (Fl.rank a < Fl.rank b) := by
  have h1 : ¬ Fl.INF < a % Fl.S63 := by unfold Fl.nanB at na; simpa using na
  have h2 : ¬ Fl.INF < b % Fl.S63 := by unfold Fl.nanB at nb; simpa using nb
  have ho := Fl.order_eq a b h1 h2
  refine ⟨?_, ?_, ?_⟩
  · rw [ho, Int.compare_eq_ite_lt]
    by_cases h : Fl.rank a = Fl.rank b
    · rw [h]; simp
    · rw [Bool.eq_iff_iff]; simp [h]; split <;> (repeat' split) <;> first | (simp; done) | (simp; omega)
  · rw [ho, Int.compare_eq_ite_lt]
    by_cases h : Fl.rank a < Fl.rank b
    · simp [h]
    · rw [Bool.eq_iff_iff]; simp [h]; split <;> simp
  · have u1 := Fl.ucr_range (a % Fl.S63)
    have u2 := Fl.ucr_range (b % Fl.S63)
    have z1 : Fl.ucr (a % Fl.S63) = 5 ↔ a % Fl.S63 = 0 := by unfold Fl.ucr; (repeat' split) <;> simp_all
    have z2 : Fl.ucr (b % Fl.S63) = 5 ↔ b % Fl.S63 = 0 := by unfold Fl.ucr; (repeat' split) <;> simp_all
    have l1 := ha.lt
    have l2 := hb.lt
    unfold Fl.place Fl.cls Fl.rank
    rw [na, nb, Fl.neg_iff ha, Fl.neg_iff hb]
    rw [Fl.INF_eq, Fl.S63_eq] at *
    generalize Fl.ucr (a % 9223372036854775808) = ua at *
    generalize Fl.ucr (b % 9223372036854775808) = ub at *
    simp only [Bool.false_eq_true, if_false]
    by_cases s1 : 9223372036854775808 ≤ a <;> by_cases s2 : 9223372036854775808 ≤ b
    all_goals
      simp only [s1, s2, decide_true, decide_false, Bool.false_eq_true, if_true, if_false]
      rw [Bool.eq_iff_iff]
      split <;> simp <;> omega

end Go.Proofs.Ytblmebgpjanekaa
