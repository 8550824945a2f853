/- What the reference's Whole answers, walked. -/
import Derived.Test.YtoljhoabbaigdaaWhw
namespace Go.Proofs.Ytoljhoabbaigdaa
open Go.RowKit

/-- what the reference tells -/
def SomeW (b : Nat) (w : World) (e : Ending) (w' : World) : Prop := ∃ n : Int, e = .returned (.tuple #[.int .i64 n, .bool (Fl.wOk b)]) ∧ (Fl.wOk b = true → n = Fl.wVal b) ∧ w = w'

theorem mod_pow_succ (m k : Nat) (h : m % 2 ^ k = 0) : m % 2 ^ (k + 1) = 0 ↔ m / 2 ^ k % 2 = 0 := by
  have hp : 0 < 2 ^ k := Nat.two_pow_pos k
  have hd := Nat.div_add_mod m (2 ^ k)
  rw [h, Nat.add_zero] at hd
  generalize m / 2 ^ k = q at *
  rw [← hd, Nat.pow_succ, Nat.mul_mod_mul_left]
  constructor
  · intro h1
    rcases Nat.mul_eq_zero.1 h1 with h2 | h2
    · omega
    · exact h2
  · intro h1; rw [h1]; rfl

theorem mod_pow_le (m j k : Nat) (h : m % 2 ^ k = 0) (hj : j ≤ k) : m % 2 ^ j = 0 := by
  have : 2 ^ j ∣ m := Nat.dvd_trans (Nat.pow_dvd_pow 2 hj) (Nat.dvd_of_mod_eq_zero h)
  exact Nat.mod_eq_zero_of_dvd this

theorem wOk_iff (b : Nat) (h : Fl.Fits b) : Fl.wOk b = (decide (Fl.E b = 0 ∧ Fl.F b = 0) || decide (1023 ≤ Fl.E b ∧ Fl.E b < 1075 ∧ Fl.M b % 2 ^ (1075 - Fl.E b) = 0) || decide (1075 ≤ Fl.E b ∧ Fl.E b ≤ 1085) || decide (Fl.E b = 1086 ∧ Fl.F b = 0 ∧ Fl.neg b = true)) := by
  have hr := Fl.rung_eq h
  have hF : Fl.F b < 4503599627370496 := by unfold Fl.F; omega
  rw [Bool.eq_iff_iff]
  constructor
  · intro hw
    have hE := Fl.wOk_E h hw
    unfold Fl.wOk Fl.isW at hw
    simp at hw ⊢
    obtain ⟨h1, h2⟩ := hw
    rcases hE with c | c
    · rcases h1 with (h1 | h1) | h1
      · exact Or.inl (Or.inr ⟨h1, c⟩)
      · by_cases hc : Fl.E b < 1075
        · exact Or.inl (Or.inl (Or.inr ⟨h1.1, hc, h1.2⟩))
        · exact Or.inl (Or.inr ⟨by omega, c⟩)
      · exact Or.inl (Or.inl (Or.inl h1))
    · exact Or.inr c
  · intro hw
    simp at hw
    unfold Fl.wOk Fl.isW Fl.LIM Fl.rank
    rw [hr]
    have hw' : Fl.E b ≤ 1085 ∨ (Fl.E b = 1086 ∧ Fl.F b = 0 ∧ Fl.neg b = true) := by
      rcases hw with ((c | c) | c) | c
      · exact Or.inl (by omega)
      · exact Or.inl (by omega)
      · exact Or.inl (by omega)
      · exact Or.inr c
    simp only [Bool.and_eq_true, Bool.or_eq_true, decide_eq_true_eq, Bool.not_eq_true', decide_eq_false_iff_not]
    refine ⟨?_, ?_, ?_⟩
    · rcases hw with ((c | c) | c) | c
      · exact Or.inr c
      · exact Or.inl (Or.inr ⟨c.1, c.2.2⟩)
      · exact Or.inl (Or.inl c.1)
      · exact Or.inl (Or.inl (by omega))
    · rcases hw' with c | ⟨c1, c2, c3⟩
      · split <;> omega
      · rw [c3]; simp; omega
    · rcases hw' with c | ⟨c1, c2, c3⟩
      · split <;> omega
      · rw [c3]; simp; omega

/-- the reference's Whole where the exponent is none of a whole number's -/
theorem rwhole_far (b : Nat) (h : Fl.Fits b) (hE : Fl.E b < 1023 ∨ 1086 < Fl.E b) (w : World) : Calls Try.prog 19 #[.float .f64 b] w (SomeW b w) := by
  have hw := wOk_iff b h
  have F := Lib.hid h
  by_cases h0 : Fl.E b = 0 ∧ Fl.F b = 0
  · have hok : Fl.wOk b = true := by rw [hw]; simp only [Bool.or_eq_true, decide_eq_true_eq]; exact Or.inl (Or.inl (Or.inl h0))
    have hv : Fl.wVal b = 0 := by unfold Fl.wVal Fl.mag; rw [if_pos h0.1]; simp
    have T1 : ((eOf b : Int) == 0) = true := by have : eOf b = 0 := h0.1; simp [this]
    have T2 : ((fOf b : Int) == 0) = true := by have : fOf b = 0 := h0.2; simp [this]
    have O := Lib.hid hok
    have V := Lib.hid hv
    clear hw h h0 hok hv hE
    go_enter Try.func19, Try.ntmps19
    go_wp2_with fail
    refine (parts b F.out _).mono ?_
    rintro e w' ⟨rfl, rfl⟩
    go_wp2
    go_ret2
    exact ⟨0, ret_ib rfl O.out.symm, fun _ => V.out.symm, rfl⟩
  · have hok : Fl.wOk b = false := by rw [hw]; simp; omega
    have O := Lib.hid hok
    rcases hE with c | c
    · have T3 : decide ((eOf b : Int) < 1023) = true := by have : eOf b < 1023 := c; simp; omega
      by_cases h1 : Fl.E b = 0
      · have T1 : ((eOf b : Int) == 0) = true := by have : eOf b = 0 := h1; simp [this]
        have T2 : ((fOf b : Int) == 0) = false := by have : ¬ fOf b = 0 := fun x => h0 ⟨h1, x⟩; simp; omega
        clear hw h h0 hok h1 c
        go_enter Try.func19, Try.ntmps19
        go_wp2_with fail
        refine (parts b F.out _).mono ?_
        rintro e w' ⟨rfl, rfl⟩
        go_wp2
        go_ret2
        exact ⟨0, ret_ib rfl O.out.symm, (fun x => by rw [O.out] at x; cases x), rfl⟩
      · have T1 : ((eOf b : Int) == 0) = false := by have : ¬ eOf b = 0 := h1; simp; omega
        clear hw h h0 hok h1 c
        go_enter Try.func19, Try.ntmps19
        go_wp2_with fail
        refine (parts b F.out _).mono ?_
        rintro e w' ⟨rfl, rfl⟩
        go_wp2
        go_ret2
        exact ⟨0, ret_ib rfl O.out.symm, (fun x => by rw [O.out] at x; cases x), rfl⟩
    · have T3 : decide ((eOf b : Int) < 1023) = false := by have : 1086 < eOf b := c; simp; omega
      have T4 : decide ((1086 : Int) < eOf b) = true := by have : 1086 < eOf b := c; simp; omega
      have T1 : ((eOf b : Int) == 0) = false := by have : 1086 < eOf b := c; simp; omega
      clear hw h h0 hok c
      go_enter Try.func19, Try.ntmps19
      go_wp2_with fail
      refine (parts b F.out _).mono ?_
      rintro e w' ⟨rfl, rfl⟩
      go_wp2
      go_ret2
      exact ⟨0, ret_ib rfl O.out.symm, (fun x => by rw [O.out] at x; cases x), rfl⟩

set_option maxHeartbeats 1000000 in
set_option maxRecDepth 100000 in
/-- the reference's Whole where the point stands within the fraction -/
theorem rwhole_mid (b : Nat) (h : Fl.Fits b) (h1 : 1023 ≤ Fl.E b) (h2 : Fl.E b < 1075) (w : World) : Calls Try.prog 19 #[.float .f64 b] w (SomeW b w) := by
  have hw := wOk_iff b h
  have hq : (Fl.wOk b = true ↔ Fl.M b % 2 ^ (1075 - Fl.E b) = 0) := by
    rw [hw]; simp only [Bool.or_eq_true, decide_eq_true_eq]
    constructor
    · rintro (((c | c) | c) | c)
      · omega
      · exact c.2.2
      · omega
      · omega
    · intro c; exact Or.inl (Or.inl (Or.inr ⟨h1, h2, c⟩))
  have hv : Fl.wVal b = if Fl.neg b then -((Fl.M b / 2 ^ (1075 - Fl.E b) : Nat) : Int) else ((Fl.M b / 2 ^ (1075 - Fl.E b) : Nat) : Int) := by
    have g1 : ¬ Fl.E b = 0 := by omega
    have g2 : ¬ 1075 ≤ Fl.E b := by omega
    unfold Fl.wVal Fl.mag; simp only [g1, g2, if_false]
  have hM : Fl.M b < 9007199254740992 := by unfold Fl.M Fl.F; omega
  have hm : fOf b + 4503599627370496 = Fl.M b := rfl
  have he : eOf b = Fl.E b := rfl
  have F := Lib.hid h
  have Q := Lib.hid hq
  have V := Lib.hid hv
  generalize Fl.M b = m at *
  generalize hE : Fl.E b = x at *
  have T0 : ((x : Int) == 0) = false := by simp; omega
  have T1 : decide ((x : Int) < 1023) = false := by simp; omega
  have T2 : decide ((1086 : Int) < x) = false := by simp; omega
  have MM := Lib.hid hm
  have EE := Lib.hid he
  have mM := Lib.hid hM
  have X1 := Lib.hid h1
  have k1 : (x : Int) < 1075 := by omega
  have hf : fOf b < 4503599627370496 := by unfold fOf; omega
  have MI := Lib.hid (show (fOf b : Int) + 4503599627370496 = ((m : Nat) : Int) by omega)
  clear h hq hv hw hm he hE hM h1 h2
  cases hs : Fl.neg b
  all_goals
    have S := Lib.hid hs
    clear hs
    go_enter Try.func19, Try.ntmps19
    go_wp2_with fail
    refine (parts b F.out _).mono ?_
    rintro e w' ⟨rfl, rfl⟩
    rw [EE.out, S.out]
    go_wp2_with fail
    rw [MI.out]
    go_loop [7, 8] (fun a i => ∃ j : Nat, j ≤ 1075 - x ∧ m % 2 ^ j = 0 ∧ i = .int .u64 ((x + j : Nat) : Int) ∧ a = .int .u64 ((m / 2 ^ j : Nat) : Int)) (fun _ i => 1075 - (intOf i).toNat)
    case atStart => exact ⟨0, by omega, by rw [Nat.pow_zero]; exact Nat.mod_one _, rfl, by rw [Nat.pow_zero, Nat.div_one]⟩
    case round =>
      obtain ⟨j, hj, hmod, rfl, rfl⟩ := hrel
      have hlt2 : m / 2 ^ j ≤ m := Nat.div_le_self _ _
      have hms := mod_pow_succ m j hmod
      have hds : m / 2 ^ (j + 1) = m / 2 ^ j / 2 := by rw [Nat.pow_succ, Nat.div_div_eq_div_mul]
      have hq2 := mod_pow_le m (j + 1) (1075 - x)
      have x1 := X1.out
      have hmM := mM.out
      by_cases hlt : j < 1075 - x
      · have T5 : ((x + j : Nat) : Int) < 1075 := by omega
        generalize hqq : m / 2 ^ j = q at *
        have HM := Lib.hid hmod
        have HS := Lib.hid hms
        have HD := Lib.hid hds
        have H2 := Lib.hid hq2
        have QQ := Lib.hid hqq
        have hq3 : (q : Int) < 9007199254740992 := by omega
        clear hmod hms hds hq2 hqq hlt2 hmM
        generalize hy : x + j = y at *
        have Y := Lib.hid hy
        clear hy
        by_cases hodd : q % 2 = 1
        · have T6 : ((q : Int) % 2 == 1) = true := by simp; omega
          have O := Lib.hid hodd
          clear hodd
          have hno : Fl.wOk b = false := by
            cases c : Fl.wOk b
            · rfl
            · exfalso
              have g1 := HS.out.1 (H2.out (Q.out.1 c) (by omega))
              have g2 := O.out
              omega
          have NO := Lib.hid hno
          clear hno
          go_wp2
          go_ret2
          exact ⟨0, ret_ib rfl NO.out.symm, (fun c => by rw [NO.out] at c; cases c), rfl⟩
        · have T6 : ((q : Int) % 2 == 1) = false := by simp; omega
          have O := Lib.hid hodd
          clear hodd
          go_wp2
          have yy := Y.out
          refine ⟨⟨j + 1, by omega, HS.out.2 (by have := O.out; omega), congrArg (Value.int .u64) (by omega), congrArg (Value.int .u64) (by rw [HD.out]; omega)⟩, ?_⟩
          simp [intOf]; omega
      · have hje : j = 1075 - x := by omega
        have T5 : ((x + j : Nat) : Int) = 1075 := by omega
        have hok : Fl.wOk b = true := Q.out.2 (by rw [← hje]; exact hmod)
        have hval := V.out
        rw [S.out, ← hje] at hval
        generalize hqq : m / 2 ^ j = q at *
        rw [T5]
        have OK := Lib.hid hok
        have HV := Lib.hid hval
        have QM := Lib.hid (show q < 9007199254740992 by omega)
        have x2 : (x : Int) < 1075 := k1
        clear hmod hlt2 hms hds hq2 hmM hje hok hval hqq T5 hlt hj x1
        go_wp2_with fail
        go_rounds 2
        go_ret2
        have qm := QM.out
        refine ⟨_, ret_ib rfl ?_, fun _ => ?_, rfl⟩
        · rw [OK.out]; simp; omega
        · rw [HV.out]; simp only [Bool.false_eq_true, if_false, if_true, wrap64, IntKind.wrap_u64]; omega

set_option maxHeartbeats 1000000 in
set_option maxRecDepth 100000 in
/-- the reference's Whole where the point stands behind the fraction -/
theorem rwhole_up (b : Nat) (h : Fl.Fits b) (h1 : 1075 ≤ Fl.E b) (h2 : Fl.E b ≤ 1086) (w : World) : Calls Try.prog 19 #[.float .f64 b] w (SomeW b w) := by
  have hw := wOk_iff b h
  have hv : Fl.wVal b = if Fl.neg b then -((Fl.M b * 2 ^ (Fl.E b - 1075) : Nat) : Int) else ((Fl.M b * 2 ^ (Fl.E b - 1075) : Nat) : Int) := by
    have g1 : ¬ Fl.E b = 0 := by omega
    unfold Fl.wVal Fl.mag; simp only [g1, h1, if_false, if_true]
  have hM : Fl.M b < 9007199254740992 := by unfold Fl.M Fl.F; omega
  have hM1 : 4503599627370496 ≤ Fl.M b := by unfold Fl.M; omega
  have hm : fOf b + 4503599627370496 = Fl.M b := rfl
  have hq : (Fl.wOk b = true ↔ (Fl.E b ≤ 1085 ∨ (Fl.M b = 4503599627370496 ∧ Fl.neg b = true))) := by
    rw [hw]; simp only [Bool.or_eq_true, decide_eq_true_eq]
    unfold Fl.M at *
    constructor
    · rintro (((c | c) | c) | c)
      · omega
      · omega
      · exact Or.inl c.2
      · exact Or.inr ⟨by omega, c.2.2⟩
    · rintro (c | c)
      · exact Or.inl (Or.inr ⟨h1, c⟩)
      · by_cases c2 : Fl.E b ≤ 1085
        · exact Or.inl (Or.inr ⟨h1, c2⟩)
        · exact Or.inr ⟨by omega, by omega, c.2⟩
  have he : eOf b = Fl.E b := rfl
  have F := Lib.hid h
  have Q := Lib.hid hq
  have V := Lib.hid hv
  generalize Fl.M b = m at *
  generalize hE : Fl.E b = x at *
  have T0 : ((x : Int) == 0) = false := by simp; omega
  have T1 : decide ((x : Int) < 1023) = false := by simp; omega
  have T2 : decide ((1086 : Int) < x) = false := by simp; omega
  have T3 : ¬ (x : Int) < 1075 := by omega
  have EE := Lib.hid he
  have mM := Lib.hid hM
  have mM1 := Lib.hid hM1
  have X1 := Lib.hid h1
  have X2 := Lib.hid h2
  have hf : fOf b < 4503599627370496 := by unfold fOf; omega
  have MI := Lib.hid (show (fOf b : Int) + 4503599627370496 = ((m : Nat) : Int) by omega)
  clear h hq hv hw hm he hE hM hM1 h1 h2
  cases hs : Fl.neg b
  all_goals
    have S := Lib.hid hs
    clear hs
    go_enter Try.func19, Try.ntmps19
    go_wp2_with fail
    refine (parts b F.out _).mono ?_
    rintro e w' ⟨rfl, rfl⟩
    rw [EE.out, S.out]
    go_wp2_with fail
    rw [MI.out]
    go_rounds 2
    go_loop [7, 9] (fun a i => ∃ j : Nat, j ≤ x - 1075 ∧ i = .int .u64 ((1075 + j : Nat) : Int) ∧ a = .int .u64 ((m * 2 ^ j : Nat) : Int)) (fun _ i => x - (intOf i).toNat)
    case atStart => exact ⟨0, by omega, rfl, by rw [Nat.pow_zero, Nat.mul_one]⟩
    case round =>
      obtain ⟨j, hj, rfl, rfl⟩ := hrel
      have x1 := X1.out
      have x2 := X2.out
      have mm := mM.out
      have mm1 := mM1.out
      by_cases hlt : j < x - 1075
      · have T5 : ((1075 + j : Nat) : Int) < x := by omega
        have hp : 2 ^ j ≤ 2 ^ 10 := Nat.pow_le_pow_right (by omega) (by omega)
        have hb : m * 2 ^ j ≤ m * 2 ^ 10 := Nat.mul_le_mul_left _ hp
        have hs2 : m * 2 ^ (j + 1) = m * 2 ^ j * 2 := by rw [Nat.pow_succ, Nat.mul_assoc]
        generalize hqq : m * 2 ^ j = q at *
        have QB := Lib.hid (show q < 9223372036854775808 by omega)
        have HS := Lib.hid hs2
        clear hp hb hs2 hqq mm mm1
        generalize hy : 1075 + j = y at *
        have Y := Lib.hid hy
        clear hy
        go_wp2
        have yy := Y.out
        have qb := QB.out
        refine ⟨⟨j + 1, by omega, congrArg (Value.int .u64) (by omega), congrArg (Value.int .u64) (by rw [HS.out]; (try rw [IntKind.wrap_u64]); omega)⟩, ?_⟩
        simp [intOf]; omega
      · have hje : j = x - 1075 := by omega
        have T5 : ((1075 + j : Nat) : Int) = x := by omega
        have hval := V.out
        rw [S.out, ← hje] at hval
        have hlow : x ≤ 1085 → m * 2 ^ j < 9223372036854775808 := by
          intro c
          have hp : 2 ^ j ≤ 2 ^ 10 := Nat.pow_le_pow_right (by omega) (by omega)
          have hb : m * 2 ^ j ≤ m * 2 ^ 10 := Nat.mul_le_mul_left _ hp
          omega
        have hhigh : ¬ x ≤ 1085 → m * 2 ^ j = m * 2048 := by
          intro c
          have : j = 11 := by omega
          subst this; rfl
        generalize hqq : m * 2 ^ j = q at *
        rw [T5]
        have HV := Lib.hid hval
        have LO := Lib.hid hlow
        have HI := Lib.hid hhigh
        clear hval hlow hhigh hqq T5 hlt hj x1 x2 mm mm1 hje
        go_wp2
        go_ret2
        have lo := LO.out
        have hi := HI.out
        have g1 := mM.out
        have g2 := mM1.out
        have g3 := Q.out
        rw [S.out] at g3
        have hh := HV.out
        simp only [Bool.false_eq_true, if_false, if_true, and_false, or_false, and_true] at g3 hh
        refine ⟨_, ret_ib rfl ?_, fun hk => ?_, rfl⟩
        · rw [Bool.eq_iff_iff, g3]; simp only [decide_eq_true_eq]; omega
        · have g4 := g3.1 hk
          rw [hh]; simp only [wrap64, IntKind.wrap_u64]; omega

end Go.Proofs.Ytoljhoabbaigdaa
