/- Truncation of a 64-bit float, by its parts: plain arithmetic over Ieee, no Go in sight. -/
import Derived.Test.YtoljhoabbaigdaaNum
namespace Go.Proofs.Ytoljhoabbaigdaa.Fl
open Ieee

theorem cutZ (s : Bool) (n drop : Nat) : Toward.zero.cut s n drop = n / 2 ^ drop := by
  unfold Toward.cut
  simp only [Nat.shiftLeft_eq, Nat.one_mul, Bool.toNat_false, Nat.add_zero]
  rcases Nat.le_total drop (n.log2 + 2) with h | h
  · rw [Nat.min_eq_left h]
  · rw [Nat.min_eq_right h]
    have h1 : n < 2 ^ (n.log2 + 2) := Nat.lt_of_lt_of_le Nat.lt_log2_self (Nat.pow_le_pow_right (by omega) (by omega))
    have h2 : n < 2 ^ drop := Nat.lt_of_lt_of_le h1 (Nat.pow_le_pow_right (by omega) h)
    rw [Nat.div_eq_of_lt h1, Nat.div_eq_of_lt h2]

theorem cutE (s : Bool) (a drop : Nat) (ha : a ≠ 0) : Toward.even.cut s (a * 2 ^ drop) drop = a := by
  have hp : 0 < 2 ^ drop := Nat.two_pow_pos drop
  have hn : a * 2 ^ drop ≠ 0 := by
    have := Nat.mul_pos (Nat.pos_of_ne_zero ha) hp
    omega
  have hl : drop ≤ (a * 2 ^ drop).log2 := by
    rw [Nat.le_log2 hn]
    exact Nat.le_mul_of_pos_left _ (Nat.pos_of_ne_zero ha)
  unfold Toward.cut
  simp only [Nat.shiftLeft_eq, Nat.one_mul]
  rw [Nat.min_eq_left (by omega), Nat.mul_div_cancel _ hp, Nat.mul_mod_left]
  have h1 : ¬ 2 ^ drop < 2 * 0 := by omega
  have h2 : (2 ^ drop == 2 * 0) = false := by simp
  simp [h2]

theorem nearest_zero (s : Bool) (i : Int) : double.nearest s 0 i = double.word s 0 := by
  unfold Format.nearest; rw [if_pos rfl]

/-- a number of 53 digits, 'p' places up: its word -/
theorem nearest_up (s : Bool) (m p : Nat) (h1 : 2 ^ 52 ≤ m) (h2 : m < 2 ^ 53) (hp : p ≤ 971) : double.nearest s (m * 2 ^ p) 0 = double.word s ((p + 1074) * 2 ^ 52 + m) := by
  obtain ⟨c1, c2, c3, c4⟩ := fmt_consts
  have hpp : 0 < 2 ^ p := Nat.two_pow_pos p
  have hm : m * 2 ^ p ≠ 0 := by
    have := Nat.mul_pos (show 0 < m by omega) hpp
    omega
  have hl : (m * 2 ^ p).log2 = 52 + p := by
    rw [Nat.log2_eq_iff hm, Nat.pow_add, show 52 + p + 1 = 53 + p by omega, Nat.pow_add]
    exact ⟨Nat.mul_le_mul_right _ h1, Nat.mul_lt_mul_of_pos_right h2 hpp⟩
  unfold Format.nearest
  rw [if_neg hm, hl, c2, c3, c4]
  have e0 : double.fractionBits = 52 := rfl
  have e1 : max ((0 : Int) + ((52 + p : Nat) : Int) - (double.fractionBits : Int)) (-1074) = p := by rw [e0]; omega
  dsimp only
  rw [e1]
  have e2 : ((0 : Int) - (p : Int)).toNat = 0 := by omega
  have e3 : ((p : Int) - 0).toNat = p := by omega
  have e4 : ((p : Int) - -1074).toNat = p + 1074 := by omega
  rw [e2, e3, e4, Nat.shiftLeft_zero, cutE s m p (by omega)]
  have e5 : (p + 1074) * S52 + m ≤ INF := by rw [S52_eq, INF_eq]; omega
  rw [Nat.min_eq_left e5]
  rfl

/-- a number of 'k + 1' digits with nothing behind the point -/
theorem nearest_down (s : Bool) (a p : Nat) (h1 : 2 ^ 52 ≤ a * 2 ^ p) (h2 : a * 2 ^ p < 2 ^ 53) (hp : p ≤ 52) : double.nearest s a 0 = double.word s ((1074 - p) * 2 ^ 52 + a * 2 ^ p) := by
  obtain ⟨c1, c2, c3, c4⟩ := fmt_consts
  have hpp : 0 < 2 ^ p := Nat.two_pow_pos p
  have ha : a ≠ 0 := by rintro rfl; simp at h1
  have hl : a.log2 = 52 - p := by
    rw [Nat.log2_eq_iff ha]
    have e1 : 2 ^ 52 = 2 ^ (52 - p) * 2 ^ p := by rw [← Nat.pow_add, Nat.sub_add_cancel hp]
    have e2 : 2 ^ 53 = 2 ^ (52 - p + 1) * 2 ^ p := by rw [← Nat.pow_add]; congr 1; omega
    rw [e1] at h1
    rw [e2] at h2
    exact ⟨Nat.le_of_mul_le_mul_right h1 hpp, Nat.lt_of_mul_lt_mul_right h2⟩
  unfold Format.nearest
  rw [if_neg ha, hl, c2, c3, c4]
  have e0 : double.fractionBits = 52 := rfl
  have e1 : max ((0 : Int) + ((52 - p : Nat) : Int) - (double.fractionBits : Int)) (-1074) = -(p : Int) := by rw [e0]; omega
  dsimp only
  rw [e1]
  have e2 : ((0 : Int) - -(p : Int)).toNat = p := by omega
  have e3 : (-(p : Int) - 0).toNat = 0 := by omega
  have e4 : (-(p : Int) - -1074).toNat = 1074 - p := by omega
  rw [e2, e3, e4, Nat.shiftLeft_eq]
  have hc := cutE s (a * 2 ^ p) 0 (by omega)
  rw [Nat.pow_zero, Nat.mul_one] at hc
  rw [hc]
  have e5 : (1074 - p) * S52 + a * 2 ^ p ≤ INF := by rw [S52_eq, INF_eq]; omega
  rw [Nat.min_eq_left e5]
  rfl

/-- the exponent's bits, the fraction's bits, the fraction with its leading one -/
def E (b : Nat) : Nat := b / 4503599627370496 % 2048
def F (b : Nat) : Nat := b % 4503599627370496
def M (b : Nat) : Nat := F b + 4503599627370496

theorem rung_eq {b : Nat} (h : Fits b) : b % S63 = E b * 4503599627370496 + F b := by
  have := h.lt
  unfold E F; rw [S63_eq]; omega

theorem read_sub {b : Nat} (h : Fits b) (he : E b = 0) : double.read b = .number (neg b) (F b) (-1074) := by
  obtain ⟨c1, c2, c3, c4⟩ := fmt_consts
  have hr := rung_eq h
  have hF : F b < 4503599627370496 := by unfold F; omega
  unfold Format.read neg
  rw [c1, c2, c3, c4, hr, he]
  have h1 : 0 * 4503599627370496 + F b < S52 := by rw [S52_eq]; omega
  simp only [h1, if_true]
  rw [Nat.zero_mul, Nat.zero_add]

theorem read_norm {b : Nat} (h : Fits b) (h0 : E b ≠ 0) (h1 : E b < 2047) : double.read b = .number (neg b) (M b) (-1074 + ((E b - 1 : Nat) : Int)) := by
  obtain ⟨c1, c2, c3, c4⟩ := fmt_consts
  have hr := rung_eq h
  have hF : F b < 4503599627370496 := by unfold F; omega
  unfold Format.read neg
  rw [c1, c2, c3, c4, hr]
  have g1 : ¬ E b * 4503599627370496 + F b < S52 := by rw [S52_eq]; omega
  have g2 : E b * 4503599627370496 + F b < INF := by rw [INF_eq]; omega
  simp only [g1, g2, if_true, if_false]
  have g3 : (E b * 4503599627370496 + F b) / S52 = E b := by rw [S52_eq]; omega
  have g4 : S52 + (E b * 4503599627370496 + F b) % S52 = M b := by unfold M; rw [S52_eq]; omega
  rw [g3, g4]

/-- the word of a number cut towards nought -/
def truncB (b : Nat) : Nat :=
  if 1075 ≤ E b then b
  else if 1023 ≤ E b then double.word (neg b) ((E b - 1) * 4503599627370496 + M b / 2 ^ (1075 - E b) * 2 ^ (1075 - E b))
  else double.word (neg b) 0

theorem word_self {b : Nat} (h : Fits b) : double.word (neg b) (b % S63) = b := by
  have := h.lt
  unfold Format.word
  rw [neg_iff h, S63_eq]
  have e : double.signWeight = 9223372036854775808 := by decide
  rw [e]
  split <;> simp_all <;> omega

theorem pow_half {p : Nat} (h : p ≤ 52) : ∃ k, 2 ^ 52 = k * 2 ^ p ∧ 2 ^ 53 = (2 * k) * 2 ^ p ∧ 0 < k := by
  refine ⟨2 ^ (52 - p), ?_, ?_, Nat.two_pow_pos _⟩
  · rw [← Nat.pow_add, Nat.sub_add_cancel h]
  · rw [Nat.mul_assoc, ← Nat.pow_add, Nat.sub_add_cancel h]

theorem trunc_eq {b : Nat} (h : Fits b) (hn : nanB b = false) : double.write ((double.read b).integral .zero) = truncB b := by
  have hr := rung_eq h
  have hF : F b < 4503599627370496 := by unfold F; omega
  have hE : E b < 2048 := by unfold E; omega
  have hM1 : 2 ^ 52 ≤ M b := by unfold M; omega
  have hM2 : M b < 2 ^ 53 := by unfold M; omega
  have big : ∀ k : Nat, 52 ≤ k → F b < 2 ^ k := fun k hk => Nat.lt_of_lt_of_le hF (Nat.pow_le_pow_right (n := 2) (i := 52) (by omega) hk)
  by_cases h0 : E b = 0
  · rw [read_sub h h0]
    unfold Datum.integral Format.write truncB
    simp only []
    rw [if_neg (by omega), if_neg (by omega), cutZ]
    have e1 : (-(-1074 : Int)).toNat = 1074 := by decide
    have e2 : (-1074 : Int).toNat = 0 := by decide
    rw [e1, e2, Nat.shiftLeft_zero, Nat.div_eq_of_lt, nearest_zero]
    exact big 1074 (by omega)
  · by_cases h1 : E b < 2047
    · rw [read_norm h h0 h1]
      unfold Datum.integral Format.write truncB
      simp only []
      rw [cutZ]
      by_cases g1 : 1075 ≤ E b
      · rw [if_pos g1]
        have e1 : (-(-1074 + ((E b - 1 : Nat) : Int))).toNat = 0 := by omega
        have e2 : (-1074 + ((E b - 1 : Nat) : Int)).toNat = E b - 1075 := by omega
        rw [e1, e2, Nat.shiftLeft_eq, Nat.pow_zero, Nat.div_one, nearest_up _ _ _ hM1 hM2 (by omega)]
        have e3 : (E b - 1075 + 1074) * 2 ^ 52 + M b = b % S63 := by rw [hr]; unfold M; omega
        rw [e3, word_self h]
      · rw [if_neg g1]
        have e1 : (-(-1074 + ((E b - 1 : Nat) : Int))).toNat = 1075 - E b := by omega
        have e2 : (-1074 + ((E b - 1 : Nat) : Int)).toNat = 0 := by omega
        rw [e1, e2, Nat.shiftLeft_zero]
        by_cases g2 : 1023 ≤ E b
        · rw [if_pos g2]
          obtain ⟨k, k1, k2, k3⟩ := pow_half (show 1075 - E b ≤ 52 by omega)
          have hp : 0 < 2 ^ (1075 - E b) := Nat.two_pow_pos _
          have a1 : k ≤ M b / 2 ^ (1075 - E b) := by
            rw [Nat.le_div_iff_mul_le hp, ← k1]; exact hM1
          have a2 : M b / 2 ^ (1075 - E b) < 2 * k := by
            rw [Nat.div_lt_iff_lt_mul hp, ← k2]; exact hM2
          have a3 : 2 ^ 52 ≤ M b / 2 ^ (1075 - E b) * 2 ^ (1075 - E b) := by rw [k1]; exact Nat.mul_le_mul_right _ a1
          have a4 : M b / 2 ^ (1075 - E b) * 2 ^ (1075 - E b) < 2 ^ 53 := Nat.lt_of_le_of_lt (Nat.div_mul_le_self _ _) hM2
          rw [nearest_down _ _ _ a3 a4 (by omega)]
          have e3 : 1074 - (1075 - E b) = E b - 1 := by omega
          rw [e3]
        · rw [if_neg g2, Nat.div_eq_of_lt, nearest_zero]
          exact Nat.lt_of_lt_of_le hM2 (Nat.pow_le_pow_right (by omega) (by omega))
    · have hI : b % S63 = INF := by
        unfold nanB at hn
        have hn' : ¬ INF < b % S63 := by simpa using hn
        rw [INF_eq] at *
        omega
      rw [read_inf b hI]
      unfold Datum.integral Format.write truncB
      rw [if_pos (by omega)]
      simp only []
      have e : double.infRung = INF := fmt_consts.2.2.1
      rw [e, ← hI, word_self h]

theorem word_fits (s : Bool) {r : Nat} (hr : r ≤ INF) : Fits (double.word s r) ∧ double.word s r % S63 = r ∧ neg (double.word s r) = s := by
  have e : double.signWeight = 9223372036854775808 := by decide
  rw [INF_eq] at hr
  unfold Format.word neg
  rw [e, S63_eq]
  cases s
  · simp only [Bool.false_eq_true, if_false]
    refine ⟨Fits.mk (by omega), by omega, ?_⟩
    simp; omega
  · simp only [if_true]
    refine ⟨Fits.mk (by omega), by omega, ?_⟩
    simp; omega

/-- is it a whole one? -/
def isW (b : Nat) : Bool := decide (1075 ≤ E b) || (decide (1023 ≤ E b) && decide (M b % 2 ^ (1075 - E b) = 0)) || (decide (E b = 0) && decide (F b = 0))

theorem trunc_same {b : Nat} (h : Fits b) (hn : nanB b = false) : (double.order (truncB b) b != some .eq) = !isW b := by
  have hF : F b < 4503599627370496 := by unfold F; omega
  have hE : E b < 2048 := by unfold E; omega
  have hr := rung_eq h
  have hb : ¬ INF < b % S63 := by unfold nanB at hn; simpa using hn
  have main : ∀ r, r ≤ INF → (double.order (double.word (neg b) r) b != some .eq) = !decide (r = b % S63) := by
    intro r hr1
    obtain ⟨f1, f2, f3⟩ := word_fits (neg b) hr1
    have ho := order_eq (double.word (neg b) r) b (by rw [f2]; omega) hb
    rw [ho]
    unfold rank
    rw [f2, f3, Int.compare_eq_ite_lt]
    generalize b % S63 = q at *
    cases neg b
    all_goals
      simp only [Bool.false_eq_true, if_false, if_true]
      rw [Bool.eq_iff_iff]
      split <;> (repeat' split) <;> simp <;> omega
  unfold truncB isW
  by_cases g1 : 1075 ≤ E b
  · rw [if_pos g1]
    have := main (b % S63) (by omega)
    rw [word_self h] at this
    rw [this]; simp [g1]
  · rw [if_neg g1]
    by_cases g2 : 1023 ≤ E b
    · rw [if_pos g2]
      have hd := Nat.div_add_mod (M b) (2 ^ (1075 - E b))
      rw [Nat.mul_comm] at hd
      generalize M b / 2 ^ (1075 - E b) * 2 ^ (1075 - E b) = x at *
      have hx : x ≤ M b := by omega
      have hq : (E b - 1) * 4503599627370496 + x ≤ INF := by rw [INF_eq]; unfold M at hx; omega
      rw [main _ hq, hr]
      have e3 : M b = F b + 4503599627370496 := rfl
      have e4 : ((E b - 1) * 4503599627370496 + x = E b * 4503599627370496 + F b) ↔ M b % 2 ^ (1075 - E b) = 0 := by omega
      rw [Bool.eq_iff_iff]
      simp [g1, g2, e4]
      intro _; omega
    · rw [if_neg g2, main 0 (Nat.zero_le _), hr]
      have e4 : (0 = E b * 4503599627370496 + F b) ↔ (E b = 0 ∧ F b = 0) := by omega
      rw [Bool.eq_iff_iff]
      simp [g1, g2, e4]

/-- how great it is, cut towards nought; the whole number; whether it is one of 64 bits -/
def mag (b : Nat) : Nat := if E b = 0 then 0 else if 1075 ≤ E b then M b * 2 ^ (E b - 1075) else M b / 2 ^ (1075 - E b)
def wVal (b : Nat) : Int := if neg b then -(mag b : Int) else (mag b : Int)
def LIM : Int := 4890909195324358656
def wOk (b : Nat) : Bool := isW b && (!decide (rank b < -LIM) && decide (rank b < LIM))

theorem toInt_eq {b : Nat} (h : Fits b) (h1 : E b < 2047) : (double.read b).toInt .zero = some (wVal b) := by
  have hF : F b < 4503599627370496 := by unfold F; omega
  have big : ∀ k : Nat, 52 ≤ k → F b < 2 ^ k := fun k hk => Nat.lt_of_lt_of_le hF (Nat.pow_le_pow_right (n := 2) (i := 52) (by omega) hk)
  unfold wVal mag
  by_cases h0 : E b = 0
  · rw [read_sub h h0]
    unfold Datum.toInt Datum.integral
    simp only []
    rw [cutZ]
    have e1 : (-(-1074 : Int)).toNat = 1074 := by decide
    have e2 : (-1074 : Int).toNat = 0 := by decide
    rw [e1, e2, Nat.shiftLeft_zero, Nat.div_eq_of_lt (big 1074 (by omega)), if_pos h0]
    unfold signed
    rw [Nat.shiftLeft_zero]
  · rw [read_norm h h0 h1, if_neg h0]
    unfold Datum.toInt Datum.integral
    simp only []
    rw [cutZ]
    unfold signed
    rw [Nat.shiftLeft_zero]
    by_cases g1 : 1075 ≤ E b
    · have e1 : (-(-1074 + ((E b - 1 : Nat) : Int))).toNat = 0 := by omega
      have e2 : (-1074 + ((E b - 1 : Nat) : Int)).toNat = E b - 1075 := by omega
      rw [e1, e2, Nat.shiftLeft_eq, Nat.pow_zero, Nat.div_one, if_pos g1]
    · have e1 : (-(-1074 + ((E b - 1 : Nat) : Int))).toNat = 1075 - E b := by omega
      have e2 : (-1074 + ((E b - 1 : Nat) : Int)).toNat = 0 := by omega
      rw [e1, e2, Nat.shiftLeft_zero, if_neg g1]

theorem wOk_E {b : Nat} (h : Fits b) (hw : wOk b = true) : E b ≤ 1085 ∨ (E b = 1086 ∧ F b = 0 ∧ neg b = true) := by
  have hr := rung_eq h
  have hF : F b < 4503599627370496 := by unfold F; omega
  unfold wOk LIM rank at hw
  rw [hr] at hw
  cases hs : neg b <;> rw [hs] at hw <;> simp at hw
  · omega
  · by_cases h : E b ≤ 1085
    · exact Or.inl h
    · exact Or.inr ⟨by omega, by omega, rfl⟩

theorem mag_le {b : Nat} (h : E b ≤ 1085) : mag b < 9223372036854775808 := by
  have hM2 : M b < 2 ^ 53 := by unfold M F; omega
  unfold mag
  split
  · omega
  · split
    · have h1 : 2 ^ (E b - 1075) ≤ 2 ^ 10 := Nat.pow_le_pow_right (by omega) (by omega)
      have h2 : M b * 2 ^ (E b - 1075) ≤ M b * 2 ^ 10 := Nat.mul_le_mul_left _ h1
      omega
    · have h3 : M b / 2 ^ (1075 - E b) ≤ M b := Nat.div_le_self _ _
      omega

theorem mag_last {b : Nat} (h : E b = 1086) (h0 : F b = 0) : mag b = 9223372036854775808 := by
  unfold mag M
  rw [h, h0]; decide

theorem wVal_range {b : Nat} (h : Fits b) (hw : wOk b = true) : -9223372036854775808 ≤ wVal b ∧ wVal b ≤ 9223372036854775807 := by
  unfold wVal
  rcases wOk_E h hw with c | ⟨c1, c2, c3⟩
  · have := mag_le c
    split <;> omega
  · have := mag_last c1 c2
    rw [c3]; simp; omega

theorem order_low {b : Nat} (hn : nanB b = false) : (double.order b 14114281232179134464 == some .lt) = decide (rank b < -LIM) := by
  have hb : ¬ INF < b % S63 := by unfold nanB at hn; simpa using hn
  rw [order_eq b _ hb (by decide), show rank 14114281232179134464 = -LIM by decide, Int.compare_eq_ite_lt]
  rw [Bool.eq_iff_iff]
  split <;> (repeat' split) <;> simp <;> omega

theorem order_high {b : Nat} (hn : nanB b = false) : (double.order b 4890909195324358656 == some .gt || double.order b 4890909195324358656 == some .eq) = !decide (rank b < LIM) := by
  have hb : ¬ INF < b % S63 := by unfold nanB at hn; simpa using hn
  rw [order_eq b _ hb (by decide), show rank 4890909195324358656 = LIM by decide, Int.compare_eq_ite_lt]
  rw [Bool.eq_iff_iff]
  split <;> (repeat' split) <;> simp <;> omega

theorem wOk_nan {b : Nat} (hn : nanB b = true) : wOk b = false := by
  have hb : INF < b % S63 := by unfold nanB at hn; simpa using hn
  rw [INF_eq] at hb
  unfold wOk rank LIM
  generalize b % S63 = q at *
  rw [Bool.eq_false_iff]
  cases neg b <;> simp <;> omega

end Go.Proofs.Ytoljhoabbaigdaa.Fl
