/- The greatest whole number that isn't above a 64-bit float, by its parts: plain arithmetic over Ieee, no Go in sight. -/
import Derived.Test.YtoljhoabbaigdaaWh
namespace Go.Proofs.Ytoljhoabbaigdaa.Fl
open Ieee

theorem cutD_false (n d : Nat) : Toward.down.cut false n d = n / 2 ^ d := by rw [← cutZ false n d]; rfl
theorem cutD_true (n d : Nat) : Toward.down.cut true n d = n / 2 ^ d + if n % 2 ^ d = 0 then 0 else 1 := by
  unfold Toward.cut
  simp only [Nat.shiftLeft_eq, Nat.one_mul, Bool.true_and]
  have key : ∀ g, n / g + (n % g != 0).toNat = n / g + if n % g = 0 then 0 else 1 := by
    intro g
    by_cases h : n % g = 0
    · simp [h]
    · simp [h, bne]
  rw [key]
  rcases Nat.le_total d (n.log2 + 2) with h | h
  · rw [Nat.min_eq_left h]
  · rw [Nat.min_eq_right h]
    have h1 : n < 2 ^ (n.log2 + 2) := Nat.lt_of_lt_of_le Nat.lt_log2_self (Nat.pow_le_pow_right (by omega) (by omega))
    have h2 : n < 2 ^ d := Nat.lt_of_lt_of_le h1 (Nat.pow_le_pow_right (by omega) h)
    rw [Nat.div_eq_of_lt h1, Nat.div_eq_of_lt h2, Nat.mod_eq_of_lt h1, Nat.mod_eq_of_lt h2]

/-- minus one; one -/
def MONE : Nat := 13830554455654793216
def ONE : Nat := 4607182418800017408

/-- what stands below the point -/
def part (b : Nat) : Nat := b % 2 ^ (1075 - E b)
/-- what the difference of y and one is written as -/
def less1 (y : Nat) : Nat := (double.sub y ONE).getD 0
def floorB (b : Nat) : Nat :=
  if b % S63 = 0 ∨ 1075 ≤ E b then b
  else if E b < 1023 then (if neg b then MONE else 0)
  else if part b = 0 then b
  else if neg b then less1 (b - part b) else b - part b

theorem mod_pow_sub {p : Nat} (b : Nat) (hp : p ≤ 52) : b % 2 ^ p = M b % 2 ^ p := by
  obtain ⟨k, k1, k2, k3⟩ := pow_half hp
  have k1' : 4503599627370496 = k * 2 ^ p := k1
  unfold M F
  have e : b = b / 4503599627370496 * 4503599627370496 + b % 4503599627370496 := by omega
  generalize b % 4503599627370496 = f at *
  generalize b / 4503599627370496 = q at *
  rw [e, k1', show q * (k * 2 ^ p) + f = f + 2 ^ p * (q * k) by rw [Nat.add_comm, Nat.mul_comm (2 ^ p), Nat.mul_assoc], Nat.add_mul_mod_self_left, show f + k * 2 ^ p = f + 2 ^ p * k by rw [Nat.mul_comm k], Nat.add_mul_mod_self_left]

/-- the integral of a number whose way of cutting is as towards nought -/
theorem down_as_zero {b : Nat} (h : Fits b) (hn : nanB b = false) (hc : neg b = true → E b < 2047 → (E b = 0 → F b = 0) ∧ (E b ≠ 0 → E b < 1075 → M b % 2 ^ (1075 - E b) = 0)) :
    double.write ((double.read b).integral .down) = truncB b := by
  rw [← trunc_eq h hn]
  have key : ∀ n d, (neg b = true → n % 2 ^ d = 0) → Toward.down.cut (neg b) n d = Toward.zero.cut (neg b) n d := by
    intro n d hk
    cases hb : neg b
    · rfl
    · rw [cutD_true, cutZ, if_pos (hk hb), Nat.add_zero]
  by_cases h0 : E b = 0
  · rw [read_sub h h0]
    unfold Datum.integral
    simp only []
    rw [key]
    intro hs
    have := (hc hs (by omega)).1 h0
    rw [this, Nat.zero_shiftLeft, Nat.zero_mod]
  · by_cases h1 : E b < 2047
    · rw [read_norm h h0 h1]
      unfold Datum.integral
      simp only []
      rw [key]
      intro hs
      by_cases g : 1075 ≤ E b
      · have e1 : (-(-1074 + ((E b - 1 : Nat) : Int))).toNat = 0 := by omega
        rw [e1, Nat.pow_zero, Nat.mod_one]
      · have e1 : (-(-1074 + ((E b - 1 : Nat) : Int))).toNat = 1075 - E b := by omega
        have e2 : (-1074 + ((E b - 1 : Nat) : Int)).toNat = 0 := by omega
        rw [e1, e2, Nat.shiftLeft_zero]
        exact (hc hs h1).2 h0 (by omega)
    · have hr := rung_eq h
      have hE : E b < 2048 := by unfold E; omega
      have hF : F b < 4503599627370496 := by unfold F; omega
      have hI : b % S63 = INF := by
        unfold nanB at hn
        have hn' : ¬ INF < b % S63 := by simpa using hn
        rw [INF_eq] at *
        omega
      rw [read_inf b hI]; rfl

theorem trunc_of_whole {b : Nat} (h : Fits b) (hE : E b < 1075) (hE0 : 1023 ≤ E b) : truncB b = b - part b := by
  have hr := rung_eq h
  have hF : F b < 4503599627370496 := by unfold F; omega
  have hp := mod_pow_sub b (show 1075 - E b ≤ 52 by omega)
  unfold truncB part
  rw [if_neg (by omega), if_pos hE0, hp]
  have hd := Nat.div_add_mod (M b) (2 ^ (1075 - E b))
  rw [Nat.mul_comm] at hd
  have hl : M b % 2 ^ (1075 - E b) ≤ M b := Nat.mod_le _ _
  have hf2 : M b % 2 ^ (1075 - E b) ≤ F b := by
    obtain ⟨k, k1, k2, k3⟩ := pow_half (show 1075 - E b ≤ 52 by omega)
    have k1' : 4503599627370496 = k * 2 ^ (1075 - E b) := k1
    rw [show M b = F b + 2 ^ (1075 - E b) * k by unfold M; rw [k1', Nat.mul_comm k], Nat.add_mul_mod_self_left]
    exact Nat.mod_le _ _
  generalize M b / 2 ^ (1075 - E b) * 2 ^ (1075 - E b) = x at *
  generalize M b % 2 ^ (1075 - E b) = y at *
  have hM : M b = F b + 4503599627370496 := rfl
  have e : (E b - 1) * 4503599627370496 + x = b % S63 - y := by omega
  have hw := word_self h
  rw [e]
  unfold Format.word at hw ⊢
  have e9 : double.signWeight = 9223372036854775808 := by decide
  rw [e9] at hw ⊢
  split at hw <;> rename_i hs
  · rw [if_pos hs]; omega
  · rw [if_neg hs]; omega

/-- a number of 'k + 1' digits with 52 noughts behind the point -/
theorem nearest_down52 (s : Bool) (a p : Nat) (h1 : 2 ^ 52 ≤ a * 2 ^ p) (h2 : a * 2 ^ p < 2 ^ 53) (hp : p ≤ 52) : double.nearest s (a * 2 ^ 52) (-52) = double.nearest s a 0 := by
  rw [nearest_down s a p h1 h2 hp]
  obtain ⟨c1, c2, c3, c4⟩ := fmt_consts
  have hpp : 0 < 2 ^ p := Nat.two_pow_pos p
  have ha : a ≠ 0 := by rintro rfl; simp at h1
  have ha2 : a * 2 ^ 52 ≠ 0 := by omega
  have hl : (a * 2 ^ 52).log2 = 104 - p := by
    rw [Nat.log2_eq_iff ha2]
    have e1 : 2 ^ 52 = 2 ^ (52 - p) * 2 ^ p := by rw [← Nat.pow_add, Nat.sub_add_cancel hp]
    have e2 : 2 ^ 53 = 2 ^ (52 - p + 1) * 2 ^ p := by rw [← Nat.pow_add]; congr 1; omega
    rw [e1] at h1
    rw [e2] at h2
    have g1 := Nat.le_of_mul_le_mul_right h1 hpp
    have g2 := Nat.lt_of_mul_lt_mul_right h2
    have f1 : 2 ^ (104 - p) = 2 ^ (52 - p) * 2 ^ 52 := by rw [← Nat.pow_add]; congr 1; omega
    have f2 : 2 ^ (104 - p + 1) = 2 ^ (52 - p + 1) * 2 ^ 52 := by rw [← Nat.pow_add]; congr 1; omega
    rw [f1, f2]
    exact ⟨Nat.mul_le_mul_right _ g1, Nat.mul_lt_mul_of_pos_right g2 (Nat.two_pow_pos _)⟩
  unfold Format.nearest
  rw [if_neg ha2, hl, c2, c3, c4]
  have e0 : double.fractionBits = 52 := rfl
  have e1 : max ((-52 : Int) + ((104 - p : Nat) : Int) - (double.fractionBits : Int)) (-1074) = -(p : Int) := by rw [e0]; omega
  dsimp only
  rw [e1]
  have e2 : ((-52 : Int) - -(p : Int)).toNat = 0 := by omega
  have e3 : (-(p : Int) - -52).toNat = 52 - p := by omega
  have e4 : (-(p : Int) - -1074).toNat = 1074 - p := by omega
  rw [e2, e3, e4, Nat.shiftLeft_zero]
  have hc := cutE s (a * 2 ^ p) (52 - p) (by omega)
  rw [Nat.mul_assoc, ← Nat.pow_add, show p + (52 - p) = 52 by omega] at hc
  rw [hc]
  have e5 : (1074 - p) * S52 + a * 2 ^ p ≤ INF := by rw [S52_eq, INF_eq]; omega
  rw [Nat.min_eq_left e5]
  rfl

theorem read_ONE : double.read ONE = .number false (2 ^ 52) (-52) := by decide

/-- a negative number of a part below the point, less one -/
theorem less_one {y q p : Nat} (hq : 0 < p) (hp : p ≤ 52) (hy : double.read y = .number true (q * 2 ^ p) (-(p : Int))) : double.sub y ONE = some (double.nearest true ((q + 1) * 2 ^ 52) (-52)) := by
  unfold Format.sub
  rw [hy, read_ONE]
  unfold Datum.opposite Datum.sum
  simp only [Bool.not_false]
  have e1 : min (-(p : Int)) (-52) = -52 := by omega
  rw [e1]
  have e2 : (-(p : Int) - -52).toNat = 52 - p := by omega
  have e3 : ((-52 : Int) - -52).toNat = 0 := by decide
  rw [e2, e3]
  unfold signed
  simp only [if_true, Nat.shiftLeft_eq]
  have e4 : q * 2 ^ p * 2 ^ (52 - p) = q * 2 ^ 52 := by rw [Nat.mul_assoc, ← Nat.pow_add]; congr 2; omega
  rw [e4]
  have e5 : -((q * 2 ^ 52 : Nat) : Int) + -((2 ^ 52 : Nat) : Int) = -(((q + 1) * 2 ^ 52 : Nat) : Int) := by rw [Nat.add_mul]; omega
  rw [e5]
  have hpos : 0 < (q + 1) * 2 ^ 52 := Nat.mul_pos (by omega) (Nat.two_pow_pos _)
  clear hy e4 e5
  generalize (q + 1) * 2 ^ 52 = m at *
  rw [if_neg (by omega)]
  simp only [Option.map_some, Format.write]
  have e6 : (-(m : Int)).natAbs = m := by omega
  have e7 : decide (-(m : Int) < 0) = true := by simp; omega
  rw [e6, e7]

theorem floor_eq {b : Nat} (h : Fits b) (hn : nanB b = false) : double.write ((double.read b).integral .down) = floorB b := by
  have hr := rung_eq h
  have hF : F b < 4503599627370496 := by unfold F; omega
  have hE : E b < 2048 := by unfold E; omega
  have hM1 : 2 ^ 52 ≤ M b := by unfold M; omega
  have hM2 : M b < 2 ^ 53 := by unfold M; omega
  by_cases g1 : 1075 ≤ E b
  · rw [down_as_zero h hn (fun _ _ => ⟨fun e => by omega, fun _ e => by omega⟩)]
    unfold floorB truncB
    rw [if_pos g1, if_pos (Or.inr g1)]
  · by_cases g0 : b % S63 = 0
    · have e0 : E b = 0 := by omega
      have f0 : F b = 0 := by omega
      rw [down_as_zero h hn (fun _ _ => ⟨fun _ => f0, fun e => absurd e0 e⟩)]
      unfold floorB truncB
      rw [if_neg g1, if_neg (by omega), if_pos (Or.inl g0)]
      have := word_self h
      rwa [g0] at this
    · by_cases g2 : E b < 1023
      · unfold floorB
        rw [if_neg (by omega), if_pos g2]
        have out : ∀ m i, double.read b = .number (neg b) m i → 0 < m → i.toNat = 0 → m < 2 ^ (-i).toNat → double.write ((double.read b).integral .down) = if neg b then MONE else 0 := by
          intro m i hrd hm0 hi hm
          rw [hrd]
          unfold Datum.integral Format.write
          simp only []
          rw [hi, Nat.shiftLeft_zero]
          cases neg b
          · rw [cutD_false, Nat.div_eq_of_lt hm, nearest_zero]; decide
          · rw [cutD_true, Nat.div_eq_of_lt hm, Nat.mod_eq_of_lt hm, if_neg (by omega)]; decide
        have big : ∀ m k : Nat, m < 2 ^ 53 → 53 ≤ k → m < 2 ^ k := fun m k hm hk => Nat.lt_of_lt_of_le hm (Nat.pow_le_pow_right (by omega) hk)
        by_cases h0 : E b = 0
        · exact out _ _ (read_sub h h0) (by omega) (by decide) (big _ _ (by omega) (by decide))
        · exact out _ _ (read_norm h h0 (by omega)) (by omega) (by omega) (big _ _ hM2 (by omega))
      · by_cases g3 : part b = 0
        · have hp := mod_pow_sub b (show 1075 - E b ≤ 52 by omega)
          unfold part at g3
          rw [down_as_zero h hn (fun _ _ => ⟨fun e => by omega, fun _ _ => by rw [← hp]; exact g3⟩), trunc_of_whole h (by omega) (by omega)]
          unfold floorB part
          rw [if_neg (by omega), if_neg g2, if_pos g3, g3]; rfl
        · unfold floorB
          rw [if_neg (by omega), if_neg g2, if_neg g3]
          cases hs : neg b
          · rw [if_neg (by simp), down_as_zero h hn (fun e => by rw [hs] at e; cases e), trunc_of_whole h (by omega) (by omega)]
          · rw [if_pos rfl]
            have hp := mod_pow_sub b (show 1075 - E b ≤ 52 by omega)
            obtain ⟨p, hpe⟩ : ∃ p, p = 1075 - E b := ⟨_, rfl⟩
            have ht := trunc_of_whole h (show E b < 1075 by omega) (by omega)
            have hpp : 0 < 2 ^ p := Nat.two_pow_pos _
            obtain ⟨k, k1, k2, k3⟩ := pow_half (show p ≤ 52 by omega)
            have k1' : 4503599627370496 = k * 2 ^ p := k1
            obtain ⟨q, hq⟩ : ∃ q, q = M b / 2 ^ p := ⟨_, rfl⟩
            have a1 : k ≤ q := by rw [hq, Nat.le_div_iff_mul_le hpp, ← k1]; exact hM1
            have a2 : q < 2 * k := by rw [hq, Nat.div_lt_iff_lt_mul hpp, ← k2]; exact hM2
            have a3 : 2 ^ 52 ≤ q * 2 ^ p := by rw [k1]; exact Nat.mul_le_mul_right _ a1
            have a4 : q * 2 ^ p ≤ M b := by rw [hq]; exact Nat.div_mul_le_self _ _
            have hd : q * 2 ^ p + M b % 2 ^ p = M b := by rw [hq, Nat.mul_comm]; exact Nat.div_add_mod _ _
            -- the part cut off
            have hrung : (b - part b) % S63 = (E b - 1) * 4503599627370496 + q * 2 ^ p ∧ neg (b - part b) = true := by
              rw [← ht]
              unfold truncB
              rw [if_neg g1, if_pos (by omega), hs, ← hpe, ← hq]
              have hle : (E b - 1) * 4503599627370496 + q * 2 ^ p ≤ INF := by rw [INF_eq]; omega
              exact ⟨(word_fits true hle).2.1, (word_fits true hle).2.2⟩
            have hfit : Fits (b - part b) := Fits.mk (by have := h.lt; omega)
            have hr2 := rung_eq hfit
            rw [hrung.1] at hr2
            have hF2 : F (b - part b) < 4503599627370496 := by unfold F; omega
            have hMq : M b = F b + 4503599627370496 := rfl
            have ee : E (b - part b) = E b := by omega
            have em : M (b - part b) = q * 2 ^ p := by unfold M; omega
            have hrd := read_norm hfit (by omega) (by omega)
            rw [hrung.2, ee, em, show (-1074 + ((E b - 1 : Nat) : Int)) = -(p : Int) by omega] at hrd
            have hl := less_one (by omega) (by omega) hrd
            unfold less1
            rw [hl, Option.getD_some]
            -- and the other way
            have h1 := read_norm h (by omega) (by omega)
            rw [hs, show (-1074 + ((E b - 1 : Nat) : Int)) = -(p : Int) by omega] at h1
            rw [h1]
            unfold Datum.integral Format.write
            simp only []
            have e2 : (-(p : Int)).toNat = 0 := by omega
            have e3 : (- -(p : Int)).toNat = p := by omega
            rw [e2, e3, Nat.shiftLeft_zero, cutD_true, ← hq]
            unfold part at g3
            rw [← hpe] at hp g3
            rw [← hp, if_neg g3]
            -- the sum may be a power of two
            by_cases hlast : q + 1 < 2 * k
            · refine (nearest_down52 true (q + 1) p ?_ ?_ (by omega)).symm
              · rw [k1]; exact Nat.mul_le_mul_right _ (by omega)
              · rw [k2]; exact Nat.mul_lt_mul_of_pos_right hlast hpp
            · have e4 : q + 1 = k * 2 := by omega
              have hp1 : p = (p - 1) + 1 := by omega
              refine (nearest_down52 true (q + 1) (p - 1) ?_ ?_ (by omega)).symm
              · rw [e4, k1]
                have : k * 2 ^ p = k * 2 * 2 ^ (p - 1) := by rw [Nat.mul_assoc]; congr 1; rw [hp1, Nat.pow_succ, Nat.mul_comm]; simp
                rw [this]; exact Nat.le_refl _
              · rw [e4, k2]
                have : 2 * k * 2 ^ p = 2 * (k * 2 * 2 ^ (p - 1)) := by rw [Nat.mul_assoc, Nat.mul_assoc]; congr 2; rw [hp1, Nat.pow_succ, Nat.mul_comm]; simp
                rw [this]
                have : 0 < k * 2 * 2 ^ (p - 1) := Nat.mul_pos (by omega) (Nat.two_pow_pos _)
                omega

end Go.Proofs.Ytoljhoabbaigdaa.Fl
