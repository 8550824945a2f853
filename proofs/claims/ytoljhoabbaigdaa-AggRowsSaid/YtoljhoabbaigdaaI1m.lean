/- Numbers with a point added and multiplied, and whole numbers turned into them, in plain words: no Go in sight. -/
import Derived.Test.YtoljhoabbaigdaaG1m
import Derived.Test.YtoljhoabbaigdaaWh
namespace Go.Proofs.Ytoljhoabbaigdaa.Ag
open Ieee Fl Ex

/-- n by g to the nearest whole number, between two the even one -/
def rhe (n g : Nat) : Nat := n / g + if g < 2 * (n % g) ∨ (g = 2 * (n % g) ∧ n / g % 2 = 1) then 1 else 0

theorem rhe_scale (x g c : Nat) (hc : 0 < c) : rhe (x * c) (g * c) = rhe x g := by
  unfold rhe
  rw [Nat.mul_div_mul_right _ _ hc, Nat.mul_mod_mul_right]
  have e1 : (g * c < 2 * (x % g * c)) ↔ (g < 2 * (x % g)) := by
    rw [← Nat.mul_assoc]; exact Nat.mul_lt_mul_right hc
  have e2 : (g * c = 2 * (x % g * c)) ↔ (g = 2 * (x % g)) := by
    rw [← Nat.mul_assoc]; exact Nat.mul_left_inj (by omega)
  simp only [e1, e2]

theorem cut_rhe (s : Bool) (n d : Nat) : Toward.even.cut s n d = rhe n (2 ^ d) := by
  have key : ∀ g, n / g + (decide (g < 2 * (n % g)) || (g == 2 * (n % g) && n / g % 2 == 1)).toNat = rhe n g := by
    intro g
    unfold rhe
    congr 1
    have k2 : (g == 2 * (n % g)) = decide (g = 2 * (n % g)) := by rw [Bool.eq_iff_iff]; simp
    have k3 : (n / g % 2 == 1) = decide (n / g % 2 = 1) := by rw [Bool.eq_iff_iff]; simp
    rw [k2, k3, ← Bool.decide_and, ← Bool.decide_or]
    split
    · rename_i h; rw [decide_eq_true h]; rfl
    · rename_i h; rw [decide_eq_false h]; rfl
  unfold Toward.cut
  simp only [Nat.shiftLeft_eq, Nat.one_mul]
  rw [key]
  rcases Nat.le_total d (n.log2 + 2) with h | h
  · rw [Nat.min_eq_left h]
  · rw [Nat.min_eq_right h]
    have h0 : n < 2 ^ (n.log2 + 1) := Nat.lt_log2_self
    have e1 : 2 ^ (n.log2 + 2) = 2 * 2 ^ (n.log2 + 1) := by rw [Nat.pow_succ 2 (n.log2 + 1), Nat.mul_comm]
    have e2 : 2 ^ (n.log2 + 2) ≤ 2 ^ d := Nat.pow_le_pow_right (by omega) h
    have small : ∀ g, 2 * n < g → rhe n g = 0 := by
      intro g hg
      unfold rhe
      rw [Nat.div_eq_of_lt (by omega), Nat.mod_eq_of_lt (by omega), if_neg (by omega)]
    rw [small _ (by omega), small _ (by omega)]

theorem log2_scale (m a : Nat) (hm : m ≠ 0) : (m * 2 ^ a).log2 = m.log2 + a := by
  have hp : 0 < 2 ^ a := Nat.two_pow_pos a
  have h1 : m * 2 ^ a ≠ 0 := by
    have := Nat.mul_pos (Nat.pos_of_ne_zero hm) hp
    omega
  rw [Nat.log2_eq_iff h1]
  refine ⟨?_, ?_⟩
  · rw [Nat.pow_add]
    exact Nat.mul_le_mul_right _ (Nat.log2_self_le hm)
  · rw [show m.log2 + a + 1 = (m.log2 + 1) + a by omega, Nat.pow_add]
    exact Nat.mul_lt_mul_of_pos_right Nat.lt_log2_self hp

/-- what a number is written as hangs on the number alone -/
theorem nearest_scale (s : Bool) (m a : Nat) (p q : Int) (hq : q = p + a) : double.nearest s (m * 2 ^ a) p = double.nearest s m q := by
  subst hq
  by_cases hm : m = 0
  · subst hm; rw [Nat.zero_mul, nearest_zero, nearest_zero]
  · have hp : 0 < 2 ^ a := Nat.two_pow_pos a
    have h1 : m * 2 ^ a ≠ 0 := by
      have := Nat.mul_pos (Nat.pos_of_ne_zero hm) hp
      omega
    unfold Format.nearest
    rw [if_neg hm, if_neg h1, log2_scale m a hm]
    have e1 : p + ((m.log2 + a : Nat) : Int) - (double.fractionBits : Int) = p + (a : Int) + (m.log2 : Int) - (double.fractionBits : Int) := by omega
    dsimp only
    rw [e1]
    generalize max (p + (a : Int) + (m.log2 : Int) - (double.fractionBits : Int)) double.leastPlace = last
    have key : Toward.even.cut s ((m * 2 ^ a) <<< (p - last).toNat) (last - p).toNat = Toward.even.cut s (m <<< (p + a - last).toNat) (last - (p + a)).toNat := by
      rw [cut_rhe, cut_rhe, Nat.shiftLeft_eq, Nat.shiftLeft_eq]
      rcases Int.le_total last p with c | c
      · have f1 : (p + a - last).toNat = a + (p - last).toNat := by omega
        have f2 : (last - p).toNat = 0 := by omega
        have f3 : (last - (p + a)).toNat = 0 := by omega
        rw [f1, f2, f3, Nat.pow_add, Nat.mul_assoc]
      · rcases Int.le_total last (p + a) with c2 | c2
        · have f1 : (p - last).toNat = 0 := by omega
          have f3 : (last - (p + a)).toNat = 0 := by omega
          rw [f1, f3, Nat.pow_zero, Nat.mul_one]
          have f4 : 2 ^ a = 2 ^ (p + a - last).toNat * 2 ^ (last - p).toNat := by rw [← Nat.pow_add]; congr 1; omega
          rw [f4, ← Nat.mul_assoc]
          have := rhe_scale (m * 2 ^ (p + a - last).toNat) 1 (2 ^ (last - p).toNat) (Nat.two_pow_pos _)
          rw [Nat.one_mul] at this
          exact this
        · have f1 : (p - last).toNat = 0 := by omega
          have f2 : (p + a - last).toNat = 0 := by omega
          have f3 : (last - p).toNat = (last - (p + a)).toNat + a := by omega
          rw [f1, f2, f3, Nat.pow_zero, Nat.mul_one, Nat.mul_one, Nat.pow_add]
          exact rhe_scale m _ _ hp
    rw [key]

/-- a whole number as a number with a point -/
def ofI (n : Int) : Nat := double.nearest (decide (n < 0)) n.natAbs 0

theorem ofI_le (n : Int) : ofI n % S63 ≤ INF ∧ Fits (ofI n) := write_le _ _ _
theorem ofI_nan (n : Int) : nanB (ofI n) = false := nan_word (ofI_le n).1
theorem ofI_bits (n : Int) : bitsOf (ofI n) = ofI n := bits_of_not (ofI_nan n)

theorem signed_val (s : Bool) (m k c : Nat) (h : c ≤ k) : signed s m (k - c) * ((2 ^ c : Nat) : Int) = if s then -((m * 2 ^ k : Nat) : Int) else ((m * 2 ^ k : Nat) : Int) := signed_scale s m k c h

theorem add_val (a b : Nat) (ha : a % S63 < INF) (hb : b % S63 < INF) :
    double.add a b = some (double.nearest (if val a + val b = 0 then neg a && neg b else decide (val a + val b < 0)) (val a + val b).natAbs (-1074)) := by
  obtain ⟨m, k, r1, v1⟩ := read_num a ha
  obtain ⟨n, l, r2, v2⟩ := read_num b hb
  have g1 := signed_val (neg a) m k (min k l) (by omega)
  have g2 := signed_val (neg b) n l (min k l) (by omega)
  unfold Format.add
  rw [r1, r2]
  unfold Datum.sum
  simp only [Option.map_some, Format.write]
  have e1 : (-1074 + (k : Int) - min (-1074 + (k : Int)) (-1074 + (l : Int))).toNat = k - min k l := by omega
  have e2 : (-1074 + (l : Int) - min (-1074 + (k : Int)) (-1074 + (l : Int))).toNat = l - min k l := by omega
  rw [e1, e2]
  have hp : (0 : Int) < ((2 ^ (min k l) : Nat) : Int) := by
    have := Nat.two_pow_pos (min k l)
    omega
  have ea : val a = signed (neg a) m (k - min k l) * ((2 ^ (min k l) : Nat) : Int) := by unfold val; rw [v1, g1]
  have eb : val b = signed (neg b) n (l - min k l) * ((2 ^ (min k l) : Nat) : Int) := by unfold val; rw [v2, g2]
  rw [ea, eb, ← Int.add_mul]
  generalize signed (neg a) m (k - min k l) + signed (neg b) n (l - min k l) = total
  rw [Int.natAbs_mul, Int.natAbs_natCast, nearest_scale _ _ _ (-1074) (min (-1074 + (k : Int)) (-1074 + (l : Int))) (by omega)]
  have h0 : (total * ((2 ^ (min k l) : Nat) : Int) = 0) ↔ total = 0 := by
    rw [Int.mul_eq_zero]
    constructor
    · rintro (h | h)
      · exact h
      · omega
    · exact .inl
  have h1 : (total * ((2 ^ (min k l) : Nat) : Int) < 0) ↔ total < 0 := by
    have := Int.mul_lt_mul_right hp (b := total) (c := 0)
    rwa [Int.zero_mul] at this
  simp only [h0, h1]

theorem mul_val (a b : Nat) (ha : a % S63 < INF) (hb : b % S63 < INF) :
    double.mul a b = some (double.nearest (neg a ^^ neg b) (V (a % S63) * V (b % S63)) (-2148)) := by
  obtain ⟨m, k, r1, v1⟩ := read_num a ha
  obtain ⟨n, l, r2, v2⟩ := read_num b hb
  unfold Format.mul
  rw [r1, r2]
  unfold Datum.product
  simp only [Option.map_some, Format.write]
  rw [v1, v2, show m * 2 ^ k * (n * 2 ^ l) = m * n * 2 ^ (k + l) by rw [Nat.pow_add, Nat.mul_mul_mul_comm], nearest_scale _ _ _ (-2148) (-1074 + (k : Int) + (-1074 + (l : Int))) (by omega)]

/-- how many of the least numbers one is -/
def pw (k : Nat) : Nat := 2 ^ k
def U : Nat := pw 1074
theorem pw_pos (k : Nat) : 0 < pw k := Nat.two_pow_pos k
theorem pw_add (p k : Nat) : pw (p + k) = 2 ^ p * pw k := Nat.pow_add 2 p k
theorem pw_split (p k : Nat) : 2 ^ p * 2 ^ k = pw (p + k) := (Nat.pow_add 2 p k).symm
theorem U_pos : 0 < U := pw_pos 1074
theorem U_split (p k : Nat) (h : p + k = 1074) : 2 ^ p * 2 ^ k = U := by rw [pw_split, h]; rfl
theorem U_up (p k : Nat) (h : k = p + 1074) : 2 ^ k = 2 ^ p * U := by
  have e := pw_add p 1074
  rw [← h] at e
  exact e
theorem nearest_pw (s : Bool) (m k : Nat) (a b : Int) (h : b = a + k) : double.nearest s (m * pw k) a = double.nearest s m b := nearest_scale s m k a b h
theorem nearest_U (s : Bool) (m : Nat) : double.nearest s (m * U) (-1074) = double.nearest s m 0 := nearest_pw s m 1074 (-1074) 0 (by omega)
theorem nearest_UU (s : Bool) (m : Nat) : double.nearest s (m * (U * U)) (-2148) = double.nearest s m 0 := by
  have e : double.nearest s (m * U * U) (-2148) = double.nearest s (m * U) (-1074) := nearest_pw s (m * U) 1074 (-2148) (-1074) (by omega)
  rw [← Nat.mul_assoc, e, nearest_U]

theorem V_rung (p x : Nat) (h1 : 2 ^ 52 ≤ x) (h2 : x < 2 ^ 53) : V (p * 2 ^ 52 + x) = x * 2 ^ p := by
  have hS := S52_eq
  unfold V
  rw [if_neg (by rw [hS]; omega)]
  have e1 : (p * 2 ^ 52 + x) / S52 = p + 1 := by rw [hS]; omega
  have e2 : S52 + (p * 2 ^ 52 + x) % S52 = x := by rw [hS]; omega
  rw [e1, e2, Nat.add_sub_cancel]

theorem word_parts (s : Bool) {r : Nat} (hr : r < INF) : double.word s r % S63 = r ∧ neg (double.word s r) = s := (word_fits s (Nat.le_of_lt hr)).2

theorem near_small (s : Bool) (n : Nat) (h : n ≤ 9007199254740992) :
    double.nearest s n 0 % S63 < INF ∧ neg (double.nearest s n 0) = s ∧ V (double.nearest s n 0 % S63) = n * U := by
  by_cases h0 : n = 0
  · subst h0
    rw [nearest_zero]
    obtain ⟨e1, e2⟩ := word_parts s (r := 0) (by rw [INF_eq]; omega)
    rw [e1, e2, V_zero, Nat.zero_mul]
    exact ⟨by rw [INF_eq]; omega, rfl, rfl⟩
  · by_cases hb : n = 9007199254740992
    · subst hb
      have e0 := nearest_up s (2 ^ 52) 1 (by omega) (by omega) (by omega)
      rw [show (2 ^ 52 * 2 ^ 1 : Nat) = 9007199254740992 by decide] at e0
      rw [e0]
      obtain ⟨e1, e2⟩ := word_parts s (r := (1 + 1074) * 2 ^ 52 + 2 ^ 52) (by rw [INF_eq]; omega)
      rw [e1, e2]
      refine ⟨by rw [INF_eq]; omega, rfl, ?_⟩
      rw [V_rung _ _ (by omega) (by omega), U_up 1 (1 + 1074) rfl, ← Nat.mul_assoc]
    · have hl1 := Nat.log2_self_le h0
      have hl2 : n < 2 ^ (n.log2 + 1) := Nat.lt_log2_self
      have hl3 : n.log2 ≤ 52 := by
        have : n.log2 < 53 := (Nat.log2_lt h0).2 (by omega)
        omega
      generalize n.log2 = g at *
      have f1 : 2 ^ 52 = 2 ^ g * 2 ^ (52 - g) := by rw [← Nat.pow_add]; congr 1; omega
      have f2 : 2 ^ 53 = 2 ^ (g + 1) * 2 ^ (52 - g) := by rw [← Nat.pow_add]; congr 1; omega
      have g1 : 2 ^ 52 ≤ n * 2 ^ (52 - g) := by rw [f1]; exact Nat.mul_le_mul_right _ hl1
      have g2 : n * 2 ^ (52 - g) < 2 ^ 53 := by rw [f2]; exact Nat.mul_lt_mul_of_pos_right hl2 (Nat.two_pow_pos _)
      rw [nearest_down s n (52 - g) g1 g2 (by omega)]
      have hr : (1074 - (52 - g)) * 2 ^ 52 + n * 2 ^ (52 - g) < INF := by rw [INF_eq]; omega
      obtain ⟨e1, e2⟩ := word_parts s hr
      rw [e1, e2]
      refine ⟨hr, rfl, ?_⟩
      rw [V_rung _ _ g1 g2, Nat.mul_assoc, U_split _ _ (by omega)]

theorem ofI_small (n : Int) (h1 : -9007199254740992 ≤ n) (h2 : n ≤ 9007199254740992) : ofI n % S63 < INF ∧ neg (ofI n) = decide (n < 0) ∧ val (ofI n) = n * (U : Int) := by
  obtain ⟨e1, e2, e3⟩ := near_small (decide (n < 0)) n.natAbs (by omega)
  refine ⟨e1, e2, ?_⟩
  unfold val ofI
  rw [e2, e3]
  by_cases hn : n < 0
  · rw [if_pos (by simpa using hn), Int.natCast_mul, show ((n.natAbs : Nat) : Int) = -n by omega, Int.neg_mul, Int.neg_neg]
  · rw [if_neg (by simpa using hn), Int.natCast_mul, show ((n.natAbs : Nat) : Int) = n by omega]

/-- what a whole one is worth -/
theorem val_whole {b : Nat} (h : Fits b) (hw : wOk b = true) : b % S63 < INF ∧ val b = wVal b * (U : Int) := by
  have hE := wOk_E h hw
  have hr := rung_eq h
  have hF : F b < 4503599627370496 := by unfold F; omega
  have hi : b % S63 < INF := by rw [hr, INF_eq]; omega
  refine ⟨hi, ?_⟩
  have hV : V (b % S63) = mag b * U := by
    unfold mag
    by_cases h0 : E b = 0
    · have hf0 : F b = 0 := by
        unfold wOk isW at hw
        simp at hw
        omega
      rw [if_pos h0, hr, h0, hf0, Nat.zero_mul, Nat.zero_mul, Nat.zero_add, V_zero]
    · have hq : b % S63 = (E b - 1) * 2 ^ 52 + M b := by rw [hr]; unfold M; omega
      rw [if_neg h0, hq, V_rung _ _ (by unfold M; omega) (by unfold M; omega)]
      by_cases g1 : 1075 ≤ E b
      · rw [if_pos g1, Nat.mul_assoc, U_up (E b - 1075) (E b - 1) (by omega)]
      · rw [if_neg g1]
        have g2 : 1023 ≤ E b ∧ M b % 2 ^ (1075 - E b) = 0 := by
          unfold wOk isW at hw
          simp at hw
          omega
        have hd := Nat.div_add_mod (M b) (2 ^ (1075 - E b))
        rw [g2.2, Nat.add_zero, Nat.mul_comm] at hd
        generalize M b / 2 ^ (1075 - E b) = q at *
        rw [← hd, Nat.mul_assoc, U_split _ _ (by omega)]
  unfold val wVal
  rw [hV]
  split
  · rw [Int.natCast_mul, Int.neg_mul]
  · rw [Int.natCast_mul]

/-- a whole number is added to a small one: the sum, rounded -/
theorem add_whole (a : Int) (b : Nat) (h1 : -9007199254740992 ≤ a) (h2 : a ≤ 9007199254740992) (hb : Fits b) (hw : wOk b = true) : double.add (ofI a) b = some (ofI (a + wVal b)) := by
  obtain ⟨a1, a2, a3⟩ := ofI_small a h1 h2
  obtain ⟨b1, b2⟩ := val_whole hb hw
  have hU : (0 : Int) < (U : Int) := by
    have := U_pos
    omega
  rw [add_val _ _ a1 b1, a2, a3, b2, ← Int.add_mul, Int.natAbs_mul, Int.natAbs_natCast]
  have h0 : ((a + wVal b) * (U : Int) = 0) ↔ a + wVal b = 0 := by
    rw [Int.mul_eq_zero]
    constructor
    · rintro (h | h)
      · exact h
      · omega
    · exact .inl
  have h3 : ((a + wVal b) * (U : Int) < 0) ↔ a + wVal b < 0 := by
    have := Int.mul_lt_mul_right hU (b := a + wVal b) (c := 0)
    rwa [Int.zero_mul] at this
  simp only [h0, h3]
  have e : (if a + wVal b = 0 then decide (a < 0) && neg b else decide (a + wVal b < 0)) = decide (a + wVal b < 0) := by
    by_cases c : a + wVal b = 0
    · rw [if_pos c, c]
      by_cases c1 : a < 0
      · have : neg b = false := by
          cases hn : neg b
          · rfl
          · have : wVal b ≤ 0 := by unfold wVal; rw [hn, if_pos rfl]; omega
            omega
        rw [this]; simp
      · simp [c1]
    · rw [if_neg c]
  rw [e, nearest_U]
  rfl

/-- a number of many digits -/
theorem nearest_big (s : Bool) (n j : Nat) (h1 : 2 ^ 52 * 2 ^ j ≤ n) (h2 : n < 2 ^ 53 * 2 ^ j) (hj : j ≤ 900) : double.nearest s n 0 = double.word s ((j + 1074) * 2 ^ 52 + rhe n (2 ^ j)) := by
  obtain ⟨c1, c2, c3, c4⟩ := fmt_consts
  have hpp : 0 < 2 ^ j := Nat.two_pow_pos j
  have hm : n ≠ 0 := by
    have := Nat.mul_pos (show 0 < 2 ^ 52 by omega) hpp
    omega
  have hl : n.log2 = 52 + j := by
    rw [Nat.log2_eq_iff hm, Nat.pow_add, show 52 + j + 1 = 53 + j by omega, Nat.pow_add]
    exact ⟨h1, h2⟩
  have hq : n / 2 ^ j < 2 ^ 53 := by rw [Nat.div_lt_iff_lt_mul hpp]; exact h2
  have hq2 : rhe n (2 ^ j) ≤ 2 ^ 53 := by unfold rhe; split <;> omega
  unfold Format.nearest
  rw [if_neg hm, hl, c2, c3, c4]
  have e0 : double.fractionBits = 52 := rfl
  have e1 : max ((0 : Int) + ((52 + j : Nat) : Int) - (double.fractionBits : Int)) (-1074) = j := by rw [e0]; omega
  dsimp only
  rw [e1]
  have e2 : ((0 : Int) - (j : Int)).toNat = 0 := by omega
  have e3 : ((j : Int) - 0).toNat = j := by omega
  have e4 : ((j : Int) - -1074).toNat = j + 1074 := by omega
  rw [e2, e3, e4, Nat.shiftLeft_zero, cut_rhe]
  have e5 : (j + 1074) * S52 + rhe n (2 ^ j) ≤ INF := by rw [S52_eq, INF_eq]; omega
  rw [Nat.min_eq_left e5]
  rfl

/-- rounded by hand it is the same -/
theorem round_up (n j : Nat) (hj : j ≤ 20) (h1 : n / 2 ^ j ≤ 9007199254740992) (h2 : 0 < j → 9007199254740992 < n / 2 ^ (j - 1)) :
    double.mul (ofI (rhe n (2 ^ j) : Nat)) (ofI (2 ^ j : Nat)) = some (ofI (n : Nat)) := by
  have hpj : 0 < 2 ^ j := Nat.two_pow_pos j
  -- at most one too many
  obtain ⟨m, hm, hmI, hmn⟩ : ∃ m : Nat, m ≤ 9007199254740992 ∧ ofI (rhe n (2 ^ j) : Nat) = ofI (m : Nat) ∧ double.nearest false (m * 2 ^ j) 0 = double.nearest false n 0 := by
    by_cases hj0 : j = 0
    · subst hj0
      have e : rhe n (2 ^ 0) = n := by unfold rhe; rw [Nat.pow_zero, Nat.div_one, Nat.mod_one, if_neg (by omega), Nat.add_zero]
      rw [Nat.pow_zero, Nat.div_one] at h1
      exact ⟨n, h1, by rw [e], by rw [Nat.pow_zero, Nat.mul_one]⟩
    · have h2' := h2 (by omega)
      have hs : 2 ^ j = 2 * 2 ^ (j - 1) := by rw [← Nat.pow_succ']; congr 1; omega
      have hpj1 : 0 < 2 ^ (j - 1) := Nat.two_pow_pos _
      have g1 : 9007199254740993 * 2 ^ (j - 1) ≤ n := (Nat.le_div_iff_mul_le hpj1).1 h2'
      have g2 : n < 9007199254740993 * 2 ^ j := (Nat.div_lt_iff_lt_mul hpj).1 (by omega)
      have up : double.nearest false (9007199254740992 * 2 ^ j) 0 = double.word false ((j + 1 + 1074) * 2 ^ 52 + 2 ^ 52) := by
        have e := nearest_up false (2 ^ 52) (j + 1) (by omega) (by omega) (by omega)
        rw [show (2 : Nat) ^ 52 * 2 ^ (j + 1) = 9007199254740992 * 2 ^ j by rw [Nat.pow_succ]; omega] at e
        exact e
      by_cases hc : n < 2 ^ 53 * 2 ^ j
      · have hlow : 2 ^ 52 * 2 ^ j ≤ n := by rw [hs]; omega
        have hq1 : 2 ^ 52 ≤ n / 2 ^ j := (Nat.le_div_iff_mul_le hpj).2 hlow
        have hq2 : n / 2 ^ j < 2 ^ 53 := by rw [Nat.div_lt_iff_lt_mul hpj]; exact hc
        have hm1 : 2 ^ 52 ≤ rhe n (2 ^ j) := by unfold rhe; omega
        have hm2 : rhe n (2 ^ j) ≤ 2 ^ 53 := by unfold rhe; split <;> omega
        refine ⟨rhe n (2 ^ j), hm2, rfl, ?_⟩
        rw [nearest_big false n j hlow hc (by omega)]
        generalize rhe n (2 ^ j) = m at *
        by_cases he : m = 2 ^ 53
        · rw [he]
          have e9 : (2 : Nat) ^ 53 * 2 ^ j = 9007199254740992 * 2 ^ j := rfl
          have e8 : (j + 1 + 1074) * 2 ^ 52 + 2 ^ 52 = (j + 1074) * 2 ^ 52 + 2 ^ 53 := by omega
          rw [e9, up, e8]
        · rw [nearest_up false m j hm1 (by omega) (by omega)]
      · have hq : n / 2 ^ j = 9007199254740992 := by
          have : 2 ^ 53 ≤ n / 2 ^ j := (Nat.le_div_iff_mul_le hpj).2 (by omega)
          omega
        refine ⟨9007199254740992, Nat.le_refl _, ?_, ?_⟩
        · unfold rhe
          rw [hq]
          split
          · decide +kernel
          · rfl
        · have hlow : 2 ^ 52 * 2 ^ (j + 1) ≤ n := by rw [Nat.pow_succ]; omega
          have hhigh : n < 2 ^ 53 * 2 ^ (j + 1) := by rw [Nat.pow_succ]; omega
          rw [nearest_big false n (j + 1) hlow hhigh (by omega), up]
          have e1 : n / 2 ^ (j + 1) = 2 ^ 52 := by
            rw [Nat.pow_succ, ← Nat.div_div_eq_div_mul, hq]
          have e2 : n % 2 ^ (j + 1) = n - 2 ^ 52 * 2 ^ (j + 1) := by
            have := Nat.div_add_mod n (2 ^ (j + 1))
            rw [e1, Nat.mul_comm] at this
            omega
          have e3 : 2 * (n % 2 ^ (j + 1)) < 2 ^ (j + 1) := by
            rw [e2, Nat.pow_succ]
            omega
          have e4 : rhe n (2 ^ (j + 1)) = 2 ^ 52 := by
            unfold rhe
            rw [e1, if_neg (by omega)]
          rw [e4]
  rw [hmI]
  have hj2 : 2 ^ j ≤ 2 ^ 20 := Nat.pow_le_pow_right (by omega) hj
  obtain ⟨a1, a2, a3⟩ := near_small false m hm
  obtain ⟨b1, b2, b3⟩ := near_small false (2 ^ j) (by omega)
  have ea : ofI (m : Nat) = double.nearest false m 0 := by unfold ofI; rw [Int.natAbs_natCast, decide_eq_false (by omega)]
  have eb : ofI (2 ^ j : Nat) = double.nearest false (2 ^ j) 0 := by unfold ofI; rw [Int.natAbs_natCast, decide_eq_false (by omega)]
  have en : ofI (n : Nat) = double.nearest false n 0 := by unfold ofI; rw [Int.natAbs_natCast, decide_eq_false (by omega)]
  rw [ea, eb, en, mul_val _ _ a1 b1, a2, b2, a3, b3, ← hmn]
  rw [Nat.mul_mul_mul_comm, nearest_UU]
  rfl

/-- the other sign -/
theorem ofI_neg (n : Nat) (hn : 0 < n) : Op.negFloat .f64 (ofI (n : Nat)) = ofI (-(n : Int)) := by
  have e1 : ofI (n : Nat) = double.nearest false n 0 := by unfold ofI; rw [Int.natAbs_natCast, decide_eq_false (by omega)]
  have e2 : ofI (-(n : Int)) = double.nearest true n 0 := by unfold ofI; rw [Int.natAbs_neg, Int.natAbs_natCast, decide_eq_true (by omega)]
  obtain ⟨r, hr, e⟩ : ∃ r, r ≤ INF ∧ ∀ s, double.nearest s n 0 = double.word s r := by
    refine ⟨min ((max ((0 : Int) + ((n.log2 : Nat) : Int) - (double.fractionBits : Int)) double.leastPlace - double.leastPlace).toNat * double.binade +
      rhe (n <<< ((0 : Int) - max ((0 : Int) + ((n.log2 : Nat) : Int) - (double.fractionBits : Int)) double.leastPlace).toNat) (2 ^ (max ((0 : Int) + ((n.log2 : Nat) : Int) - (double.fractionBits : Int)) double.leastPlace - 0).toNat)) double.infRung, ?_, fun s => ?_⟩
    · rw [fmt_consts.2.2.1]
      exact Nat.min_le_right _ _
    · unfold Format.nearest
      rw [if_neg (by omega)]
      dsimp only
      rw [cut_rhe]
  rw [e1, e2, e, e]
  have es : double.signWeight = 9223372036854775808 := by decide
  have hb : r < 2 ^ 63 := by rw [INF_eq] at hr; omega
  unfold Format.word
  rw [es]
  simp only [Bool.false_eq_true, if_false, if_true]
  show r ^^^ 2 ^ 63 = 2 ^ 63 + r
  rw [show (2 ^ 63 + r : Nat) = 2 ^ 63 * 1 + r by omega, Nat.two_pow_add_eq_or_of_lt hb]
  apply Nat.eq_of_testBit_eq
  intro i
  rw [Nat.testBit_xor, Nat.testBit_or, Nat.mul_one, Nat.testBit_two_pow]
  by_cases hi : i = 63
  · subst hi
    rw [Nat.testBit_lt_two_pow hb]; simp
  · have : ¬ 63 = i := fun h => hi h.symm
    simp [this]

end Go.Proofs.Ytoljhoabbaigdaa.Ag
