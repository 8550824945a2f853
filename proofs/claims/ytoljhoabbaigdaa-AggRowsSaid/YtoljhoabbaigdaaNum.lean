/- What layer 1's answers are, as plain functions of a number's bits; plain arithmetic, no Go in sight. -/
import Derived.Test.YtoljhoabbaigdaaFl
import GoSem.Op.Unary
namespace Go.Proofs.Ytoljhoabbaigdaa.Fl
open Ieee

def Fits (b : Nat) : Prop := b < 2 ^ 64
theorem Fits.lt {b : Nat} (h : Fits b) : b < 18446744073709551616 := h
theorem Fits.mk {b : Nat} (h : b < 18446744073709551616) : Fits b := h

theorem neg_iff {b : Nat} (h : Fits b) : neg b = decide (9223372036854775808 ≤ b) := by
  have := h.lt
  unfold neg; rw [S63_eq, Bool.eq_iff_iff]; simp; omega
theorem nanB_iff (b : Nat) : nanB b = decide (9218868437227405312 < b % 9223372036854775808) := by
  unfold nanB; rw [S63_eq, INF_eq]

/-- of a number without a sign which class it is of -/
def ucr (r : Nat) : Int := if r = 0 then 5 else if r < S52 then 6 else if r < INF then 7 else 8
def cls (b : Nat) : Int := if nanB b then 0 else if neg b then 9 - ucr (b % S63) else ucr (b % S63)
def NANB : Nat := 9221120237041090561
def bitsOf (b : Nat) : Nat := if nanB b then NANB else b
def NANP : Nat := 18437736874454810626
def place (b : Nat) : Nat := if nanB b then NANP else if neg b then INF - b % S63 else INF + 1 + b
def atB (p : Nat) : Nat := if p = NANP then NANB else if INF < p then p - (INF + 1) else S63 + (INF - p)

theorem ucr_range (r : Nat) : 5 ≤ ucr r ∧ ucr r ≤ 8 := by unfold ucr; split <;> (repeat' split) <;> omega

theorem order_self (b : Nat) : (double.order b b != some .eq) = nanB b := by
  unfold nanB
  by_cases h : INF < b % S63
  · rw [order_nan_left b b h]; simp [h]
  · rw [order_eq b b h h, cmp_eq]; simp [h]

theorem order_up (a b : Nat) (ha : a ≤ INF) (hb : b ≤ INF) : double.order a b = some (compare (a : Int) (b : Int)) := by
  rw [INF_eq] at ha hb
  have e1 : a % S63 = a := by rw [S63_eq]; omega
  have e2 : b % S63 = b := by rw [S63_eq]; omega
  rw [order_eq a b (by rw [INF_eq, S63_eq]; omega) (by rw [INF_eq, S63_eq]; omega)]
  have n1 : neg a = false := by unfold neg; rw [S63_eq]; simp; omega
  have n2 : neg b = false := by unfold neg; rw [S63_eq]; simp; omega
  unfold rank
  rw [n1, n2, e1, e2]; rfl

theorem order_up_eq (a b : Nat) (ha : a ≤ INF) (hb : b ≤ INF) : (double.order a b == some .eq) = decide (a = b) := by
  rw [order_up a b ha hb, Int.compare_eq_ite_lt]
  by_cases h : a = b
  · subst h; simp
  · rw [Bool.eq_iff_iff]; simp [h]; split <;> (repeat' split) <;> first | (simp; done) | (simp; omega)
theorem order_up_lt (a b : Nat) (ha : a ≤ INF) (hb : b ≤ INF) : (double.order a b == some .lt) = decide (a < b) := by
  rw [order_up a b ha hb, Int.compare_eq_ite_lt]
  by_cases h : a < b
  · simp [h]
  · rw [Bool.eq_iff_iff]; simp [h]; split <;> simp

theorem xor_sign (b : Nat) (h : Fits b) (hn : neg b = true) : b ^^^ 2 ^ 63 = b % S63 := by
  rw [neg_iff h] at hn
  have h1 := h.lt
  have h2 : 9223372036854775808 ≤ b := of_decide_eq_true hn
  have e : b = 2 ^ 63 * 1 + b % S63 := by rw [S63_eq]; omega
  have hr : b % S63 < 2 ^ 63 := by rw [S63_eq]; omega
  generalize b % S63 = r at *
  rw [e, Nat.two_pow_add_eq_or_of_lt hr]
  apply Nat.eq_of_testBit_eq
  intro i
  rw [Nat.testBit_xor, Nat.testBit_or, Nat.mul_one, Nat.testBit_two_pow]
  by_cases hi : i = 63
  · subst hi
    rw [Nat.testBit_lt_two_pow hr]; simp
  · have : ¬ 63 = i := fun h => hi h.symm
    simp [this]

theorem negFloat_eq (b : Nat) (h : Fits b) (hn : neg b = true) : Op.negFloat .f64 b = b % S63 := xor_sign b h hn

theorem bitsOf_fits {b : Nat} (h : Fits b) : Fits (bitsOf b) := by
  unfold bitsOf; split
  · exact Fits.mk (by unfold NANB; omega)
  · exact h
theorem nanB_NANB : nanB NANB = true := by decide
theorem nanB_bitsOf (b : Nat) : nanB (bitsOf b) = nanB b := by
  unfold bitsOf; split
  · rename_i h; rw [h]; decide
  · rfl
theorem place_le {b : Nat} (h : Fits b) : place b ≤ NANP := by
  have := h.lt
  unfold place NANP; rw [neg_iff h, nanB_iff, INF_eq, S63_eq]
  split
  · omega
  · rename_i h; simp at h; split
    · omega
    · rename_i h2; simp at h2; omega
theorem atB_fits {p : Nat} (h : p ≤ NANP) : Fits (atB p) := by
  refine Fits.mk ?_
  unfold NANP at h
  unfold atB; rw [INF_eq, S63_eq]
  split
  · unfold NANB; omega
  · split <;> omega
theorem nanB_atB {p : Nat} (h : p ≤ NANP) : nanB (atB p) = decide (p = NANP) := by
  rw [nanB_iff]
  unfold atB; rw [INF_eq, S63_eq]
  unfold NANP at *
  split
  · rename_i h; subst h; decide
  · rename_i h2
    rw [Bool.eq_iff_iff]; simp [h2]
    split <;> omega
theorem place_atB {p : Nat} (h : p ≤ NANP) : place (atB p) = p := by
  have hf := atB_fits h
  unfold place
  rw [nanB_atB h]
  by_cases hp : p = NANP
  · simp [hp]
  · rw [neg_iff hf]
    simp only [hp, decide_false, Bool.false_eq_true, if_false]
    unfold atB; rw [if_neg hp, INF_eq, S63_eq]
    unfold NANP at *
    split
    · rename_i h1
      rw [if_neg (by simp; omega)]; omega
    · rename_i h1
      rw [if_pos (by simp)]; omega
theorem atB_place {b : Nat} (h : Fits b) : atB (place b) = bitsOf b := by
  have h1 := h.lt
  unfold place bitsOf
  by_cases hn : nanB b = true
  · rw [if_pos hn, if_pos hn]; unfold atB; rw [if_pos rfl]
  · rw [if_neg hn, if_neg hn, neg_iff h]
    rw [nanB_iff] at hn
    simp at hn
    by_cases hs : 9223372036854775808 ≤ b
    · rw [if_pos (by simpa using hs)]
      unfold atB NANP; rw [INF_eq, S63_eq, if_neg (by omega), if_neg (by omega)]; omega
    · rw [if_neg (by simpa using hs)]
      unfold atB NANP; rw [INF_eq, if_neg (by omega), if_pos (by omega)]; omega
theorem place_bitsOf (b : Nat) : place (bitsOf b) = place b := by
  unfold place; rw [nanB_bitsOf]
  split
  · rfl
  · rename_i hn; unfold bitsOf; rw [if_neg hn]

end Go.Proofs.Ytoljhoabbaigdaa.Fl
