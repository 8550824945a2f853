/- Proved parts: Va. Conditions: each theorem's own. -/
import Derived.Test.YtnbkekbgedioeaaM4
import Derived.Test.YtnbkekbgedioeaaM0
import Derived.Sort.Walk0
namespace Go.Proofs.Ytnbkekbgedioeaa
open Go.RowKit

structure Val where
  num : Bool
  txt : ByteArray
  bits : Nat
namespace Val
/-- as Go has it -/
def v (x : Val) : Value := .agg #[.bool x.num, .string x.txt, .int .u64 (x.bits : Int)]
def Fits (x : Val) : Prop := x.bits < 18446744073709551616 ∧ x.txt.size ≤ maxLen
/-- may it be? -/
def ok (x : Val) : Bool := if x.num then decide (x.txt.size = 0) && decide (Fl.bitsOf x.bits = x.bits) else decide (x.bits = 0) && decide (x.txt.size ≤ 64)
def V0 : Val := ⟨false, ⟨#[]⟩, 0⟩
def number (b : Nat) : Val := ⟨true, ⟨#[]⟩, Fl.bitsOf b⟩
/-- the bytes' rest -/
def rest (s : ByteArray) : ByteArray := s.extract 1 s.size
theorem nil_of {s : ByteArray} (h : s.size = 0) : s = ⟨#[]⟩ := by
  cases s with
  | mk a => have : a = #[] := Array.eq_empty_of_size_eq_zero h; rw [this]

theorem less_cons (c : UInt8) (x y : List UInt8) : Op.bytesLess (c :: x) (c :: y) = Op.bytesLess x y := by
  rw [Op.bytesLess]; simp
theorem toL (s : ByteArray) : s.toList = s.data.toList := ByteArray.toList_eq s
theorem less_asym : ∀ x y : List UInt8, Op.bytesLess x y = true → Op.bytesLess y x = false
  | [], [], h => by cases h
  | _ :: _, [], h => by cases h
  | [], _ :: _, _ => rfl
  | a :: x, b :: y, h => by
    unfold Op.bytesLess at h ⊢
    simp only [Bool.or_eq_true, Bool.and_eq_true, decide_eq_true_eq, beq_iff_eq] at h
    rcases h with h | ⟨h1, h2⟩
    · have h3 : ¬ b < a := by
        intro k
        have := UInt8.lt_iff_toNat_lt.1 h; have := UInt8.lt_iff_toNat_lt.1 k; omega
      have h4 : (b == a) = false := by
        rw [beq_eq_false_iff_ne]; intro e; subst e; exact h3 h
      rw [decide_eq_false h3, h4]; rfl
    · subst h1
      rw [less_asym x y h2]
      have h3 : ¬ a < a := by
        intro k; have := UInt8.lt_iff_toNat_lt.1 k; omega
      rw [decide_eq_false h3]; simp
end Val

end Go.Proofs.Ytnbkekbgedioeaa
