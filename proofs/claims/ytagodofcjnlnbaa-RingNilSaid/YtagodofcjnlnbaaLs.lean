/- What the functions that look for a place, and that compare, answer, walked. -/
import Derived.Test.YtagodofcjnlnbaaLr
namespace Go.Proofs.Ytagodofcjnlnbaa
open Go.RowKit

/-- what slices.BinarySearch tells -/
def BsPost (zs : List Int) (x : Int) (w : World) (e : Ending) (w' : World) : Prop := ∃ i : Nat, e = .returned (.tuple #[.int .i64 i, .bool (La.has zs x)]) ∧ La.LB zs x i ∧ w = w'

theorem ret_ib {a b : Int} {c d : Bool} (h : a = b) (k : c = d) : Ending.returned (.tuple #[.int .i64 a, .bool c]) = .returned (.tuple #[.int .i64 b, .bool d]) := by rw [h, k]

/-- the first that isn't nought -/
def or2 (x y : Int) : Int := if x = 0 then y else x
theorem cmp_or (a b : List Int) : or2 (La.cmpI a.length b.length) (La.lex a b) = La.cmp a b := by
  unfold or2 La.cmpI La.cmp
  by_cases h1 : a.length < b.length
  · rw [if_pos (show (a.length : Int) < b.length by omega), if_pos h1]; rfl
  · rw [if_neg (show ¬ (a.length : Int) < b.length by omega), if_neg h1]
    by_cases h2 : b.length < a.length
    · rw [if_pos (show (b.length : Int) < a.length by omega), if_pos h2]; rfl
    · rw [if_neg (show ¬ (b.length : Int) < a.length by omega), if_neg h2]; rfl

end Go.Proofs.Ytagodofcjnlnbaa
