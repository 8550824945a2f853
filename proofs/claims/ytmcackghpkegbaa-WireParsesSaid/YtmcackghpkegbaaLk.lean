/- A label's bytes, as lists of numbers. -/
import Derived.Test.YtmcackghpkegbaaLb
namespace Go.Proofs.Ytmcackghpkegbaa
namespace La

/-- the eight bytes of a tag, the highest first -/
def be8 (t : Int) : List Int := [t / 72057594037927936 % 256, t / 281474976710656 % 256, t / 1099511627776 % 256, t / 4294967296 % 256, t / 16777216 % 256, t / 65536 % 256, t / 256 % 256, t % 256]
def flat (zs : List Int) : List Int := zs.flatMap be8
/-- a label's bytes -/
def packL (zs : List Int) : List Int := (zs.length : Int) :: flat zs

theorem be8_length (t : Int) : (be8 t).length = 8 := rfl
theorem flat_length : ∀ zs : List Int, (flat zs).length = 8 * zs.length
  | [] => rfl
  | x :: r => by
    have ih := flat_length r
    unfold flat at ih ⊢
    rw [List.flatMap_cons, List.length_append, ih, be8_length, List.length_cons]; omega
theorem packL_length (zs : List Int) : (packL zs).length = 8 * zs.length + 1 := by unfold packL; rw [List.length_cons, flat_length]
theorem flat_take_succ (zs : List Int) (k : Nat) (h : k < zs.length) : flat (zs.take (k + 1)) = flat (zs.take k) ++ be8 (zs.getD k 0) := by
  rw [take_succ zs k h]; unfold flat; rw [List.flatMap_append]; simp
theorem flat_append (a b : List Int) : flat (a ++ b) = flat a ++ flat b := by unfold flat; rw [List.flatMap_append]

theorem be8_take_succ (t : Int) (j : Nat) (h : j < 8) : (be8 t).take (j + 1) = (be8 t).take j ++ [(be8 t).getD j 0] := take_succ _ _ h

end La
end Go.Proofs.Ytmcackghpkegbaa
