/- Proved parts: C9i. Conditions: each theorem's own. -/
import Derived.Test.YtnbkekbgedioeaaM10
import Derived.Test.YtnbkekbgedioeaaM15
import Derived.Deep.Slices
import Derived.Lib.SmallJoins
namespace Go.Proofs.Ytnbkekbgedioeaa
open Go.Joins Go.ChangeShapes Go.WideShapes Go.ChangeAt Go.RowKit

theorem cells9j : Try.prog.cellsOf 3 = 1 := by kernel_rfl
theorem cells9b : Try.prog.cellsOf 4 = 1 := by kernel_rfl
theorem cells9s : Try.prog.cellsOf 9 = 1 := by kernel_rfl
theorem cells9u : Try.prog.cellsOf 32 = 1 := by kernel_rfl
theorem cells9l : Try.prog.cellsOf 34 = 3 := by kernel_rfl
theorem three_of9 {α : Type} {l : List α} (h : l.length = 3) : ∃ a b c, l = [a, b, c] := by
  match l, h with
  | [a, b, c], _ => exact ⟨a, b, c, rfl⟩
theorem add9 (b o i : Nat) : (⟨b, o, none⟩ : Addr).add i = ⟨b, o + i, none⟩ := by
  unfold Addr.add
  split
  · rename_i e
    rw [e]; rfl
  · rfl
end Go.Proofs.Ytnbkekbgedioeaa
