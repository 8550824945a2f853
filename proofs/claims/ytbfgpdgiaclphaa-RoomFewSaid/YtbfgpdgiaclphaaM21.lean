/- Proved parts: C9i. Conditions: each theorem's own. -/
import Derived.Test.YtbfgpdgiaclphaaM10
import Derived.Test.YtbfgpdgiaclphaaM20
import Derived.Deep.Slices
import Derived.Lib.SmallJoins
namespace Go.Proofs.Ytbfgpdgiaclphaa
open Go.Joins Go.ChangeShapes Go.WideShapes Go.ChangeAt Go.RowKit

theorem cells9j : Try.prog.cellsOf 3 = 1 := by kernel_rfl
theorem cells9b : Try.prog.cellsOf 4 = 1 := by kernel_rfl
theorem cells9s : Try.prog.cellsOf 9 = 1 := by kernel_rfl
theorem cells9u : Try.prog.cellsOf 31 = 1 := by kernel_rfl
theorem cells9l : Try.prog.cellsOf 43 = 3 := by kernel_rfl
theorem three_of9 {α : Type} {l : List α} (h : l.length = 3) : ∃ a b c, l = [a, b, c] := by
  match l, h with
  | [a, b, c], _ => exact ⟨a, b, c, rfl⟩
theorem five_of9 {α : Type} {l : List α} (h : l.length = 5) : ∃ a b c d e, l = [a, b, c, d, e] := by
  match l, h with
  | [a, b, c, d, e], _ => exact ⟨a, b, c, d, e, rfl⟩
theorem add9 (b o i : Nat) : (⟨b, o, none⟩ : Addr).add i = ⟨b, o + i, none⟩ := by
  unfold Addr.add
  split
  · rename_i e
    rw [e]; rfl
  · rfl
end Go.Proofs.Ytbfgpdgiaclphaa
