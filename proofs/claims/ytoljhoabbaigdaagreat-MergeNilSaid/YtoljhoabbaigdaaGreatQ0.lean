/- Short forms: a name for a value; rows by number; what a slot holds. Conditions: each theorem's own. -/
import Derived.Test.YtoljhoabbaigdaaGreatProg
namespace Go.Proofs.YtoljhoabbaigdaaGreat
open Go
theorem nmq.{u} {α : Sort u} (x : α) : ∃ y, y = x := ⟨x, rfl⟩
theorem geS.{u} : (∀ {α : Type u} (x : α) (l : List α) (n : Nat), (x :: l)[n + 1]? = l[n]?) ∧ (∀ {α : Type u} (x : α) (l : List α), (x :: l)[0]? = some x) := ⟨fun _ _ _ => List.getElem?_cons_succ, fun _ _ => List.getElem?_cons_zero⟩

end Go.Proofs.YtoljhoabbaigdaaGreat
