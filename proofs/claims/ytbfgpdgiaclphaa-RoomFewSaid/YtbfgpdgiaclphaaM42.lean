/- Proved parts: A0e. Conditions: each theorem's own. -/
import Derived.Test.YtbfgpdgiaclphaaM41
import Derived.Laws.Rows
import Derived.Shelf.SlSorted.Search
namespace Go.Proofs.Ytbfgpdgiaclphaa
open Go.RowKit

/-- how the program's ring lies -/
def theR : RelR := fun w b F r => ∃ v, F = rfoot b v ∧ PrW w b v r.size r.beg r.seq r.kept ∧ r.Ok
end Go.Proofs.Ytbfgpdgiaclphaa
