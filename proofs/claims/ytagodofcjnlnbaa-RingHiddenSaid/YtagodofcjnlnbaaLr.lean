/- What the functions of layer 2 and of its reference that only read answer, walked. -/
import Derived.Test.YtagodofcjnlnbaaProg
import Derived.Test.YtagodofcjnlnbaaLa
import Derived.Test.YtagodofcjnlnbaaSl
import Derived.Deep.QuietTactic
import Derived.BigQuiet
import Derived.KernelRfl
namespace Go.Proofs.Ytagodofcjnlnbaa
open Go.RowKit

/-- what slices.Index tells -/
def IdxPost (zs : List Int) (x : Int) (w : World) (e : Ending) (w' : World) : Prop := ∃ n : Int, e = .returned (.int .i64 n) ∧ (0 ≤ n ↔ x ∈ zs) ∧ w = w'

end Go.Proofs.Ytagodofcjnlnbaa
