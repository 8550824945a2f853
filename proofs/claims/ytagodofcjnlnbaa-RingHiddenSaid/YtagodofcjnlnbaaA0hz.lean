/- RingHidden: proved of the program. -/
import Derived.Test.YtagodofcjnlnbaaA0hl
import Derived.Test.YtagodofcjnlnbaaA0e
namespace Go.Proofs.Ytagodofcjnlnbaa.ringHidden
open Go.Proofs.Ytagodofcjnlnbaa

/-- ████ THE STATEMENT ████ -/
theorem stands : Rows.RingHiddenSaid := proved theX10
#print axioms stands

end Go.Proofs.Ytagodofcjnlnbaa.ringHidden
