/- RingRises: proved of the program. -/
import Derived.Test.YtagodofcjnlnbaaA0xl
import Derived.Test.YtagodofcjnlnbaaA0e
namespace Go.Proofs.Ytagodofcjnlnbaa.ringRises
open Go.Proofs.Ytagodofcjnlnbaa

/-- ████ THE STATEMENT ████ -/
theorem stands : Rows.RingRisesSaid := proved theX10
#print axioms stands

end Go.Proofs.Ytagodofcjnlnbaa.ringRises
