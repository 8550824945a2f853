/- RingNil: proved of the program. -/
import Derived.Test.YtagodofcjnlnbaaA0nl
import Derived.Test.YtagodofcjnlnbaaA0e
namespace Go.Proofs.Ytagodofcjnlnbaa.ringNil
open Go.Proofs.Ytagodofcjnlnbaa

/-- ████ THE STATEMENT ████ -/
theorem stands : Rows.RingNilSaid := proved theX10
#print axioms stands

end Go.Proofs.Ytagodofcjnlnbaa.ringNil
