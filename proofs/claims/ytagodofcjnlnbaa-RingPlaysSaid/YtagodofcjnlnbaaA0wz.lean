/- RingPlays: proved of the program. -/
import Derived.Test.YtagodofcjnlnbaaA0wl
import Derived.Test.YtagodofcjnlnbaaA0e
namespace Go.Proofs.Ytagodofcjnlnbaa.ringPlays
open Go.Proofs.Ytagodofcjnlnbaa

/-- ████ THE STATEMENT ████ -/
theorem stands : Rows.RingPlaysSaid := proved theX10
#print axioms stands

end Go.Proofs.Ytagodofcjnlnbaa.ringPlays
