/- ChainSweptOnce: proved of the program. -/
import Derived.Test.YtpafnjdaiagdiaaC9al
import Derived.Test.YtpafnjdaiagdiaaC9q
namespace Go.Proofs.Ytpafnjdaiagdiaa.chainSweptOnce
open Go.Proofs.Ytpafnjdaiagdiaa

/-- ████ THE STATEMENT ████ -/
theorem stands : Rows.ChainSweptOnceSaid := proved theX9
#print axioms stands

end Go.Proofs.Ytpafnjdaiagdiaa.chainSweptOnce
