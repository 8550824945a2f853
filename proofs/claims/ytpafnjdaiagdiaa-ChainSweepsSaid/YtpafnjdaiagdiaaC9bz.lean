/- ChainSweeps: proved of the program. -/
import Derived.Test.YtpafnjdaiagdiaaC9bl
import Derived.Test.YtpafnjdaiagdiaaC9q
namespace Go.Proofs.Ytpafnjdaiagdiaa.chainSweeps
open Go.Proofs.Ytpafnjdaiagdiaa

/-- ████ THE STATEMENT ████ -/
theorem stands : Rows.ChainSweepsSaid := proved theX9
#print axioms stands

end Go.Proofs.Ytpafnjdaiagdiaa.chainSweeps
