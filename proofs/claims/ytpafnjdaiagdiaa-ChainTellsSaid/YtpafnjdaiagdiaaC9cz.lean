/- ChainTells: proved of the program. -/
import Derived.Test.YtpafnjdaiagdiaaC9cl
import Derived.Test.YtpafnjdaiagdiaaC9q
namespace Go.Proofs.Ytpafnjdaiagdiaa.chainTells
open Go.Proofs.Ytpafnjdaiagdiaa

/-- ████ THE STATEMENT ████ -/
theorem stands : Rows.ChainTellsSaid := proved theX9
#print axioms stands

end Go.Proofs.Ytpafnjdaiagdiaa.chainTells
