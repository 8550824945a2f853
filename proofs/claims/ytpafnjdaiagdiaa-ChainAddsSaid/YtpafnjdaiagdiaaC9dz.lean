/- ChainAdds: proved of the program. -/
import Derived.Test.YtpafnjdaiagdiaaC9dl
import Derived.Test.YtpafnjdaiagdiaaC9q
namespace Go.Proofs.Ytpafnjdaiagdiaa.chainAdds
open Go.Proofs.Ytpafnjdaiagdiaa

/-- ████ THE STATEMENT ████ -/
theorem stands : Rows.ChainAddsSaid := proved theX9
#print axioms stands

end Go.Proofs.Ytpafnjdaiagdiaa.chainAdds
