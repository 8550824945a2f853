/- Proved: ExtentPlays, whatever is written, flushed and laid, whatever is left by crashes, is as the chapter says, at this commit, for every input that can be read. Conditions: none. -/
import Derived.Test.YtjghpacpeojejaaE5y
import Derived.Test.YtjghpacpeojejaaE5at
namespace Go.Proofs.Ytjghpacpeojejaa.extentPlays

/-- the statement -/
theorem stands : Rows.ExtentPlaysSaid := proved theX
#print axioms stands

end Go.Proofs.Ytjghpacpeojejaa.extentPlays
