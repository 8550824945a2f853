/- Proved: ExtentPicks, just what is picked stays when the power goes, at this commit, for every input that can be read. Conditions: none. -/
import Derived.Test.YtjghpacpeojejaaE5q
import Derived.Test.YtjghpacpeojejaaE5at
namespace Go.Proofs.Ytjghpacpeojejaa.extentPicks

/-- the statement -/
theorem stands : Rows.ExtentPicksSaid := proved theX
#print axioms stands

end Go.Proofs.Ytjghpacpeojejaa.extentPicks
