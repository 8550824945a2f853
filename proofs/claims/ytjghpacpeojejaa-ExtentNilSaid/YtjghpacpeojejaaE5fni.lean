/- Proved: ExtentNil, a world that is not there does nothing, at this commit, for every input that can be read. Conditions: none. -/
import Derived.Test.YtjghpacpeojejaaE5n
import Derived.Test.YtjghpacpeojejaaE5nn
namespace Go.Proofs.Ytjghpacpeojejaa.extentNil

/-- the statement -/
theorem stands : Rows.ExtentNilSaid := proved theX theN
#print axioms stands

end Go.Proofs.Ytjghpacpeojejaa.extentNil
