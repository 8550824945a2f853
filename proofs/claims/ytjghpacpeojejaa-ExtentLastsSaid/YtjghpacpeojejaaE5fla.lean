/- Proved: ExtentLasts, what is flushed is there behind each crash, at this commit, for every input that can be read. Conditions: none. -/
import Derived.Test.YtjghpacpeojejaaE5l
import Derived.Test.YtjghpacpeojejaaE5at
namespace Go.Proofs.Ytjghpacpeojejaa.extentLasts

/-- the statement -/
theorem stands : Rows.ExtentLastsSaid := proved theX
#print axioms stands

end Go.Proofs.Ytjghpacpeojejaa.extentLasts
