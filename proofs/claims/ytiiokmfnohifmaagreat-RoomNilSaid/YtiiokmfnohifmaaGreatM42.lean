/- Proved parts: A0p. Conditions: each theorem's own. -/
import Derived.Test.YtiiokmfnohifmaaGreatM39
import Derived.Test.YtiiokmfnohifmaaGreatM15
import Derived.Deep.RegionLaw
import Derived.Lib.SliceRun
namespace Go.Proofs.YtiiokmfnohifmaaGreat
open Go.RowKit

namespace Rg
/-- the stamps of the last commits, size of them at most -/
def kept (r : Rg) : List Int := r.l.drop (r.l.length - r.size)
end Rg

end Go.Proofs.YtiiokmfnohifmaaGreat
