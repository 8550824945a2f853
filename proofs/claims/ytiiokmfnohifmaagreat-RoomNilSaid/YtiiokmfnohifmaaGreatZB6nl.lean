/- RoomNil. -/
import Derived.Test.YtiiokmfnohifmaaGreatM23
import Derived.Test.YtiiokmfnohifmaaGreatM52
namespace Go.Proofs.YtiiokmfnohifmaaGreat.roomNil
open Go.Proofs.YtiiokmfnohifmaaGreat

theorem stands : Rows.RoomNilSaid := proved theA11
#print axioms stands

end Go.Proofs.YtiiokmfnohifmaaGreat.roomNil
