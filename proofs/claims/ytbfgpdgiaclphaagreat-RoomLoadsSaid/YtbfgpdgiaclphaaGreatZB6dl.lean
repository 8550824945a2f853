/- RoomLoads. -/
import Derived.Test.YtbfgpdgiaclphaaGreatM27
import Derived.Test.YtbfgpdgiaclphaaGreatM50
import Derived.Test.YtbfgpdgiaclphaaGreatQ0
set_option maxRecDepth 100000
set_option maxHeartbeats 8000000
namespace Go.Proofs.YtbfgpdgiaclphaaGreat.roomLoads
open Go.Proofs.YtbfgpdgiaclphaaGreat

theorem stands:Rows.RoomLoadsSaid:=proved theL11
#print axioms stands

end Go.Proofs.YtbfgpdgiaclphaaGreat.roomLoads
