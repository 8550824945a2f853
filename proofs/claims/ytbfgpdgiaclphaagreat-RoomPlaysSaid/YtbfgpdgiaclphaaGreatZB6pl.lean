/- RoomPlays. -/
import Derived.Test.YtbfgpdgiaclphaaGreatM27
import Derived.Test.YtbfgpdgiaclphaaGreatM51
import Derived.Test.YtbfgpdgiaclphaaGreatQ0
set_option maxRecDepth 100000
set_option maxHeartbeats 8000000
namespace Go.Proofs.YtbfgpdgiaclphaaGreat.roomPlays
open Go.Proofs.YtbfgpdgiaclphaaGreat

theorem stands:Rows.RoomPlaysSaid:=proved theX11
#print axioms stands

end Go.Proofs.YtbfgpdgiaclphaaGreat.roomPlays
