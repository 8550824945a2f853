/- RoomSweeps. -/
import Derived.Test.YtomjlopcifafpaaGreatM26
import Derived.Test.YtomjlopcifafpaaGreatM50
import Derived.Test.YtomjlopcifafpaaGreatQ0
set_option maxRecDepth 100000
set_option maxHeartbeats 8000000
namespace Go.Proofs.YtomjlopcifafpaaGreat.roomSweeps
open Go.Proofs.YtomjlopcifafpaaGreat

theorem stands:Rows.RoomSweepsSaid:=proved theW11
#print axioms stands

end Go.Proofs.YtomjlopcifafpaaGreat.roomSweeps
