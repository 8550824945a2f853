/- A cursor that isn't there tells nothing, nor is there one over rooms that aren't there or whose places don't rise; of no rows none are asked: for every number, every places, every range and every value. Conditions: none of ours. -/
import Derived.Test.YtoljhoabbaigdaaGreatM30
import Derived.Test.YtoljhoabbaigdaaGreatM49
import Derived.Test.YtoljhoabbaigdaaGreatQ0
set_option maxRecDepth 100000
set_option maxHeartbeats 8000000
namespace Go.Proofs.YtoljhoabbaigdaaGreat.mergeNil
open Go.Proofs.YtoljhoabbaigdaaGreat

theorem stands:Rows.MergeNilSaid:=proved theM11
#print axioms stands

end Go.Proofs.YtoljhoabbaigdaaGreat.mergeNil
