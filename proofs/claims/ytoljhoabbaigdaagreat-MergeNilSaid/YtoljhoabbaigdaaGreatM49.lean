/- Proved parts: H2x. Conditions: each theorem's own. -/
import Derived.Test.YtoljhoabbaigdaaGreatM29
import Derived.Test.YtoljhoabbaigdaaGreatM46
import Derived.Test.YtoljhoabbaigdaaGreatM48
import Derived.Test.YtoljhoabbaigdaaGreatQ0
set_option maxRecDepth 100000
set_option maxHeartbeats 8000000
namespace Go.Proofs.YtoljhoabbaigdaaGreat
open Go.RowKit
theorem theM11:RoomMe theR11 where
 keep:=R11.keep
 lt:=fun h e=>R11.lt h e
 new:=R11.new
 commit:=R11.commit
 seek:=fun b F m k q w h=>by
  obtain ⟨s,P,h,i⟩:=h
  exact xSeekR (R11.side h) i.at_.f k q
 after:=fun b F m k q w h=>by
  obtain ⟨s,P,h,i⟩:=h
  exact xAfterR (R11.side h) i.at_.f k q
 ok:=R11.ok
end Go.Proofs.YtoljhoabbaigdaaGreat
