/- The program's World does what ExtAt says; a world that is not there does what ExtNil says. -/
import Derived.Test.YtjghpacpeojejaaE5h
import Derived.Test.YtjghpacpeojejaaE5cw
import Derived.Test.YtjghpacpeojejaaE5we
import Derived.Test.YtjghpacpeojejaaE5nw
namespace Go.Proofs.Ytjghpacpeojejaa
open Go.RowKit Go.Maps

theorem theOps : ExtOps RelX where
  keep := RelX.keep
  lt := fun ⟨_, _, _, _, _, _, _, _, _, hF⟩ hk => hF _ hk
  ok := fun ⟨_, _, _, _, _, hr, _⟩ => hr.ok
  write := xWrite
  read := xRead
  dry := xDry
  flush := xFlush
  crash := fun b F m A c ps w h hs hd hk _ => xCrash b F m A c ps w h hs hd hk
  start := xStart
  lay := xLay
  on := xOn
  extents := xExtents
  sectors := xSectors
  wet := xWet
theorem theX : ExtAt RelX := { theOps with new := xNew }

end Go.Proofs.Ytjghpacpeojejaa
