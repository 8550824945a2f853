/- Proved parts: T9y T9ya T9yw T9yx. Conditions: each theorem's own. -/
import Derived.Test.YtbfgpdgiaclphaaM32
import Derived.RangeFuncNested
import Derived.RangeFuncBound
import Derived.RangeFuncCalls
import Derived.RangeFuncLeaves
import Derived.RangeFuncBox
import Derived.Shelf.Abstract
import Derived.Shelf.RegionOpen
import Derived.WalkKit
import Derived.OwnWalkIn
import Derived.TacticsInMore
import Derived.LoopNIn
import Derived.LoopIn
namespace Go.Proofs.Ytbfgpdgiaclphaa
open Go.RowKit Go.Shelf

attribute [local go_sem] Oper.semAt_some
end Go.Proofs.Ytbfgpdgiaclphaa

namespace Go.Proofs.Ytbfgpdgiaclphaa
open Go.RowKit Go.Shelf

attribute [local go_sem] Oper.semAt_some
end Go.Proofs.Ytbfgpdgiaclphaa

namespace Go.Proofs.Ytbfgpdgiaclphaa
open Go.RowKit Go.Shelf

/-- what walk gives of a node of level h -/
def Tab.give (s : Tab) (k : ByteArray) : Nat → Nat → KV
  | 0, p => (s.nd p).drop ((s.nd p).pos k)
  | h + 1, p => ((s.nd p).drop ((s.nd p).kid k)).flatMap fun x => s.give k h x.2.toNat
attribute [local go_sem] Oper.semAt_some
end Go.Proofs.Ytbfgpdgiaclphaa

namespace Go.Proofs.Ytbfgpdgiaclphaa
open Go.RowKit Go.Shelf

attribute [local go_sem] Oper.semAt_some
end Go.Proofs.Ytbfgpdgiaclphaa
