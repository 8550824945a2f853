/- Proved parts: Fr. Conditions: each theorem's own. -/
import Derived.Test.YtomjlopcifafpaaGreatM2
import Derived.Test.YtomjlopcifafpaaGreatM0
import Derived.Test.YtomjlopcifafpaaGreatRows
import Derived.WalkKit
import Derived.ProofKit
import Derived.OpenShut
import Derived.ShutString
import Derived.Carry
import Derived.ChangeSlices
import Derived.Test.YtomjlopcifafpaaGreatQ0
set_option maxRecDepth 100000
set_option maxHeartbeats 8000000
namespace Go.Proofs.YtomjlopcifafpaaGreat
open Go.ChangeShapes Go.WideShapes Go.ChangeAt Go.RowKit

theorem own:ownKnob Tryz.prog.godebug=none:=by kernel_rfl
theorem laidOut:laidOutB Tryz.prog=true:=by kernel_rfl
theorem cellsU:Tryz.prog.cellsOf 34=1:=by kernel_rfl

end Go.Proofs.YtomjlopcifafpaaGreat
