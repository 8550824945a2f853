/- Proved parts: Fr. Conditions: each theorem's own. -/
import Derived.Test.YtfodclafkdkjbaaDoorM0
import Derived.Test.YtfodclafkdkjbaaDoorM1
import Derived.Test.YtfodclafkdkjbaaDoorRows
import Derived.WalkKit
import Derived.ProofKit
import Derived.OpenShut
import Derived.ShutString
import Derived.Carry
import Derived.ChangeSlices
namespace Go.Proofs.YtfodclafkdkjbaaDoor
open Go.ChangeShapes Go.WideShapes Go.ChangeAt Go.RowKit

theorem own : ownKnob Tryd.prog.godebug = none := by kernel_rfl
theorem laidOut : laidOutB Tryd.prog = true := by kernel_rfl
end Go.Proofs.YtfodclafkdkjbaaDoor
