/- Proved parts: Fr. Conditions: each theorem's own. -/
import Derived.Test.YtbfgpdgiaclphaaM2
import Derived.Test.YtbfgpdgiaclphaaM0
import Derived.Test.YtbfgpdgiaclphaaRows
import Derived.WalkKit
import Derived.ProofKit
import Derived.OpenShut
import Derived.ShutString
import Derived.Carry
import Derived.ChangeSlices
namespace Go.Proofs.Ytbfgpdgiaclphaa
open Go.ChangeShapes Go.WideShapes Go.ChangeAt Go.RowKit

theorem own : ownKnob Try.prog.godebug = none := by kernel_rfl
theorem laidOut : laidOutB Try.prog = true := by kernel_rfl
theorem cellsU : Try.prog.cellsOf 31 = 1 := by kernel_rfl

end Go.Proofs.Ytbfgpdgiaclphaa
