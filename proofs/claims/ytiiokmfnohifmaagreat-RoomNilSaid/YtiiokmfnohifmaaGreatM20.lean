/- Proved parts: Fr. Conditions: each theorem's own. -/
import Derived.Test.YtiiokmfnohifmaaGreatM2
import Derived.Test.YtiiokmfnohifmaaGreatM0
import Derived.Test.YtiiokmfnohifmaaGreatRows
import Derived.WalkKit
import Derived.ProofKit
import Derived.OpenShut
import Derived.ShutString
import Derived.Carry
import Derived.ChangeSlices
namespace Go.Proofs.YtiiokmfnohifmaaGreat
open Go.ChangeShapes Go.WideShapes Go.ChangeAt Go.RowKit

theorem own : ownKnob Tryz.prog.godebug = none := by kernel_rfl
theorem laidOut : laidOutB Tryz.prog = true := by kernel_rfl
end Go.Proofs.YtiiokmfnohifmaaGreat
