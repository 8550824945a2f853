/- Proved parts: Fr. Conditions: each theorem's own. -/
import Derived.Test.YtnbkekbgedioeaaM2
import Derived.Test.YtnbkekbgedioeaaM0
import Derived.Test.YtnbkekbgedioeaaRows
import Derived.WalkKit
import Derived.ProofKit
import Derived.OpenShut
import Derived.ShutString
import Derived.Carry
import Derived.ChangeSlices
namespace Go.Proofs.Ytnbkekbgedioeaa
open Go.ChangeShapes Go.WideShapes Go.ChangeAt Go.RowKit

theorem own : ownKnob Try.prog.godebug = none := by kernel_rfl
theorem laidOut : laidOutB Try.prog = true := by kernel_rfl
end Go.Proofs.Ytnbkekbgedioeaa
