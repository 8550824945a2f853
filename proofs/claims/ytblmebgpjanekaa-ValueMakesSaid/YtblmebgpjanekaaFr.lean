/- What every row of layer 2 needs: a slice of uint64 that came in, opened; the row's last step. -/
import Derived.Test.YtblmebgpjanekaaRows
import Derived.WalkKit
import Derived.ProofKit
import Derived.OpenShut
import Derived.ShutString
import Derived.Carry
import Derived.ChangeSlices
import Derived.Test.YtblmebgpjanekaaSl
import Derived.Test.YtblmebgpjanekaaLa
namespace Go.Proofs.Ytblmebgpjanekaa
open Go.ChangeShapes Go.WideShapes Go.ChangeAt Go.RowKit

theorem own : ownKnob Try.prog.godebug = none := by kernel_rfl
theorem laidOut : laidOutB Try.prog = true := by kernel_rfl
theorem cellsU : Try.prog.cellsOf 22 = 1 := by kernel_rfl

end Go.Proofs.Ytblmebgpjanekaa
