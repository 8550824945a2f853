/- What every row of layer 2 needs: a slice of uint64 that came in, opened; the row's last step. -/
import Derived.Test.YtpafnjdaiagdiaaRows
import Derived.WalkKit
import Derived.ProofKit
import Derived.OpenShut
import Derived.ShutString
import Derived.Carry
import Derived.ChangeSlices
import Derived.Test.YtpafnjdaiagdiaaSl
import Derived.Test.YtpafnjdaiagdiaaLa
namespace Go.Proofs.Ytpafnjdaiagdiaa
open Go.ChangeShapes Go.WideShapes Go.ChangeAt Go.RowKit

theorem own : ownKnob Try.prog.godebug = none := by kernel_rfl
theorem laidOut : laidOutB Try.prog = true := by kernel_rfl
theorem cellsU : Try.prog.cellsOf 25 = 1 := by kernel_rfl

end Go.Proofs.Ytpafnjdaiagdiaa
