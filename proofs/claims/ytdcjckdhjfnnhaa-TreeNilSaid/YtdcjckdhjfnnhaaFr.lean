/- What every row of layer 2 needs: a slice of uint64 that came in, opened; the row's last step. -/
import Derived.Test.YtdcjckdhjfnnhaaRows
import Derived.WalkKit
import Derived.ProofKit
import Derived.OpenShut
import Derived.ShutString
import Derived.Carry
import Derived.ChangeSlices
import Derived.Test.YtdcjckdhjfnnhaaSl
import Derived.Test.YtdcjckdhjfnnhaaLa
namespace Go.Proofs.Ytdcjckdhjfnnhaa
open Go.ChangeShapes Go.WideShapes Go.ChangeAt Go.RowKit

theorem own : ownKnob Try.prog.godebug = none := by kernel_rfl
theorem laidOut : laidOutB Try.prog = true := by kernel_rfl
end Go.Proofs.Ytdcjckdhjfnnhaa
