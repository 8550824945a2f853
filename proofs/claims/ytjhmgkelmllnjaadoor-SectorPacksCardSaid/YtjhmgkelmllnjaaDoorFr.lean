/- What every row of layer 2 needs: a slice of uint64 that came in, opened; the row's last step. -/
import Derived.Test.YtjhmgkelmllnjaaDoorRows
import Derived.WalkKit
import Derived.ProofKit
import Derived.OpenShut
import Derived.ShutString
import Derived.Carry
import Derived.ChangeSlices
import Derived.Test.YtjhmgkelmllnjaaDoorSl
import Derived.Test.YtjhmgkelmllnjaaDoorLa
namespace Go.Proofs.YtjhmgkelmllnjaaDoor
open Go.ChangeShapes Go.WideShapes Go.ChangeAt Go.RowKit

theorem own : ownKnob Tryd.prog.godebug = none := by kernel_rfl
theorem laidOut : laidOutB Tryd.prog = true := by kernel_rfl
end Go.Proofs.YtjhmgkelmllnjaaDoor
