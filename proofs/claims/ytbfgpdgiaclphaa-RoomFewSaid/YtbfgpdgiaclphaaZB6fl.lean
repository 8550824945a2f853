/- RoomFew. -/
import Derived.Test.YtbfgpdgiaclphaaM47
import Derived.Test.YtbfgpdgiaclphaaM21
import Derived.Test.YtbfgpdgiaclphaaM20
import Derived.ChangeMaps5
namespace Go.Proofs.Ytbfgpdgiaclphaa.roomFew
open Go.Proofs.Ytbfgpdgiaclphaa

end Go.Proofs.Ytbfgpdgiaclphaa.roomFew
