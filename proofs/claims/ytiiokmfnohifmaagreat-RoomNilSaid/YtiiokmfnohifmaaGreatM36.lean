/- Proved parts: T9yk. Conditions: each theorem's own. -/
import Derived.Test.YtiiokmfnohifmaaGreatM35
import Derived.StillTailTactics
namespace Go.Proofs.YtiiokmfnohifmaaGreat
open Go.RowKit Go.Shelf

section
attribute [local go_sem] Oper.semAt_some
end
end Go.Proofs.YtiiokmfnohifmaaGreat
