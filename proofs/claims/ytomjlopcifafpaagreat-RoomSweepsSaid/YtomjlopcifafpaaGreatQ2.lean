/- A short name for a fact that is hidden. Conditions: each theorem's own. -/
import Derived.Test.YtomjlopcifafpaaGreatQ0
import Derived.Lib.Hide
namespace Go.Proofs.YtomjlopcifafpaaGreat
open Go
theorem qh {p : Prop} (h : p) : RowKit.Hid p := Lib.hid h

end Go.Proofs.YtomjlopcifafpaaGreat
