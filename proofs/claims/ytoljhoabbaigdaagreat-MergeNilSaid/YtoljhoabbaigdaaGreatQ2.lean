/- A short name for a fact that is hidden. Conditions: each theorem's own. -/
import Derived.Test.YtoljhoabbaigdaaGreatQ0
import Derived.Lib.Hide
namespace Go.Proofs.YtoljhoabbaigdaaGreat
open Go
theorem qh {p : Prop} (h : p) : RowKit.Hid p := Lib.hid h

end Go.Proofs.YtoljhoabbaigdaaGreat
