/- Proved parts: Awk. Conditions: each theorem's own. -/
import Derived.Test.YtnbkekbgedioeaaM3
import Derived.WideShapes
import Derived.Laws.BitsLemmas
import Derived.RowKit3
import Derived.Below
namespace Go.Proofs.Ytnbkekbgedioeaa
open Go.RowKit

theorem fits_small (n : Nat) (h : n < 18446744073709551616) : Fl.Fits n := Fl.Fits.mk h

end Go.Proofs.Ytnbkekbgedioeaa
