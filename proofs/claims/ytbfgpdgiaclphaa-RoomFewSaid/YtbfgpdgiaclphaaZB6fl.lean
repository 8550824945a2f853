/- RoomFew. -/
import Derived.Test.YtbfgpdgiaclphaaM23
import Derived.Test.YtbfgpdgiaclphaaM50
namespace Go.Proofs.Ytbfgpdgiaclphaa
theorem theXF : RoomFe theR11 := ⟨R11.keep, fun h e => R11.lt h e, R11.ok, R11.new, R11.check, R11.commit, R11.sweep, R11.keys, R11.vers⟩
theorem roomFew.stands : Rows.RoomFewSaid := roomFew.proved theXF
#print axioms roomFew.stands

end Go.Proofs.Ytbfgpdgiaclphaa
