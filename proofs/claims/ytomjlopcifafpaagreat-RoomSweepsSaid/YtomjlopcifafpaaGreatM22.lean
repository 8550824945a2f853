/- Proved parts: C9i. Conditions: each theorem's own. -/
import Derived.Test.YtomjlopcifafpaaGreatM10
import Derived.Test.YtomjlopcifafpaaGreatM21
import Derived.Deep.Slices
import Derived.Lib.SmallJoins
import Derived.Test.YtomjlopcifafpaaGreatQ0
set_option maxRecDepth 100000
set_option maxHeartbeats 8000000
namespace Go.Proofs.YtomjlopcifafpaaGreat
open Go.Joins Go.ChangeShapes Go.WideShapes Go.ChangeAt Go.RowKit

theorem cells9j:Tryz.prog.cellsOf 3=1:=by kernel_rfl
theorem cells9b:Tryz.prog.cellsOf 4=1:=by kernel_rfl
theorem cells9s:Tryz.prog.cellsOf 9=1:=by kernel_rfl
theorem cells9u:Tryz.prog.cellsOf 34=1:=by kernel_rfl
theorem cells9l:Tryz.prog.cellsOf 45=3:=by kernel_rfl
theorem three_of9 {α:Type} {l:List α} (h:l.length=3):∃ a b c,l=[a,b,c]:=by
 match l,h with
 | [a,b,c],_=>exact ⟨a,b,c,rfl⟩
theorem five_of9 {α:Type} {l:List α} (h:l.length=5):∃ a b c d e,l=[a,b,c,d,e]:=by
 match l,h with
 | [a,b,c,d,e],_=>exact ⟨a,b,c,d,e,rfl⟩
theorem add9 (b o i:Nat):(⟨b,o,none⟩:Addr).add i=⟨b,o+i,none⟩:=by
 unfold Addr.add
 split
 ·rename_i e
  rw [e]; rfl
 ·rfl
end Go.Proofs.YtomjlopcifafpaaGreat
