/- Proved parts: C9u C9w C9x. Conditions: each theorem's own. -/
import Derived.Test.YtoljhoabbaigdaaGreatM9
import Derived.Laws.Rows
import Derived.BigQuiet
import Derived.Test.YtoljhoabbaigdaaGreatQ0
set_option maxRecDepth 100000
set_option maxHeartbeats 8000000
namespace Go.Proofs.YtoljhoabbaigdaaGreat
open Go.RowKit

def setV (w:World) (g:Nat) (x:Ver):World:=((((w.setCell ⟨g,0,none⟩ (.int .i64 x.seq)).setCell ⟨g,1,none⟩ (.bool x.gone)).setCell ⟨g,2,none⟩ (.bool x.val.num)).setCell ⟨g,3,none⟩ (.string x.val.txt)).setCell ⟨g,4,none⟩ (.int .u64 (x.val.bits:Int))
theorem setV_row {w:World} {g:Nat} {x y:Ver} {t:TypeId} (h:RowAt w g y.cs t):RowAt (setV w g x) g x.cs t:=((((h.set 0 (.int .i64 x.seq)).set 1 (.bool x.gone)).set 2 (.bool x.val.num)).set 3 (.string x.val.txt)).set 4 (.int .u64 (x.val.bits:Int))
theorem setV_below {w0 w:World} {B g:Nat} {x:Ver} (h:Below B w0 w) (hg:B<=g):Below B w0 (setV w g x):=((((h.setCell hg _).setCell hg _).setCell hg _).setCell hg _).setCell hg _

theorem results_cell_tmp {P:Program} {fn:Func} {p q:Tmp} {ty:TypeId} (h:fn.results=#[.cell p ty,.tmp q]) (tmps:Array Value) (w:World) (g:Nat) (t:TypeId) (cs:List Value) (d:TypeDesc)
  (hp:tmps.getD p undef=.pointer (some ⟨g,0,none⟩)) (hg:RowAt w g cs t)
  (hu:P.underlying ty=some d) (hd:(match d with | .struct _ | .array _ _=>true | _=>false)=true) (hi:(P.info? ty).map (·.size)=some cs.toArray.size) :
  (results fn tmps).run P w=.ok (.tuple #[.agg cs.toArray,tmps.getD q undef]) w:=by
 have hp':tmps[p]?.getD undef=.pointer (some ⟨g,0,none⟩):=by simpa using hp
 simp [results,h,hp',asAddr,run_loadVar_row w g t ty cs.toArray _ d hg hu hd hi]

theorem OwnV.cap {w:World} {B n c:Nat} {A:Option Addr} {l:List Ver} (h:OwnV w B (.slice A n c) l):l.length=n∧n<=c:=by
 rcases h.2 with ⟨e,h0⟩ | ⟨g,cap,cur,e,_,_,hnc,_⟩
 ·injection e with _ e1 e2
  omega
 ·injection e with _ e1 e2
  omega
structure GoodL (l:List Ver):Prop where
 fits:FitsL l
 texts:∀ x,x ∈ l->x.val.txt.size<=1000
 len:l.length<=1000
theorem GoodL.drop {l:List Ver} (h:GoodL l) (k:Nat):GoodL (l.drop k) :=
 ⟨fun x hx=>h.fits x (List.mem_of_mem_drop hx),fun x hx=>h.texts x (List.mem_of_mem_drop hx),by rw [List.length_drop]; have:=h.len; omega⟩
theorem GoodL.nil:GoodL []:=⟨fun x hx=>(by cases hx),fun x hx=>(by cases hx),by decide⟩
end Go.Proofs.YtoljhoabbaigdaaGreat
