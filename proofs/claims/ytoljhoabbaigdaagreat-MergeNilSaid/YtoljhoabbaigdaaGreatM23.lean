/- Proved parts: A0r A0u. Conditions: each theorem's own. -/
import Derived.Test.YtoljhoabbaigdaaGreatM22
import Derived.BigQuiet
import Derived.Test.YtoljhoabbaigdaaGreatQ0
set_option maxRecDepth 100000
set_option maxHeartbeats 8000000
namespace Go.Proofs.YtoljhoabbaigdaaGreat
open Go.RowKit

def LeftG (p:Nat) (v:Value) (w:World) (r:Rg) (w':World):Prop:=Chg (rfoot p v) w w'∧∃ v',RefG w' p v' r∧∀ k,rfoot p v' k->rfoot p v k∨w.heap.size<=k
theorem LeftG.same {p:Nat} {v:Value} {w w':World} {r:Rg} (h:RefG w p v r) (hb:Below w.heap.size w w'):LeftG p v w r w' :=
 ⟨Chg.of_below hb,v,h.below hb,fun _ e=>.inl e⟩

theorem RefG.drewN {p:Nat} {v:Value} {w:World} {r:Rg} (h:RefG w p v r) (m:Nat):RefG (w.drewN m) p v r:=⟨h.row,h.own⟩
theorem RefG.put {p:Nat} {v v':Value} {w w4:World} {r:Rg} {x:Int} {o:Obj} (h:RefG w p v r) (ho:Own w4 (p+1) v' (r.l++[x])) (hg:(w.alloc o).grownBy w4 v.ownBlock) (hk:∀ k,v'.ownBlock=some k->v.ownBlock=some k∨(w.alloc o).heap.size<=k) :
  RowAt w4 p [.int .i64 r.size,.int .i64 r.beg,v] 136∧RefG (w4.setCell ⟨p,2,none⟩ v') p v' ⟨r.size,r.beg,r.l++[x]⟩∧Chg (rfoot p v) w (w4.setCell ⟨p,2,none⟩ v')∧∀ k,rfoot p v' k->rfoot p v k∨w.heap.size<=k:=by
 have pl:=h.row.lt
 have sz:(w.alloc o).heap.size=w.heap.size+1:=by simp
 have r4:RowAt w4 p [.int .i64 r.size,.int .i64 r.beg,v] 136 :=
  (hg.block p (by omega) (fun e=>by have:=h.own.lt p e.symm; omega)).trans (h.row.alloc o)
 have c1:Chg (rfoot p v) w w4:=((Chg.refl _ w).alloc o).grown hg fun k e=>.inl (.inr e)
 refine ⟨r4,⟨r4.set 2 v',?_⟩,c1.setCell (.inl (.inl rfl)) v',fun k e=>?_⟩
 ·refine ⟨ho.1,?_⟩
  rcases ho.2 with hn | ⟨g,cap,cur,rfl,hB,hgg,q⟩
  ·exact .inl hn
  ·refine .inr ⟨g,cap,cur,rfl,hB,?_,q⟩
   exact (Below.heap_setCell _ _ _ _ (by show g≠p; omega)).trans hgg
 ·rcases e with e | e
  ·exact .inl (.inl e)
  ·rcases hk k e with q | q
   ·exact .inl (.inr q)
   ·exact .inr (by omega)

abbrev RelR:=World->Nat->(Nat->Prop)->Rg->Prop
abbrev PtrR (b:Nat):Value:=.pointer (some ⟨b,0,none⟩)
end Go.Proofs.YtoljhoabbaigdaaGreat
