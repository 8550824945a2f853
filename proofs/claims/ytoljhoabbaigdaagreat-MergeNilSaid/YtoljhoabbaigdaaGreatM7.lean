/- Proved parts: Str. Conditions: each theorem's own. -/
import Derived.Test.YtoljhoabbaigdaaGreatM2
import Derived.Test.YtoljhoabbaigdaaGreatProg
import Derived.KernelRfl
import Derived.Laws.MakeOwn
import Derived.Maps.AppendAt
import Derived.Test.YtoljhoabbaigdaaGreatQ0
set_option maxRecDepth 100000
set_option maxHeartbeats 8000000
namespace Go.Proofs.YtoljhoabbaigdaaGreat
open Go.RowKit

def OwnS (w:World) (B:Nat) (v:Value) (zs:List ByteArray):Prop:=w.ownsRow B 9 1 v zs.length (zs.map Value.string)
section
variable {B:Nat} {w w':World} {v:Value} {zs:List ByteArray}
theorem OwnS.lt (h:OwnS w B v zs):∀ k,v.ownBlock=some k->B<=k∧k<w.heap.size:=World.ownsRow.lt h
theorem OwnS.below (h:OwnS w B v zs) (hb:Below w.heap.size w w'):OwnS w' B v zs:=by
 rcases h with ⟨h1,h2⟩
 refine ⟨h1,?_⟩
 rcases h2 with ⟨rfl,h0⟩ | ⟨g,cap,cur,rfl,hB,hg,r⟩
 ·exact .inl ⟨rfl,h0⟩
 ·refine .inr ⟨g,cap,cur,rfl,hB,?_,r⟩
  have hl:g<w.heap.size:=(Array.getElem?_eq_some_iff.1 hg).1
  rw [hb.block g hl]; exact hg
theorem OwnS.alloc (h:OwnS w B v zs) (o:Obj):OwnS (w.alloc o) B v zs:=World.ownsRow.alloc h o
theorem OwnS.drewN (h:OwnS w B v zs) (n:Nat):OwnS (w.drewN n) B v zs:=h
theorem OwnS.mono {C:Nat} (h:OwnS w B v zs) (hc:C<=B):OwnS w C v zs:=by
 rcases h with ⟨h1,h2⟩
 refine ⟨h1,?_⟩
 rcases h2 with q | ⟨g,cap,cur,e,hB,r⟩
 ·exact .inl q
 ·exact .inr ⟨g,cap,cur,e,Nat.le_trans hc hB,r⟩
theorem OwnS.form (h:OwnS w B v zs):∃ A c,v=.slice A zs.length c∧∀ j,j<zs.length->∃ g,A=some ⟨g,0,none⟩∧w.cell? ⟨g,j,none⟩=some (.string (zs.getD j ⟨#[]⟩)):=by
 rcases h.2 with ⟨rfl,hn⟩ | ⟨g,cap,cur,rfl,hB,hg,hnc,_,hs,ht⟩
 ·exact ⟨none,0,by rw [hn],fun j hj=>absurd hj (by omega)⟩
 ·refine ⟨some ⟨g,0,none⟩,cap,rfl,fun j hj=>⟨g,rfl,?_⟩⟩
  have hj2:j<zs.length * 1:=by omega
  rw [World.ownsRow.cellAt (w:=w) (base:=B) (e:=9) (size:=1) (xs:=zs.map Value.string) h j hj2,List.getElem?_map,List.getElem?_eq_getElem hj,List.getD,List.getElem?_eq_getElem hj]; rfl
theorem OwnS.cell {g n c:Nat} (h:OwnS w B (.slice (some ⟨g,0,none⟩) n c) zs) {j:Nat} (hj:j<zs.length):w.cell? ⟨g,j,none⟩=some (.string (zs.getD j ⟨#[]⟩)):=by
 obtain ⟨A,c',hv,hc⟩:=h.form
 obtain ⟨g',rfl,h1⟩:=hc j hj
 injection hv with h2 _ _
 injection h2 with h2
 injection h2 with h2 _ _
 rw [h2]; exact h1
theorem OwnS.made (w:World) (hB:B<=w.heap.size):OwnS (w.alloc (.cells #[] 9)) B (.slice (some ⟨w.heap.size,0,none⟩) 0 0) []:=World.ownsRow_made w #[] 0 hB (Nat.zero_le _) (by simp)
end

end Go.Proofs.YtoljhoabbaigdaaGreat
