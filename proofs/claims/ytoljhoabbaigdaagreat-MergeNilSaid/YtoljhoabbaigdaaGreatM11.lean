/- Proved parts: B1s B1p B1r C9p. Conditions: each theorem's own. -/
import Derived.Test.YtoljhoabbaigdaaGreatM9
import Derived.Test.YtoljhoabbaigdaaGreatM10
import Derived.Laws.AppendOwn
import Derived.Maps.AppendAt
import Derived.Deep.RegionHeldLaw
import Derived.Test.YtoljhoabbaigdaaGreatQ0
set_option maxRecDepth 100000
set_option maxHeartbeats 8000000
namespace Go.Proofs.YtoljhoabbaigdaaGreat
open Go.RowKit

def SlVG (w:World) (G:Nat->Prop) (A:Option Addr) (l:List Ver):Prop:=SlV w A l∧(0<l.length->∃ g o,A=some ⟨g,o,none⟩∧G g)
theorem SlV.keep {w w':World} {g o:Nat} {l:List Ver} (h:SlV w (some ⟨g,o,none⟩) l) (hk:w'.heap[g]?=w.heap[g]?) (hs:w.heap.size<=w'.heap.size):SlV w' (some ⟨g,o,none⟩) l:=fun hp=>by
 obtain ⟨b,o',e,hl,hc⟩:=h hp
 injection e with e
 injection e with e1 e2 _
 subst e1; subst e2
 have kk:∀ i,w'.cell? ⟨g,i,none⟩=w.cell? ⟨g,i,none⟩:=fun i=>World.cell?_of_block (a:=⟨g,i,none⟩) hk
 refine ⟨g,o,rfl,by omega,fun j hj=>?_⟩
 obtain ⟨c0,c1,c2,c3,c4⟩:=hc j hj
 exact ⟨(kk _).trans c0,(kk _).trans c1,(kk _).trans c2,(kk _).trans c3,(kk _).trans c4⟩
theorem SlVG.keep {w w':World} {G:Nat->Prop} {A:Option Addr} {l:List Ver} (h:SlVG w G A l) (hk:∀ k,G k->w'.heap[k]?=w.heap[k]?) (hs:w.heap.size<=w'.heap.size):SlVG w' G A l:=by
 refine ⟨fun hp=>?_,h.2⟩
 obtain ⟨g,o,rfl,hg⟩:=h.2 hp
 exact h.1.keep (hk g hg) hs hp
theorem SlVG.mono {w:World} {G G':Nat->Prop} {A:Option Addr} {l:List Ver} (h:SlVG w G A l) (hg:∀ k,G k->G' k):SlVG w G' A l:=by
 refine ⟨h.1,fun hp=>?_⟩
 obtain ⟨g,o,e,q⟩:=h.2 hp
 exact ⟨g,o,e,hg _ q⟩
def SlO (w:World) (G:Nat->Prop) (A:Option Addr) (L:Ch):Prop :=
 0<L.length->∃ b o,A=some ⟨b,o,none⟩∧G b∧b<w.heap.size∧∀ j,j<L.length->w.cell? ⟨b,o+j * 2,none⟩=some (.string (L.key j))∧∃ A' c,w.cell? ⟨b,o+j * 2+1,none⟩=some (.slice A' (L.chn j).length c)∧SlVG w G A' (L.chn j)
theorem SlO.nil (w:World) (G:Nat->Prop) (A:Option Addr):SlO w G A []:=fun h=>absurd h (by simp)
theorem SlO.keep {w w':World} {G:Nat->Prop} {A:Option Addr} {L:Ch} (h:SlO w G A L) (hk:∀ k,G k->w'.heap[k]?=w.heap[k]?) (hs:w.heap.size<=w'.heap.size):SlO w' G A L:=fun hp=>by
 obtain ⟨b,o,e,hg,hl,hc⟩:=h hp
 have kk:∀ i,w'.cell? ⟨b,i,none⟩=w.cell? ⟨b,i,none⟩:=fun i=>World.cell?_of_block (a:=⟨b,i,none⟩) (hk b hg)
 refine ⟨b,o,e,hg,by omega,fun j hj=>?_⟩
 obtain ⟨c0,A',c,c1,s⟩:=hc j hj
 exact ⟨(kk _).trans c0,A',c,(kk _).trans c1,s.keep hk hs⟩
theorem SlO.mono {w:World} {G G':Nat->Prop} {A:Option Addr} {L:Ch} (h:SlO w G A L) (hg:∀ k,G k->G' k):SlO w G' A L:=fun hp=>by
 obtain ⟨b,o,e,q,hl,hc⟩:=h hp
 refine ⟨b,o,e,hg _ q,hl,fun j hj=>?_⟩
 obtain ⟨c0,A',c,c1,s⟩:=hc j hj
 exact ⟨c0,A',c,c1,s.mono hg⟩
theorem SlO.at {w:World} {G:Nat->Prop} {A:Option Addr} {L:Ch} (h:SlO w G A L) {j:Nat} (hj:j<L.length):∃ b o A' c,A=some ⟨b,o,none⟩∧b<w.heap.size∧G b∧w.cell? ⟨b,o+j * 2,none⟩=some (.string (L.key j))∧w.cell? ⟨b,o+j * 2+1,none⟩=some (.slice A' (L.chn j).length c)∧SlVG w G A' (L.chn j):=by
 obtain ⟨b,o,e,q,hl,hc⟩:=h (by omega)
 obtain ⟨c0,A',c,c1,s⟩:=hc j hj
 exact ⟨b,o,A',c,e,hl,q,c0,c1,s⟩
structure GoodC (L:Ch):Prop where
 len:L.length<=100000
 fits:∀ x,x ∈ L->FitsL x.2
 texts:∀ x,x ∈ L->∀ y,y ∈ x.2->y.val.txt.size<=1000
 lens:∀ x,x ∈ L->x.2.length<=1000
 keys:∀ x,x ∈ L->x.1.size<=1000
 rise:L.Rise
 rises:∀ x,x ∈ L->RiseV x.2
theorem GoodC.get {L:Ch} (h:GoodC L) {i:Nat} (hi:i<L.length):FitsL (L.chn i)∧(∀ y,y ∈ L.chn i->y.val.txt.size<=1000)∧(L.chn i).length<=1000∧(L.key i).size<=1000∧RiseV (L.chn i):=by
 have m:(L.key i,L.chn i) ∈ L:=by rw [<-Ch.getE L hi]; exact List.getElem_mem hi
 exact ⟨h.fits _ m,h.texts _ m,h.lens _ m,h.keys _ m,h.rises _ m⟩

end Go.Proofs.YtoljhoabbaigdaaGreat

namespace Go.Proofs.YtoljhoabbaigdaaGreat
open Go.RowKit

abbrev Zs:=List (ByteArray × Value)
def zc (x:ByteArray × Value):List Value:=[.string x.1,x.2]
def zcs (zs:Zs):List Value:=zs.flatMap zc
def OwnZ (w:World) (B:Nat) (v:Value) (zs:Zs):Prop:=w.ownsRow B 147 2 v zs.length (zcs zs)
def dz:ByteArray × Value:=(⟨#[]⟩,undef)
def ZL (w:World) (G:Nat->Prop) (zs:Zs) (L:Ch):Prop:=zs.length=L.length∧∀ j,j<L.length->(zs.getD j dz).1=L.key j∧∃ A c,(zs.getD j dz).2=.slice A (L.chn j).length c∧SlVG w G A (L.chn j)
section
variable {w w':World} {B:Nat} {v:Value} {zs:Zs} {G G':Nat->Prop} {L:Ch}
theorem OwnZ.made (w:World) (hB:B<=w.heap.size):OwnZ (w.alloc (.cells #[] 147)) B (.slice (some ⟨w.heap.size,0,none⟩) 0 0) [] :=
 World.ownsRow_made w #[] 0 hB (Nat.zero_le _) (by simp)
theorem OwnZ.alloc (h:OwnZ w B v zs) (o:Obj):OwnZ (w.alloc o) B v zs:=World.ownsRow.alloc h o
theorem OwnZ.lt (h:OwnZ w B v zs):∀ k,v.ownBlock=some k->B<=k∧k<w.heap.size:=World.ownsRow.lt h
theorem OwnZ.below (h:OwnZ w B v zs) (hb:Below w.heap.size w w'):OwnZ w' B v zs:=by
 refine ⟨h.1,?_⟩
 rcases h.2 with hn | ⟨g,cap,cur,rfl,hB,hg,r⟩
 ·exact .inl hn
 ·refine .inr ⟨g,cap,cur,rfl,hB,?_,r⟩
  rw [hb.block g (Array.getElem?_eq_some_iff.1 hg).1]; exact hg
theorem ZL.nil (w:World) (G:Nat->Prop):ZL w G [] []:=⟨rfl,fun j hj=>by cases hj⟩
theorem ZL.keep (h:ZL w G zs L) (hk:∀ k,G k->w'.heap[k]?=w.heap[k]?) (hs:w.heap.size<=w'.heap.size):ZL w' G zs L:=by
 refine ⟨h.1,fun j hj=>?_⟩
 obtain ⟨a,A,c,e,s⟩:=h.2 j hj
 exact ⟨a,A,c,e,s.keep hk hs⟩
theorem ZL.mono (h:ZL w G zs L) (hg:∀ k,G k->G' k):ZL w G' zs L:=by
 refine ⟨h.1,fun j hj=>?_⟩
 obtain ⟨a,A,c,e,s⟩:=h.2 j hj
 exact ⟨a,A,c,e,s.mono hg⟩
theorem SlVG.below {A:Option Addr} {l:List Ver} (h:SlVG w G A l) (hb:Below w.heap.size w w'):SlVG w' G A l:=⟨h.1.below hb,h.2⟩
theorem ZL.below (h:ZL w G zs L) (hb:Below w.heap.size w w'):ZL w' G zs L:=by
 refine ⟨h.1,fun j hj=>?_⟩
 obtain ⟨a,A,c,e,s⟩:=h.2 j hj
 exact ⟨a,A,c,e,s.below hb⟩
def Gn (G:Nat->Prop) (B:Nat) (v:Value):Nat->Prop:=fun x=>G x∨(B<=x∧v.ownBlock≠some x)
theorem SlVG.grown {v':Value} {A:Option Addr} {l:List Ver} (h:SlVG w (Gn G B v) A l) (hg:w.grownBy w' v.ownBlock) (h4:v'.ownBlock=v.ownBlock∨v'.ownBlock=some w.heap.size) (hG:∀ x,G x->x<B) (hv:∀ k,v.ownBlock=some k->B<=k):SlVG w' (Gn G B v') A l:=by
 by_cases p:0<l.length
 ·obtain ⟨g,o,rfl,gg⟩:=h.2 p
  obtain ⟨b,o',e,hl,_⟩:=h.1 p
  injection e with e
  injection e with e1 _ _
  subst e1
  have ne:v.ownBlock≠some g:=by
   rcases gg with q | q
   ·intro e; have:=hv g e; have:=hG g q; omega
   ·exact q.2
  refine ⟨h.1.keep (hg.block g hl ne.symm) hg.size,fun _=>⟨g,o,rfl,?_⟩⟩
  rcases gg with q | q
  ·exact .inl q
  ·refine .inr ⟨q.1,?_⟩
   rcases h4 with e | e
   ·rw [e]; exact ne
   ·rw [e]; intro f; injection f with f; omega
 ·exact ⟨fun hp=>absurd hp p,fun hp=>absurd hp p⟩
theorem ZL.grown {v':Value} (h:ZL w (Gn G B v) zs L) (hg:w.grownBy w' v.ownBlock) (h4:v'.ownBlock=v.ownBlock∨v'.ownBlock=some w.heap.size) (hG:∀ x,G x->x<B) (hv:∀ k,v.ownBlock=some k->B<=k):ZL w' (Gn G B v') zs L:=by
 refine ⟨h.1,fun j hj=>?_⟩
 obtain ⟨a,A,c,e,s⟩:=h.2 j hj
 exact ⟨a,A,c,e,s.grown hg h4 hG hv⟩
theorem OwnZ.sl (h:OwnZ w B v zs) (hz:ZL w G zs L) (hG:∀ k,B<=k->G k):∃ A c,v=.slice A L.length c∧SlO w G A L:=by
 have h1:=h
 unfold OwnZ at h1
 rcases h.2 with ⟨rfl,h0⟩ | ⟨g,cap,cur,rfl,hB,hg,_⟩
 ·refine ⟨none,0,by rw [<-hz.1,h0],fun hp=>?_⟩
  have:=hz.1; omega
 ·refine ⟨some ⟨g,0,none⟩,cap,by rw [hz.1],fun hp=>⟨g,0,rfl,hG g hB,(Array.getElem?_eq_some_iff.1 hg).1,fun j hj=>?_⟩⟩
  have hjz:j<zs.length:=by rw [hz.1]; exact hj
  have at_:∀ i,i<2->w.cell? ⟨g,j * 2+i,none⟩=(zc (zs.getD j dz))[i]?:=fun i hi=>by
   rw [h1.cellAt (j * 2+i) (by omega),List.getD_eq_getElem?_getD,List.getElem?_eq_getElem hjz]
   exact flat_at (f:=zc) (n:=2) (fun _=>rfl) zs j i hjz hi
  obtain ⟨a,A,c,e,s⟩:=hz.2 j hj
  have q0:=at_ 0 (by decide)
  have q1:=at_ 1 (by decide)
  rw [Nat.zero_add]
  refine ⟨?_,A,c,?_,s⟩
  ·rw [<-a]; exact q0
  ·rw [<-e]; exact q1
end
end Go.Proofs.YtoljhoabbaigdaaGreat

namespace Go.Proofs.YtoljhoabbaigdaaGreat
open Go.RowKit

def sumTo (f:ByteArray × List Ver->Nat) (L:Ch) (i:Nat):Nat:=((L.take i).map f).sum
theorem sumTo_succ (f:ByteArray × List Ver->Nat) (L:Ch) {i:Nat} (hi:i<L.length):sumTo f L (i+1)=sumTo f L i+f (L.key i,L.chn i):=by
 unfold sumTo
 rw [List.take_succ_eq_append_getElem hi,List.map_append,List.sum_append,Ch.getE L hi]
 simp
theorem sumTo_all (f:ByteArray × List Ver->Nat) (L:Ch):sumTo f L L.length=(L.map f).sum:=by unfold sumTo; rw [List.take_length]
theorem wgt_le {L:Ch} (h:GoodC L):∀ x,x ∈ L->Ch.wgt x<=3000:=by
 intro x hx
 have hk:=h.keys x hx
 have ht:=h.texts x hx
 have hw:weightL x.2<=1100:=by
  unfold weightL
  split
  ·omega
  ·rename_i q
   have hl:0<x.2.length:=by omega
   have hm:lastL x.2 ∈ x.2:=by
    unfold lastL
    rw [List.getD_eq_getElem?_getD,List.getElem?_eq_getElem (by omega)]
    exact List.getElem_mem _
   have:=ht _ hm
   unfold Val.pack
   split
   ·rw [ByteArray.size_append,keyOf_size]; show 1+8<=_; omega
   ·rw [ByteArray.size_append]; show 1+_<=_; omega
 unfold Ch.wgt
 split<;>omega

theorem find_at {q:Nat->Bool} {n i:Nat} (hi:i<n) (hn:∀ j,j<i->q j=false) (hq:q i=true):((List.range n).find? q).getD n=i:=by
 have e:(List.range n).find? q=some i:=by
  rw [List.find?_range_eq_some]
  exact ⟨hq,by simpa using hi,fun j hj=>by simpa using hn j hj⟩
 rw [e]; rfl
theorem find_none {q:Nat->Bool} {n:Nat} (hn:∀ j,j<n->q j=false):((List.range n).find? q).getD n=n:=by
 have e:(List.range n).find? q=none:=by
  rw [List.find?_eq_none]
  intro x hx
  simpa using hn x (List.mem_range.1 hx)
 rw [e]; rfl

theorem vcs_append (a b:List Ver):vcs (a++b)=vcs a++vcs b:=by unfold vcs; simp
theorem vcs_one {l:List Ver} {u:Value} (h:u ∈ vcs l):u.oneCell'=true:=by
 unfold vcs at h
 obtain ⟨x,_,hx⟩:=List.mem_flatMap.1 h
 unfold Ver.cs at hx
 simp at hx
 rcases hx with rfl | rfl | rfl | rfl | rfl<;>rfl
theorem SlV.cellAt {w:World} {b o:Nat} {l:List Ver} (h:SlV w (some ⟨b,o,none⟩) l) {k:Nat} {u:Value} (hk:(vcs l)[k]?=some u):w.cell? ⟨b,o+k,none⟩=some u:=by
 have hl:=(List.getElem?_eq_some_iff.1 hk).1
 rw [vcs_len] at hl
 obtain ⟨b',o',e,_,hc⟩:=h (by omega)
 injection e with e
 injection e with e1 e2 _
 subst e1; subst e2
 obtain ⟨j,i,rfl,hi⟩:∃ j i,k=j * 5+i∧i<5:=⟨k / 5,k % 5,by omega,by omega⟩
 have hj:j<l.length:=by omega
 have:=flat_at (f:=Ver.cs) (n:=5) (fun _=>rfl) l j i hj hi
 have e:(vcs l)[j * 5+i]?=(l.getD j Ver.Z).cs[i]?:=by
  rw [List.getD_eq_getElem?_getD,List.getElem?_eq_getElem hj]; exact this
 rw [e] at hk
 obtain ⟨c0,c1,c2,c3,c4⟩:=hc j hj
 rw [show o+(j * 5+i)=o+j * 5+i by omega]
 match i,hi with
 | 0,_=>exact c0.trans hk
 | 1,_=>exact c1.trans hk
 | 2,_=>exact c2.trans hk
 | 3,_=>exact c3.trans hk
 | 4,_=>exact c4.trans hk

theorem step_appV {ops:Array Oper} {o:Oper} {a:Act} {w:World} {K:Act->World->Prop} {Q:Exit->Act->World->Prop} {E:Prop}
  (hg:o.guard=none) (s x:Operand) (hop:o.op=.call { callee:=.builtin .append,args:=#[s,x],argTypes:=#[145,145] })
  (B:Nat) (v:Value) (zs ys:List Ver) (hs:a.eval s=v) (hown:OwnV w B v zs) (A:Option Addr) (c:Nat) (hx:a.eval x=.slice A ys.length c) (hsl:SlV w A ys)
  (hl:zs.length+ys.length<=1000000) (hB:B<=w.heap.size)
  (hK:∀ v' w',OwnV w' B v' (zs++ys)->w.grownBy w' v.ownBlock->Below B w w'->K (a.put o.dst v') w') :
  if Region.wanted o (yielded ops a.tmps)=true then Oper.wp Tryz.prog o a w K Q else E:=by
 have hw:Region.wanted o (yielded ops a.tmps)=true:=by simp [Region.wanted,hg]
 rw [if_pos hw]
 obtain ⟨i0,hi,hz0,hz1,hz2⟩:=info_parts infoVer
 have key:∃ v' w',(Builtin.append_ #[145,145] o.type #[v,.slice A ys.length c]).run Tryz.prog w=.ok v' w'∧OwnV w' B v' (zs++ys)∧w.grownBy w' v.ownBlock∧Below B w w':=by
  cases A with
  | none =>
   have h0:ys=[]:=by
    cases ys with
    | nil=>rfl
    | cons y l =>
     obtain ⟨_,_,e,_⟩:=hsl (by simp)
     cases e
   subst h0
   refine ⟨v,w,?_,by rw [List.append_nil]; exact hown,⟨rfl,rfl,rfl,Nat.le_refl _,fun _ _ _=>rfl⟩,Below.refl _ _⟩
   have hown':=hown
   rcases hown'.2 with ⟨rfl,_⟩ | ⟨g,cap,cur,rfl,_,_,hnc,_⟩
   ·rw [show ([]:List Ver).length=0 from rfl]
    simp [Builtin.append_,run_underlying Tryz.underlying145,sizeOf,typeInfo,hi,Builtin.lenOf,Builtin.firstCells]
   ·rw [show ([]:List Ver).length=0 from rfl]
    simp [Builtin.append_,run_underlying Tryz.underlying145,sizeOf,typeInfo,hi,Builtin.lenOf,Builtin.firstCells,hnc,storeCells]
  | some ad =>
   obtain ⟨v',w',hr,h2,h3,_,_⟩:=run_append_own_at (P:=Tryz.prog) w B 145 o.type 129 i0 _ 5 48 Tryz.underlying145 hi hz0 hz1 hz2 rfl (by decide) v zs.length _ hown ad ys.length c (vcs ys) (vcs_len ys)
    (fun j u hj=>by
     have hjl:=(List.getElem?_eq_some_iff.1 hj).1
     rw [vcs_len] at hjl
     obtain ⟨b,o',e,_⟩:=hsl (by omega)
     injection e with e
     subst e
     rw [show (⟨b,o',none⟩:Addr).add j=⟨b,o'+j,none⟩ by
      unfold Addr.add
      split
      ·rename_i q; rw [q]; rfl
      ·rfl]
     exact hsl.cellAt hj) (fun u hu=>vcs_one hu) (by unfold maxLen; omega) (by omega) hB
   refine ⟨v',w',hr,?_,h3,(Below.refl _ _).grown h3 hB (fun k hk=>(hown.lt k hk).1)⟩
   unfold OwnV
   rw [vcs_append,List.length_append]
   exact h2
 obtain ⟨v',w',hr,h2,h4,h3⟩:=key
 unfold Oper.wp execOp
 simp only [hop,resolve,invoke,builtin,Sem.run_bind,Sem.run_pure,Result.andThen_ok,List.map_toArray,List.map_cons,List.map_nil,hs,hx,hr]
 exact hK _ _ h2 h4 h3
theorem row_new {n:Nat} (w:World) (v:Ver) (t:TypeId) (hn:n=w.heap.size):RowAt (w.alloc (.cells v.cs.toArray t)) n v.cs t:=by
 subst hn; exact RowAt.new w v.cs t
end Go.Proofs.YtoljhoabbaigdaaGreat
