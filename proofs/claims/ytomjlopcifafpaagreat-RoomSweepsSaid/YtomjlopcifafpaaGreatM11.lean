/- Proved parts: B1s B1p B1r C9p. Conditions: each theorem's own. -/
import Derived.Test.YtomjlopcifafpaaGreatM9
import Derived.Test.YtomjlopcifafpaaGreatM10
import Derived.Laws.AppendOwn
import Derived.Maps.AppendAt
import Derived.Deep.RegionHeldLaw
import Derived.Test.YtomjlopcifafpaaGreatQ2
set_option maxRecDepth 100000
set_option maxHeartbeats 8000000
namespace Go.Proofs.YtomjlopcifafpaaGreat
open Go.RowKit

def SlVG (w:World) (G:Nat->Prop) (A:Option Addr) (l:List Ver):Prop:=SlV w A l∧(0<l.length->∃ g o,A=some ⟨g,o,none⟩∧G g)
theorem SlV.keep {w w':World} {g o:Nat} {l:List Ver} (h:SlV w (some ⟨g,o,none⟩) l) (hk:w'.heap[g]?=w.heap[g]?) (hs:w.heap.size<=w'.heap.size):SlV w' (some ⟨g,o,none⟩) l:=fun hp=>by
 obtain ⟨b,o',e,hl,hc⟩:=h hp
 injection e with e
 injection e with e1 e2 _
 subst e1; subst e2
 have kk:∀ i,w'.cell? ⟨g,i,none⟩=w.cell? ⟨g,i,none⟩:=fun i=>World.cell?_of_block (a:=⟨g,i,none⟩) hk
 refine ⟨g,o,rfl,by omega,fun j hj=>?_⟩
 obtain ⟨c0,c1,c2,c3,c4⟩:=hc j hj
 exact ⟨(kk _).trans c0,(kk _).trans c1,(kk _).trans c2,(kk _).trans c3,(kk _).trans c4⟩
theorem SlVG.keep {w w':World} {G:Nat->Prop} {A:Option Addr} {l:List Ver} (h:SlVG w G A l) (hk:∀ k,G k->w'.heap[k]?=w.heap[k]?) (hs:w.heap.size<=w'.heap.size):SlVG w' G A l:=by
 refine ⟨fun hp=>?_,h.2⟩
 obtain ⟨g,o,rfl,hg⟩:=h.2 hp
 exact h.1.keep (hk g hg) hs hp
theorem SlVG.mono {w:World} {G G':Nat->Prop} {A:Option Addr} {l:List Ver} (h:SlVG w G A l) (hg:∀ k,G k->G' k):SlVG w G' A l:=by
 refine ⟨h.1,fun hp=>?_⟩
 obtain ⟨g,o,e,q⟩:=h.2 hp
 exact ⟨g,o,e,hg _ q⟩
def SlO (w:World) (G:Nat->Prop) (A:Option Addr) (L:Ch):Prop :=
 0<L.length->∃ b o,A=some ⟨b,o,none⟩∧G b∧b<w.heap.size∧∀ j,j<L.length->w.cell? ⟨b,o+j * 2,none⟩=some (.string (L.key j))∧∃ A' c,w.cell? ⟨b,o+j * 2+1,none⟩=some (.slice A' (L.chn j).length c)∧SlVG w G A' (L.chn j)
theorem SlO.nil (w:World) (G:Nat->Prop) (A:Option Addr):SlO w G A []:=fun h=>absurd h (by simp)
theorem SlO.keep {w w':World} {G:Nat->Prop} {A:Option Addr} {L:Ch} (h:SlO w G A L) (hk:∀ k,G k->w'.heap[k]?=w.heap[k]?) (hs:w.heap.size<=w'.heap.size):SlO w' G A L:=fun hp=>by
 obtain ⟨b,o,e,hg,hl,hc⟩:=h hp
 have kk:∀ i,w'.cell? ⟨b,i,none⟩=w.cell? ⟨b,i,none⟩:=fun i=>World.cell?_of_block (a:=⟨b,i,none⟩) (hk b hg)
 refine ⟨b,o,e,hg,by omega,fun j hj=>?_⟩
 obtain ⟨c0,A',c,c1,s⟩:=hc j hj
 exact ⟨(kk _).trans c0,A',c,(kk _).trans c1,s.keep hk hs⟩
theorem SlO.mono {w:World} {G G':Nat->Prop} {A:Option Addr} {L:Ch} (h:SlO w G A L) (hg:∀ k,G k->G' k):SlO w G' A L:=fun hp=>by
 obtain ⟨b,o,e,q,hl,hc⟩:=h hp
 refine ⟨b,o,e,hg _ q,hl,fun j hj=>?_⟩
 obtain ⟨c0,A',c,c1,s⟩:=hc j hj
 exact ⟨c0,A',c,c1,s.mono hg⟩
theorem SlO.at {w:World} {G:Nat->Prop} {A:Option Addr} {L:Ch} (h:SlO w G A L) {j:Nat} (hj:j<L.length):∃ b o A' c,A=some ⟨b,o,none⟩∧b<w.heap.size∧G b∧w.cell? ⟨b,o+j * 2,none⟩=some (.string (L.key j))∧w.cell? ⟨b,o+j * 2+1,none⟩=some (.slice A' (L.chn j).length c)∧SlVG w G A' (L.chn j):=by
 obtain ⟨b,o,e,q,hl,hc⟩:=h (by omega)
 obtain ⟨c0,A',c,c1,s⟩:=hc j hj
 exact ⟨b,o,A',c,e,hl,q,c0,c1,s⟩
structure GoodC (L:Ch):Prop where
 len:L.length<=100000
 fits:∀ x,x ∈ L->FitsL x.2
 texts:∀ x,x ∈ L->∀ y,y ∈ x.2->y.val.txt.size<=1000
 lens:∀ x,x ∈ L->x.2.length<=1000
 keys:∀ x,x ∈ L->x.1.size<=1000
 rise:L.Rise
 rises:∀ x,x ∈ L->RiseV x.2
theorem GoodC.get {L:Ch} (h:GoodC L) {i:Nat} (hi:i<L.length):FitsL (L.chn i)∧(∀ y,y ∈ L.chn i->y.val.txt.size<=1000)∧(L.chn i).length<=1000∧(L.key i).size<=1000∧RiseV (L.chn i):=by
 have m:(L.key i,L.chn i) ∈ L:=by rw [<-Ch.getE L hi]; exact List.getElem_mem hi
 exact ⟨h.fits _ m,h.texts _ m,h.lens _ m,h.keys _ m,h.rises _ m⟩

theorem rChain1 (p:Nat) (G:Nat->Prop) (A:Option Addr) (c:Nat) (L:Ch) (k:ByteArray) (w:World) (h5:w.cell? ⟨p,5,none⟩=some (.slice A L.length c)) (hs:SlO w G A L) (hg:GoodC L) :
  Calls Tryz.prog 86 #[.pointer (some ⟨p,0,none⟩),.string k] w fun e w'=>(∃ A' c',e=.returned (.slice A' (L.of k).length c')∧SlVG w G A' (L.of k))∧w'=w:=by
 obtain ⟨n,hn⟩:=nmq (L.length)
 have hl:=hg.len
 have hp:=L.pos_le k
 have LT:=qh (fun j (hj:j<L.pos k)=>Ch.ne_below hj)
 have EO:=qh (show L.has k=true->L.of k=L.chn (L.pos k) from fun q=>by unfold Ch.of; rw [if_pos q])
 have EN:=qh (show L.has k=false->L.of k=[] from fun q=>by unfold Ch.of; rw [q]; rfl)
 have HI:=qh (Ch.has_iff L k)
 have NA:=qh (fun j (hj:L.pos k<j) (hl:j<L.length)=>Ch.ne_above hg.rise hj hl)
 have NN:=qh (fun (q:L.has k=false) (h:L.pos k<L.length)=>Ch.ne_not q h)
 rw [<-hn] at h5 hl hp
 have HN:=qh hn
 have HS:=qh hs
 obtain ⟨P,hP⟩:=nmq (L.pos k)
 have HP:=qh hP
 rw [<-hP] at hp
 simp only [<-hP] at LT EO HI NA NN
 simp only [<-hn] at HI NA NN
 clear hn hs hg hP
 go_enter Tryz.func86,Tryz.ntmps86
 go_wp2_with fail
 cases hh:L.has k with
 | true =>
  obtain ⟨pn,ek⟩:=HI.out.1 hh
  have e1:=qh (EO.out hh)
  have EK:=qh ek
  clear hh ek EN NN
  go_loopw [5] (fun vi wr=>∃ i:Nat,i<=P∧vi=.int .i64 i∧wr=w) (fun vi _=>P+1-(intOf vi).toNat)
  case atStart=>exact ⟨0,Nat.zero_le _,rfl,rfl⟩
  case round =>
   obtain ⟨i,hi,rfl,rfl⟩:=hrel
   obtain ⟨b,o,A',c',rfl,_,_,k0,k1,sv⟩:=HS.out.at (j:=i) (by rw [<-HN.out]; omega)
   have i0:(0:Int)<=(i:Int):=by omega
   have i1:(i:Int)<(n:Int):=by omega
   by_cases q:i<P
   ·have ne:=str_ne (LT.out i q)
    obtain ⟨x,hx⟩:=nmq (L.key i)
    rw [<-hx] at k0 ne
    clear hx
    go_wp2_with fail
    go_roundw
    case rel=>exact ⟨i+1,by omega,by go_num,by first | trivial | rfl⟩
    case measure=>simp [intOf]; omega
   ·obtain rfl:i=P:=by omega
    have eq:=str_eq EK.out
    obtain ⟨x,hx⟩:=nmq (L.key i)
    rw [<-hx] at k0 eq
    have SV:=qh sv
    obtain ⟨m,hm⟩:=nmq ((L.chn i).length)
    rw [<-hm] at k1
    have HM:=qh hm
    clear hx sv hm
    go_wp2_with fail
    go_ret
    refine ⟨⟨A',c',?_,by rw [e1.out]; exact SV.out⟩,rfl⟩
    rw [e1.out,<-HM.out]; rfl
 | false =>
  have e1:=qh (EN.out hh)
  have NN:=qh (NN.out hh)
  clear hh EO
  go_loopw [5] (fun vi wr=>∃ i:Nat,i<=n∧vi=.int .i64 i∧wr=w) (fun vi _=>n+1-(intOf vi).toNat)
  case atStart=>exact ⟨0,Nat.zero_le _,rfl,rfl⟩
  case round =>
   obtain ⟨i,hi,rfl,rfl⟩:=hrel
   by_cases q:i<n
   ·obtain ⟨b,o,A',c',rfl,_,_,k0,k1,sv⟩:=HS.out.at (j:=i) (by rw [<-HN.out]; omega)
    have i0:(0:Int)<=(i:Int):=by omega
    have i1:(i:Int)<(n:Int):=by omega
    have ne:((L.key i).toList == k.toList)=false:=str_ne (by
     rcases Nat.lt_trichotomy i P with z | z | z
     ·exact LT.out i z
     ·subst z; exact NN.out q
     ·exact NA.out i z q)
    obtain ⟨x,hx⟩:=nmq (L.key i)
    rw [<-hx] at k0 ne
    clear hx sv
    go_wp2_with fail
    go_roundw
    case rel=>exact ⟨i+1,by omega,by go_num,by first | trivial | rfl⟩
    case measure=>simp [intOf]; omega
   ·obtain rfl:i=n:=by omega
    go_wp2_with fail
    go_ret
    exact ⟨⟨none,0,by rw [e1.out]; rfl,by rw [e1.out]; exact ⟨SlV.nil _ _,fun h=>absurd h (by simp)⟩⟩,rfl⟩

end Go.Proofs.YtomjlopcifafpaaGreat

namespace Go.Proofs.YtomjlopcifafpaaGreat
open Go.RowKit

theorem infoOne:(Tryz.prog.info? 176).map (fun i=>(i.zero,i.size,i.bytes))=some (some (.agg #[.string ⟨#[]⟩,.slice none 0 0]),2,40):=by kernel_rfl
abbrev Zs:=List (ByteArray × Value)
def zc (x:ByteArray × Value):List Value:=[.string x.1,x.2]
def zcs (zs:Zs):List Value:=zs.flatMap zc
def OwnZ (w:World) (B:Nat) (v:Value) (zs:Zs):Prop:=w.ownsRow B 176 2 v zs.length (zcs zs)
def dz:ByteArray × Value:=(⟨#[]⟩,undef)
def ZL (w:World) (G:Nat->Prop) (zs:Zs) (L:Ch):Prop:=zs.length=L.length∧∀ j,j<L.length->(zs.getD j dz).1=L.key j∧∃ A c,(zs.getD j dz).2=.slice A (L.chn j).length c∧SlVG w G A (L.chn j)
section
variable {w w':World} {B:Nat} {v:Value} {zs:Zs} {G G':Nat->Prop} {L:Ch}
theorem OwnZ.made (w:World) (hB:B<=w.heap.size):OwnZ (w.alloc (.cells #[] 176)) B (.slice (some ⟨w.heap.size,0,none⟩) 0 0) [] :=
 World.ownsRow_made w #[] 0 hB (Nat.zero_le _) (by simp)
theorem OwnZ.alloc (h:OwnZ w B v zs) (o:Obj):OwnZ (w.alloc o) B v zs:=World.ownsRow.alloc h o
theorem OwnZ.lt (h:OwnZ w B v zs):∀ k,v.ownBlock=some k->B<=k∧k<w.heap.size:=World.ownsRow.lt h
theorem OwnZ.below (h:OwnZ w B v zs) (hb:Below w.heap.size w w'):OwnZ w' B v zs:=by
 refine ⟨h.1,?_⟩
 rcases h.2 with hn | ⟨g,cap,cur,rfl,hB,hg,r⟩
 ·exact .inl hn
 ·refine .inr ⟨g,cap,cur,rfl,hB,?_,r⟩
  rw [hb.block g (Array.getElem?_eq_some_iff.1 hg).1]; exact hg
theorem ZL.nil (w:World) (G:Nat->Prop):ZL w G [] []:=⟨rfl,fun j hj=>by cases hj⟩
theorem ZL.keep (h:ZL w G zs L) (hk:∀ k,G k->w'.heap[k]?=w.heap[k]?) (hs:w.heap.size<=w'.heap.size):ZL w' G zs L:=by
 refine ⟨h.1,fun j hj=>?_⟩
 obtain ⟨a,A,c,e,s⟩:=h.2 j hj
 exact ⟨a,A,c,e,s.keep hk hs⟩
theorem ZL.snoc (h:ZL w G zs L) {k:ByteArray} {A:Option Addr} {c:Nat} {l:List Ver} (hs:SlVG w G A l):ZL w G (zs++[(k,.slice A l.length c)]) (L++[(k,l)]):=by
 refine ⟨by simp [h.1],fun j hj=>?_⟩
 have hj:j<L.length+1:=by simpa using hj
 by_cases q:j<L.length
 ·obtain ⟨a,A',c',e,s⟩:=h.2 j q
  have e1:(zs++[(k,Value.slice A l.length c)]).getD j dz=zs.getD j dz:=by
   rw [List.getD_eq_getElem?_getD,List.getD_eq_getElem?_getD,List.getElem?_append_left (by rw [h.1]; exact q)]
  have e2:Ch.key (L++[(k,l)]) j=L.key j:=by
   unfold Ch.key
   rw [List.getD_eq_getElem?_getD,List.getD_eq_getElem?_getD,List.getElem?_append_left q]
  have e3:Ch.chn (L++[(k,l)]) j=L.chn j:=by
   unfold Ch.chn
   rw [List.getD_eq_getElem?_getD,List.getD_eq_getElem?_getD,List.getElem?_append_left q]
  rw [e1,e2,e3]
  exact ⟨a,A',c',e,s⟩
 ·obtain rfl:j=L.length:=by omega
  have e1:(zs++[(k,Value.slice A l.length c)]).getD L.length dz=(k,.slice A l.length c):=by
   rw [List.getD_eq_getElem?_getD,List.getElem?_append_right (by rw [h.1]; exact Nat.le_refl _)]; simp [h.1]
  have e2:Ch.key (L++[(k,l)]) L.length=k:=by
   unfold Ch.key
   rw [List.getD_eq_getElem?_getD,List.getElem?_append_right (Nat.le_refl _)]; simp
  have e3:Ch.chn (L++[(k,l)]) L.length=l:=by
   unfold Ch.chn
   rw [List.getD_eq_getElem?_getD,List.getElem?_append_right (Nat.le_refl _)]; simp
  rw [e1,e2,e3]
  exact ⟨rfl,A,c,rfl,hs⟩
theorem ZL.mono (h:ZL w G zs L) (hg:∀ k,G k->G' k):ZL w G' zs L:=by
 refine ⟨h.1,fun j hj=>?_⟩
 obtain ⟨a,A,c,e,s⟩:=h.2 j hj
 exact ⟨a,A,c,e,s.mono hg⟩
theorem SlVG.below {A:Option Addr} {l:List Ver} (h:SlVG w G A l) (hb:Below w.heap.size w w'):SlVG w' G A l:=⟨h.1.below hb,h.2⟩
theorem ZL.below (h:ZL w G zs L) (hb:Below w.heap.size w w'):ZL w' G zs L:=by
 refine ⟨h.1,fun j hj=>?_⟩
 obtain ⟨a,A,c,e,s⟩:=h.2 j hj
 exact ⟨a,A,c,e,s.below hb⟩
def Gn (G:Nat->Prop) (B:Nat) (v:Value):Nat->Prop:=fun x=>G x∨(B<=x∧v.ownBlock≠some x)
theorem SlVG.grown {v':Value} {A:Option Addr} {l:List Ver} (h:SlVG w (Gn G B v) A l) (hg:w.grownBy w' v.ownBlock) (h4:v'.ownBlock=v.ownBlock∨v'.ownBlock=some w.heap.size) (hG:∀ x,G x->x<B) (hv:∀ k,v.ownBlock=some k->B<=k):SlVG w' (Gn G B v') A l:=by
 by_cases p:0<l.length
 ·obtain ⟨g,o,rfl,gg⟩:=h.2 p
  obtain ⟨b,o',e,hl,_⟩:=h.1 p
  injection e with e
  injection e with e1 _ _
  subst e1
  have ne:v.ownBlock≠some g:=by
   rcases gg with q | q
   ·intro e; have:=hv g e; have:=hG g q; omega
   ·exact q.2
  refine ⟨h.1.keep (hg.block g hl ne.symm) hg.size,fun _=>⟨g,o,rfl,?_⟩⟩
  rcases gg with q | q
  ·exact .inl q
  ·refine .inr ⟨q.1,?_⟩
   rcases h4 with e | e
   ·rw [e]; exact ne
   ·rw [e]; intro f; injection f with f; omega
 ·exact ⟨fun hp=>absurd hp p,fun hp=>absurd hp p⟩
theorem ZL.grown {v':Value} (h:ZL w (Gn G B v) zs L) (hg:w.grownBy w' v.ownBlock) (h4:v'.ownBlock=v.ownBlock∨v'.ownBlock=some w.heap.size) (hG:∀ x,G x->x<B) (hv:∀ k,v.ownBlock=some k->B<=k):ZL w' (Gn G B v') zs L:=by
 refine ⟨h.1,fun j hj=>?_⟩
 obtain ⟨a,A,c,e,s⟩:=h.2 j hj
 exact ⟨a,A,c,e,s.grown hg h4 hG hv⟩
theorem OwnZ.sl (h:OwnZ w B v zs) (hz:ZL w G zs L) (hG:∀ k,B<=k->G k):∃ A c,v=.slice A L.length c∧SlO w G A L:=by
 have h1:=h
 unfold OwnZ at h1
 rcases h.2 with ⟨rfl,h0⟩ | ⟨g,cap,cur,rfl,hB,hg,_⟩
 ·refine ⟨none,0,by rw [<-hz.1,h0],fun hp=>?_⟩
  have:=hz.1; omega
 ·refine ⟨some ⟨g,0,none⟩,cap,by rw [hz.1],fun hp=>⟨g,0,rfl,hG g hB,(Array.getElem?_eq_some_iff.1 hg).1,fun j hj=>?_⟩⟩
  have hjz:j<zs.length:=by rw [hz.1]; exact hj
  have at_:∀ i,i<2->w.cell? ⟨g,j * 2+i,none⟩=(zc (zs.getD j dz))[i]?:=fun i hi=>by
   rw [h1.cellAt (j * 2+i) (by omega),List.getD_eq_getElem?_getD,List.getElem?_eq_getElem hjz]
   exact flat_at (f:=zc) (n:=2) (fun _=>rfl) zs j i hjz hi
  obtain ⟨a,A,c,e,s⟩:=hz.2 j hj
  have q0:=at_ 0 (by decide)
  have q1:=at_ 1 (by decide)
  rw [Nat.zero_add]
  refine ⟨?_,A,c,?_,s⟩
  ·rw [<-a]; exact q0
  ·rw [<-e]; exact q1
end
theorem wp_putZ {w:World} {B:Nat} {ops:Array Oper} {rest:List Oper} {o:Oper} {a:Act} {Q:Exit->Act->World->Prop} (hgd:o.guard=none) (s x:Operand)
  (ho:o.op=.call { callee:=.builtin .append,args:=#[s,x],argTypes:=#[104,104] })
  (v:Value) (zs:Zs) (hs:a.eval s=v) (hown:OwnZ w B v zs) (hB:B<=w.heap.size) (g:Nat) (y:ByteArray × Value) (hx:a.eval x=.slice (some ⟨g,0,none⟩) 1 1)
  (hy:y.2.oneCell'=true) (hc:∀ i,i<2->w.cell? ⟨g,i,none⟩=(zc y)[i]?) (hl:zs.length<=1000000)
  (h:∀ v' w',OwnZ w' B v' (zs++[y])->w.grownBy w' v.ownBlock->(v'.ownBlock=v.ownBlock∨v'.ownBlock=some w.heap.size)->wpList Tryz.prog ops Q rest (a.put o.dst v') w'):wpList Tryz.prog ops Q (o :: rest) a w:=by
 obtain ⟨i0,hi,hz0,hz1,hz2⟩:=info_parts infoOne
 refine wpList_append_own_at w hgd s x 104 ho B 176 i0 _ 2 40 Tryz.underlying104 hi hz0 hz1 hz2 rfl (by decide) v zs.length _ hs hown ⟨g,0,none⟩ 1 1 (zc y) hx rfl ?_ ?_
  (by unfold maxLen; omega) (by omega) hB ?_
 ·intro j u hj
  have hj5:j<2:=(List.getElem?_eq_some_iff.1 hj).1
  rw [show (⟨g,0,none⟩:Addr).add j=⟨g,j,none⟩ by simp [Addr.add]; omega,hc j hj5,hj]
 ·intro u hu
  unfold zc at hu
  simp at hu
  rcases hu with rfl | rfl
  ·rfl
  ·exact hy
 ·intro v' w' h1 h2 _ h4
  refine h v' w' ?_ h2 h4
  have e:zcs zs++zc y=zcs (zs++[y]):=by unfold zcs; simp
  rw [e] at h1
  unfold OwnZ
  rw [List.length_append]
  exact h1

end Go.Proofs.YtomjlopcifafpaaGreat

namespace Go.Proofs.YtomjlopcifafpaaGreat
open Go.RowKit

def sumTo (f:ByteArray × List Ver->Nat) (L:Ch) (i:Nat):Nat:=((L.take i).map f).sum
theorem sumTo_succ (f:ByteArray × List Ver->Nat) (L:Ch) {i:Nat} (hi:i<L.length):sumTo f L (i+1)=sumTo f L i+f (L.key i,L.chn i):=by
 unfold sumTo
 rw [List.take_succ_eq_append_getElem hi,List.map_append,List.sum_append,Ch.getE L hi]
 simp
theorem sumTo_all (f:ByteArray × List Ver->Nat) (L:Ch):sumTo f L L.length=(L.map f).sum:=by unfold sumTo; rw [List.take_length]
theorem sumTo_le (f:ByteArray × List Ver->Nat) (L:Ch) (B:Nat) (hB:∀ x,x ∈ L->f x<=B):∀ i,i<=L.length->sumTo f L i<=i * B
 | 0,_=>by unfold sumTo; simp
 | i+1,h=>by
  have:=sumTo_le f L B hB i (by omega)
  have q:=hB (L.key i,L.chn i) (by rw [<-Ch.getE L (by omega)]; exact List.getElem_mem _)
  rw [sumTo_succ f L (by omega),Nat.add_mul]
  omega
theorem wgt_le {L:Ch} (h:GoodC L):∀ x,x ∈ L->Ch.wgt x<=3000:=by
 intro x hx
 have hk:=h.keys x hx
 have ht:=h.texts x hx
 have hw:weightL x.2<=1100:=by
  unfold weightL
  split
  ·omega
  ·rename_i q
   have hl:0<x.2.length:=by omega
   have hm:lastL x.2 ∈ x.2:=by
    unfold lastL
    rw [List.getD_eq_getElem?_getD,List.getElem?_eq_getElem (by omega)]
    exact List.getElem_mem _
   have:=ht _ hm
   unfold Val.pack
   split
   ·rw [ByteArray.size_append,keyOf_size]; show 1+8<=_; omega
   ·rw [ByteArray.size_append]; show 1+_<=_; omega
 unfold Ch.wgt
 split<;>omega

theorem rVers1 (p:Nat) (G:Nat->Prop) (A:Option Addr) (c:Nat) (L:Ch) (w:World) (h5:w.cell? ⟨p,5,none⟩=some (.slice A L.length c)) (hs:SlO w G A L) (hg:GoodC L) :
  Calls Tryz.prog 83 #[.pointer (some ⟨p,0,none⟩)] w fun e w'=>e=.returned (.int .i64 (L.vers:Nat))∧w'=w:=by
 obtain ⟨n,hn⟩:=nmq (L.length)
 have hl:=hg.len
 have SA:=qh (show sumTo (fun x=>x.2.length) L n=L.vers by rw [hn]; exact sumTo_all _ L)
 have SU:=qh (fun i (hi:i<n)=>sumTo_succ (fun x=>x.2.length) L (i:=i) (by omega))
 have SB:=qh (fun i (hi:i<=n)=>sumTo_le (fun x=>x.2.length) L 1000 hg.lens i (by omega))
 have GL:=qh (fun i (hi:i<n)=>(hg.get (i:=i) (by omega)).2.2.1)
 rw [<-hn] at h5 hl
 have HN:=qh hn
 have HS:=qh hs
 clear hn hs hg
 go_enter Tryz.func83,Tryz.ntmps83
 go_wp2_with fail
 go_loopw [3,4] (fun vn vi wr=>∃ i:Nat,i<=n∧vn=.int .i64 (sumTo (fun x=>x.2.length) L i:Nat)∧vi=.int .i64 i∧wr=w) (fun _ vi _=>n+1-(intOf vi).toNat)
 case atStart=>exact ⟨0,Nat.zero_le _,rfl,rfl,rfl⟩
 case round =>
  obtain ⟨i,hi,rfl,rfl,rfl⟩:=hrel
  by_cases q:i<n
  ·obtain ⟨b,o,A',c',rfl,_,_,k0,k1,sv⟩:=HS.out.at (j:=i) (by rw [<-HN.out]; omega)
   have i0:(0:Int)<=(i:Int):=by omega
   have i1:(i:Int)<(n:Int):=by omega
   have e:=SU.out i q
   have b1:=SB.out i (by omega)
   have b2:=GL.out i q
   obtain ⟨m,hm⟩:=nmq ((L.chn i).length)
   obtain ⟨t,ht⟩:=nmq (sumTo (fun x=>x.2.length) L i)
   rw [<-hm] at k1 b2
   rw [<-ht] at b1 ⊢
   have e:sumTo (fun x=>x.2.length) L (i+1)=t+m:=by rw [e,ht,hm]
   have E:=qh e
   have tb:t<=100000000:=by omega
   clear sv hm ht e b1
   go_wp2_with fail
   go_roundw
   case rel=>exact ⟨i+1,by omega,by rw [E.out]; go_num,by go_num,by first | trivial | rfl⟩
   case measure=>simp [intOf]; omega
  ·obtain rfl:i=n:=by omega
   rw [SA.out]
   go_wp2_with fail
   go_ret
   exact ⟨rfl,rfl⟩

theorem rLive1 (p:Nat) (G:Nat->Prop) (A:Option Addr) (c:Nat) (L:Ch) (w:World) (h5:w.cell? ⟨p,5,none⟩=some (.slice A L.length c)) (hs:SlO w G A L) (hg:GoodC L) :
  Calls Tryz.prog 130 #[.pointer (some ⟨p,0,none⟩)] w fun e w'=>e=.returned (.int .i64 (L.live:Nat))∧Below w.heap.size w w':=by
 obtain ⟨n,hn⟩:=nmq (L.length)
 have hl:=hg.len
 have SA:=qh (show sumTo Ch.wgt L n=L.live by rw [hn]; exact sumTo_all _ L)
 have SU:=qh (fun i (hi:i<n)=>sumTo_succ Ch.wgt L (i:=i) (by omega))
 have SB:=qh (fun i (hi:i<=n)=>sumTo_le Ch.wgt L 3000 (wgt_le hg) i (by omega))
 have GL:=qh (fun i (hi:i<n)=>hg.get (i:=i) (by omega))
 have WL:=qh (fun i (hi:i<n)=>wgt_le hg (L.key i,L.chn i) (by rw [<-Ch.getE L (by omega)]; exact List.getElem_mem _))
 rw [<-hn] at h5 hl
 have HN:=qh hn
 have HS:=qh hs
 have H5:=qh h5
 clear hn hs hg h5
 go_enter Tryz.func130,Tryz.ntmps130
 go_wp2_with fail
 go_loopw [3,4] (fun vn vi wr=>∃ i:Nat,i<=n∧vn=.int .i64 (sumTo Ch.wgt L i:Nat)∧vi=.int .i64 i∧Hid (Below w.heap.size w wr)) (fun _ vi _=>n+1-(intOf vi).toNat)
 case atStart=>exact ⟨0,Nat.zero_le _,rfl,rfl,qh (Below.refl _ _)⟩
 case round =>
  obtain ⟨i,hi,rfl,rfl,HB⟩:=hrel
  have h5:=(HB.out.cell (p:=⟨p,5,none⟩) (block_lt_of_cell H5.out)).trans H5.out
  by_cases q:i<n
  ·obtain ⟨b,o,A',c',rfl,hb,_,k0,k1,sv⟩:=HS.out.at (j:=i) (by rw [<-HN.out]; omega)
   have K0:=qh k0
   have k0:=(HB.out.cell (p:=⟨b,o+i * 2,none⟩) (block_lt_of_cell k0)).trans k0
   have k1:=(HB.out.cell (p:=⟨b,o+i * 2+1,none⟩) (block_lt_of_cell k1)).trans k1
   have i0:(0:Int)<=(i:Int):=by omega
   have i1:(i:Int)<(n:Int):=by omega
   obtain ⟨g1,g2,g3,g4,_⟩:=GL.out i q
   have CW:=qh (rWeight9 (L.chn i) A' c' wr (sv.1.below HB.out) g1 g2 g3)
   have e:=SU.out i q
   have b1:=SB.out i (by omega)
   have b2:=WL.out i q
   have ew:Ch.wgt (L.key i,L.chn i)=if weightL (L.chn i)=0 then 0 else weightL (L.chn i)+(L.key i).size:=rfl
   obtain ⟨m,hm⟩:=nmq ((L.chn i).length)
   obtain ⟨x,hx⟩:=nmq (L.key i)
   obtain ⟨W0,hW⟩:=nmq (weightL (L.chn i))
   obtain ⟨t,ht⟩:=nmq (sumTo Ch.wgt L i)
   rw [<-hm] at k1 CW
   rw [<-hx] at k0 K0 g4
   rw [<-hW] at CW
   rw [<-hx,<-hW] at ew
   rw [<-ht] at b1 ⊢
   rw [<-ht,<-hx] at e
   rw [<-hx] at b2
   have E:=qh e
   have EW:=qh ew
   have tb:t<=300000000:=by omega
   have H5r:=qh h5
   clear sv hm ht e b1 hx hW ew g1 g2 g3 hb
   go_wp2_with fail
   refine CW.out.mono ?_
   rintro r w1 ⟨rfl,hb1⟩
   have B1:=qh (HB.out.trans (hb1.mono HB.out.size))
   have h5':=(B1.out.cell (p:=⟨p,5,none⟩) (block_lt_of_cell H5.out)).trans H5.out
   have k0':=(B1.out.cell (p:=⟨b,o+i * 2,none⟩) (block_lt_of_cell K0.out)).trans K0.out
   clear hb1 h5 k0 k1
   by_cases z:W0=0
   ·have e0:=EW.out
    rw [if_pos z] at e0
    have E2:=qh (show sumTo Ch.wgt L (i+1)=t by rw [E.out,e0,Nat.add_zero])
    subst z
    clear e0 b2
    go_wp2_with fail
    go_roundw
    case rel=>exact ⟨i+1,by omega,by rw [E2.out],by go_num,B1⟩
    case measure=>simp [intOf]; omega
   ·have e0:=EW.out
    rw [if_neg z] at e0
    have E2:=qh (show sumTo Ch.wgt L (i+1)=t+W0+x.size by rw [E.out,e0]; omega)
    have z2:0<W0:=by omega
    have w2:W0<=3000:=by rw [e0] at b2; omega
    clear e0 b2 z
    go_wp2_with fail
    go_roundw
    case rel=>exact ⟨i+1,by omega,by rw [E2.out]; go_num,by go_num,B1⟩
    case measure=>simp [intOf]; omega
  ·obtain rfl:i=n:=by omega
   rw [SA.out]
   go_wp2_with fail
   go_ret
   exact ⟨rfl,HB.out⟩

theorem find_at {q:Nat->Bool} {n i:Nat} (hi:i<n) (hn:∀ j,j<i->q j=false) (hq:q i=true):((List.range n).find? q).getD n=i:=by
 have e:(List.range n).find? q=some i:=by
  rw [List.find?_range_eq_some]
  exact ⟨hq,by simpa using hi,fun j hj=>by simpa using hn j hj⟩
 rw [e]; rfl
theorem find_none {q:Nat->Bool} {n:Nat} (hn:∀ j,j<n->q j=false):((List.range n).find? q).getD n=n:=by
 have e:(List.range n).find? q=none:=by
  rw [List.find?_eq_none]
  intro x hx
  simpa using hn x (List.mem_range.1 hx)
 rw [e]; rfl

theorem vcs_append (a b:List Ver):vcs (a++b)=vcs a++vcs b:=by unfold vcs; simp
theorem vcs_one {l:List Ver} {u:Value} (h:u ∈ vcs l):u.oneCell'=true:=by
 unfold vcs at h
 obtain ⟨x,_,hx⟩:=List.mem_flatMap.1 h
 unfold Ver.cs at hx
 simp at hx
 rcases hx with rfl | rfl | rfl | rfl | rfl<;>rfl
theorem SlV.cellAt {w:World} {b o:Nat} {l:List Ver} (h:SlV w (some ⟨b,o,none⟩) l) {k:Nat} {u:Value} (hk:(vcs l)[k]?=some u):w.cell? ⟨b,o+k,none⟩=some u:=by
 have hl:=(List.getElem?_eq_some_iff.1 hk).1
 rw [vcs_len] at hl
 obtain ⟨b',o',e,_,hc⟩:=h (by omega)
 injection e with e
 injection e with e1 e2 _
 subst e1; subst e2
 obtain ⟨j,i,rfl,hi⟩:∃ j i,k=j * 5+i∧i<5:=⟨k / 5,k % 5,by omega,by omega⟩
 have hj:j<l.length:=by omega
 have:=flat_at (f:=Ver.cs) (n:=5) (fun _=>rfl) l j i hj hi
 have e:(vcs l)[j * 5+i]?=(l.getD j Ver.Z).cs[i]?:=by
  rw [List.getD_eq_getElem?_getD,List.getElem?_eq_getElem hj]; exact this
 rw [e] at hk
 obtain ⟨c0,c1,c2,c3,c4⟩:=hc j hj
 rw [show o+(j * 5+i)=o+j * 5+i by omega]
 match i,hi with
 | 0,_=>exact c0.trans hk
 | 1,_=>exact c1.trans hk
 | 2,_=>exact c2.trans hk
 | 3,_=>exact c3.trans hk
 | 4,_=>exact c4.trans hk

theorem step_appV {ops:Array Oper} {o:Oper} {a:Act} {w:World} {K:Act->World->Prop} {Q:Exit->Act->World->Prop} {E:Prop}
  (hg:o.guard=none) (s x:Operand) (hop:o.op=.call { callee:=.builtin .append,args:=#[s,x],argTypes:=#[124,124] })
  (B:Nat) (v:Value) (zs ys:List Ver) (hs:a.eval s=v) (hown:OwnV w B v zs) (A:Option Addr) (c:Nat) (hx:a.eval x=.slice A ys.length c) (hsl:SlV w A ys)
  (hl:zs.length+ys.length<=1000000) (hB:B<=w.heap.size)
  (hK:∀ v' w',OwnV w' B v' (zs++ys)->w.grownBy w' v.ownBlock->Below B w w'->K (a.put o.dst v') w') :
  if Region.wanted o (yielded ops a.tmps)=true then Oper.wp Tryz.prog o a w K Q else E:=by
 have hw:Region.wanted o (yielded ops a.tmps)=true:=by simp [Region.wanted,hg]
 rw [if_pos hw]
 obtain ⟨i0,hi,hz0,hz1,hz2⟩:=info_parts infoVer
 have key:∃ v' w',(Builtin.append_ #[124,124] o.type #[v,.slice A ys.length c]).run Tryz.prog w=.ok v' w'∧OwnV w' B v' (zs++ys)∧w.grownBy w' v.ownBlock∧Below B w w':=by
  cases A with
  | none =>
   have h0:ys=[]:=by
    cases ys with
    | nil=>rfl
    | cons y l =>
     obtain ⟨_,_,e,_⟩:=hsl (by simp)
     cases e
   subst h0
   refine ⟨v,w,?_,by rw [List.append_nil]; exact hown,⟨rfl,rfl,rfl,Nat.le_refl _,fun _ _ _=>rfl⟩,Below.refl _ _⟩
   have hown':=hown
   rcases hown'.2 with ⟨rfl,_⟩ | ⟨g,cap,cur,rfl,_,_,hnc,_⟩
   ·rw [show ([]:List Ver).length=0 from rfl]
    simp [Builtin.append_,run_underlying Tryz.underlying124,sizeOf,typeInfo,hi,Builtin.lenOf,Builtin.firstCells]
   ·rw [show ([]:List Ver).length=0 from rfl]
    simp [Builtin.append_,run_underlying Tryz.underlying124,sizeOf,typeInfo,hi,Builtin.lenOf,Builtin.firstCells,hnc,storeCells]
  | some ad =>
   obtain ⟨v',w',hr,h2,h3,_,_⟩:=run_append_own_at (P:=Tryz.prog) w B 124 o.type 120 i0 _ 5 48 Tryz.underlying124 hi hz0 hz1 hz2 rfl (by decide) v zs.length _ hown ad ys.length c (vcs ys) (vcs_len ys)
    (fun j u hj=>by
     have hjl:=(List.getElem?_eq_some_iff.1 hj).1
     rw [vcs_len] at hjl
     obtain ⟨b,o',e,_⟩:=hsl (by omega)
     injection e with e
     subst e
     rw [show (⟨b,o',none⟩:Addr).add j=⟨b,o'+j,none⟩ by
      unfold Addr.add
      split
      ·rename_i q; rw [q]; rfl
      ·rfl]
     exact hsl.cellAt hj) (fun u hu=>vcs_one hu) (by unfold maxLen; omega) (by omega) hB
   refine ⟨v',w',hr,?_,h3,(Below.refl _ _).grown h3 hB (fun k hk=>(hown.lt k hk).1)⟩
   unfold OwnV
   rw [vcs_append,List.length_append]
   exact h2
 obtain ⟨v',w',hr,h2,h4,h3⟩:=key
 unfold Oper.wp execOp
 simp only [hop,resolve,invoke,builtin,Sem.run_bind,Sem.run_pure,Result.andThen_ok,List.map_toArray,List.map_cons,List.map_nil,hs,hx,hr]
 exact hK _ _ h2 h4 h3
theorem slV_row {w:World} {b:Nat} {v:Ver} {t:TypeId} (r:RowAt w b v.cs t):SlV w (some ⟨b,0,none⟩) [v]:=fun _=>by
 refine ⟨b,0,rfl,r.lt,fun j hj=>?_⟩
 have e:j=0:=by simp at hj; exact hj
 subst e
 exact ⟨r.cell 0,r.cell 1,r.cell 2,r.cell 3,r.cell 4⟩
theorem row_new {n:Nat} (w:World) (v:Ver) (t:TypeId) (hn:n=w.heap.size):RowAt (w.alloc (.cells v.cs.toArray t)) n v.cs t:=by
 subst hn; exact RowAt.new w v.cs t
theorem row_grown {w w':World} {b g:Nat} {cs:List Value} {t:TypeId} (h:RowAt w b cs t) (hg:w.grownBy w' (some g)) (hn:g≠b):RowAt w' b cs t :=
 (hg.block b h.lt (fun e=>hn (Option.some.inj e).symm)).trans h
theorem own_made {B n:Nat} (w:World) (hB:B<=w.heap.size) (hn:n=w.heap.size):OwnV (w.alloc (.cells #[] 120)) B (.slice (some ⟨n,0,none⟩) 0 0) []:=by
 subst hn
 exact OwnV.made w hB
end Go.Proofs.YtomjlopcifafpaaGreat
