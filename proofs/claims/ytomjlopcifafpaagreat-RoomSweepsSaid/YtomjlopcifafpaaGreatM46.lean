/- Proved parts: B5t B5ta B5tb B5tc B5td B5u B5v B5w B5x B5y B5z B5za. Conditions: each theorem's own. -/
import Derived.Test.YtomjlopcifafpaaGreatM44
import Derived.Test.YtomjlopcifafpaaGreatM45
import Derived.Test.YtomjlopcifafpaaGreatM34
import Derived.Test.YtomjlopcifafpaaGreatM20
import Derived.StillTailTactics
import Derived.Test.YtomjlopcifafpaaGreatM15
import Derived.Test.YtomjlopcifafpaaGreatM19
import Derived.Lib.SliceRun
import Derived.Test.YtomjlopcifafpaaGreatM43
import Derived.Test.YtomjlopcifafpaaGreatQ1
import Derived.Test.YtomjlopcifafpaaGreatQ2
set_option maxRecDepth 100000
set_option maxHeartbeats 8000000
namespace Go.Proofs.YtomjlopcifafpaaGreat
open Go.RowKit

theorem Ch.pos_is {L:Ch} {k:ByteArray} {m:Nat} (hm:m<=L.length) (h1:∀ j,j<m->ltB (L.key j) k=true) (h2:m<L.length->ltB (L.key m) k=false):L.pos k=m:=by
 have le:=L.pos_le k
 rcases Nat.lt_trichotomy (L.pos k) m with q | q | q
 ·have a:=Ch.stop (L:=L) (k:=k) (by omega)
  rw [h1 _ q] at a; cases a
 ·exact q
 ·have a:=Ch.below q
  rw [h2 (by omega)] at a; cases a
theorem Ch.rise_lt {L:Ch} (h:L.Rise) {i j:Nat} (hij:i<j) (hj:j<L.length):ltB (L.key i) (L.key j)=true:=by
 have:=List.pairwise_iff_getElem.1 h i j (by omega) hj hij
 unfold Ch.key
 rw [List.getD_eq_getElem?_getD,List.getD_eq_getElem?_getD,List.getElem?_eq_getElem (show i<L.length by omega),List.getElem?_eq_getElem hj]
 exact this
theorem Ch.key_mem {L:Ch} {i:Nat} (hi:i<L.length):(L.key i,L.chn i) ∈ L:=by
 have:(L.key i,L.chn i)=L[i]:=by
  unfold Ch.key Ch.chn
  rw [List.getD_eq_getElem?_getD,List.getElem?_eq_getElem hi]; rfl
 rw [this]
 exact List.getElem_mem hi
theorem Ch.key_front {front L0:Ch} {i:Nat} (_:i<L0.length):(front++L0.drop i).length=front.length+(L0.length-i)∧Ch.key (front++L0.drop i) front.length=L0.key i∧Ch.chn (front++L0.drop i) front.length=L0.chn i:=by
 have e:(front++L0.drop i)[front.length]?=L0[i]?:=by
  rw [List.getElem?_append_right (Nat.le_refl _),Nat.sub_self,List.getElem?_drop,Nat.add_zero]
 refine ⟨by rw [List.length_append,List.length_drop],?_,?_⟩
 ·unfold Ch.key
  rw [List.getD_eq_getElem?_getD,List.getD_eq_getElem?_getD,e]
 ·unfold Ch.chn
  rw [List.getD_eq_getElem?_getD,List.getD_eq_getElem?_getD,e]
theorem Ch.front_key {front L:Ch} {j:Nat} (hj:j<front.length):∃ x,x ∈ front∧Ch.key (front++L) j=x.1:=by
 refine ⟨front[j],List.getElem_mem hj,?_⟩
 unfold Ch.key
 rw [List.getD_eq_getElem?_getD,List.getElem?_append_left hj,List.getElem?_eq_getElem hj]; rfl

def View (b:Nat) (L0:Ch) (i:Nat) (V:World):Prop :=
 ∃ (wz:World) (N:Nat->Prop) (s:Sh) (L:Ch) (P:Nat) (os2:List Ob) (front:Ch),Side wz N V (s.os b++os2)∧s.AtF L P∧L=front++L0.drop i∧∀ x,x ∈ front->∃ y,y ∈ L0.take i∧y.1=x.1
def Fix (b:Nat) (L0:Ch) (i:Nat) (K:ByteArray) (p:Nat) (V:World):Prop :=
 ∃ (wz:World) (N:Nat->Prop) (s:Sh) (os2:List Ob),Side wz N V (s.os b++os2)∧(i<L0.length->K=L0.key i∧p<s.cs.length∧s.cs.getD p []=L0.chn i)
theorem View.below {b:Nat} {L0:Ch} {i:Nat} {V V':World} (h:View b L0 i V) (hb:Below V.heap.size V V'):View b L0 i V':=by
 obtain ⟨wz,N,s,L,P,os2,front,h1,h2⟩:=h
 exact ⟨wz,N,s,L,P,os2,front,h1.below hb,h2⟩
section
variable {wz V:World} {N:Nat->Prop} {b i P:Nat} {s:Sh} {os2:List Ob} {L L0 front:Ch}
theorem next_of (a:s.AtF L P) (e:L=front++L0.drop i):decide (front.length<s.l.length)=decide (i<L0.length) ∧
  ∃ p:Nat,s.l.atN front.length=(p:Int)∧(i<L0.length->s.l.atK front.length=L0.key i∧p<s.cs.length∧s.cs.getD p []=L0.chn i):=by
 have ll:s.l.length=L.length:=a.fine.llen
 have le:L.length=front.length+(L0.length-i):=by rw [e,List.length_append,List.length_drop]
 by_cases hi:i<L0.length
 ·have hm:front.length<L.length:=by omega
  obtain ⟨_,k2,k3⟩:=Ch.key_front (front:=front) hi
  rw [<-e] at k2 k3
  have hl:front.length<s.l.length:=by omega
  have kk:s.l.key front.length=L0.key i:=by rw [a.fine.key hm,k2]
  have mem:(s.l.key front.length,s.l.num front.length) ∈ s.l:=by rw [<-KV.getE _ _ hl]; exact List.getElem_mem hl
  obtain ⟨n,e1,e2,e3,_⟩:=a.fine.at_ _ _ mem
  have m2:=Ch.key_mem hm
  rw [k2,k3] at m2
  rw [kk] at e3
  have u1:=Ch.of_mem a.fine.rise m2
  have u2:=Ch.of_mem a.fine.rise e3
  refine ⟨by rw [decide_eq_true hl,decide_eq_true hi],n,by unfold KV.atN; rw [if_pos hl]; exact e1,fun _=>⟨by unfold KV.atK; rw [if_pos hl]; exact kk,e2,by rw [<-u2,u1]⟩⟩
 ·have hl:¬ front.length<s.l.length:=by omega
  exact ⟨by rw [decide_eq_false hl,decide_eq_false hi],0,by unfold KV.atN; rw [if_neg hl]; rfl,fun q=>absurd q hi⟩
theorem stepS (h:View b L0 i V) (k:ByteArray) (h1:∀ y,y ∈ L0.take i->ltB y.1 k=true) (h2:i<L0.length->ltB (L0.key i) k=false) :
  Calls Tryz.prog 137 #[PtrS b,.func (.func 94) #[] #[],.string k] V fun e V'=>∃ (K:ByteArray) (p:Nat),e=.returned (.tuple #[.string K,.int .i64 (p:Int),.bool (decide (i<L0.length))])∧Below V.heap.size V V'∧Fix b L0 i K p V':=by
 obtain ⟨wz,N,s,L,P,os2,front,h0,a,e,hf⟩:=h
 obtain ⟨q1,p,q2,q3⟩:=next_of a e
 have hp:s.l.pos k=front.length:=by
  rw [a.fine.pos]
  refine Ch.pos_is (by rw [e,List.length_append]; omega) (fun j hj=>?_) fun hm=>?_
  ·obtain ⟨x,hx,ex⟩:=Ch.front_key (L:=L0.drop i) hj
   obtain ⟨y,hy,ey⟩:=hf x hx
   rw [e,ex,<-ey]; exact h1 y hy
  ·have hi:i<L0.length:=by rw [e,List.length_append,List.length_drop] at hm; omega
   rw [e,(Ch.key_front hi).2.1]; exact h2 hi
 have c:=xLeastS h0 a k
 rw [hp,q1,q2] at c
 exact c.mono fun e w' ⟨c1,c2⟩=>⟨_,p,c1,c2,wz,N,s,os2,h0.below c2,q3⟩
theorem stepA (h:View b L0 i V) (k:ByteArray) (h1:∀ y,y ∈ L0.take i->ltB k y.1=false) (h2:i<L0.length->ltB k (L0.key i)=true) :
  Calls Tryz.prog 137 #[PtrS b,.func (.func 107) #[] #[],.string k] V fun e V'=>∃ (K:ByteArray) (p:Nat),e=.returned (.tuple #[.string K,.int .i64 (p:Int),.bool (decide (i<L0.length))])∧Below V.heap.size V V'∧Fix b L0 i K p V':=by
 obtain ⟨wz,N,s,L,P,os2,front,h0,a,e,hf⟩:=h
 obtain ⟨q1,p,q2,q3⟩:=next_of a e
 have fle:front.length<=L.length:=by rw [e,List.length_append]; omega
 have k1:∀ j,j<front.length->ltB k (L.key j)=false:=fun j hj=>by
  obtain ⟨x,hx,ex⟩:=Ch.front_key (L:=L0.drop i) hj
  obtain ⟨y,hy,ey⟩:=hf x hx
  rw [e,ex,<-ey]; exact h1 y hy
 have k2:front.length<L.length->ltB k (L.key front.length)=true:=fun hm=>by
  have hi:i<L0.length:=by rw [e,List.length_append,List.length_drop] at hm; omega
  rw [e,(Ch.key_front hi).2.1]; exact h2 hi
 have hp:s.l.aft k=front.length:=by
  have ea:s.l.aft k=if L.has k then L.pos k+1 else L.pos k:=by unfold KV.aft; rw [a.fine.has,a.fine.pos]
  have pl:=L.pos_le k
  rw [ea]
  cases hh:L.has k with
  | true =>
   obtain ⟨p1,p2⟩:=(Ch.has_iff L k).1 hh
   rw [if_pos rfl]
   rcases Nat.lt_trichotomy (L.pos k+1) front.length with z | z | z
   ·-- a key in front above k
    have r:=Ch.rise_lt a.fine.rise (i:=L.pos k) (j:=L.pos k+1) (by omega) (by omega)
    rw [p2,k1 _ z] at r; cases r
   ·exact z
   ·have z':front.length<=L.pos k:=by omega
    rcases Nat.lt_or_ge front.length (L.pos k) with y | y
    ·have a1:=Ch.below y
     have a2:=k2 (by omega)
     rw [ltB_asym a2] at a1; cases a1
    ·have a2:=k2 (by omega)
     rw [show front.length=L.pos k by omega,p2,ltB_irr] at a2; cases a2
  | false =>
   rw [if_neg (by decide)]
   refine Ch.pos_is fle (fun j hj=>?_) fun hm=>ltB_asym (k2 hm)
   have a1:=k1 j hj
   cases z:ltB (L.key j) k with
   | true=>rfl
   | false =>
    exfalso
    have ek:=ltB_total z a1
    have:=(Ch.has_iff L k).2 ⟨by rw [<-ek,Ch.pos_of a.fine.rise (by omega)]; omega,by rw [<-ek,Ch.pos_of a.fine.rise (by omega)]⟩
    rw [hh] at this; cases this
 have c:=xLeastA h0 a k
 rw [hp,q1,q2] at c
 exact c.mono fun e w' ⟨c1,c2⟩=>⟨_,p,c1,c2,wz,N,s,os2,h0.below c2,q3⟩
end

end Go.Proofs.YtomjlopcifafpaaGreat

namespace Go.Proofs.YtomjlopcifafpaaGreat
open Go.RowKit Go.Shelf

abbrev WItm:=ByteArray × Value
def encW (x:WItm):Array Value:=#[.string x.1,x.2]
def OkW (L0:Ch) (j0:Nat) (pre:List WItm) (x:WItm) (V:World):Prop :=
 j0+pre.length<L0.length∧x.1=L0.key (j0+pre.length)∧∃ A c,x.2=.slice A (L0.chn (j0+pre.length)).length c∧(L0.chn (j0+pre.length)).length<=c∧SlV V A (L0.chn (j0+pre.length))
def EndW (L0:Ch) (j0:Nat) (xs:List WItm):Prop:=j0+xs.length=L0.length
def strAt:Value->ByteArray
 | .string k=>k
 | _=>⟨#[]⟩
def isOn:Value->Bool
 | .bool t=>t
 | _=>false
theorem Fix.cells {b i p:Nat} {L0:Ch} {K:ByteArray} {V:World} (h:Fix b L0 i K p V) (hi:i<L0.length):K=L0.key i∧∃ g m c A c2,p<m∧m<=c∧V.cell? ⟨b,6,none⟩=some (.slice (some ⟨g,0,none⟩) m c)∧V.cell? ⟨g,p,none⟩=some (.slice A (L0.chn i).length c2)∧(L0.chn i).length<=c2∧SlV V A (L0.chn i):=by
 obtain ⟨wz,N,s,os2,h0,q⟩:=h
 obtain ⟨e1,hp,e2⟩:=q hi
 obtain ⟨g,c,A,c2,e3,e4,_,e5,e6⟩:=Sh.cview h0 hp
 have c6:=(Sh.rowAt h0).cell 6
 simp only [Sh.row,List.getElem?_cons_succ,List.getElem?_cons_zero] at c6
 rw [e2] at e4 e5 e6
 rw [e3] at c6
 refine ⟨e1,g,s.cs.length,c,A,c2,hp,?_,c6,e4,e5,e6⟩
 have hv:=h0.vecAt (i:=3) (t:=124) (v:=s.cv) (xs:=s.vs) rfl
 obtain ⟨F,hP⟩:=h0.get (i:=5) (o:=oDat s.vs s.cs) rfl
 rcases vec_form hv with ⟨e7,_⟩ | ⟨g',c',e7,hc,_⟩
 ·rw [e3] at e7; cases e7
 ·rw [e3] at e7
  injection e7 with _ _ e8
  rw [e8,<-hP.len]; exact hc

theorem stepN {b i:Nat} {L0:Ch} {K:ByteArray} {V:World} (hr:L0.Rise) (hi:i<L0.length) (eK:K=L0.key i) (h:View b L0 (i+1) V) :
  Calls Tryz.prog 137 #[PtrS b,.func (.func 107) #[] #[],.string K] V fun e V'=>∃ (K:ByteArray) (p:Nat),e=.returned (.tuple #[.string K,.int .i64 (p:Int),.bool (decide (i+1<L0.length))])∧Below V.heap.size V V'∧Fix b L0 (i+1) K p V':=by
 subst eK
 refine stepA h _ (fun y hy=>?_) fun q=>Ch.rise_lt hr (Nat.lt_succ_self i) q
 obtain ⟨j,hj,rfl⟩:=List.mem_iff_getElem.1 hy
 rw [List.length_take] at hj
 have e:(L0.take (i+1))[j].1=L0.key j:=by
  rw [List.getElem_take]
  unfold Ch.key
  rw [List.getD_eq_getElem?_getD,List.getElem?_eq_getElem (by omega)]; rfl
 rw [e]
 rcases Nat.lt_or_ge j i with z | z
 ·exact ltB_asym (Ch.rise_lt hr z hi)
 ·rw [show j=i by omega]; exact ltB_irr _

attribute [local go_sem] Oper.semAt_some
theorem xWalkB {n b q0 q1 q2 j0:Nat} {fv:Value} {k:ByteArray} {L0:Ch} {w0:World} (I:List WItm->World->Prop) (hr:L0.Rise) (hj:j0<=L0.length)
  (hI:∀ pre V,I pre V->View b L0 (j0+pre.length) V∧V.cell? ⟨q0,0,none⟩=some (PtrS b))
  (hS:∀ W,View b L0 j0 W->Calls Tryz.prog 137 #[PtrS b,fv,.string k] W fun e V'=>∃ (K:ByteArray) (p:Nat),e=.returned (.tuple #[.string K,.int .i64 (p:Int),.bool (decide (j0<L0.length))])∧Below W.heap.size W V'∧Fix b L0 j0 K p V')
  (l1:q1<w0.heap.size) (l2:q2<w0.heap.size) (c1:w0.cell? ⟨q1,0,none⟩=some fv) (c2:w0.cell? ⟨q2,0,none⟩=some (.string k)) :
  GivesB Fence.wide n Tryz.prog 136 #[.pointer (some ⟨q0,0,none⟩),.pointer (some ⟨q1,0,none⟩),.pointer (some ⟨q2,0,none⟩)] encW I (OkW L0 j0) (EndW L0 j0) w0:=by
 intro l J Jx W hb hJ hJx hJI hY h0
 have c0:=(hI _ _ (hJI _ _ h0)).2
 have c1:=(hb.cell (p:=⟨q1,0,none⟩) l1).trans c1
 have c2:=(hb.cell (p:=⟨q2,0,none⟩) l2).trans c2
 have SB:=qh (hS W (by have:=(hI _ _ (hJI _ _ h0)).1; simpa using this))
 have JB:=qh hJ
 have XB:=qh hJx
 have HI:=qh (fun pre V (h:J pre V)=>hI _ _ (hJI _ _ h))
 have HY:=qh hY
 have H0:=qh h0
 have HR:=qh hr
 have HJ0:=qh hj
 clear hI hS hb hJ hJx hJI hY h0 hr hj l1 l2
 refine callsIn_of_wp Tryz.func136 rfl trivial ?_ rfl
 simp only [Tryz.ntmps136,List.size_toArray,List.length_cons,List.length_nil,Nat.reduceAdd,Nat.reduceSub,Array.replicate_succ,Array.replicate_zero,List.push_toArray,List.append_toArray,List.nil_append,List.cons_append]
 gi_wp2_with (refine ⟨trivial,(fun h=>by cases h),?_⟩; gi_at_call 137; refine (callsIn_wide.2 SB.out).mono ?_; rintro e w1 ⟨K,p,rfl,hb1,hF⟩; have HB1:=qh hb1; have HF:=qh hF; clear hb1 hF)
 gi_loopw [5,6,7] (fun vk vp vt wr=>∃ (pre:List WItm) (K:ByteArray) (p:Nat),vk=.string K∧vp=.int .i64 (p:Int)∧vt=.bool (decide (j0+pre.length<L0.length))∧j0+pre.length<=L0.length∧Hid (J pre wr)∧Hid (Fix b L0 (j0+pre.length) K p wr))
  (fun vk _ vt _=>if isOn vt then L0.length-L0.pos (strAt vk) else 0)
 case atStart=>exact ⟨[],K,p,rfl,rfl,rfl,HJ0.out,qh (JB.out _ _ _ H0.out HB1.out),HF⟩
 case round =>
  obtain ⟨pre,K,p,rfl,rfl,rfl,hle,HJi,HFi⟩:=hrel
  have c0:=(HI.out _ _ HJi.out).2
  cases d:decide (j0+pre.length<L0.length) with
  | false =>
   have e:j0+pre.length=L0.length:=by have:=of_decide_eq_false d; omega
   have E:=qh (show EndW L0 j0 pre from e)
   clear d e HB1 HF SB H0 HY
   gi_wp2_with (refine ⟨(fun _ h=>by cases h),?_⟩)
   go_end0
   exact ⟨⟨_,rfl⟩,.inl ⟨pre,E.out,HJi.out⟩⟩
  | true =>
   have hi:=of_decide_eq_true d
   obtain ⟨eK,g,m,c,A,c9,pm,mc,k6,kp,kc,ks⟩:=HFi.out.cells hi
   obtain ⟨z,hz⟩:=nmq ((L0.chn (j0+pre.length)).length)
   rw [<-hz] at kp
   have ok:OkW L0 j0 pre (K,.slice A z c9) wr:=⟨hi,eK,A,c9,by rw [hz],kc,ks⟩
   obtain ⟨fn,tmps,assign,body,hy,hR⟩:=HY.out pre (K,.slice A z c9) wr HJi.out ok
   have hR:=round_anyDepth (m':=n-1) rfl hR
   have hy:(Instr.yield l #[.string K,.slice A z c9]).run Tryz.prog wr=.ok (.round l fn tmps assign body) wr:=hy
   have HRD:=qh hR
   have HIi:=qh (show j0+pre.length<L0.length from hi)
   have EK:=qh eK
   have p0:(0:Int)<=(p:Int):=by omega
   have p1:(p:Int)<(m:Int):=by omega
   clear hR ok kc ks hz d HB1 HF SB H0 hi eK
   have ln:j0+(pre++[(K,Value.slice A z c9)]).length=j0+pre.length+1:=by rw [List.length_append]; rfl
   have ST:=qh (fun V (h:J (pre++[(K,.slice A z c9)]) V)=>stepN HR.out HIi.out EK.out (by have:=(HI.out _ _ h).1; rw [ln] at this; exact this))
   have LN:=qh ln
   clear ln
   gi_wp2_with (first
    | (refine ⟨(fun h=>by cases h),?_⟩; refine HRD.out.mono ?_; rintro e W3 (⟨rfl,hJ3⟩ | ⟨rfl,hJx3⟩)<;>first | (have c3:=(HI.out _ _ hJ3).2; have HJ3:=qh hJ3; clear hJ3) | (have HX3:=qh hJx3; clear hJx3))
    | (refine ⟨trivial,(fun h=>by cases h),?_⟩; gi_at_call 137; refine (callsIn_wide.2 (ST.out _ HJ3.out)).mono ?_; rintro e w4 ⟨K4,p4,rfl,hb4,hF4⟩; have HB4:=qh hb4; have HF4:=qh hF4; clear hb4 hF4))
   ·refine ⟨⟨pre++[(K,.slice A z c9)],K4,p4,rfl,rfl,by rw [LN.out],by rw [LN.out]; exact HIi.out,qh (JB.out _ _ _ HJ3.out HB4.out),by rw [LN.out]; exact HF4⟩,?_⟩
    have hi:=HIi.out
    have e1:L0.pos K=j0+pre.length:=by rw [EK.out]; exact Ch.pos_of HR.out hi
    show (if decide (j0+pre.length+1<L0.length)=true then L0.length-L0.pos K4 else 0)<(if true=true then L0.length-L0.pos K else 0)
    rw [if_pos rfl,e1]
    split
    ·rename_i q
     have q:=of_decide_eq_true q
     obtain ⟨_,_,_,_,f1,f2⟩:=HF4.out
     rw [(f2 q).1,Ch.pos_of HR.out q]; omega
    ·omega
   ·go_end0
    exact ⟨⟨_,rfl⟩,.inr ⟨_,HX3.out⟩⟩

theorem xWalkG {n b q0 q1 q2 j0:Nat} {fv:Value} {k:ByteArray} {L0:Ch} {w0:World} (I:List WItm->World->Prop) (hr:L0.Rise) (hj:j0<=L0.length)
  (hI:∀ pre V,I pre V->View b L0 (j0+pre.length) V∧V.cell? ⟨q0,0,none⟩=some (PtrS b))
  (hS:∀ W,View b L0 j0 W->Calls Tryz.prog 137 #[PtrS b,fv,.string k] W fun e V'=>∃ (K:ByteArray) (p:Nat),e=.returned (.tuple #[.string K,.int .i64 (p:Int),.bool (decide (j0<L0.length))])∧Below W.heap.size W V'∧Fix b L0 j0 K p V')
  (l1:q1<w0.heap.size) (l2:q2<w0.heap.size) (c1:w0.cell? ⟨q1,0,none⟩=some fv) (c2:w0.cell? ⟨q2,0,none⟩=some (.string k)) :
  Gives Fence.wide n Tryz.prog 136 #[.pointer (some ⟨q0,0,none⟩),.pointer (some ⟨q1,0,none⟩),.pointer (some ⟨q2,0,none⟩)] encW I (OkW L0 j0) (EndW L0 j0) w0 :=
 (xWalkB I hr hj hI hS l1 l2 c1 c2).gives

end Go.Proofs.YtomjlopcifafpaaGreat

namespace Go.Proofs.YtomjlopcifafpaaGreat
open Go.RowKit Go.Shelf

theorem xWalkRS (b:Nat) (k:ByteArray) (w:World):Calls Tryz.prog 93 #[PtrS b,.func (.func 94) #[] #[],.string k] w fun e w'=>e=.returned (.func (.func 136) #[] #[.pointer (some ⟨w.heap.size,0,none⟩),.pointer (some ⟨w.heap.size+1,0,none⟩),.pointer (some ⟨w.heap.size+2,0,none⟩)]) ∧
  w'=((w.alloc (.cells #[PtrS b] 183)).alloc (.cells #[.func (.func 94) #[] #[]] 218)).alloc (.cells #[.string k] 9):=by
 go_enter Tryz.func93,Tryz.ntmps93
 go_wp2_with fail
 go_ret
 exact ⟨rfl,rfl⟩
theorem xFromR (b:Nat) (k:ByteArray) (w:World):Calls Tryz.prog 52 #[PtrS b,.string k] w fun e w'=>e=.returned (.func (.func 136) #[] #[.pointer (some ⟨w.heap.size,0,none⟩),.pointer (some ⟨w.heap.size+1,0,none⟩),.pointer (some ⟨w.heap.size+2,0,none⟩)]) ∧
  w'=((w.alloc (.cells #[PtrS b] 183)).alloc (.cells #[.func (.func 94) #[] #[]] 218)).alloc (.cells #[.string k] 9):=by
 have C:=qh (xWalkRS b k w)
 go_enter Tryz.func52,Tryz.ntmps52
 go_wp2_with fail
 refine C.out.mono ?_
 rintro e w1 ⟨rfl,rfl⟩
 clear C
 go_wp2_with fail
 go_ret
 exact ⟨rfl,rfl⟩
theorem xWalkRA (b:Nat) (k:ByteArray) (w:World):Calls Tryz.prog 93 #[PtrS b,.func (.func 107) #[] #[],.string k] w fun e w'=>e=.returned (.func (.func 136) #[] #[.pointer (some ⟨w.heap.size,0,none⟩),.pointer (some ⟨w.heap.size+1,0,none⟩),.pointer (some ⟨w.heap.size+2,0,none⟩)]) ∧
  w'=((w.alloc (.cells #[PtrS b] 183)).alloc (.cells #[.func (.func 107) #[] #[]] 218)).alloc (.cells #[.string k] 9):=by
 go_enter Tryz.func93,Tryz.ntmps93
 go_wp2_with fail
 go_ret
 exact ⟨rfl,rfl⟩
theorem xAboveR (b:Nat) (k:ByteArray) (w:World):Calls Tryz.prog 60 #[PtrS b,.string k] w fun e w'=>e=.returned (.func (.func 136) #[] #[.pointer (some ⟨w.heap.size,0,none⟩),.pointer (some ⟨w.heap.size+1,0,none⟩),.pointer (some ⟨w.heap.size+2,0,none⟩)]) ∧
  w'=((w.alloc (.cells #[PtrS b] 183)).alloc (.cells #[.func (.func 107) #[] #[]] 218)).alloc (.cells #[.string k] 9):=by
 have C:=qh (xWalkRA b k w)
 go_enter Tryz.func60,Tryz.ntmps60
 go_wp2_with fail
 refine C.out.mono ?_
 rintro e w1 ⟨rfl,rfl⟩
 clear C
 go_wp2_with fail
 go_ret
 exact ⟨rfl,rfl⟩

theorem givesB_from {n b:Nat} {k:ByteArray} {L0:Ch} {w:World} {j0:Nat} (I:List WItm->World->Prop) (hr:L0.Rise) (hj:j0=L0.pos k)
  (hI:∀ pre V,I pre V->View b L0 (j0+pre.length) V∧V.cell? ⟨w.heap.size,0,none⟩=some (PtrS b)) :
  GivesB Fence.wide n Tryz.prog 136 #[.pointer (some ⟨w.heap.size,0,none⟩),.pointer (some ⟨w.heap.size+1,0,none⟩),.pointer (some ⟨w.heap.size+2,0,none⟩)] encW I (OkW L0 j0) (EndW L0 j0)
   (((w.alloc (.cells #[PtrS b] 183)).alloc (.cells #[.func (.func 94) #[] #[]] 218)).alloc (.cells #[.string k] 9)):=by
 have r1:=(RowAt.new (w.alloc (.cells #[PtrS b] 183)) [.func (.func 94) #[] #[]] 218).alloc (.cells #[.string k] 9)
 have r2:=RowAt.new ((w.alloc (.cells #[PtrS b] 183)).alloc (.cells #[.func (.func 94) #[] #[]] 218)) [.string k] 9
 simp only [World.size_alloc] at r1 r2
 refine xWalkB I hr (by rw [hj]; exact L0.pos_le k) hI (fun W h=>?_) r1.lt r2.lt (r1.cell 0) (r2.cell 0)
 refine stepS h k (fun y hy=>?_) fun q=>by rw [hj] at q ⊢; exact Ch.stop q
 obtain ⟨i,hi,rfl⟩:=List.mem_iff_getElem.1 hy
 rw [List.length_take] at hi
 have e:(L0.take j0)[i].1=L0.key i:=by
  rw [List.getElem_take]
  unfold Ch.key
  rw [List.getD_eq_getElem?_getD,List.getElem?_eq_getElem (by omega)]; rfl
 rw [e]
 exact Ch.below (by omega)
def Ch.aft (L:Ch) (k:ByteArray):Nat:=if L.has k then L.pos k+1 else L.pos k
theorem gives_above {n b:Nat} {k:ByteArray} {L0:Ch} {w:World} {j0:Nat} (I:List WItm->World->Prop) (hr:L0.Rise) (hj:j0=L0.aft k)
  (hI:∀ pre V,I pre V->View b L0 (j0+pre.length) V∧V.cell? ⟨w.heap.size,0,none⟩=some (PtrS b)) :
  Gives Fence.wide n Tryz.prog 136 #[.pointer (some ⟨w.heap.size,0,none⟩),.pointer (some ⟨w.heap.size+1,0,none⟩),.pointer (some ⟨w.heap.size+2,0,none⟩)] encW I (OkW L0 j0) (EndW L0 j0)
   (((w.alloc (.cells #[PtrS b] 183)).alloc (.cells #[.func (.func 107) #[] #[]] 218)).alloc (.cells #[.string k] 9)):=by
 have r1:=(RowAt.new (w.alloc (.cells #[PtrS b] 183)) [.func (.func 107) #[] #[]] 218).alloc (.cells #[.string k] 9)
 have r2:=RowAt.new ((w.alloc (.cells #[PtrS b] 183)).alloc (.cells #[.func (.func 107) #[] #[]] 218)) [.string k] 9
 simp only [World.size_alloc] at r1 r2
 have pl:=L0.pos_le k
 have hle:j0<=L0.length:=by
  rw [hj]
  unfold Ch.aft
  cases hh:L0.has k with
  | true=>rw [if_pos rfl]; exact ((Ch.has_iff L0 k).1 hh).1
  | false=>rw [if_neg (by decide)]; exact pl
 refine xWalkG I hr hle hI (fun W h=>?_) r1.lt r2.lt (r1.cell 0) (r2.cell 0)
 refine stepA h k (fun y hy=>?_) fun q=>?_
 ·obtain ⟨i,hi,rfl⟩:=List.mem_iff_getElem.1 hy
  rw [List.length_take] at hi
  have e:(L0.take j0)[i].1=L0.key i:=by
   rw [List.getElem_take]
   unfold Ch.key
   rw [List.getD_eq_getElem?_getD,List.getElem?_eq_getElem (by omega)]; rfl
  rw [e]
  unfold Ch.aft at hj
  cases hh:L0.has k with
  | true =>
   obtain ⟨p1,p2⟩:=(Ch.has_iff L0 k).1 hh
   rw [hh,if_pos rfl] at hj
   rcases Nat.lt_or_ge i (L0.pos k) with z | z
   ·exact ltB_asym (Ch.below z)
   ·rw [show i=L0.pos k by omega,p2]; exact ltB_irr _
  | false =>
   rw [hh,if_neg (by decide)] at hj
   exact ltB_asym (Ch.below (by omega))
 ·unfold Ch.aft at hj
  cases hh:L0.has k with
  | true =>
   obtain ⟨p1,p2⟩:=(Ch.has_iff L0 k).1 hh
   rw [hh,if_pos rfl] at hj
   have:=Ch.rise_lt hr (i:=L0.pos k) (j:=j0) (by omega) q
   rwa [p2] at this
  | false =>
   rw [hh,if_neg (by decide)] at hj
   rw [hj] at q ⊢
   exact Ch.not_has hh q

end Go.Proofs.YtomjlopcifafpaaGreat

namespace Go.Proofs.YtomjlopcifafpaaGreat
open Go.RowKit Go.Shelf

theorem View.of {wz w V:World} {N:Nat->Prop} {b P:Nat} {s:Sh} {os2:List Ob} {L:Ch} (h:Side wz N w (s.os b++os2)) (a:s.AtF L P) (i:Nat) (hb:Below w.heap.size w V):View b L i V :=
 ⟨wz,N,s,L,P,os2,L.take i,h.below hb,a,(List.take_append_drop i L).symm,fun x hx=>⟨x,hx,rfl⟩⟩
def firstV (L:Ch) (q:Int):Nat->Nat->ByteArray × (Val × Bool)
 | _,0=>(⟨#[]⟩,(Val.V0,false))
 | i,n+1=>if atOk (L.chn i) q then (L.key i,((atL (L.chn i) q).val,true)) else firstV L q (i+1) n

theorem firstV_none {L:Ch} {q:Int}:∀ {n i:Nat},(∀ j,j<n->atOk (L.chn (i+j)) q=false)->firstV L q i n=(⟨#[]⟩,(Val.V0,false))
 | 0,_,_=>rfl
 | n+1,i,h=>by
  have h0:=h 0 (by omega)
  unfold firstV
  rw [Nat.add_zero] at h0
  rw [h0,if_neg (by decide)]
  exact firstV_none fun j hj=>by rw [Nat.add_assoc,Nat.add_comm 1 j]; exact h (j+1) (by omega)
theorem firstV_some {L:Ch} {q:Int}:∀ {n m i:Nat},m<n->(∀ j,j<m->atOk (L.chn (i+j)) q=false)->atOk (L.chn (i+m)) q=true->firstV L q i n=(L.key (i+m),((atL (L.chn (i+m)) q).val,true))
 | n+1,0,i,_,_,h=>by unfold firstV; rw [Nat.add_zero] at h; rw [h,if_pos rfl]; rfl
 | n+1,m+1,i,hm,h1,h=>by
  have h0:=h1 0 (by omega)
  unfold firstV
  rw [Nat.add_zero] at h0
  rw [h0,if_neg (by decide)]
  have:=firstV_some (L:=L) (q:=q) (n:=n) (m:=m) (i:=i+1) (by omega) (fun j hj=>by rw [Nat.add_assoc,Nat.add_comm 1 j]; exact h1 (j+1) (by omega)) (by rw [Nat.add_assoc,Nat.add_comm 1 m]; exact h)
  rw [this,Nat.add_assoc,Nat.add_comm 1 m]
theorem cell_kept {X Y:World} {row:Option Nat} {p:Addr} {v:Value} (h:X.cell? p=some v) (hg:X.grownBy Y row) (hr:∀ r,row=some r->∃ o:Obj,X.heap[r]?=some o∧o.isCells=false):Y.cell? p=some v:=by
 have e:some p.block≠row:=fun e=>by
  obtain ⟨o,ho,hc⟩:=hr p.block e.symm
  have q:=h
  unfold World.cell? at q
  rw [ho] at q
  cases o<;>simp_all [Obj.isCells]
 exact (World.cell?_of_block (hg.block _ (block_lt_of_cell h) e)).trans h

theorem SlV.kept {X Y:World} {row:Option Nat} {A:Option Addr} {l:List Ver} (h:SlV X A l) (hg:X.grownBy Y row) (hr:∀ r,row=some r->∃ o:Obj,X.heap[r]?=some o∧o.isCells=false):SlV Y A l:=fun hp=>by
 obtain ⟨b,o,e,hl,hc⟩:=h hp
 refine ⟨b,o,e,Nat.lt_of_lt_of_le hl hg.size,fun j hj=>?_⟩
 obtain ⟨c0,c1,c2,c3,c4⟩:=hc j hj
 exact ⟨cell_kept c0 hg hr,cell_kept c1 hg hr,cell_kept c2 hg hr,cell_kept c3 hg hr,cell_kept c4 hg hr⟩

attribute [local go_sem] Oper.semAt_some
theorem xFirstR {wz w:World} {N:Nat->Prop} {b P q0 j0:Nat} {s:Sh} {os2:List Ob} {L:Ch} {lb:Array Value} {wD:World} (h:Side wz N w (s.os b++os2)) (a:s.AtF L P) (q:Int) (hq0:q0<w.heap.size) (c0:w.cell? ⟨q0,0,none⟩=some (PtrS b))
  (hD:Below wD.heap.size wD w)
  (hg:∀ I:List WItm->World->Prop,(∀ pre V,I pre V->View b L (j0+pre.length) V∧V.cell? ⟨q0,0,none⟩=some (PtrS b))->Gives Fence.wide (6-1) Tryz.prog 136 lb encW I (OkW L j0) (EndW L j0) wD) :
  Calls Tryz.prog 59 #[.func (.func 136) #[] lb,.int .i64 q] w fun e w'=>e=.returned (.tuple #[.string (firstV L q j0 (L.length-j0)).1,(firstV L q j0 (L.length-j0)).2.1.v,.bool (firstV L q j0 (L.length-j0)).2.2])∧Below w.heap.size w w':=by
 have TN:=fun h=>firstV_none (L:=L) (q:=q) (n:=L.length-j0) (i:=j0) h
 have TS:=fun m h=>firstV_some (L:=L) (q:=q) (n:=L.length-j0) (m:=m) (i:=j0) h
 obtain ⟨T,hT⟩:=nmq (firstV L q j0 (L.length-j0))
 rw [<-hT] at TN ⊢
 simp only [<-hT] at TS
 have TN:=qh TN
 have TS:=qh TS
 clear hT
 refine (callsIn_wide (n:=6)).1 ?_
 refine callsIn_of_wp_marks Tryz.func59 rfl trivial ?_ rfl
 simp only [Tryz.ntmps59,List.size_toArray,List.length_cons,List.length_nil,Nat.reduceAdd,Nat.reduceSub,Array.replicate_succ,Array.replicate_zero,List.push_toArray,List.append_toArray,List.nil_append,List.cons_append]
 gi_wp2
 obtain ⟨B,hB⟩:=nmq (w.heap.size)
 have b3:=((((Boxed.new w 3 (.int .i64 q)).alloc (.cells #[.string ⟨#[]⟩] 9)).alloc (.cells #[.bool false,.string ⟨#[]⟩,.int .u64 0] 45)).alloc (.cells #[.bool false] 4))
 have b4:=(((Boxed.new (w.alloc (.cells #[.int .i64 q] 3)) 9 (.string ⟨#[]⟩)).alloc (.cells #[.bool false,.string ⟨#[]⟩,.int .u64 0] 45)).alloc (.cells #[.bool false] 4))
 have b5:=((RowAt.new ((w.alloc (.cells #[.int .i64 q] 3)).alloc (.cells #[.string ⟨#[]⟩] 9)) [.bool false,.string ⟨#[]⟩,.int .u64 0] 45).alloc (.cells #[.bool false] 4))
 have b6:=Boxed.new (((w.alloc (.cells #[.int .i64 q] 3)).alloc (.cells #[.string ⟨#[]⟩] 9)).alloc (.cells #[.bool false,.string ⟨#[]⟩,.int .u64 0] 45)) 4 (.bool false)
 have hb:Below w.heap.size w ((((w.alloc (.cells #[.int .i64 q] 3)).alloc (.cells #[.string ⟨#[]⟩] 9)).alloc (.cells #[.bool false,.string ⟨#[]⟩,.int .u64 0] 45)).alloc (.cells #[.bool false] 4)) :=
  ((((Below.refl _ w).alloc (Nat.le_refl _) _).alloc (by simp) _).alloc (by simp; omega) _).alloc (by simp; omega) _
 have hsz:((((w.alloc (.cells #[.int .i64 q] 3)).alloc (.cells #[.string ⟨#[]⟩] 9)).alloc (.cells #[.bool false,.string ⟨#[]⟩,.int .u64 0] 45)).alloc (.cells #[.bool false] 4)).heap.size=w.heap.size+4:=by simp
 simp only [World.size_alloc] at b3 b4 b5 b6
 obtain ⟨W0,hW0⟩:∃ W0,((((w.alloc (.cells #[.int .i64 q] 3)).alloc (.cells #[.string ⟨#[]⟩] 9)).alloc (.cells #[.bool false,.string ⟨#[]⟩,.int .u64 0] 45)).alloc (.cells #[.bool false] 4))=W0:=⟨_,rfl⟩
 have b5:RowAt W0 (w.heap.size+1+1) [.bool false,.string ⟨#[]⟩,.int .u64 0] 45:=by rw [<-hW0]; exact b5
 rw [hW0] at b3 b4 b6 hb hsz ⊢
 clear hW0
 obtain ⟨I,eI⟩:∃ I:List WItm->World->Prop,I=fun pre V=>((∀ j,j<pre.length->atOk (L.chn (j0+j)) q=false)∧B+4<=V.heap.size∧Boxed V B 3 (.int .i64 q)∧Boxed V (B+1) 9 (.string ⟨#[]⟩)∧RowAt V (B+1+1) [.bool false,.string ⟨#[]⟩,.int .u64 0] 45∧Boxed V (B+1+1+1) 4 (.bool false))∧Below B w V:=⟨_,rfl⟩
 have hc:=hg I (fun pre V hI=>by
  rw [eI] at hI
  have hb:=hI.2
  rw [hB] at hb
  exact ⟨View.of h a _ hb,(hb.cell (p:=⟨q0,0,none⟩) hq0).trans c0⟩)
 have VW:=qh (fun V (hb:Below w.heap.size w V)=>View.of h a (i:=0) hb)
 rw [<-hB] at b3 b4 b5 b6 hb hsz ⊢
 have HBS:=qh hB
 have WZ:=qh (show B<=W0.heap.size from by omega)
 have own1:OwnFrom W0.heap.size I:=by
  rw [eI]
  exact OwnFrom.and (Own.from (fun s X Y row hs hg hr=>⟨hs.1,Nat.le_trans hs.2.1 hg.size,boxed_kept hs.2.2.1 hg hr,boxed_kept hs.2.2.2.1 hg hr,rowAt_kept hs.2.2.2.2.1 hg hr,boxed_kept hs.2.2.2.2.2 hg hr⟩) _) (ownFrom_below (by omega) (by omega))
 obtain ⟨Ix,eIx⟩:∃ Ix:List WItm->World->Prop,Ix=fun pre V=>(∃ ys x,pre=ys++[x]∧j0+ys.length<L.length∧(∀ j,j<ys.length->atOk (L.chn (j0+j)) q=false)∧atOk (L.chn (j0+ys.length)) q=true∧Boxed V (B+1) 9 (.string (L.key (j0+ys.length))) ∧
   RowAt V (B+1+1) [.bool (atL (L.chn (j0+ys.length)) q).val.num,.string (atL (L.chn (j0+ys.length)) q).val.txt,.int .u64 ((atL (L.chn (j0+ys.length)) q).val.bits:Int)] 45∧Boxed V (B+1+1+1) 4 (.bool true))∧Below B w V:=⟨_,rfl⟩
 have own2:OwnFrom W0.heap.size Ix:=by
  rw [eIx]
  exact OwnFrom.and (Own.from (fun s X Y row hs hg hr=>by obtain ⟨ys,x,h1,h2,h3,h4,h5,h6,h7⟩:=hs; exact ⟨ys,x,h1,h2,h3,h4,boxed_kept h5 hg hr,rowAt_kept h6 hg hr,boxed_kept h7 hg hr⟩) _) (ownFrom_below (by omega) (by omega))
 refine wpIn_rangeFunc_told rfl (by decide) (gf:=136) (lb:=lb) rfl trivial (enters_of Tryz.func136 (by kernel_rfl) rfl) hc (hD.trans (by rw [hB] at hb; exact hb.mono hD.size)) (fun _=>rfl) own1 own2
  (by rw [eI]; exact ⟨⟨fun j hj=>(by cases hj),by omega,b3,b4,b5,b6⟩,hb⟩)
  (fun pre x a' V=>(OkW L j0 pre x V∧a'={ tmps:=#[.func (.func 136) #[] lb,.int .i64 q,undef,.pointer (some ⟨B,0,none⟩),.pointer (some ⟨B+1,0,none⟩),.pointer (some ⟨B+1+1,0,none⟩),.pointer (some ⟨B+1+1+1,0,none⟩),.string x.1,x.2,undef,undef,.func (.func 136) #[] lb,.string x.1,x.2,undef,undef,undef,undef,undef,undef,undef,undef,undef,undef,undef],defers:=[] })∧I pre V)
  (fun pre x a' u X Y row hs hg hr=>⟨⟨⟨hs.1.1.1,hs.1.1.2.1,by obtain ⟨A,c,h1,h2,h3⟩:=hs.1.1.2.2; exact ⟨A,c,h1,h2,h3.kept hg (fun r e=>(hr r e).2)⟩⟩,hs.1.2⟩,own1 pre X Y row hs.2 hg hr⟩)
  ?assign ?body ?done ?stop
 case assign =>
  rintro l pre x V K hi ok hK
  dsimp only [encW]
  clear b3 b4 b5 b6 hc hB hsz hb
  gi_wp2
  exact hK _ _ (KeepsFrom.refl _ _) ⟨⟨ok,rfl⟩,hi⟩
 case body =>
  rintro l pre ⟨k,sl⟩ a' V ⟨⟨⟨hlt,e1,A,c,e2,hc',hs⟩,rfl⟩,hi⟩
  simp only at e1 e2
  subst e1 e2
  rw [eI] at hi
  obtain ⟨⟨i1,i2,i3,i4,i5,i6⟩,hV⟩:=hi
  have AT:=xAtR a (L.key (j0+pre.length)) A c q
  rw [Ch.of_at a.fine.rise hlt] at AT
  have AT:=AT V hc' hs
  obtain ⟨y,hy⟩:=nmq (atL (L.chn (j0+pre.length)) q)
  obtain ⟨D,hD2⟩:=nmq (atOk (L.chn (j0+pre.length)) q)
  obtain ⟨z,hz⟩:=nmq ((L.chn (j0+pre.length)).length)
  obtain ⟨K,hK⟩:=nmq (L.key (j0+pre.length))
  rw [<-hy,<-hD2,<-hz] at AT
  rw [<-hK,<-hz]
  have YS:=qh hy
  have DS:=qh hD2
  have KS:=qh hK
  obtain ⟨sq,gn,u⟩:=y
  obtain ⟨nu,tx,bt⟩:=u
  have AT:Hid (Calls Tryz.prog 57 #[.slice A z c,.int .i64 q] V fun e w'=>e=.returned (.tuple #[.agg #[.int .i64 sq,.bool gn,.bool nu,.string tx,.int .u64 (bt:Int)],.bool D])∧Below V.heap.size V w'):=qh AT
  have t3:=i3.cell
  have I1:=qh i1
  have I3:=qh i3
  have I4:=qh i4
  have I5:=qh i5
  have I6:=qh i6
  have HV:=qh hV
  have h1':1<=6-1-1:=by decide
  clear b3 b4 b5 b6 hc hB hsz hb hy hD2 hz hK i1 i3 i4 i5 i6 hV hs hc'
  cases D with
  | false =>
   gi_wp2_with (refine ⟨trivial,?_⟩; gi_at_call 57; refine (CallsIn.inRound l (callsIn_wide.2 AT.out)).mono ?_; rintro e w' ⟨rfl,hb'⟩; have HB':=qh hb'; clear hb')
   have hBV:B<=V.heap.size:=by omega
   have bb:=(Below.refl V.heap.size V).trans HB'.out
   have b2:Below V.heap.size V (w'.alloc (.cells #[.int .i64 sq,.bool gn,.bool nu,.string tx,.int .u64 (bt:Int)] 120)):=bb.alloc bb.size _
   refine ⟨keepsFrom_below b2,?_⟩
   rw [eI]
   refine ⟨⟨fun j hj=>?_,Nat.le_trans i2 b2.size,boxed_below I3.out b2,boxed_below I4.out b2,I5.out.below b2,boxed_below I6.out b2⟩,Below.then2 HV.out b2 hBV⟩
   rw [List.length_append,List.length_singleton] at hj
   rcases Nat.lt_or_ge j pre.length with y | y
   ·exact I1.out j y
   ·rw [show j=pre.length by omega]; exact DS.out.symm
  | true =>
   have mo:Tryz.prog.follows .mixedOrders=true:=by kernel_rfl
   have AR:=qh (show ∀ w',Below V.heap.size V w'->(w'.alloc (.cells #[.int .i64 sq,.bool gn,.bool nu,.string tx,.int .u64 (bt:Int)] 120)).cell? ⟨w'.heap.size,2,none⟩=some (.bool nu) from fun w' _=>(RowAt.new w' [.int .i64 sq,.bool gn,.bool nu,.string tx,.int .u64 (bt:Int)] 120).cell 2)
   gi_wp2_with (refine ⟨trivial,?_⟩; gi_at_call 57; refine (CallsIn.inRound l (callsIn_wide.2 AT.out)).mono ?_; rintro e w' ⟨rfl,hb'⟩; have HB':=qh hb'; clear hb')
   obtain ⟨E,hE⟩:=nmq (w'.heap.size)
   obtain ⟨V2,hV2⟩:=nmq (w'.alloc (.cells #[.int .i64 sq,.bool gn,.bool nu,.string tx,.int .u64 (bt:Int)] 120))
   have RE:RowAt V2 E [.int .i64 sq,.bool gn,.bool nu,.string tx,.int .u64 (bt:Int)] 120:=by rw [hV2,hE]; exact RowAt.new w' _ _
   have b2:Below V.heap.size V V2:=by rw [hV2]; exact HB'.out.alloc HB'.out.size _
   have hEV:V.heap.size<=E:=by rw [hE]; exact HB'.out.size
   rw [<-hV2,<-hE]
   have HB2:=qh b2
   have J4:=qh (boxed_below I4.out b2)
   have J5:=qh (I5.out.below b2)
   have J6:=qh (boxed_below I6.out b2)
   have g2:=RE.cell 2
   have g3:=RE.cell 3
   have g4:=RE.cell 4
   simp only [geS] at g2 g3 g4
   have f4:=J4.out.frozen
   have f50:=J5.out.frozen 0
   have f51:=J5.out.frozen 1
   have f52:=J5.out.frozen 2
   have f6:=J6.out.frozen
   have s4:=J4.out.cell
   have s50:=J5.out.cell 0
   have s51:=J5.out.cell 1
   have s52:=J5.out.cell 2
   have s6:=J6.out.cell
   simp only [geS] at s50 s51 s52
   clear hE hV2 RE b2 HB' AR
   have n1:E≠B+1:=by omega
   have n2:E≠B+1+1:=by omega
   have FIN:=qh (show KeepsFrom W0.heap.size V (((((V2.setCell ⟨B+1,0,none⟩ (.string K)).setCell ⟨B+1+1,0,none⟩ (.bool nu)).setCell ⟨B+1+1,1,none⟩ (.string tx)).setCell ⟨B+1+1,2,none⟩ (.int .u64 (bt:Int))).setCell ⟨B+1+1+1,0,none⟩ (.bool true)).drew ∧
    Ix (pre++[(K,.slice A z c)]) (((((V2.setCell ⟨B+1,0,none⟩ (.string K)).setCell ⟨B+1+1,0,none⟩ (.bool nu)).setCell ⟨B+1+1,1,none⟩ (.string tx)).setCell ⟨B+1+1,2,none⟩ (.int .u64 (bt:Int))).setCell ⟨B+1+1+1,0,none⟩ (.bool true)).drew from by
    obtain ⟨Va,hVa⟩:=nmq (V2.setCell ⟨B+1,0,none⟩ (.string K))
    have k1:KeepsOthers V2 Va:=by rw [hVa]; exact KeepsOthers.setCell _ _ _
    have c1:Chg (fun k=>k=B+1) V2 Va:=by rw [hVa]; exact (Chg.refl (fun k=>k=B+1) V2).setCell (p:=⟨B+1,0,none⟩) (.inl rfl) _
    have x4:Boxed Va (B+1) 9 (.string K):=by rw [hVa]; exact J4.out.set _
    rw [<-hVa]
    have x5:RowAt Va (B+1+1) [.bool false,.string ⟨#[]⟩,.int .u64 0] 45:=(c1.block _ J5.out.lt (by omega)).trans J5.out
    have x6:Boxed Va (B+1+1+1) 4 (.bool false):=(c1.block _ J6.out.lt (by omega)).trans J6.out
    obtain ⟨Vb,hVb⟩:=nmq (((Va.setCell ⟨B+1+1,0,none⟩ (.bool nu)).setCell ⟨B+1+1,1,none⟩ (.string tx)).setCell ⟨B+1+1,2,none⟩ (.int .u64 (bt:Int)))
    have k2:KeepsFrom W0.heap.size Va Vb:=by rw [hVb]; exact ((KeepsOthers.setCell _ _ _).from _).trans (((KeepsOthers.setCell _ _ _).from _).trans ((KeepsOthers.setCell _ _ _).from _))
    have c2:Chg (fun k=>k=B+1+1) Va Vb:=by rw [hVb]; exact (((Chg.refl (fun k=>k=B+1+1) Va).setCell (p:=⟨B+1+1,0,none⟩) (.inl rfl) _).setCell (p:=⟨B+1+1,1,none⟩) (.inl rfl) _).setCell (p:=⟨B+1+1,2,none⟩) (.inl rfl) _
    have y5:RowAt Vb (B+1+1) [.bool nu,.string tx,.int .u64 (bt:Int)] 45:=by rw [hVb]; exact ((x5.set 0 (.bool nu)).set 1 (.string tx)).set 2 (.int .u64 (bt:Int))
    rw [<-hVb]
    have y4:Boxed Vb (B+1) 9 (.string K):=(c2.block _ x4.lt (by omega)).trans x4
    have y6:Boxed Vb (B+1+1+1) 4 (.bool false):=(c2.block _ x6.lt (by omega)).trans x6
    have c3:Chg (fun k=>k=B+1+1+1) Vb (Vb.setCell ⟨B+1+1+1,0,none⟩ (.bool true)):=(Chg.refl (fun k=>k=B+1+1+1) Vb).setCell (p:=⟨B+1+1+1,0,none⟩) (.inl rfl) _
    have hBV:B<=V.heap.size:=by omega
    have bb:=Below.then2 HV.out HB2.out hBV
    have ba:Below B w Va:=bb.trans (c1.below (by rintro i rfl; omega) (by have:=bb.size; have:=HB2.out.size; omega))
    have bc:Below B w Vb:=ba.trans (c2.below (by rintro i rfl; omega) (by have:=c1.size; have:=HB2.out.size; omega))
    refine ⟨(keepsFrom_below HB2.out).trans ((k1.from _).trans (k2.trans (((KeepsOthers.setCell _ _ _).from _).trans ⟨Nat.le_refl _,fun _ _ _ h _=>h⟩))),?_⟩
    rw [eIx]
    refine ⟨⟨pre,(K,.slice A z c),rfl,hlt,I1.out,DS.out.symm,?_,?_,y6.set _⟩,(bc.trans (c3.below (by rintro i rfl; omega) (by have:=c1.size; have:=c2.size; have:=HB2.out.size; omega))).drew⟩
    ·rw [<-KS.out]; exact (c3.block _ y4.lt (by omega)).trans y4
    ·rw [<-YS.out]; exact (c3.block _ y5.lt (by omega)).trans y5)
   gi_region_with_o (fail)
   all_goals (gi_wp2; exact FIN.out)
 case done =>
  rintro D xs V hD hs hi hK
  rw [eI] at hi
  obtain ⟨⟨i1,i2,i3,i4,i5,i6⟩,hV⟩:=hi
  have TE:=qh (TN.out (fun j hj=>i1 j (by unfold EndW at hs; omega)))
  have C4:=qh i4
  have C5:=qh i5
  have C6:=qh i6
  have HV:=qh hV
  have t4:=i4.cell
  have t50:=i5.cell 0
  have t51:=i5.cell 1
  have t52:=i5.cell 2
  have t6:=i6.cell
  simp only [geS] at t50 t51 t52
  have f4:=i4.frozen
  have f50:=i5.frozen 0
  have f51:=i5.frozen 1
  have f52:=i5.frozen 2
  have f6:=i6.frozen
  clear b3 b4 b5 b6 hc hB hsz hb i3 i4 i5 i6 hV
  simp only [Exit.inBlock]
  gi_wp2
  obtain ⟨V3,hV3⟩:=nmq ((((((V.setCell ⟨B+1,0,none⟩ (.string ⟨#[]⟩)).setCell ⟨B+1+1,0,none⟩ (.bool false)).setCell ⟨B+1+1,1,none⟩ (.string ⟨#[]⟩)).setCell ⟨B+1+1,2,none⟩ (.int .u64 0)).setCell ⟨B+1+1+1,0,none⟩ (.bool false)))
  have KO:KeepsOthers V V3:=by rw [hV3]; exact (KeepsOthers.setCell _ _ _).trans ((KeepsOthers.setCell _ _ _).trans ((KeepsOthers.setCell _ _ _).trans ((KeepsOthers.setCell _ _ _).trans (KeepsOthers.setCell _ _ _))))
  have hK':V3.heap[D]?=some (.deferred (some [])):=KO.same D _ hK rfl
  have es:V3.heap.size=V.heap.size∧(Boxed V3 (B+1) 9 (.string ⟨#[]⟩)∧RowAt V3 (B+1+1) [.bool false,.string ⟨#[]⟩,.int .u64 0] 45∧Boxed V3 (B+1+1+1) 4 (.bool false))∧Below B w V3:=by
   rw [hV3]
   obtain ⟨Va,hVa⟩:=nmq (V.setCell ⟨B+1,0,none⟩ (.string ⟨#[]⟩))
   have c1:Chg (fun k=>k=B+1) V Va:=by rw [hVa]; exact (Chg.refl (fun k=>k=B+1) V).setCell (p:=⟨B+1,0,none⟩) (.inl rfl) _
   have z1:Va.heap.size=V.heap.size:=by rw [hVa]; exact World.size_setCell _ _ _
   have x4:Boxed Va (B+1) 9 (.string ⟨#[]⟩):=by rw [hVa]; exact C4.out.set _
   rw [<-hVa]
   have x5:RowAt Va (B+1+1) [.bool false,.string ⟨#[]⟩,.int .u64 0] 45:=(c1.block _ C5.out.lt (by omega)).trans C5.out
   have x6:Boxed Va (B+1+1+1) 4 (.bool false):=(c1.block _ C6.out.lt (by omega)).trans C6.out
   obtain ⟨Vb,hVb⟩:=nmq (((Va.setCell ⟨B+1+1,0,none⟩ (.bool false)).setCell ⟨B+1+1,1,none⟩ (.string ⟨#[]⟩)).setCell ⟨B+1+1,2,none⟩ (.int .u64 0))
   have z2:Vb.heap.size=Va.heap.size:=by rw [hVb,World.size_setCell,World.size_setCell,World.size_setCell]
   have c2:Chg (fun k=>k=B+1+1) Va Vb:=by rw [hVb]; exact (((Chg.refl (fun k=>k=B+1+1) Va).setCell (p:=⟨B+1+1,0,none⟩) (.inl rfl) _).setCell (p:=⟨B+1+1,1,none⟩) (.inl rfl) _).setCell (p:=⟨B+1+1,2,none⟩) (.inl rfl) _
   have y5:RowAt Vb (B+1+1) [.bool false,.string ⟨#[]⟩,.int .u64 0] 45:=by rw [hVb]; exact ((x5.set 0 (.bool false)).set 1 (.string ⟨#[]⟩)).set 2 (.int .u64 0)
   rw [<-hVb]
   have y4:Boxed Vb (B+1) 9 (.string ⟨#[]⟩):=(c2.block _ x4.lt (by omega)).trans x4
   have y6:Boxed Vb (B+1+1+1) 4 (.bool false):=(c2.block _ x6.lt (by omega)).trans x6
   have c3:Chg (fun k=>k=B+1+1+1) Vb (Vb.setCell ⟨B+1+1+1,0,none⟩ (.bool false)):=(Chg.refl (fun k=>k=B+1+1+1) Vb).setCell (p:=⟨B+1+1+1,0,none⟩) (.inl rfl) _
   exact ⟨by rw [World.size_setCell]; omega,⟨(c3.block _ y4.lt (by omega)).trans y4,(c3.block _ y5.lt (by omega)).trans y5,y6.set _⟩,
    ((HV.out.trans (c1.below (by rintro i rfl; omega) (by omega))).trans (c2.below (by rintro i rfl; omega) (by omega))).trans (c3.below (by rintro i rfl; omega) (by omega))⟩
  obtain ⟨_,⟨e4,e5,e6⟩,eb⟩:=es
  rw [<-hV3]
  refine ⟨by simp,.inl ⟨_,_,rfl,run_takeDeferred hK',?_⟩⟩
  have gr:=grownBy_putObj' V3 D (.deferred none)
  have gk:∀ r,some D=some r->∃ o:Obj,V3.heap[r]?=some o∧o.isCells=false:=fun r e=>by cases e; exact ⟨_,hK',rfl⟩
  have g4:=(boxed_kept e4 gr gk).cell
  have g5:=rowAt_kept e5 gr gk
  have g6:=(boxed_kept e6 gr gk).cell
  have g50:=g5.cell 0
  have g51:=g5.cell 1
  have g52:=g5.cell 2
  simp only [geS] at g50 g51 g52
  refine ⟨.tuple #[.string ⟨#[]⟩,.agg #[.bool false,.string ⟨#[]⟩,.int .u64 0],.bool false],?_,?_,by rw [<-HBS.out]; exact eb.trans (belowK_b (w:=W0) (n₀:=B) WZ.out _ D _ _ hD hK' rfl rfl)⟩
  ·simp [results,Tryz.f59,go_sem,g4,g50,g51,g52,g6]
  ·rw [TE.out]; rfl
 case stop =>
  rintro D pre V hD hi hK
  rw [eIx] at hi
  obtain ⟨⟨ys,x,e,hlt,i1,i2,i4,i5,i6⟩,hV⟩:=hi
  have TE:=qh (TS.out ys.length (by omega) i1 i2)
  have C4:=qh i4
  have C5:=qh i5
  have C6:=qh i6
  have HV:=qh hV
  clear b3 b4 b5 b6 hc hB hsz hb i4 i5 i6 hV
  gi_wp2
  obtain ⟨V3,hV3⟩:=nmq (V)
  have hK':V3.heap[D]?=some (.deferred (some [])):=by rw [hV3]; exact hK
  obtain ⟨u,hu⟩:=nmq ((atL (L.chn (j0+ys.length)) q).val)
  have e4:Boxed V3 (B+1) 9 (.string (L.key (j0+ys.length))):=by rw [hV3]; exact C4.out
  have e5:RowAt V3 (B+1+1) [.bool u.num,.string u.txt,.int .u64 (u.bits:Int)] 45:=by rw [hV3,hu]; exact C5.out
  have e6:Boxed V3 (B+1+1+1) 4 (.bool true):=by rw [hV3]; exact C6.out
  have eb:Below B w V3:=by rw [hV3]; exact HV.out
  have TE:=qh (show T=(L.key (j0+ys.length),(u,true)) from by rw [hu]; exact TE.out)
  rw [<-hV3]
  refine ⟨by simp,.inl ⟨_,_,rfl,run_takeDeferred hK',?_⟩⟩
  have gr:=grownBy_putObj' V3 D (.deferred none)
  have gk:∀ r,some D=some r->∃ o:Obj,V3.heap[r]?=some o∧o.isCells=false:=fun r e=>by cases e; exact ⟨_,hK',rfl⟩
  have g4:=(boxed_kept e4 gr gk).cell
  have g5:=rowAt_kept e5 gr gk
  have g6:=(boxed_kept e6 gr gk).cell
  have g50:=g5.cell 0
  have g51:=g5.cell 1
  have g52:=g5.cell 2
  simp only [geS] at g50 g51 g52
  refine ⟨.tuple #[.string (L.key (j0+ys.length)),.agg #[.bool u.num,.string u.txt,.int .u64 (u.bits:Int)],.bool true],?_,?_,by rw [<-HBS.out]; exact eb.trans (belowK_b (w:=W0) (n₀:=B) WZ.out _ D _ _ hD hK' rfl rfl)⟩
  ·simp [results,Tryz.f59,go_sem,g4,g50,g51,g52,g6]
  ·rw [TE.out]; rfl

end Go.Proofs.YtomjlopcifafpaaGreat

namespace Go.Proofs.YtomjlopcifafpaaGreat
open Go.RowKit

theorem frm_none {L:Ch} {k:ByteArray} {ab:Bool} {q:Int} (h:∀ j,j<L.length->L.hit k ab q j=false):L.frm k ab q=L.length:=by
 unfold Ch.frm
 have:(List.range L.length).find? (L.hit k ab q)=none:=List.find?_eq_none.2 fun j hj=>by rw [h j (List.mem_range.1 hj)]; decide
 rw [this]; rfl
theorem frm_some {L:Ch} {k:ByteArray} {ab:Bool} {q:Int} {i:Nat} (hi:i<L.length) (h0:L.hit k ab q i=true) (h:∀ j,j<i->L.hit k ab q j=false):L.frm k ab q=i:=by
 unfold Ch.frm
 have:(List.range L.length).find? (L.hit k ab q)=some i:=List.find?_range_eq_some.2 ⟨h0,List.mem_range.2 hi,fun j hj=>by rw [h j hj]; rfl⟩
 rw [this]; rfl
theorem firstV_is {L:Ch} {k:ByteArray} {ab:Bool} {q:Int} {j0:Nat} (hj:j0<=L.length) (h1:∀ j,j<j0->(ltB k (L.key j) || (!ab && ((L.key j).toList == k.toList)))=false) (h2:∀ j,j0<=j->j<L.length->(ltB k (L.key j) || (!ab && ((L.key j).toList == k.toList)))=true) :
  firstV L q j0 (L.length-j0)=aftV L k ab q:=by
 have lo:∀ j,j<j0->L.hit k ab q j=false:=fun j hj=>by unfold Ch.hit; rw [h1 j hj,Bool.and_false]
 have hi:∀ j,j0<=j->j<L.length->L.hit k ab q j=atOk (L.chn j) q:=fun j a b=>by unfold Ch.hit; rw [h2 j a b,Bool.and_true]
 unfold aftV
 have key:∀ n,n<=L.length-j0->(∀ j,j<n->atOk (L.chn (j0+j)) q=false)∨∃ m,m<n∧(∀ j,j<m->atOk (L.chn (j0+j)) q=false)∧atOk (L.chn (j0+m)) q=true:=by
  intro n
  induction n with
  | zero=>exact fun _=>.inl fun j hj=>by cases hj
  | succ n ih =>
   intro hn
   rcases ih (by omega) with a | ⟨m,m1,m2,m3⟩
   ·cases z:atOk (L.chn (j0+n)) q with
    | true=>exact .inr ⟨n,Nat.lt_succ_self n,a,z⟩
    | false =>
     refine .inl fun j hj=>?_
     rcases Nat.lt_or_ge j n with y | y
     ·exact a j y
     ·rw [show j=n by omega]; exact z
   ·exact .inr ⟨m,by omega,m2,m3⟩
 rcases key _ (Nat.le_refl _) with a | ⟨m,m1,m2,m3⟩
 ·rw [firstV_none a,frm_none (fun j hjl=>by
   rcases Nat.lt_or_ge j j0 with y | y
   ·exact lo j y
   ·rw [hi j y hjl]
    have:=a (j-j0) (by omega)
    rwa [show j0+(j-j0)=j by omega] at this),if_neg (Nat.lt_irrefl _)]
 ·have f:L.frm k ab q=j0+m:=frm_some (by omega) (by rw [hi _ (by omega) (by omega)]; exact m3) fun j hjm=>by
   rcases Nat.lt_or_ge j j0 with y | y
   ·exact lo j y
   ·rw [hi j y (by omega)]
    have:=m2 (j-j0) (by omega)
    rwa [show j0+(j-j0)=j by omega] at this
  rw [firstV_some m1 m2 m3,f,if_pos (by omega)]
theorem afterV {L:Ch} (hr:L.Rise) (k:ByteArray) (q:Int):firstV L q (L.aft k) (L.length-L.aft k)=aftV L k true q:=by
 have pl:=L.pos_le k
 cases hh:L.has k with
 | true =>
  obtain ⟨p1,p2⟩:=(Ch.has_iff L k).1 hh
  have e:L.aft k=L.pos k+1:=by unfold Ch.aft; rw [hh]; rfl
  rw [e]
  refine firstV_is p1 (fun j hj=>?_) fun j h1 h2=>?_
  ·rw [Bool.not_true,Bool.false_and,Bool.or_false]
   rcases Nat.lt_or_ge j (L.pos k) with y | y
   ·exact ltB_asym (Ch.below y)
   ·rw [show j=L.pos k by omega,p2]; exact ltB_irr _
  ·have:=Ch.rise_lt hr (i:=L.pos k) (j:=j) (by omega) h2
   rw [p2] at this
   rw [this]; rfl
 | false =>
  have e:L.aft k=L.pos k:=by unfold Ch.aft; rw [hh]; rfl
  rw [e]
  refine firstV_is pl (fun j hj=>?_) fun j h1 h2=>?_
  ·rw [Bool.not_true,Bool.false_and,Bool.or_false]
   exact ltB_asym (Ch.below hj)
  ·have n:=Ch.not_has hh (show L.pos k<L.length by omega)
   rcases Nat.lt_or_ge (L.pos k) j with y | y
   ·rw [ltB_trans n (Ch.rise_lt hr y h2)]; rfl
   ·rw [show j=L.pos k by omega,n]; rfl

section
variable {w0 w:World} {N:Nat->Prop} {b:Nat} {s:Sh} {L:Ch} {P:Nat} {os2:List Ob}
theorem xAfterR (h:Side w0 N w (s.os b++os2)) (a:s.AtF L P) (k:ByteArray) (q:Int) :
  Calls Tryz.prog 17 #[PtrM b,.string k,.int .i64 q] w fun e w'=>e=.returned (.tuple #[.string (aftV L k true q).1,(aftV L k true q).2.1.v,.bool (aftV L k true q).2.2])∧Below w.heap.size w w':=by
 rw [<-afterV a.fine.rise]
 obtain ⟨B,hB⟩:=nmq (w.heap.size)
 obtain ⟨w1,hw1⟩:=nmq (w.alloc (.cells #[.bool false,.string ⟨#[]⟩,.int .u64 0] 45))
 have R1:=qh (show RowAt w1 B [.bool false,.string ⟨#[]⟩,.int .u64 0] 45 from by rw [hw1,hB]; exact RowAt.new w _ _)
 have b1:Below w.heap.size w w1:=by rw [hw1]; exact (Below.refl _ _).alloc (Nat.le_refl _) _
 have CA:=qh (xAboveR b k w1)
 obtain ⟨w2,hw2⟩:=nmq (((w1.alloc (.cells #[PtrS b] 183)).alloc (.cells #[.func (.func 107) #[] #[]] 218)).alloc (.cells #[.string k] 9))
 have b2:Below w1.heap.size w1 w2:=by rw [hw2]; exact (((Below.refl _ w1).alloc (Nat.le_refl _) _).alloc (by simp) _).alloc (by simp; omega) _
 have r0:RowAt w2 w1.heap.size [PtrS b] 183:=by rw [hw2]; exact ((RowAt.new w1 _ _).alloc _).alloc _
 have CF:=xFirstR (lb:=#[.pointer (some ⟨w1.heap.size,0,none⟩),.pointer (some ⟨w1.heap.size+1,0,none⟩),.pointer (some ⟨w1.heap.size+2,0,none⟩)]) (j0:=L.aft k) (wD:=w2) ((h.below b1).below b2) a q (q0:=w1.heap.size) r0.lt (r0.cell 0) (Below.refl _ _)
  (fun I hI=>by rw [hw2]; exact gives_above I a.fine.rise rfl hI)
 obtain ⟨T,hT⟩:=nmq (firstV L q (L.aft k) (L.length-L.aft k))
 rw [<-hT] at CF ⊢
 obtain ⟨K,u,D⟩:=T
 obtain ⟨nu,tx,bt⟩:=u
 have CF:=qh CF
 have CF:Hid (Calls Tryz.prog 59 #[.func (.func 136) #[] #[.pointer (some ⟨w1.heap.size,0,none⟩),.pointer (some ⟨w1.heap.size+1,0,none⟩),.pointer (some ⟨w1.heap.size+2,0,none⟩)],.int .i64 q] w2 fun e w'=>e=.returned (.tuple #[.string K,.agg #[.bool nu,.string tx,.int .u64 (bt:Int)],.bool D])∧Below w2.heap.size w2 w'):=CF
 show Calls Tryz.prog 17 #[PtrM b,.string k,.int .i64 q] w fun e w'=>e=.returned (.tuple #[.string K,.agg #[.bool nu,.string tx,.int .u64 (bt:Int)],.bool D])∧Below w.heap.size w w'
 have HW1:=qh hw1
 have HW2:=qh hw2
 have HB:=qh hB
 have B2:=qh (below_then b1 b2)
 have R2:=qh (R1.out.below b2)
 clear h a hB hw1 hw2 b1 b2 r0 hT R1
 go_enter Tryz.func17,Tryz.ntmps17
 go_wp2_with fail
 rw [<-HW1.out,<-HB.out]
 refine CA.out.mono ?_
 rintro e w3 ⟨rfl,e3⟩
 rw [<-HW2.out] at e3
 subst e3
 clear CA HW2
 go_wp2_with fail
 refine CF.out.mono ?_
 rintro e w4 ⟨rfl,hb4⟩
 have R4:=qh (R2.out.below hb4)
 have B4:=qh (below_then B2.out hb4)
 have f0:=R4.out.frozen 0
 have f1:=R4.out.frozen 1
 have f2:=R4.out.frozen 2
 have e0:=R4.out.cell 0
 have e1:=R4.out.cell 1
 have e2:=R4.out.cell 2
 simp only [geS] at e0 e1 e2
 clear hb4 CF
 go_wp2_with fail
 have hB:w.heap.size<=B:=by rw [HB.out]; exact Nat.le_refl _
 exact bodyPost_ret (results_tct rfl _ _ B _ [.bool nu,.string tx,.int .u64 (bt:Int)] _ rfl (((R4.out.set 0 (.bool nu)).set 1 (.string tx)).set 2 (.int .u64 (bt:Int))) Tryz.underlying45 rfl (by kernel_rfl)) rfl
  ⟨rfl,((B4.out.setCell (p:=⟨B,0,none⟩) hB _).setCell (p:=⟨B,1,none⟩) hB _).setCell (p:=⟨B,2,none⟩) hB _⟩
end

end Go.Proofs.YtomjlopcifafpaaGreat

namespace Go.Proofs.YtomjlopcifafpaaGreat
open Go.RowKit

def ahdE (l:List En) (i:Nat):ByteArray:=if i=0 then ⟨#[]⟩ else (l.getD (i-1) En.Z).key
theorem enOk_eq (l:List En) (i:Nat) (sq:Int) (x:En):enOk (prevE l i) sq x=(flw (ahdE l i) x.key && (x.val.ok && (decide (1<=x.seq) && decide (x.seq<=sq)))):=by
 unfold enOk prevE ahdE
 by_cases z:i=0
 ·rw [if_pos z,if_pos z,flw_first]; simp
 ·rw [if_neg z,if_neg z,flw_next]
  cases keyOk x.key<;>cases x.val.ok<;>cases decide (1<=x.seq)<;>cases decide (x.seq<=sq)<;>simp
theorem slEn_belowR {w w':World} {A:Option Addr} {l:List En} (h:SlEn w A l) (hb:Below w.heap.size w w'):SlEn w' A l:=fun hp=>by
 obtain ⟨b,o,rfl,hlt,hc⟩:=h hp
 refine ⟨b,o,rfl,Nat.lt_of_lt_of_le hlt hb.size,fun j hj=>?_⟩
 obtain ⟨c0,c1,c2,c3,c4⟩:=hc j hj
 exact ⟨(hb.cell (p:=⟨b,o+j * 5,none⟩) hlt).trans c0,(hb.cell (p:=⟨b,o+j * 5+1,none⟩) hlt).trans c1,(hb.cell (p:=⟨b,o+j * 5+2,none⟩) hlt).trans c2,(hb.cell (p:=⟨b,o+j * 5+3,none⟩) hlt).trans c3,(hb.cell (p:=⟨b,o+j * 5+4,none⟩) hlt).trans c4⟩
theorem xMayER (l:List En) (A:Option Addr) (c:Nat) (sq:Int) (w:World) (h:SlEn w A l) (hf:FitsE l) (hl:l.length<=100000) :
  Calls Tryz.prog 77 #[.slice A l.length c,.int .i64 sq] w fun e w'=>e=.returned (.bool (mayE l sq))∧Below w.heap.size w w':=by
 obtain ⟨n,hn⟩:=nmq (l.length)
 obtain ⟨R,hR⟩:=nmq (mayE l sq)
 rw [<-hn] at hl
 rw [<-hn,<-hR]
 have HN:=qh hn
 have HR:=qh hR
 have HS:=qh h
 have HF:=qh hf
 clear hn hR h hf
 go_enter Tryz.func77,Tryz.ntmps77
 go_wp2_with fail
 go_loopw [5,10] (fun va vi wr=>∃ i:Nat,i<=n∧vi=.int .i64 i∧va=.string (ahdE l i)∧Hid (∀ j,j<i->enOk (prevE l j) sq (l.getD j En.Z)=true)∧Hid (Below w.heap.size w wr)) (fun _ vi _=>n-(intOf vi).toNat)
 case atStart=>exact ⟨0,Nat.zero_le _,rfl,rfl,qh (fun j hj=>by cases hj),qh (Below.refl _ _)⟩
 case round =>
  obtain ⟨i,hi,rfl,rfl,HM,HB⟩:=hrel
  by_cases q:i<n
  ·obtain ⟨bb,o,rfl,hb,c0,c1,c2,c3,c4⟩:=(slEn_belowR HS.out HB.out).at (j:=i) (by rw [<-HN.out]; exact q)
   have RN:=qh (fun (hm:enOk (prevE l i) sq (l.getD i En.Z)=false)=>show R=false by rw [HR.out]; exact mayE_no (by rw [<-HN.out]; exact q) hm)
   have XF:=qh (HF.out.get (i:=i) (by rw [<-HN.out]; exact q))
   obtain ⟨a,ha⟩:=nmq (ahdE l i)
   have AN:=qh (show ahdE l (i+1)=(l.getD i En.Z).key from rfl)
   obtain ⟨x,hx⟩:=nmq (l.getD i En.Z)
   have HMY:=qh (show enOk (prevE l i) sq x=true->∀ j,j<i+1->enOk (prevE l j) sq (l.getD j En.Z)=true from fun hm j hj=>by
    by_cases e:j=i
    ·rw [e,<-hx]; exact hm
    ·exact HM.out j (by omega))
   have EM:=qh (enOk_eq l i sq x)
   rw [<-hx] at c0 c1 c2 c3 c4 RN XF AN
   rw [<-ha] at EM
   obtain ⟨k,g,v⟩:=x
   obtain ⟨m,t,u⟩:=v
   have VR:=qh (fun w'=>vpRight ⟨m,t,u⟩ w' XF.out.1)
   have FR:=qh (fun w'=>xFollowsR k a w' (Nat.le_trans XF.out.2.1 (by decide)))
   obtain ⟨K1,hK1⟩:=nmq (flw a k)
   obtain ⟨K2,hK2⟩:=nmq (Val.ok ⟨m,t,u⟩)
   simp only [<-hK1] at FR
   simp only [<-hK2] at VR
   have EM:=qh (show enOk (prevE l i) sq ⟨k,g,⟨m,t,u⟩⟩=(K1 && (K2 && (decide (1<=g) && decide (g<=sq)))) from by rw [EM.out,hK1,hK2])
   have VR:Hid (∀ w',Calls Tryz.prog 88 #[.agg #[.bool m,.string t,.int .u64 (u:Int)]] w' fun e w''=>e=.returned (.bool K2)∧Below w'.heap.size w' w''):=VR
   have i0:(0:Int)<=(i:Int):=by omega
   have i1:(i:Int)<(n:Int):=by omega
   rw [<-ha]
   obtain ⟨r1,hr1⟩:=nmq (wr.alloc (.cells #[.string k,.int .i64 g,.bool m,.string t,.int .u64 (u:Int)] 134))
   have R1:=qh (show RowAt r1 wr.heap.size [.string k,.int .i64 g,.bool m,.string t,.int .u64 (u:Int)] 134 from by rw [hr1]; exact RowAt.new wr _ _)
   have B1:=qh (show Below w.heap.size w r1 from by rw [hr1]; exact HB.out.alloc HB.out.size _)
   have HR1:=qh hr1
   clear hx hK1 hK2 hb hi ha hr1
   have c0:wr.cell? ⟨bb,o+i * 5,none⟩=some (.string k):=c0
   have c1:wr.cell? ⟨bb,o+i * 5+1,none⟩=some (.int .i64 g):=c1
   have c2:wr.cell? ⟨bb,o+i * 5+2,none⟩=some (.bool m):=c2
   have c3:wr.cell? ⟨bb,o+i * 5+3,none⟩=some (.string t):=c3
   have c4:wr.cell? ⟨bb,o+i * 5+4,none⟩=some (.int .u64 (u:Int)):=c4
   go_wp2_with fail
   rw [<-HR1.out]
   refine (FR.out _).mono ?_
   rintro e w1 ⟨rfl,hw1⟩
   have hw1:=hw1.symm
   subst hw1
   clear c0 c1 c2 c3 c4
   obtain ⟨q0,q1,q2,q3,q4⟩:=row5 R1.out
   cases K1 with
   | false =>
    have e:=RN.out (by rw [EM.out]; rfl)
    subst e
    go_wp2_with fail
    go_ret
    exact ⟨rfl,B1.out⟩
   | true =>
    go_wp2_with fail
    refine (VR.out _).mono ?_
    rintro e w2 ⟨rfl,hb2⟩
    have R2:=qh (R1.out.below hb2)
    have B2:=qh (below_then B1.out hb2)
    clear hb2 q0 q1 q2 q3 q4
    obtain ⟨q0,q1,q2,q3,q4⟩:=row5 R2.out
    cases K2 with
    | false =>
     have e:=RN.out (by rw [EM.out]; rfl)
     subst e
     go_wp2_with fail
     go_ret
     exact ⟨rfl,B2.out⟩
    | true =>
     by_cases z3:g<1
     ·have e:=RN.out (by rw [EM.out,decide_eq_false (show ¬ 1<=g by omega)]; rfl)
      subst e
      go_wp2_with fail
      go_ret
      exact ⟨rfl,B2.out⟩
     ·by_cases z4:sq<g
      ·have e:=RN.out (by rw [EM.out,decide_eq_false (show ¬ g<=sq by omega)]; simp)
       subst e
       go_wp2_with fail
       go_ret
       exact ⟨rfl,B2.out⟩
      ·have HM2:=qh (HMY.out (by rw [EM.out,decide_eq_true (show 1<=g by omega),decide_eq_true (show g<=sq by omega)]; rfl))
       go_wp2_with fail
       go_roundw
       case rel=>exact ⟨i+1,by omega,by go_num,by rw [AN.out],HM2,B2⟩
       case measure=>simp [intOf]; omega
  ·obtain rfl:i=n:=by omega
   have e:=HR.out
   rw [mayE_yes (fun j hj=>HM.out j (by rw [HN.out]; exact hj))] at e
   subst e
   go_wp2_with fail
   go_ret
   exact ⟨rfl,HB.out⟩
theorem mayE_at {l:List En} {sq:Int} (h:mayE l sq=true) {i:Nat} (hi:i<l.length):(l.getD i En.Z).val.ok=true∧(l.getD i En.Z).key.size<=32:=by
 have:=List.all_eq_true.1 h i (List.mem_range.2 hi)
 unfold enOk keyOk at this
 simp only [Bool.and_eq_true,decide_eq_true_eq] at this
 exact ⟨this.2.1,this.1.2⟩
theorem xWeighR (l:List En) (A:Option Addr) (c:Nat) (sq:Int) (w:World) (h:SlEn w A l) (hf:FitsE l) (hl:l.length<=100000) (hm:mayE l sq=true) :
  Calls Tryz.prog 78 #[.slice A l.length c] w fun e w'=>e=.returned (.int .i64 ((loadL l).live:Nat))∧Below w.heap.size w w':=by
 obtain ⟨n,hn⟩:=nmq (l.length)
 have WG:∀ i,i<n->Ch.wgt ((loadL l).key i,(loadL l).chn i)=(l.getD i En.Z).key.size+(l.getD i En.Z).val.pack.size:=fun i hi=>by
  have hi2:i<(loadL l).length:=by rw [loadL_len,<-hn]; exact hi
  have e:(loadL l)[i]?=some ((l.getD i En.Z).key,[(l.getD i En.Z).ver]):=by
   unfold loadL
   rw [List.getElem?_map,List.getD_eq_getElem?_getD,List.getElem?_eq_getElem (by rw [<-hn]; exact hi)]; rfl
  rw [List.getElem?_eq_getElem hi2] at e
  injection e with e
  rw [<-Ch.getE _ hi2,e]
  have:=(Val.pack_size _ (mayE_at hm (by rw [<-hn]; exact hi)).1).2
  show (if weightL [(l.getD i En.Z).ver]=0 then 0 else _)=_
  have e2:weightL [(l.getD i En.Z).ver]=(l.getD i En.Z).val.pack.size:=by
   unfold weightL
   rw [if_neg]
   ·rfl
   ·rintro (z | z)
    ·cases z
    ·cases z
  rw [e2,if_neg (by omega)]
  show _+(l.getD i En.Z).key.size=_
  omega
 have SA:=qh (show sumTo Ch.wgt (loadL l) n=(loadL l).live by rw [hn,<-loadL_len l]; exact sumTo_all _ _)
 have SU:=qh (fun i (hi:i<n)=>show sumTo Ch.wgt (loadL l) (i+1)=sumTo Ch.wgt (loadL l) i+((l.getD i En.Z).key.size+(l.getD i En.Z).val.pack.size) from by
  rw [sumTo_succ Ch.wgt (loadL l) (by rw [loadL_len,<-hn]; exact hi),WG i hi])
 have SB:∀ i,i<=n->sumTo Ch.wgt (loadL l) i<=i * 200:=fun i=>by
  induction i with
  | zero=>intro _; simp [sumTo]
  | succ i ih =>
   intro hi
   have:=ih (by omega)
   have e:=SU.out i (by omega)
   obtain ⟨o1,o2⟩:=mayE_at hm (i:=i) (by omega)
   have:=(Val.pack_size _ o1).1
   rw [e]; omega
 have SB:=qh SB
 have OK:=qh (fun i (hi:i<n)=>mayE_at hm (i:=i) (by rw [<-hn]; exact hi))
 rw [<-hn] at hl
 rw [<-hn]
 have HN:=qh hn
 have HS:=qh h
 have HF:=qh hf
 obtain ⟨T,hT⟩:=nmq ((loadL l).live)
 rw [<-hT] at SA ⊢
 clear hn h hf hm WG hT
 go_enter Tryz.func78,Tryz.ntmps78
 go_wp2_with fail
 go_loopw [3,8] (fun va vi wr=>∃ i:Nat,i<=n∧vi=.int .i64 i∧va=.int .i64 (sumTo Ch.wgt (loadL l) i:Nat)∧Hid (Below w.heap.size w wr)) (fun _ vi _=>n-(intOf vi).toNat)
 case atStart=>exact ⟨0,Nat.zero_le _,rfl,by simp [sumTo],qh (Below.refl _ _)⟩
 case round =>
  obtain ⟨i,hi,rfl,rfl,HB⟩:=hrel
  by_cases q:i<n
  ·obtain ⟨bb,o,rfl,hb,c0,c1,c2,c3,c4⟩:=(slEn_belowR HS.out HB.out).at (j:=i) (by rw [<-HN.out]; exact q)
   have XF:=HF.out.get (i:=i) (by rw [<-HN.out]; exact q)
   have XO:=OK.out i q
   have su:=SU.out i q
   have sb:=SB.out (i+1) (by omega)
   obtain ⟨x,hx⟩:=nmq (l.getD i En.Z)
   rw [<-hx] at c0 c1 c2 c3 c4 XF XO su
   have CW:=qh (fun W=>xWeightR x.key x.val W XF.1 XF.2.2 (by omega) XO.1)
   obtain ⟨z,hz⟩:=nmq (x.key.size+x.val.pack.size)
   simp only [<-hz] at CW su
   obtain ⟨a,ha⟩:=nmq (sumTo Ch.wgt (loadL l) i)
   obtain ⟨a2,ha2⟩:=nmq (sumTo Ch.wgt (loadL l) (i+1))
   rw [<-ha] at su
   rw [<-ha2] at su sb
   have WR:=qh (show wrap64 ((a:Int)+(z:Int))=(a2:Int) by rw [su]; unfold wrap64; omega)
   have HA2:=qh ha2
   rw [<-ha]
   obtain ⟨k,g,v⟩:=x
   obtain ⟨m,t,u⟩:=v
   have CW:Hid (∀ W,Calls Tryz.prog 129 #[.string k,.agg #[.bool m,.string t,.int .u64 (u:Int)]] W fun e w'=>e=.returned (.int .i64 (z:Int))∧Below W.heap.size W w'):=CW
   have i0:(0:Int)<=(i:Int):=by omega
   have i1:(i:Int)<(n:Int):=by omega
   have c0:wr.cell? ⟨bb,o+i * 5,none⟩=some (.string k):=c0
   have c1:wr.cell? ⟨bb,o+i * 5+1,none⟩=some (.int .i64 g):=c1
   have c2:wr.cell? ⟨bb,o+i * 5+2,none⟩=some (.bool m):=c2
   have c3:wr.cell? ⟨bb,o+i * 5+3,none⟩=some (.string t):=c3
   have c4:wr.cell? ⟨bb,o+i * 5+4,none⟩=some (.int .u64 (u:Int)):=c4
   have B1:=qh (HB.out.alloc HB.out.size (.cells #[.string k,.int .i64 g,.bool m,.string t,.int .u64 (u:Int)] 134))
   clear hx hz ha ha2 hb su sb XF XO
   go_wp2_with fail
   refine (CW.out _).mono ?_
   rintro e w2 ⟨rfl,hb2⟩
   have B2:=qh (below_then B1.out hb2)
   clear hb2 c0 c1 c2 c3 c4
   go_wp2_with fail
   go_roundw
   case rel=>exact ⟨i+1,by omega,by go_num,by rw [<-HA2.out,<-WR.out],B2⟩
   case measure=>simp [intOf]; omega
  ·obtain rfl:i=n:=by omega
   rw [SA.out]
   go_wp2_with fail
   go_ret
   exact ⟨rfl,HB.out⟩

end Go.Proofs.YtomjlopcifafpaaGreat

namespace Go.Proofs.YtomjlopcifafpaaGreat
open Go.RowKit

section
variable {w0 w:World} {N:Nat->Prop} {b:Nat} {s:Sh} {L:Ch} {P:Nat} {os2:List Ob}
theorem withW_of {k:ByteArray}:∀ {ws:List Wr} {L:Ch} (q:Int),L.Rise->(∀ x,x ∈ ws->x.key≠k)->(L.withW ws q).of k=L.of k
 | [],_,_,_,_=>rfl
 | x :: ws,L,q,h,hn=>by
  have e:L.withW (x :: ws) q=(L.put x.key (x.ver q)).withW ws q:=rfl
  rw [e,withW_of q (Ch.rise_put h) fun y hy=>hn y (List.mem_cons_of_mem _ hy),Ch.of_put h,if_neg (fun z=>hn x (by simp) z.symm)]
theorem wrOk_parts {p:Option ByteArray} {x:Wr} (h:wrOk p x=true):x.val.ok=true∧x.key.size<=32:=by
 unfold wrOk keyOk at h
 simp only [Bool.and_eq_true,decide_eq_true_eq] at h
 exact ⟨h.2.1,h.1.2⟩
theorem wgt_snoc {k:ByteArray} {l:List Ver} {x:Wr} (q:Int) (h:x.val.ok=true):Ch.wgt (k,l++[x.ver q])=if x.gone then 0 else k.size+x.val.pack.size:=by
 have e:lastL (l++[x.ver q])=x.ver q:=by unfold lastL; rw [List.length_append,List.length_singleton,Nat.add_sub_cancel,snoc_last]
 show (if weightL (l++[x.ver q])=0 then 0 else _+k.size)=_
 have e2:weightL (l++[x.ver q])=if x.gone then 0 else x.val.pack.size:=by
  unfold weightL
  rw [e]
  by_cases z:x.gone=true
  ·rw [if_pos (.inr z),if_pos z]
  ·rw [if_neg,if_neg z]
   ·rfl
   ·rintro (y | y)
    ·rw [List.length_append] at y; simp at y
    ·exact z y
 rw [e2]
 have:=(Val.pack_size _ h).2
 cases x.gone with
 | true=>simp
 | false =>
  simp only [Bool.false_eq_true,if_false]
  rw [if_neg (by omega)]; omega
theorem live_step {L:Ch} {ws:List Wr} {q:Int} (h:L.Rise) (hm:mayW ws=true) {i:Nat} (hi:i<ws.length) :
  (L.withW (ws.take (i+1)) q).live+Ch.wgt ((ws.getD i Wr.Z).key,L.of (ws.getD i Wr.Z).key)=(L.withW (ws.take i) q).live+(if (ws.getD i Wr.Z).gone then 0 else (ws.getD i Wr.Z).key.size+(ws.getD i Wr.Z).val.pack.size):=by
 obtain ⟨o1,_⟩:=wrOk_parts (mayW_at hm hi)
 rw [withW_succ L ws q hi,Ch.put_give]
 have hr:(L.withW (ws.take i) q).Rise:=Sim.rise_with h _ _
 have e:(L.withW (ws.take i) q).of (ws.getD i Wr.Z).key=L.of (ws.getD i Wr.Z).key:=withW_of q h fun x hx z=>by
  obtain ⟨j,hj,rfl⟩:=List.getElem_of_mem hx
  rw [List.length_take] at hj
  have:=mayW_rise hm (i:=j) (j:=i) (by omega) hi
  rw [List.getElem_take] at z
  rw [List.getD_eq_getElem?_getD,List.getElem?_eq_getElem (by omega)] at this
  have z:(ws[j]).key=(ws.getD i Wr.Z).key:=z
  rw [show (some ws[j]).getD Wr.Z=ws[j] from rfl,z,ltB_irr] at this
  cases this
 have:=(sums_give (L.withW (ws.take i) q) (ws.getD i Wr.Z).key ((L.withW (ws.take i) q).of (ws.getD i Wr.Z).key++[(ws.getD i Wr.Z).ver q])).1
 rw [wgt_snoc q o1,e] at this
 rw [e]
 exact this
theorem xWithR (h:Side w0 N w (s.os b++os2)) (a:s.At L P) (ws:List Wr) (A:Option Addr) (c:Nat) (q:Int) (hw:SlWr w A ws) (hf:FitsW ws) (ht:∀ x,x ∈ ws->x.val.txt.size<=1000) (hm:mayW ws=true) (hG:∀ i,i<=ws.length->GoodC (L.withW (ws.take i) q)∧(L.withW (ws.take i) q).length<=10000) :
  Calls Tryz.prog 89 #[PtrM b,.slice A ws.length c] w fun e w'=>e=.returned (.int .i64 ((L.withW ws q).live:Nat))∧Below w.heap.size w w':=by
 have LV:=qh (xLiveR h)
 have hx1:=a.x1
 have ni:=mayW_size hm
 have SU:=qh (fun i (hi:i<ws.length)=>live_step (q:=q) a.f.good.rise hm hi)
 have SB:=qh (fun i (hi:i<=ws.length)=>show (L.withW (ws.take i) q).live<=30000000 from by
  have:=sum_le (f:=Ch.wgt) (B:=3000) (wgt_le (hG i hi).1)
  have:=(hG i hi).2
  unfold Ch.live; omega)
 have KC:=qh (fun k W (hb:Below w.heap.size w W)=>show Calls Tryz.prog 58 #[PtrS b,.string k] W fun e w'=>∃ A c,e=.returned (.slice A (L.of k).length c)∧SlV w' A (L.of k)∧Below W.heap.size W w' from (xChainR (h.below hb) a.f k).mono fun e w' ⟨A',c',h1,_,h3,h4⟩=>⟨A',c',h1,h3,h4⟩)
 have KS:=qh (fun k W A' c' (hk:k.size<=32) (hs:SlV W A' (L.of k))=>xSumsR k (L.of k) A' c' W hs (good_of a.f.good a.f.right k).1 (good_of a.f.good a.f.right k).2.1 (by omega))
 have WS:=qh (fun k (hk:k.size<=32)=>wgt_small (k:=k) (good_of a.f.good a.f.right k).1 (good_of a.f.good a.f.right k).2.1 (by omega))
 have XF:=qh (fun i (hi:i<ws.length)=>show (ws.getD i Wr.Z).val.Fits∧(ws.getD i Wr.Z).val.txt.size<=1000∧(ws.getD i Wr.Z).val.ok=true∧(ws.getD i Wr.Z).key.size<=32 from by
  obtain ⟨o1,o2⟩:=wrOk_parts (mayW_at hm hi)
  refine ⟨(hf.get hi).1,ht _ ?_,o1,o2⟩
  rw [List.getD_eq_getElem?_getD,List.getElem?_eq_getElem hi]
  exact List.getElem_mem _)
 obtain ⟨n,hn⟩:=nmq (ws.length)
 obtain ⟨x1,hx⟩:=nmq (s.x1)
 rw [<-hx] at LV hx1
 have E0:=qh (show x1=((L.withW (ws.take 0) q).live:Nat) from hx1)
 have EN:=qh (show (L.withW (ws.take n) q).live=(L.withW ws q).live from by rw [hn,List.take_length])
 rw [<-hn] at ni
 rw [<-hn]
 have HN:=qh hn
 have HS:=qh hw
 obtain ⟨T,hT⟩:=nmq ((L.withW ws q).live)
 rw [<-hT] at EN ⊢
 clear h a hw hf ht hm hG hx1 hn hT hx
 go_enter Tryz.func89,Tryz.ntmps89
 go_wp2_with fail
 refine LV.out.mono ?_
 rintro e w1 ⟨rfl,hb⟩
 have B1:=qh hb
 rw [E0.out]
 clear hb LV E0
 go_wp2_with fail
 go_loopw [5,12] (fun va vi wr=>∃ i:Nat,i<=n∧vi=.int .i64 i∧va=.int .i64 ((L.withW (ws.take i) q).live:Nat)∧Hid (Below w.heap.size w wr)) (fun _ vi _=>n-(intOf vi).toNat)
 case atStart=>exact ⟨0,Nat.zero_le _,rfl,rfl,B1⟩
 case round =>
  obtain ⟨i,hi,rfl,rfl,HB⟩:=hrel
  by_cases z:i<n
  ·obtain ⟨bb,o,rfl,hb,c0,c1,c2,c3,c4⟩:=(HS.out.below HB.out).at (j:=i) (by rw [<-HN.out]; exact z)
   obtain ⟨f1,f2,f3,f4⟩:=XF.out i (by rw [<-HN.out]; exact z)
   have su:=SU.out i (by rw [<-HN.out]; exact z)
   have sb:=SB.out i (by rw [<-HN.out]; exact hi)
   have sb2:=SB.out (i+1) (by rw [<-HN.out]; exact z)
   obtain ⟨x,hx⟩:=nmq (ws.getD i Wr.Z)
   rw [<-hx] at c0 c1 c2 c3 c4 f1 f2 f3 f4 su
   have ws_:=WS.out x.key f4
   have CW:=qh (fun W=>xWeightR x.key x.val W f1 f2 (by omega) f3)
   have KC1:=qh (fun W (hb:Below w.heap.size w W)=>KC.out x.key W hb)
   have KS1:=qh (fun W A' c' (hs:SlV W A' (L.of x.key))=>KS.out x.key W A' c' f4 hs)
   obtain ⟨y,hy⟩:=nmq (x.key.size+x.val.pack.size)
   obtain ⟨u,hu⟩:=nmq (Ch.wgt (x.key,L.of x.key))
   obtain ⟨u2,hu2⟩:=nmq (Ch.aliv (x.key,L.of x.key))
   obtain ⟨m,hm⟩:=nmq ((L.of x.key).length)
   simp only [<-hy] at CW su
   rw [<-hu] at su ws_
   simp only [<-hu,<-hu2,<-hm] at KS1
   simp only [<-hm] at KC1
   obtain ⟨v0,hv0⟩:=nmq ((L.withW (ws.take i) q).live)
   obtain ⟨v1,hv1⟩:=nmq ((L.withW (ws.take (i+1)) q).live)
   rw [<-hv0] at su sb
   rw [<-hv1] at su sb2
   obtain ⟨d,hd⟩:∃ d:Int,d=(v0:Int)-(u:Int):=⟨_,rfl⟩
   have WD:=qh (show IntKind.i64.wrap ((v0:Int)-(u:Int))=d by rw [IntKind.wrap_i64]; omega)
   have WF:=qh (fun (hg:x.gone=false)=>show wrap64 (d+(y:Int))=(v1:Int) by rw [hg] at su; simp at su; unfold wrap64; omega)
   have WT:=qh (fun (hg:x.gone=true)=>show d=(v1:Int) by rw [hg] at su; simp at su; omega)
   have HV1:=qh hv1
   rw [<-hv0]
   obtain ⟨k,g,v⟩:=x
   obtain ⟨nm,t,bt⟩:=v
   have CW:Hid (∀ W,Calls Tryz.prog 129 #[.string k,.agg #[.bool nm,.string t,.int .u64 (bt:Int)]] W fun e w'=>e=.returned (.int .i64 (y:Int))∧Below W.heap.size W w'):=CW
   have i0:(0:Int)<=(i:Int):=by omega
   have i1:(i:Int)<(n:Int):=by omega
   have c0:wr.cell? ⟨bb,o+i * 5,none⟩=some (.string k):=c0
   have c1:wr.cell? ⟨bb,o+i * 5+1,none⟩=some (.bool g):=c1
   have c2:wr.cell? ⟨bb,o+i * 5+2,none⟩=some (.bool nm):=c2
   have c3:wr.cell? ⟨bb,o+i * 5+3,none⟩=some (.string t):=c3
   have c4:wr.cell? ⟨bb,o+i * 5+4,none⟩=some (.int .u64 (bt:Int)):=c4
   obtain ⟨X,hX⟩:=nmq (wr.heap.size)
   obtain ⟨r1,hr1⟩:=nmq (wr.alloc (.cells #[.string k,.bool g,.bool nm,.string t,.int .u64 (bt:Int)] 86))
   have R1:=qh (show RowAt r1 X [.string k,.bool g,.bool nm,.string t,.int .u64 (bt:Int)] 86 from by rw [hr1,hX]; exact RowAt.new wr _ _)
   have BB:=qh (show Below w.heap.size w r1 from by rw [hr1]; exact HB.out.alloc HB.out.size _)
   have HR1:=qh hr1
   have HX:=qh hX
   clear hx hy hu hu2 hm hv0 hv1 hd hb su sb sb2 f1 f2 f3 f4 ws_ hr1 hX
   go_wp2_with fail
   rw [<-HR1.out,<-HX.out]
   clear c0 c1 c2 c3 c4
   have BX:=qh (show Below r1.heap.size r1 r1.drew from (Below.refl _ _).drew)
   have CF:=qh (fun W (hb:Below r1.heap.size r1 W)=>row5 (R1.out.below hb))
   have c0:=(CF.out _ BX.out).1
   refine wp_region_held_drew (S:=(fun w'=>w'.cell? ⟨X,0,none⟩=some (.string k))) (by kernel_rfl) (c0) (fun gH=>?_)
   refine rgT 0 (v:=?v1) ?y1 gH ?_
   case y1=>(intro v hSw; go_simp<;>rfl)
   refine rgT 1 (v:=?v2) ?y2 gH ?_
   case y2=>(intro v hSw; go_simp<;>rfl)
   refine rgT 2 (v:=?v3) ?y3 gH ?_
   case y3=>(intro v hSw; go_simp<;>rfl)
   try simp only [putS]
   refine rgT 3 (v:=?v4) ?y4 gH ?_
   case y4=>(intro v hSw; go_simp<;>rfl)
   refine rgT 4 (v:=?v5) ?y5 gH ?_
   case y5=>(intro v hSw; go_simp<;>rfl)
   refine rgT 5 (v:=?v6) ?y6 gH ?_
   case y6=>(intro v hSw; go_simp<;>rfl)
   try simp only [putS]
   refine rgT 6 (v:=?v7) ?y7 gH ?_
   case y7=>(intro v hSw; go_simp<;>rfl)
   refine rgT 7 (v:=?v8) ?y8 gH ?_
   case y8=>(intro v hSw; go_simp<;>rfl)
   try simp only [putS]
   refine rgO 8 fun K hK=>?_
   go_simp
   refine (KC1.out _ (below_then BB.out BX.out)).mono ?_
   rintro r W3 ⟨A3,c3,rfl,hs3,hb3⟩
   have S3:=qh hs3
   have B3:=qh (below_then BX.out hb3)
   clear hs3 hb3
   refine hK.out _ _ ((CF.out _ B3.out).1) (fun gH=>?_)
   clear hK K
   try simp only [putS]
   refine rgO 9 fun K hK=>?_
   go_simp
   refine (KS1.out _ _ _ S3.out).mono ?_
   rintro r W4 ⟨rfl,hb4⟩
   have B4:=qh (below_then B3.out hb4)
   clear hb4
   refine hK.out _ _ ((CF.out _ B4.out).1) (fun gH=>?_)
   clear hK K
   try simp only [putS]
   have hfd:∀ w,(Instr.field 112 (.agg #[.int .i64 (u:Int),.int .i64 (u2:Int),.int .i64 (m:Int)]) 0).run Tryz.prog w=.ok (.int .i64 (u:Int)) w:=fun _=>by kernel_rfl
   refine rgT 10 (v:=?v9) ?y9 gH ?_
   case y9=>(intro v hSw; go_simp<;>rfl)
   refine rgT 11 (v:=?v10) ?y10 gH ?_
   case y10=>(intro v hSw; go_simp<;>rfl)
   refine rgT 12 (v:=?v11) ?y11 gH ?_
   case y11=>(intro v hSw; go_simp<;>rfl)
   try simp only [putS]
   refine rgD ?_
   rw [WD.out]
   have BE:=qh (below_then BB.out B4.out)
   have R4:=qh (R1.out.below B4.out)
   clear c0 hfd
   obtain ⟨e0,e1,e2,e3,e4⟩:=row5 R4.out
   cases g with
   | true =>
    have ev:=WT.out rfl
    go_wp2_with fail
    go_roundw
    case rel=>exact ⟨i+1,by omega,by go_num,by rw [<-HV1.out,<-ev],BE⟩
    case measure=>simp [intOf]; omega
   | false =>
    have ev:=qh (WF.out rfl)
    go_wp2_with fail
    refine (CW.out _).mono ?_
    rintro r W5 ⟨rfl,hb5⟩
    have BF:=qh (below_then BE.out hb5)
    clear hb5 e0 e1 e2 e3 e4
    go_wp2_with fail
    go_roundw
    case rel=>exact ⟨i+1,by omega,by go_num,by rw [<-HV1.out,<-ev.out],BF⟩
    case measure=>simp [intOf]; omega
  ·obtain rfl:i=n:=by omega
   rw [EN.out]
   go_wp2_with fail
   go_ret
   exact ⟨rfl,HB.out⟩
theorem xFitsR (h:Side w0 N w (s.os b++os2)) (a:s.At L P) (ws:List Wr) (A:Option Addr) (c:Nat) (hw:SlWr w A ws) (hf:FitsW ws) (ht:∀ x,x ∈ ws->x.val.txt.size<=1000) (hm:mayW ws=true)
  (hG:(s.r.seq:Int)<s.g3->∀ i,i<=ws.length->GoodC (L.withW (ws.take i) ((s.r.seq:Int)+1))∧(L.withW (ws.take i) ((s.r.seq:Int)+1)).length<=10000) :
  Calls Tryz.prog 48 #[PtrM b,.slice A ws.length c] w fun e w'=>e=.returned (.int .i64 (spcE s.r L ws s.g2 s.g3))∧Below w.heap.size w w':=by
 have SQ:=qh (fun W (hb:Below w.heap.size w W)=>xSeqR (h.below hb))
 have WT:=qh (fun (hs:(s.r.seq:Int)<s.g3) W (hb:Below w.heap.size w W)=>xWithR (h.below hb) a ws A c ((s.r.seq:Int)+1) (hw.below hb) hf ht hm (hG hs))
 have CX:=qh (fun W (hb:Below w.heap.size w W)=>show W.cell? ⟨b,3,none⟩=some (.int .i64 s.g3)∧W.cell? ⟨b,2,none⟩=some (.int .i64 s.g2) from ⟨(Sh.cells (h.below hb)).2.2.2.1,(Sh.cells (h.below hb)).2.2.1⟩)
 obtain ⟨n,hn⟩:=nmq (ws.length)
 obtain ⟨q,hq⟩:∃ q:Int,q=(s.r.seq:Nat):=⟨_,rfl⟩
 obtain ⟨v,hv⟩:∃ v:Int,v=((L.withW ws ((s.r.seq:Int)+1)).live:Nat):=⟨_,rfl⟩
 obtain ⟨T,hT⟩:=nmq (spcE s.r L ws s.g2 s.g3)
 have ET:=qh (show T=if s.g3<=q then 17 else if s.g2<v then 15 else 0 from by rw [hT,hq,hv]; rfl)
 obtain ⟨g2,hg2⟩:=nmq (s.g2)
 obtain ⟨g3,hg3⟩:=nmq (s.g3)
 rw [<-hT]
 simp only [<-hn,<-hv] at WT
 simp only [<-hq,<-hg3] at WT
 simp only [<-hq] at SQ
 rw [<-hg2,<-hg3] at ET
 simp only [<-hg2,<-hg3] at CX
 rw [<-hn]
 clear h a hw hf ht hm hG hn hq hv hT hg2 hg3
 have BX:=qh (show Below w.heap.size w w.drew from (Below.refl _ _).drew)
 have SQ':=qh (SQ.out _ BX.out)
 have c3:=(CX.out _ BX.out).1
 go_enter Tryz.func48,Tryz.ntmps48
 go_wp2_with fail
 refine wp_region_held_drew (S:=(fun w'=>w'.cell? ⟨b,3,none⟩=some (.int .i64 g3))) (by kernel_rfl) (c3) (fun gH=>?_)
 refine rgT 0 (v:=?v12) ?y12 gH ?_
 case y12=>(intro v hSw; go_simp<;>rfl)
 refine rgT 2 (v:=?v13) ?y13 gH ?_
 case y13=>(intro v hSw; go_simp<;>rfl)
 refine rgT 3 (v:=?v14) ?y14 gH ?_
 case y14=>(intro v hSw; go_simp<;>rfl)
 try simp only [putS]
 refine rgT 4 (v:=?v15) ?y15 gH ?_
 case y15=>(intro v hSw; go_simp<;>rfl)
 refine rgT 5 (v:=?v16) ?y16 gH ?_
 case y16=>(intro v hSw; go_simp<;>rfl)
 refine rgT 6 (v:=?v17) ?y17 gH ?_
 case y17=>(intro v hSw; go_simp<;>rfl)
 try simp only [putS]
 refine rgO 1 fun K hK=>?_
 go_simp
 refine SQ'.out.mono ?_
 rintro r W1 ⟨rfl,hb1⟩
 have B1:=qh (below_then BX.out hb1)
 clear hb1
 refine hK.out _ _ ((CX.out _ B1.out).1) (fun gH=>?_)
 clear hK K
 try simp only [putS]
 by_cases z:g3<=q
 ·have e:=ET.out
  rw [if_pos z] at e
  subst e
  refine rgT 7 (v:=?v18) ?y18 gH ?_
  case y18=>(intro v hSw; go_simp<;>rfl)
  try simp only [putS]
  refine rgD ?_
  go_wp2_with fail
  go_ret
  exact ⟨rfl,B1.out⟩
 ·have e:=ET.out
  rw [if_neg z] at e
  have E:=qh e
  clear e
  have WT':=qh (WT.out (by omega) W1.drew B1.out.drew)
  have c2:=(CX.out W1.drew B1.out.drew).2
  have BY:=qh (show Below w.heap.size w W1.drew from B1.out.drew)
  refine rgT 7 (v:=?v19) ?y19 gH ?_
  case y19=>(intro v hSw; go_simp<;>rfl)
  try simp only [putS]
  refine rgD ?_
  go_wp2_with fail
  refine wp_region_held_drew (S:=(fun w'=>w'.cell? ⟨b,2,none⟩=some (.int .i64 g2))) (by kernel_rfl) (c2) (fun gH=>?_)
  refine rgT 0 (v:=?v20) ?y20 gH ?_
  case y20=>(intro v hSw; go_simp<;>rfl)
  refine rgT 1 (v:=?v21) ?y21 gH ?_
  case y21=>(intro v hSw; go_simp<;>rfl)
  refine rgT 3 (v:=?v22) ?y22 gH ?_
  case y22=>(intro v hSw; go_simp<;>rfl)
  try simp only [putS]
  refine rgT 4 (v:=?v23) ?y23 gH ?_
  case y23=>(intro v hSw; go_simp<;>rfl)
  refine rgT 5 (v:=?v24) ?y24 gH ?_
  case y24=>(intro v hSw; go_simp<;>rfl)
  refine rgT 6 (v:=?v25) ?y25 gH ?_
  case y25=>(intro v hSw; go_simp<;>rfl)
  try simp only [putS]
  refine rgT 7 (v:=?v26) ?y26 gH ?_
  case y26=>(intro v hSw; go_simp<;>rfl)
  try simp only [putS]
  refine rgO 2 fun K hK=>?_
  go_simp
  refine WT'.out.mono ?_
  rintro r W2 ⟨rfl,hb2⟩
  have B2:=qh (below_then BY.out hb2)
  clear hb2
  refine hK.out _ _ ((CX.out _ B2.out).2) (fun gH=>?_)
  clear hK K
  try simp only [putS]
  by_cases z2:g2<v
  ·have e:=E.out
   rw [if_pos z2] at e
   subst e
   refine rgT 8 (v:=?v27) ?y27 gH ?_
   case y27=>(intro v hSw; go_simp<;>rfl)
   try simp only [putS]
   refine rgD ?_
   go_wp2_with fail
   go_ret
   exact ⟨rfl,B2.out⟩
  ·have e:=E.out
   rw [if_neg z2] at e
   subst e
   refine rgT 8 (v:=?v28) ?y28 gH ?_
   case y28=>(intro v hSw; go_simp<;>rfl)
   try simp only [putS]
   refine rgD ?_
   go_wp2_with fail
   go_ret
   exact ⟨rfl,B2.out⟩
end

end Go.Proofs.YtomjlopcifafpaaGreat

namespace Go.Proofs.YtomjlopcifafpaaGreat
open Go.RowKit

section
variable {w0 w:World} {N:Nat->Prop} {b:Nat} {s:Sh} {L:Ch} {P:Nat} {os2:List Ob}
theorem since_eq {L:Ch} {k:ByteArray} {q:Int} (hq:0<=q):since L k q=decide (q<(if decide (0<(L.of k).length)=true then lastL (L.of k) else Ver.Z).seq):=by
 unfold since
 by_cases z:0<(L.of k).length
 ·rw [decide_eq_true z,if_pos rfl,Bool.true_and]
 ·rw [decide_eq_false z,if_neg (by decide)]
  rw [decide_eq_false (show ¬ q<Ver.Z.seq from by show ¬ q<0; omega)]; rfl
theorem xBehind1R {b3 b5:Nat} {q:Int} (x:Wr) (W:World) (h:Side w0 N W (s.os b++os2)) (a:s.AtF L P) (hq:0<=q) (h3:W.cell? ⟨b3,0,none⟩=some (PtrM b)) (h5:W.cell? ⟨b5,0,none⟩=some (.int .i64 q)) :
  Calls Tryz.prog 109 #[x.v,.pointer (some ⟨b3,0,none⟩),.pointer (some ⟨b5,0,none⟩)] W fun e w'=>e=.returned (.bool (since L x.key q))∧Below W.heap.size W w':=by
 have E0:=since_eq (L:=L) (k:=x.key) hq
 obtain ⟨g1,g2,_⟩:=good_of a.good a.right x.key
 have KC:=qh (fun W' (hb:Below W.heap.size W W')=>show Calls Tryz.prog 58 #[PtrS b,.string x.key] W' fun e w'=>∃ A c,e=.returned (.slice A (L.of x.key).length c)∧SlV w' A (L.of x.key)∧Below W'.heap.size W' w' from (xChainR (h.below hb) a x.key).mono fun e w' ⟨A',c',h1,_,h3,h4⟩=>⟨A',c',h1,h3,h4⟩)
 have KL0:=fun W' A' c' (hs:SlV W' A' (L.of x.key))=>xLast9 (L.of x.key) A' c' W' hs g1
 simp only [g2,Bool.true_and] at KL0
 obtain ⟨y,hy⟩:=nmq ((if decide (0<(L.of x.key).length)=true then lastL (L.of x.key) else Ver.Z))
 obtain ⟨D,hD⟩:=nmq (decide (0<(L.of x.key).length))
 obtain ⟨m,hm⟩:=nmq ((L.of x.key).length)
 simp only [<-hy] at KL0
 rw [<-hy] at E0
 simp only [<-hD] at KL0
 simp only [<-hm] at KL0 KC
 obtain ⟨T,hT⟩:=nmq (since L x.key q)
 rw [<-hT] at E0 ⊢
 obtain ⟨k,gx,v⟩:=x
 obtain ⟨nx,tx,bx⟩:=v
 obtain ⟨sq,gn,u⟩:=y
 obtain ⟨nu,t,bt⟩:=u
 have KL:=qh (show ∀ W' A' c',SlV W' A' (L.of k)->Calls Tryz.prog 110 #[.slice A' m c'] W' fun e w'=>e=.returned (.tuple #[.agg #[.int .i64 sq,.bool gn,.bool nu,.string t,.int .u64 (bt:Int)],.bool D])∧Below W'.heap.size W' w' from KL0)
 have E:=qh E0
 obtain ⟨w1,hw1⟩:=nmq (W.alloc (.cells #[.string k,.bool gx,.bool nx,.string tx,.int .u64 (bx:Int)] 86))
 obtain ⟨X,hX⟩:=nmq (W.heap.size)
 have R1:RowAt w1 X [.string k,.bool gx,.bool nx,.string tx,.int .u64 (bx:Int)] 86:=by rw [hw1,hX]; exact RowAt.new W _ _
 have b1:Below W.heap.size W w1:=by rw [hw1]; exact (Below.refl _ _).alloc (Nat.le_refl _) _
 have CF:=qh (fun W' (hb:Below W.heap.size W W') (hr:RowAt W' X [.string k,.bool gx,.bool nx,.string tx,.int .u64 (bx:Int)] 86)=>show W'.cell? ⟨b3,0,none⟩=some (PtrM b)∧W'.cell? ⟨X,0,none⟩=some (.string k) from ⟨(hb.cell (p:=⟨b3,0,none⟩) (World.block_lt_of_cell? W _ h3)).trans h3,hr.cell 0⟩)
 have C5:=qh (fun W' (hb:Below W.heap.size W W')=>show W'.cell? ⟨b5,0,none⟩=some (.int .i64 q) from (hb.cell (p:=⟨b5,0,none⟩) (World.block_lt_of_cell? W _ h5)).trans h5)
 have CF:=qh (fun W' (hb:Below w1.heap.size w1 W')=>CF.out W' (below_then b1 hb) (R1.below hb))
 have KC:=qh (fun W' (hb:Below w1.heap.size w1 W')=>KC.out W' (below_then b1 hb))
 have HW1:=qh hw1
 have HX:=qh hX
 have BW:=qh b1
 obtain ⟨wd,hwd⟩:=nmq (w1.drew)
 have BX:=qh (show Below w1.heap.size w1 wd from by rw [hwd]; exact (Below.refl _ _).drew)
 have HWD:=qh hwd
 have LW:=qh b1.size
 clear h a hq h3 h5 g1 g2 hy hD hm hT hw1 hX R1 b1 hwd E0 KL0
 show Calls Tryz.prog 109 #[.agg #[.string k,.bool gx,.bool nx,.string tx,.int .u64 (bx:Int)],.pointer (some ⟨b3,0,none⟩),.pointer (some ⟨b5,0,none⟩)] W _
 go_enter Tryz.func109,Tryz.ntmps109
 go_wp2_with fail
 rw [<-HW1.out,<-HX.out]
 refine wp_region_held_drew (S:=(fun w'=>w'.cell? ⟨b3,0,none⟩=some (PtrM b)∧w'.cell? ⟨X,0,none⟩=some (.string k))) (by kernel_rfl) (by have:=CF.out _ BX.out; rw [HWD.out] at this; exact this) (fun gH=>?_)
 rw [<-HWD.out] at gH ⊢
 refine rgT 0 (v:=?v1) ?y1 gH ?_
 case y1=>(intro v hSw; go_simp<;>rfl)
 refine rgT 1 (v:=?v2) ?y2 gH ?_
 case y2=>(intro v hSw; go_simp<;>rfl)
 refine rgT 2 (v:=?v3) ?y3 gH ?_
 case y3=>(intro v hSw; go_simp<;>rfl)
 try simp only [putS]
 refine rgT 3 (v:=?v4) ?y4 gH ?_
 case y4=>(intro v hSw; go_simp<;>rfl)
 refine rgT 4 (v:=?v5) ?y5 gH ?_
 case y5=>(intro v hSw; go_simp<;>rfl)
 try simp only [putS]
 refine rgnTwo 5 10 rfl rfl (by kernel_rfl) (fun K hK=>?_) (fun K hK=>?_)
 ·go_simp
  refine (KC.out _ BX.out).mono ?_
  rintro r W1 ⟨A1,c1,rfl,hs1,hb1⟩
  have S1:=qh hs1
  have B1:=qh (below_then BX.out hb1)
  refine hK.out _ _ (CF.out _ B1.out) (fun gH=>?_)
  clear hK K hs1
  try simp only [putS]
  clear hb1
  refine rgnTwo 6 10 rfl rfl (by kernel_rfl) (fun K hK=>?_) (fun K hK=>?_)
  ·go_simp
   refine (KL.out _ _ _ S1.out).mono ?_
   rintro r W2 ⟨rfl,hb2⟩
   have B2:=qh (below_then B1.out hb2)
   refine hK.out _ _ (CF.out _ B2.out) (fun gH=>?_)
   clear hK K
   try simp only [putS]
   clear hb2
   refine rgT 7 (v:=?v6) ?y6 gH ?_
   case y6=>(intro v hSw; go_simp<;>rfl)
   refine rgT 8 (v:=?v7) ?y7 gH ?_
   case y7=>(intro v hSw; go_simp<;>rfl)
   refine rgT 9 (v:=?v8) ?y8 gH ?_
   case y8=>(intro v hSw; go_simp<;>rfl)
   try simp only [putS]
   obtain ⟨W3,hW3⟩:=nmq (W2.alloc (.cells #[.int .i64 0,.bool false,.bool false,.string ⟨#[]⟩,.int .u64 0] 120))
   obtain ⟨p,hp⟩:=nmq (W2.heap.size)
   have BK:=qh (show Below w1.heap.size w1 W3 from by rw [hW3]; exact B2.out.alloc B2.out.size _)
   have B3:=qh (below_then BW.out BK.out)
   have PA:=qh (show RowAt W3 p Ver.Z.cs 120 from by rw [hW3,hp]; exact RowAt.new W2 _ _)
   have PK:=qh (show w1.heap.size<=p from by rw [hp]; exact B2.out.size)
   have PL:=qh (Nat.le_trans LW.out PK.out)
   have HW3:=qh hW3
   have HP:=qh hp
   clear hW3 hp
   refine rgO 10 fun K hK=>?_
   go_simp
   rw [<-HW3.out,<-HP.out]
   refine hK.out _ _ (CF.out _ BK.out) (fun gH=>?_)
   clear hK K HW3 HP
   try simp only [putS]
   refine rgO 11 fun K hK=>?_
   have f0:=PA.out.frozen 0
   have f1:=PA.out.frozen 1
   have f2:=PA.out.frozen 2
   have f3:=PA.out.frozen 3
   have f4:=PA.out.frozen 4
   obtain ⟨d0,d1,d2,d3,d4⟩:=row5 PA.out
   go_simp
   have hS:=qh (setV_row (w:=W3) (g:=p) (x:=⟨sq,gn,⟨nu,t,bt⟩⟩) (y:=Ver.Z) PA.out)
   have hBl:=qh (setV_below (B:=W.heap.size) (w:=W3) (g:=p) (x:=⟨sq,gn,⟨nu,t,bt⟩⟩) B3.out PL.out)
   have hBk:=qh (setV_below (B:=w1.heap.size) (w:=W3) (g:=p) (x:=⟨sq,gn,⟨nu,t,bt⟩⟩) BK.out PK.out)
   obtain ⟨W4,hW4⟩:=nmq (setV W3 p ⟨sq,gn,⟨nu,t,bt⟩⟩)
   rw [<-hW4] at hS hBl hBk
   refine hK.out _ _ (by have:=CF.out _ hBk.out; rw [hW4] at this; exact this) (fun gH=>?_)
   have hW5:W4=((((W3.setCell ⟨p,0,none⟩ (.int .i64 sq)).setCell ⟨p,1,none⟩ (.bool gn)).setCell ⟨p,2,none⟩ (.bool nu)).setCell ⟨p,3,none⟩ (.string t)).setCell ⟨p,4,none⟩ (.int .u64 (bt:Int)):=hW4
   rw [<-hW5] at gH ⊢
   clear hK K f0 f1 f2 f3 f4 d0 d1 d2 d3 d4 hW5 hW4
   refine rgT 12 (v:=?v9) ?y9 gH ?_
   case y9=>(intro v hSw; go_simp<;>rfl)
   try simp only [putS]
   refine rgD ?_
   clear gH
   have s0:W4.cell? ⟨p,0,none⟩=some (.int .i64 sq):=hS.out.cell 0
   have c5:=C5.out _ hBl.out
   go_wp2_with fail
   go_ret
   exact ⟨by rw [E.out]; rfl,hBl.out⟩
  ·obtain ⟨V1,hV1⟩:=nmq (W1.alloc (.cells #[.int .i64 0,.bool false,.bool false,.string ⟨#[]⟩,.int .u64 0] 120))
   obtain ⟨p,hp⟩:=nmq (W1.heap.size)
   have bv:Below W1.heap.size W1 V1:=by rw [hV1]; exact (Below.refl _ _).alloc (Nat.le_refl _) _
   have PA1:=qh (show RowAt V1 p Ver.Z.cs 120 from by rw [hV1,hp]; exact RowAt.new W1 _ _)
   have PK:=qh (show w1.heap.size<=p from by rw [hp]; exact B1.out.size)
   have PL:=qh (Nat.le_trans LW.out PK.out)
   have S1':=qh (S1.out.below bv)
   have B1':=qh (below_then B1.out bv)
   have HV1:=qh hV1
   have HP:=qh hp
   clear hV1 hp bv S1 B1
   go_simp
   rw [<-HV1.out,<-HP.out]
   refine hK.out _ _ (CF.out _ B1'.out) (fun gH=>?_)
   clear hK K HV1 HP
   try simp only [putS]
   have S1:=S1'
   have B1:=B1'
   refine rgO 6 fun K hK=>?_
   go_simp
   refine (KL.out _ _ _ S1.out).mono ?_
   rintro r W2 ⟨rfl,hb2⟩
   have B2:=qh (below_then B1.out hb2)
   refine hK.out _ _ (CF.out _ B2.out) (fun gH=>?_)
   clear hK K
   refine rgT 7 (v:=?v10) ?y10 gH ?_
   case y10=>(intro v hSw; go_simp<;>rfl)
   refine rgT 8 (v:=?v11) ?y11 gH ?_
   case y11=>(intro v hSw; go_simp<;>rfl)
   try simp only [putS]
   refine rgT 9 (v:=?v12) ?y12 gH ?_
   case y12=>(intro v hSw; go_simp<;>rfl)
   try simp only [putS]
   have PA:=qh (PA1.out.below hb2)
   have BK:=B2
   have B3:=qh (below_then BW.out BK.out)
   clear hb2
   obtain ⟨W3,hW3⟩:=nmq (W2)
   rw [<-hW3] at PA BK B3 ⊢
   clear hW3
   refine rgO 11 fun K hK=>?_
   have f0:=PA.out.frozen 0
   have f1:=PA.out.frozen 1
   have f2:=PA.out.frozen 2
   have f3:=PA.out.frozen 3
   have f4:=PA.out.frozen 4
   obtain ⟨d0,d1,d2,d3,d4⟩:=row5 PA.out
   go_simp
   have hS:=qh (setV_row (w:=W3) (g:=p) (x:=⟨sq,gn,⟨nu,t,bt⟩⟩) (y:=Ver.Z) PA.out)
   have hBl:=qh (setV_below (B:=W.heap.size) (w:=W3) (g:=p) (x:=⟨sq,gn,⟨nu,t,bt⟩⟩) B3.out PL.out)
   have hBk:=qh (setV_below (B:=w1.heap.size) (w:=W3) (g:=p) (x:=⟨sq,gn,⟨nu,t,bt⟩⟩) BK.out PK.out)
   obtain ⟨W4,hW4⟩:=nmq (setV W3 p ⟨sq,gn,⟨nu,t,bt⟩⟩)
   rw [<-hW4] at hS hBl hBk
   refine hK.out _ _ (by have:=CF.out _ hBk.out; rw [hW4] at this; exact this) (fun gH=>?_)
   have hW5:W4=((((W3.setCell ⟨p,0,none⟩ (.int .i64 sq)).setCell ⟨p,1,none⟩ (.bool gn)).setCell ⟨p,2,none⟩ (.bool nu)).setCell ⟨p,3,none⟩ (.string t)).setCell ⟨p,4,none⟩ (.int .u64 (bt:Int)):=hW4
   rw [<-hW5] at gH ⊢
   clear hK K f0 f1 f2 f3 f4 d0 d1 d2 d3 d4 hW5 hW4
   refine rgT 12 (v:=?v13) ?y13 gH ?_
   case y13=>(intro v hSw; go_simp<;>rfl)
   try simp only [putS]
   refine rgD ?_
   clear gH
   have s0:W4.cell? ⟨p,0,none⟩=some (.int .i64 sq):=hS.out.cell 0
   have c5:=C5.out _ hBl.out
   go_wp2_with fail
   go_ret
   exact ⟨by rw [E.out]; rfl,hBl.out⟩
 ·obtain ⟨V1,hV1⟩:=nmq (wd.alloc (.cells #[.int .i64 0,.bool false,.bool false,.string ⟨#[]⟩,.int .u64 0] 120))
  obtain ⟨p,hp⟩:=nmq (wd.heap.size)
  have bv:Below wd.heap.size wd V1:=by rw [hV1]; exact (Below.refl _ _).alloc (Nat.le_refl _) _
  have PA1:=qh (show RowAt V1 p Ver.Z.cs 120 from by rw [hV1,hp]; exact RowAt.new wd _ _)
  have PK:=qh (show w1.heap.size<=p from by rw [hp]; exact BX.out.size)
  have PL:=qh (Nat.le_trans LW.out PK.out)
  have BX':=qh (below_then BX.out bv)
  have HV1:=qh hV1
  have HP:=qh hp
  clear hV1 hp bv BX
  go_simp
  rw [<-HV1.out,<-HP.out]
  refine hK.out _ _ (CF.out _ BX'.out) (fun gH=>?_)
  clear hK K HV1 HP
  try simp only [putS]
  have BX:=BX'
  refine rgO 5 fun K hK=>?_
  go_simp
  refine (KC.out _ BX.out).mono ?_
  rintro r W1 ⟨A1,c1,rfl,hs1,hb1⟩
  have S1:=qh hs1
  have B1:=qh (below_then BX.out hb1)
  refine hK.out _ _ (CF.out _ B1.out) (fun gH=>?_)
  clear hK K hs1
  try simp only [putS]
  have PA2:=qh (PA1.out.below hb1)
  clear hb1
  refine rgO 6 fun K hK=>?_
  go_simp
  refine (KL.out _ _ _ S1.out).mono ?_
  rintro r W2 ⟨rfl,hb2⟩
  have B2:=qh (below_then B1.out hb2)
  refine hK.out _ _ (CF.out _ B2.out) (fun gH=>?_)
  clear hK K
  refine rgT 7 (v:=?v14) ?y14 gH ?_
  case y14=>(intro v hSw; go_simp<;>rfl)
  refine rgT 8 (v:=?v15) ?y15 gH ?_
  case y15=>(intro v hSw; go_simp<;>rfl)
  try simp only [putS]
  refine rgT 9 (v:=?v16) ?y16 gH ?_
  case y16=>(intro v hSw; go_simp<;>rfl)
  try simp only [putS]
  have PA:=qh (PA2.out.below hb2)
  have BK:=B2
  have B3:=qh (below_then BW.out BK.out)
  clear hb2
  obtain ⟨W3,hW3⟩:=nmq (W2)
  rw [<-hW3] at PA BK B3 ⊢
  clear hW3
  refine rgO 11 fun K hK=>?_
  have f0:=PA.out.frozen 0
  have f1:=PA.out.frozen 1
  have f2:=PA.out.frozen 2
  have f3:=PA.out.frozen 3
  have f4:=PA.out.frozen 4
  obtain ⟨d0,d1,d2,d3,d4⟩:=row5 PA.out
  go_simp
  have hS:=qh (setV_row (w:=W3) (g:=p) (x:=⟨sq,gn,⟨nu,t,bt⟩⟩) (y:=Ver.Z) PA.out)
  have hBl:=qh (setV_below (B:=W.heap.size) (w:=W3) (g:=p) (x:=⟨sq,gn,⟨nu,t,bt⟩⟩) B3.out PL.out)
  have hBk:=qh (setV_below (B:=w1.heap.size) (w:=W3) (g:=p) (x:=⟨sq,gn,⟨nu,t,bt⟩⟩) BK.out PK.out)
  obtain ⟨W4,hW4⟩:=nmq (setV W3 p ⟨sq,gn,⟨nu,t,bt⟩⟩)
  rw [<-hW4] at hS hBl hBk
  refine hK.out _ _ (by have:=CF.out _ hBk.out; rw [hW4] at this; exact this) (fun gH=>?_)
  have hW5:W4=((((W3.setCell ⟨p,0,none⟩ (.int .i64 sq)).setCell ⟨p,1,none⟩ (.bool gn)).setCell ⟨p,2,none⟩ (.bool nu)).setCell ⟨p,3,none⟩ (.string t)).setCell ⟨p,4,none⟩ (.int .u64 (bt:Int)):=hW4
  rw [<-hW5] at gH ⊢
  clear hK K f0 f1 f2 f3 f4 d0 d1 d2 d3 d4 hW5 hW4
  refine rgT 12 (v:=?v17) ?y17 gH ?_
  case y17=>(intro v hSw; go_simp<;>rfl)
  try simp only [putS]
  refine rgD ?_
  clear gH
  have s0:W4.cell? ⟨p,0,none⟩=some (.int .i64 sq):=hS.out.cell 0
  have c5:=C5.out _ hBl.out
  go_wp2_with fail
  go_ret
  exact ⟨by rw [E.out]; rfl,hBl.out⟩
theorem xIndexFuncR {b3 b5:Nat} {q:Int} (ws:List Wr) (A:Option Addr) (c:Nat) (hw:SlWr w A ws) (hl:ws.length<=1000) (h:Side w0 N w (s.os b++os2)) (a:s.AtF L P) (hq:0<=q) (h3:w.cell? ⟨b3,0,none⟩=some (PtrM b)) (h5:w.cell? ⟨b5,0,none⟩=some (.int .i64 q)) :
  Calls Tryz.prog 148 #[.slice A ws.length c,.func (.func 109) #[] #[.pointer (some ⟨b3,0,none⟩),.pointer (some ⟨b5,0,none⟩)]] w fun e w'=>∃ z:Int,e=.returned (.int .i64 z)∧decide (0<=z)=ws.any (fun x=>since L x.key q)∧Below w.heap.size w w':=by
 have KB:=qh (fun i W (hb:Below w.heap.size w W)=>xBehind1R (b3:=b3) (b5:=b5) (ws.getD i Wr.Z) W (h.below hb) a hq ((hb.cell (p:=⟨b3,0,none⟩) (World.block_lt_of_cell? w _ h3)).trans h3) ((hb.cell (p:=⟨b5,0,none⟩) (World.block_lt_of_cell? w _ h5)).trans h5))
 obtain ⟨T,hT⟩:=nmq (ws.any (fun x=>since L x.key q))
 rw [<-hT]
 have AY:=qh (fun i (hi:i<ws.length) (hh:since L (ws.getD i Wr.Z).key q=true)=>show T=true from by
  rw [hT,List.any_eq_true]
  refine ⟨ws[i],List.getElem_mem hi,?_⟩
  rwa [List.getD_eq_getElem?_getD,List.getElem?_eq_getElem hi] at hh)
 have AN:=qh (fun (hh:∀ i,i<ws.length->since L (ws.getD i Wr.Z).key q=false)=>show T=false from by
  rw [hT,List.any_eq_false]
  intro x hx
  obtain ⟨i,hi,rfl⟩:=List.getElem_of_mem hx
  have:=hh i hi
  rw [List.getD_eq_getElem?_getD,List.getElem?_eq_getElem hi] at this
  exact Bool.eq_false_iff.1 this)
 obtain ⟨n,hn⟩:=nmq (ws.length)
 rw [<-hn] at hl AY AN ⊢
 have HN:=qh hn
 have HS:=qh hw
 clear h a hq h3 h5 hT hn hw
 go_enter Tryz.func148,Tryz.ntmps148
 go_wp2_with fail
 go_loopw [8] (fun vi wr=>∃ i:Nat,i<=n∧vi=.int .i64 i∧Hid (∀ j,j<i->since L (ws.getD j Wr.Z).key q=false)∧Hid (Below w.heap.size w wr)) (fun vi _=>n-(intOf vi).toNat)
 case atStart=>exact ⟨0,Nat.zero_le _,rfl,qh (fun j hj=>by cases hj),qh (Below.refl _ _)⟩
 case round =>
  obtain ⟨i,hi,rfl,HM,HB⟩:=hrel
  by_cases z:i<n
  ·obtain ⟨bb,o,rfl,hb,c0,c1,c2,c3,c4⟩:=(HS.out.below HB.out).at (j:=i) (by rw [<-HN.out]; exact z)
   have KB1:=KB.out i wr HB.out
   have AY1:=qh (AY.out i z)
   have HM2:=qh (fun (hf:since L (ws.getD i Wr.Z).key q=false) j (hj:j<i+1)=>show since L (ws.getD j Wr.Z).key q=false from by
    by_cases e:j=i
    ·rw [e]; exact hf
    ·exact HM.out j (by omega))
   obtain ⟨x,hx⟩:=nmq (ws.getD i Wr.Z)
   rw [<-hx] at c0 c1 c2 c3 c4 KB1 AY1 HM2
   obtain ⟨S,hS⟩:=nmq (since L x.key q)
   rw [<-hS] at KB1 AY1 HM2
   obtain ⟨k,g,v⟩:=x
   obtain ⟨nm,t,bt⟩:=v
   have KB1:=qh KB1
   have KB1:Hid (Calls Tryz.prog 109 #[.agg #[.string k,.bool g,.bool nm,.string t,.int .u64 (bt:Int)],.pointer (some ⟨b3,0,none⟩),.pointer (some ⟨b5,0,none⟩)] wr fun e w'=>e=.returned (.bool S)∧Below wr.heap.size wr w'):=KB1
   have i0:(0:Int)<=(i:Int):=by omega
   have i1:(i:Int)<(n:Int):=by omega
   have c0:wr.cell? ⟨bb,o+i * 5,none⟩=some (.string k):=c0
   have c1:wr.cell? ⟨bb,o+i * 5+1,none⟩=some (.bool g):=c1
   have c2:wr.cell? ⟨bb,o+i * 5+2,none⟩=some (.bool nm):=c2
   have c3:wr.cell? ⟨bb,o+i * 5+3,none⟩=some (.string t):=c3
   have c4:wr.cell? ⟨bb,o+i * 5+4,none⟩=some (.int .u64 (bt:Int)):=c4
   clear hx hS hb
   go_wp2_with fail
   refine KB1.out.mono ?_
   rintro r w2 ⟨rfl,hb2⟩
   have B2:=qh (below_then HB.out hb2)
   clear hb2 c0 c1 c2 c3 c4
   cases S with
   | true =>
    have e:=qh (AY1.out rfl)
    go_wp2_with fail
    go_ret
    exact ⟨_,rfl,by rw [e.out]; exact decide_eq_true i0,B2.out⟩
   | false =>
    have HM3:=qh (HM2.out rfl)
    go_wp2_with fail
    go_roundw
    case rel=>exact ⟨i+1,by omega,by go_num,HM3,B2⟩
    case measure=>simp [intOf]; omega
  ·obtain rfl:i=n:=by omega
   have e:=qh (AN.out HM.out)
   go_wp2_with fail
   go_ret
   exact ⟨_,rfl,by rw [e.out]; rfl,HB.out⟩
theorem xBehindR (ws:List Wr) (A:Option Addr) (c:Nat) (q:Int) (hw:SlWr w A ws) (hl:ws.length<=1000) (h:Side w0 N w (s.os b++os2)) (a:s.AtF L P) (hq:0<=q) :
  Calls Tryz.prog 61 #[PtrM b,.slice A ws.length c,.int .i64 q] w fun e w'=>e=.returned (.bool (ws.any (fun x=>since L x.key q)))∧Below w.heap.size w w':=by
 obtain ⟨X,hX⟩:=nmq (w.heap.size)
 obtain ⟨w2,hw2⟩:=nmq ((w.alloc (.cells #[PtrM b] 28)).alloc (.cells #[.int .i64 q] 3))
 have r1:RowAt w2 X [PtrM b] 28:=by rw [hw2,hX]; exact (RowAt.new w [PtrM b] _).alloc _
 have r2:RowAt w2 (X+1) [.int .i64 q] 3:=by
  have:=RowAt.new (w.alloc (.cells #[PtrM b] 28)) [.int .i64 q] 3
  rw [World.size_alloc,<-hX] at this
  rw [hw2]; exact this
 have hb:Below w.heap.size w w2:=by rw [hw2]; exact ((Below.refl _ _).alloc (Nat.le_refl _) _).alloc (by simp) _
 have KI:=qh (xIndexFuncR (b3:=X) (b5:=X+1) ws A c (hw.below hb) hl (h.below hb) a hq (r1.cell 0) (r2.cell 0))
 obtain ⟨T,hT⟩:=nmq (ws.any (fun x=>since L x.key q))
 rw [<-hT] at KI ⊢
 obtain ⟨n,hn⟩:=nmq (ws.length)
 rw [<-hn] at KI ⊢
 have HW2:=qh hw2
 have HX:=qh hX
 have HB:=qh hb
 have CC:=qh (show Calls Tryz.prog 108 #[.slice A n c,.func (.func 109) #[] #[.pointer (some ⟨X,0,none⟩),.pointer (some ⟨X+1,0,none⟩)]] w2 fun e w'=>e=.returned (.bool T)∧Below w2.heap.size w2 w' from by
  clear h a hq hw hl hX hw2 r1 r2 hb hT hn
  go_enter Tryz.func108,Tryz.ntmps108
  go_wp2_with fail
  refine KI.out.mono ?_
  rintro e w3 ⟨z,rfl,hz,hb3⟩
  have HZ:=qh hz
  have B3:=qh hb3
  clear hz hb3
  go_wp2_with fail
  go_ret
  exact ⟨by rw [<-HZ.out]; rfl,B3.out⟩)
 clear h a hq hw hl hX hw2 r1 r2 hb hT hn KI
 go_enter Tryz.func61,Tryz.ntmps61
 go_wp2_with fail
 rw [<-HW2.out,<-HX.out]
 refine CC.out.mono ?_
 rintro e w3 ⟨rfl,hb3⟩
 have B3:=qh (below_then HB.out hb3)
 clear hb3
 go_wp2_with fail
 go_ret
 exact ⟨rfl,B3.out⟩
end

end Go.Proofs.YtomjlopcifafpaaGreat

namespace Go.Proofs.YtomjlopcifafpaaGreat
open Go.RowKit

section
variable {w0 w:World} {N:Nat->Prop} {b:Nat} {s:Sh} {L:Ch} {P:Nat} {os2:List Ob}
theorem xCheckR (h:Side w0 N w (s.os b++os2)) (a:s.At L P) (ws:List Wr) (A:Option Addr) (c:Nat) (q:Int) (hw:SlWr w A ws) (hf:FitsW ws) (ht:∀ x,x ∈ ws->x.val.txt.size<=1000) (hl:ws.length<=1000)
  (hG:mayW ws=true->(s.r.seq:Int)<s.g3->∀ i,i<=ws.length->GoodC (L.withW (ws.take i) ((s.r.seq:Int)+1))∧(L.withW (ws.take i) ((s.r.seq:Int)+1)).length<=10000) :
  Calls Tryz.prog 18 #[PtrM b,.slice A ws.length c,.int .i64 q] w fun e w'=>e=.returned (.int .i64 (chkE s.r L ws q s.g2 s.g3))∧Below w.heap.size w w':=by
 have MY:=qh (fun W (hb:Below w.heap.size w W)=>xMayR ws A c W (hw.below hb) hf)
 have FL:=qh (fun W (hb:Below w.heap.size w W)=>xFloorR (h.below hb))
 have SQ:=qh (fun W (hb:Below w.heap.size w W)=>xSeqR (h.below hb))
 have BH:=qh (fun (hq:0<=q) W (hb:Below w.heap.size w W)=>xBehindR ws A c q (hw.below hb) hl (h.below hb) a.f hq)
 have FT:=qh (fun (hm:mayW ws=true) W (hb:Below w.heap.size w W)=>xFitsR (h.below hb) a ws A c (hw.below hb) hf ht hm (hG hm))
 obtain ⟨n,hn⟩:=nmq (ws.length)
 obtain ⟨M,hM⟩:=nmq (mayW ws)
 obtain ⟨f,hfl⟩:=nmq (s.r.floor)
 obtain ⟨y,hy⟩:=nmq (s.r.seq)
 obtain ⟨S,hS⟩:=nmq (ws.any (fun x=>since L x.key q))
 obtain ⟨Z,hZ⟩:=nmq (spcE s.r L ws s.g2 s.g3)
 obtain ⟨T,hT⟩:=nmq (chkE s.r L ws q s.g2 s.g3)
 have ET:=qh (show T=if M=false then 1 else if q<(f:Int)∨(y:Int)<q then 14 else if S=true then 13 else Z from by rw [hT,hM,hfl,hy,hS,hZ]; rfl)
 rw [<-hT]
 simp only [<-hn,<-hM] at MY
 simp only [<-hfl] at FL
 simp only [<-hy] at SQ
 simp only [<-hn,<-hS] at BH
 simp only [<-hn,<-hZ,<-hM] at FT
 rw [<-hn]
 clear h a hw hf ht hl hG hn hM hfl hy hS hZ hT
 go_enter Tryz.func18,Tryz.ntmps18
 go_wp2_with fail
 refine (MY.out _ (Below.refl _ _)).mono ?_
 rintro e w1 ⟨rfl,hb1⟩
 have B1:=qh hb1
 clear hb1
 cases M with
 | false =>
  have e:T=1:=ET.out
  subst e
  go_wp2_with fail
  go_ret
  exact ⟨rfl,B1.out⟩
 | true =>
  go_wp2_with fail
  refine (FL.out _ B1.out).mono ?_
  rintro e w2 ⟨rfl,hb2⟩
  have B2:=qh (below_then B1.out hb2)
  clear hb2
  by_cases z1:q<(f:Int)
  ·have e:T=14:=by rw [ET.out,if_neg (by decide),if_pos (.inl z1)]
   subst e
   go_wp2_with fail
   go_ret
   exact ⟨rfl,B2.out⟩
  ·go_wp2_with fail
   refine (SQ.out _ B2.out).mono ?_
   rintro e w3 ⟨rfl,hb3⟩
   have B3:=qh (below_then B2.out hb3)
   clear hb3
   by_cases z2:(y:Int)<q
   ·have e:T=14:=by rw [ET.out,if_neg (by decide),if_pos (.inr z2)]
    subst e
    go_wp2_with fail
    go_ret
    exact ⟨rfl,B3.out⟩
   ·have E:=qh (show T=if S=true then 13 else Z from by rw [ET.out,if_neg (by decide),if_neg (by rintro (z | z)<;>omega)])
    have BH':=qh (BH.out (by omega) _ B3.out)
    go_wp2_with fail
    refine BH'.out.mono ?_
    rintro e w4 ⟨rfl,hb4⟩
    have B4:=qh (below_then B3.out hb4)
    clear hb4
    cases S with
    | true =>
     have e:T=13:=E.out
     subst e
     go_wp2_with fail
     go_ret
     exact ⟨rfl,B4.out⟩
    | false =>
     have e:T=Z:=E.out
     subst e
     have FT':=qh (FT.out (by simp) _ B4.out)
     go_wp2_with fail
     refine FT'.out.mono ?_
     rintro e w5 ⟨rfl,hb5⟩
     have B5:=qh (below_then B4.out hb5)
     clear hb5
     go_wp2_with fail
     go_ret
     exact ⟨rfl,B5.out⟩
theorem SlWr.side {W:World} {A:Option Addr} {ws:List Wr} {os:List Ob} (hw:SlWr w0 A ws) (hA:0<ws.length->∀ a,A=some a->N a.block) (h:Side w0 N W os):SlWr W A ws:=fun hp=>by
 obtain ⟨g,o,rfl,hlt,hc⟩:=hw hp
 have hN:=hA hp _ rfl
 have e:∀ j,W.cell? ⟨g,j,none⟩=w0.cell? ⟨g,j,none⟩:=fun j=>World.cell?_of_block (h.chg.block g hlt fun z=>z hN)
 refine ⟨g,o,rfl,Nat.lt_of_lt_of_le hlt h.size,fun j hj=>?_⟩
 rw [e,e,e,e,e]
 exact hc j hj
def Sh.ringTo (s:Sh) (r:Rg):Sh:={ s with r:=r }
theorem Sh.At.ring (a:s.At L P) (r:Rg):(s.ringTo r).At L P:=⟨⟨a.f.fine,a.f.t0,a.f.n1,a.f.n2,a.f.n3,a.f.n4,a.f.good,a.f.right,a.f.n5⟩,a.x1,a.x2,a.x3⟩
theorem xPushR (x:Int) (h:Side w0 N w (s.os b)):Calls Tryz.prog 49 #[PtrR s.q,.int .u64 x] w fun e w'=>e=.returned (.tuple #[.int .i64 (s.r.told x:Nat),.int .i64 (s.r.no x)])∧Side w0 N w' ((s.ringTo (s.r.push x)).os b) :=
 h.call (i:=6) (o:=oRing s.q s.r) (o':=oRing s.q (s.r.push x)) rfl fun F ⟨v,e,hp,ok⟩ _=>(xPush0 s.q v s.r x w hp ok).mono fun e w' ⟨h1,v',h2,h3⟩=>⟨h1,by rw [‹F=_›]; exact h3.1,rfoot s.q v',⟨v',rfl,h2,Rg.push_ok ok x⟩,by rw [‹F=_›]; exact h3.2⟩
theorem Sh.Hd.trans {a b c:Sh} (h:Sh.Hd a b) (k:Sh.Hd b c):Sh.Hd a c:=⟨k.1.trans h.1,k.2.1.trans h.2.1,k.2.2.1.trans h.2.2.1,k.2.2.2.1.trans h.2.2.2.1,k.2.2.2.2.1.trans h.2.2.2.2.1,k.2.2.2.2.2.1.trans h.2.2.2.2.2.1,k.2.2.2.2.2.2.trans h.2.2.2.2.2.2⟩
theorem add_asks {L:Ch} {q:Int} {ws:List Wr} {K:Nat} (o:OkL L q) (hb:Bnd L K 500) (hq0:0<=q) (hq:q+1<=1073741824) (hm:mayW ws=true) (hf:FitsW ws) {i:Nat} (hi:i<ws.length) :
  GoodL ((L.withW (ws.take i) (q+1)).of (ws.getD i Wr.Z).key++[(ws.getD i Wr.Z).ver (q+1)])∧rightL ((L.withW (ws.take i) (q+1)).of (ws.getD i Wr.Z).key++[(ws.getD i Wr.Z).ver (q+1)])=true∧(ws.getD i Wr.Z).key.size<=32∧(L.withW (ws.take i) (q+1)).length<=K+i:=by
 obtain ⟨o1,_,b1⟩:=withW_keeps o hb hq0 hq hm hf i (by omega)
 obtain ⟨o2,_,b2⟩:=withW_keeps o hb hq0 hq hm hf (i+1) (by omega)
 rw [withW_succ L ws (q+1) hi] at o2 b2
 have e:((L.withW (ws.take i) (q+1)).put (ws.getD i Wr.Z).key ((ws.getD i Wr.Z).ver (q+1))).of (ws.getD i Wr.Z).key=(L.withW (ws.take i) (q+1)).of (ws.getD i Wr.Z).key++[(ws.getD i Wr.Z).ver (q+1)]:=by
  rw [Ch.of_put o1.rise,if_pos rfl]
 have r:=o2.of_right (ws.getD i Wr.Z).key
 have f:=o2.of_fits (ws.getD i Wr.Z).key
 have n:=b2.2 (ws.getD i Wr.Z).key
 rw [e] at r f n
 exact ⟨⟨f,fun y hy=>by have:=Val.ok_txt (right_ok r hy); omega,by omega⟩,r,(wrOk_parts (mayW_at hm hi)).2,b1.1⟩
theorem xCommitR (h:Side w0 N w (s.os b)) (a:s.At L P) (ws:List Wr) (A:Option Addr) (c:Nat) (x:Int) (hw:SlWr w0 A ws) (hA:0<ws.length->∀ a,A=some a->N a.block) (hf:FitsW ws) (ht:∀ x,x ∈ ws->x.val.txt.size<=1000)
  (o:OkL L s.r.seq) (hb:Bnd L 3900 500) (hq:s.g3<=1073741824) (hP:P+16<=13200) :
  Calls Tryz.prog 12 #[PtrM b,.slice A ws.length c,.int .u64 x] w fun e w'=>e=.returned (.tuple #[.int .i64 (comN s.r L ws x s.g2 s.g3),.int .i64 (comE s.r L ws x s.g2 s.g3)]) ∧
   ∃ s',Side w0 N w' (s'.os b)∧Sh.Hd (s.ringTo (comR s.r L ws x s.g2 s.g3)) s'∧s'.At (comL s.r L ws x s.g2 s.g3) (P+(if comE s.r L ws x s.g2 s.g3=0 then 16 else 0)):=by
 have h0:Side w0 N w (s.os b++[]):=by rw [List.append_nil]; exact h
 have hG:mayW ws=true->(s.r.seq:Int)<s.g3->∀ i,i<=ws.length->GoodC (L.withW (ws.take i) ((s.r.seq:Int)+1))∧(L.withW (ws.take i) ((s.r.seq:Int)+1)).length<=10000:=fun hm hs=>o.goods hb (by omega) (by omega) hm hf (by decide) (by decide)
 have MY:=qh (fun W (hW:Side w0 N W (s.os b))=>xMayR ws A c W (hw.side hA hW) hf)
 have FT:=qh (fun (hm:mayW ws=true) W (hW:Side w0 N W (s.os b))=>xFitsR (os2:=[]) (by rw [List.append_nil]; exact hW) a ws A c (hw.side hA hW) hf ht hm (hG hm))
 have PU:=qh (fun W (hW:Side w0 N W (s.os b))=>xPushR x hW)
 have HA:=qh a
 have HH:=qh h
 obtain ⟨Z,hZ⟩:=nmq (spcE s.r L ws s.g2 s.g3)
 obtain ⟨M,hM⟩:=nmq (mayW ws)
 obtain ⟨n,hn⟩:=nmq (ws.length)
 have NOP:=qh (fun (hc:comE s.r L ws x s.g2 s.g3≠0) W (hW:Side w0 N W (s.os b))=>show ∃ s',Side w0 N W (s'.os b)∧Sh.Hd (s.ringTo (comR s.r L ws x s.g2 s.g3)) s'∧s'.At (comL s.r L ws x s.g2 s.g3) (P+(if comE s.r L ws x s.g2 s.g3=0 then 16 else 0)) from by
  have e1:comR s.r L ws x s.g2 s.g3=s.r:=by unfold comR; rw [if_neg hc]
  have e2:comL s.r L ws x s.g2 s.g3=L:=by unfold comL; rw [if_neg hc]
  rw [e1,e2,if_neg hc]
  exact ⟨s,hW,⟨rfl,rfl,rfl,rfl,rfl,rfl,rfl⟩,HA.out⟩)
 have EC:=qh (show comE s.r L ws x s.g2 s.g3=if M=false then 1 else if Z≠0 then Z else s.r.no x from by rw [hM,hZ]; rfl)
 have EN:=qh (show comN s.r L ws x s.g2 s.g3=if comE s.r L ws x s.g2 s.g3=0 then (s.r.seq:Int)+1 else 0 from rfl)
 have ER:=qh (fun (hc:comE s.r L ws x s.g2 s.g3=0)=>show comR s.r L ws x s.g2 s.g3=s.r.push x∧comL s.r L ws x s.g2 s.g3=L.withW ws ((s.r.seq:Int)+1) from ⟨by unfold comR; rw [if_pos hc],by unfold comL; rw [if_pos hc]⟩)
 have ZS:=qh (fun (hz:Z=0)=>show (s.r.seq:Int)<s.g3 from by
  rw [hZ] at hz
  unfold spcE at hz
  by_cases q:s.g3<=(s.r.seq:Int)
  ·rw [if_pos q] at hz; cases hz
  ·omega)
 obtain ⟨y,hy⟩:∃ y:Nat,y=s.r.seq:=⟨_,rfl⟩
 have AK:=qh (fun (hm:M=true) (hs:(y:Int)<s.g3) i (hi:i<n)=>add_asks (q:=(y:Int)) (by rw [hy]; exact o) hb (by omega) (by omega) (by rw [<-hM]; exact hm) hf (i:=i) (by rw [<-hn]; exact hi))
 have n16:=qh (fun (hm:M=true)=>show n<=16 from by rw [hn]; exact mayW_size (by rw [<-hM]; exact hm))
 have WI:=qh (fun i (hi:i<n)=>withW_succ L ws ((y:Int)+1) (i:=i) (by rw [<-hn]; exact hi))
 have WN:=qh (show L.withW (ws.take n) ((y:Int)+1)=L.withW ws ((y:Int)+1) from by rw [hn,List.take_length])
 have WS:=qh (fun W os (hW:Side w0 N W os)=>show SlWr W A ws from hw.side hA hW)
 have PN:=qh (fun (ho:s.r.no x≠0)=>show s.ringTo (s.r.push x)=s from by unfold Rg.push; rw [if_neg ho]; rfl)
 have TO:=qh (show s.r.told x=if s.r.no x=0 then y+1 else 0 from by rw [hy]; rfl)
 simp only [<-hy] at EN ER ZS
 simp only [<-hn,<-hM] at MY
 simp only [<-hn,<-hZ,<-hM] at FT
 obtain ⟨E,hE⟩:=nmq (comE s.r L ws x s.g2 s.g3)
 obtain ⟨CN,hCN⟩:=nmq (comN s.r L ws x s.g2 s.g3)
 obtain ⟨O,hO⟩:=nmq (s.r.no x)
 obtain ⟨TT,hTT⟩:=nmq (s.r.told x)
 simp only [<-hE] at NOP EC EN ER
 simp only [<-hCN] at EN
 simp only [<-hO] at EC TO PU PN
 simp only [<-hTT] at TO PU
 rw [<-hn,<-hE,<-hCN]
 have HP:=qh hP
 have HN:=qh hn
 have HQ:=qh (show ∀ W,Side w0 N W (s.os b)->W.cell? ⟨b,4,none⟩=some (.pointer (some ⟨s.q,0,none⟩)) from fun W hW=>(Sh.cells (os2:=[]) (by rw [List.append_nil]; exact hW)).2.2.2.2.1)
 clear h0 h a hw hA hf ht o hb hq hP hG hZ hM hn hE hCN hO hTT
 have hy':=qh hy
 clear hy
 go_enter Tryz.func12,Tryz.ntmps12
 go_wp2_with fail
 refine (MY.out _ HH.out).mono ?_
 rintro e w1 ⟨rfl,hb1⟩
 have H1:=qh (HH.out.below hb1)
 clear hb1
 cases M with
 | false =>
  have e:E=1:=EC.out
  subst e
  have ec:CN=0:=EN.out
  subst ec
  go_wp2_with fail
  go_ret2
  exact ⟨rfl,NOP.out (by decide) _ H1.out⟩
 | true =>
  have FT':=qh (FT.out (by simp) _ H1.out)
  go_wp2_with fail
  refine FT'.out.mono ?_
  rintro e w2 ⟨rfl,hb2⟩
  have H2:=qh (H1.out.below hb2)
  clear hb2
  by_cases z0:Z=0
  ·have HZ:=qh z0
   have ZS':=qh (ZS.out z0)
   subst z0
   have c4:=HQ.out _ H2.out
   go_wp2_with fail
   refine (PU.out _ H2.out).mono ?_
   rintro e w3 ⟨rfl,h3⟩
   have H3:=qh h3
   clear h3 c4
   by_cases z1:O=0
   ·subst z1
    have e:E=0:=by rw [EC.out]; rfl
    subst e
    have ec:CN=(y:Int)+1:=by rw [EN.out]; rfl
    have et:TT=y+1:=by rw [TO.out]; rfl
    obtain ⟨q',hq'⟩:∃ q':Int,q'=(y:Int)+1:=⟨_,rfl⟩
    have et2:((TT:Nat):Int)=q':=by rw [hq',et]; rfl
    rw [<-hq'] at ec
    obtain ⟨er,el⟩:=ER.out rfl
    simp only [<-hq'] at el WI WN AK
    have ERL:=qh (And.intro er el)
    have A3:=qh (HA.out.ring (s.r.push x))
    have AK':=qh (AK.out (by simp) ZS'.out)
    have N16:=n16.out (by simp)
    subst ec
    clear er el hq' et AK n16 ZS ER
    go_wp2_with fail
    clear et2
    go_loopw [38] (fun vi wr=>∃ (i:Nat) (si:Sh),i<=n∧vi=.int .i64 i∧Hid (Side w0 N wr (si.os b))∧Hid (Sh.Hd (s.ringTo (s.r.push x)) si)∧Hid (si.At (L.withW (ws.take i) CN) (P+i))) (fun vi _=>n-(intOf vi).toNat)
    case atStart=>exact ⟨0,s.ringTo (s.r.push x),Nat.zero_le _,rfl,H3,qh ⟨rfl,rfl,rfl,rfl,rfl,rfl,rfl⟩,A3⟩
    case round =>
     obtain ⟨i,si,hi,rfl,HS,HD,HAi⟩:=hrel
     by_cases z:i<n
     ·obtain ⟨bb,o,ea,hb,c0,c1,c2,c3,c4⟩:=(WS.out _ _ HS.out).at (j:=i) (by rw [<-HN.out]; exact z)
      obtain ⟨k1,k2,k3,k4⟩:=AK'.out i z
      have wi:=WI.out i z
      obtain ⟨y0,hy0⟩:=nmq (ws.getD i Wr.Z)
      rw [<-hy0] at c0 c1 c2 c3 c4 k1 k2 k3 wi
      have KA:=qh (fun W (hW:Side w0 N W (si.os b))=>(xAddR (k:=y0.key) (y0.ver CN) hW HAi.out (by have:=HP.out; omega) (by omega) k1 k2 (by omega)).mono (R':=fun e w'=>e=.returned (.tuple #[])∧∃ s',Side w0 N w' (s'.os b)∧Sh.Hd (s.ringTo (s.r.push x)) s'∧s'.At (L.withW (ws.take (i+1)) CN) (P+(i+1))) fun e w' ⟨q1,s',q2,q3,q4⟩=>⟨q1,s',q2,HD.out.trans q3,by rw [wi]; exact q4⟩)
      obtain ⟨k,g,v⟩:=y0
      obtain ⟨nm,t,bt⟩:=v
      have KA:Hid (∀ W,Side w0 N W (si.os b)->Calls Tryz.prog 50 #[PtrS b,.string k,.agg #[.int .i64 CN,.bool g,.bool nm,.string t,.int .u64 (bt:Int)]] W fun e w'=>e=.returned (.tuple #[])∧∃ s',Side w0 N w' (s'.os b)∧Sh.Hd (s.ringTo (s.r.push x)) s'∧s'.At (L.withW (ws.take (i+1)) CN) (P+(i+1))):=KA
      subst ea
      have i0:(0:Int)<=(i:Int):=by omega
      have i1:(i:Int)<(n:Int):=by omega
      have c0:wr.cell? ⟨bb,o+i * 5,none⟩=some (.string k):=c0
      have c1:wr.cell? ⟨bb,o+i * 5+1,none⟩=some (.bool g):=c1
      have c2:wr.cell? ⟨bb,o+i * 5+2,none⟩=some (.bool nm):=c2
      have c3:wr.cell? ⟨bb,o+i * 5+3,none⟩=some (.string t):=c3
      have c4:wr.cell? ⟨bb,o+i * 5+4,none⟩=some (.int .u64 (bt:Int)):=c4
      obtain ⟨X,hX⟩:=nmq (wr.heap.size)
      obtain ⟨r1,hr1⟩:=nmq (wr.alloc (.cells #[.string k,.bool g,.bool nm,.string t,.int .u64 (bt:Int)] 86))
      have R1:=qh (show RowAt r1 X [.string k,.bool g,.bool nm,.string t,.int .u64 (bt:Int)] 86 from by rw [hr1,hX]; exact RowAt.new wr _ _)
      have S1:=qh (show Side w0 N r1.drew (si.os b) from by rw [hr1]; exact (HS.out.below ((Below.refl _ _).alloc (Nat.le_refl _) _)).below (Below.refl _ _).drew)
      have HR1:=qh hr1
      have HX:=qh hX
      have KA1:=qh (KA.out _ S1.out)
      clear hy0 hb k1 k2 k3 k4 wi hr1 hX KA
      go_wp2_with fail
      rw [<-HR1.out,<-HX.out]
      clear c0 c1 c2 c3 c4
      obtain ⟨c0,c1,c2,c3,c4⟩:=row5 (w:=r1.drew) R1.out
      go_still_tail 11,(by kernel_rfl)
      change wpList _ _ _ _ _ r1.drew
      go_wp2_with fail
      refine KA1.out.mono ?_
      rintro e w5 ⟨rfl,s5,h5,d5,a5⟩
      have H5:=qh h5
      have D5:=qh d5
      have A5:=qh a5
      clear h5 d5 a5 c0 c1 c2 c3 c4
      go_wp2_with fail
      go_roundw
      case rel=>exact ⟨i+1,s5,by omega,by go_num,H5,D5,A5⟩
      case measure=>simp [intOf]; omega
     ·obtain rfl:i=n:=by omega
      have a5:=HAi.out
      rw [WN.out] at a5
      have A5:=qh (a5.more (P':=P+16) (by omega) HP.out)
      clear a5
      go_wp2_with fail
      go_ret2
      refine ⟨rfl,si,HS.out,?_,?_⟩
      ·rw [ERL.out.1]; exact HD.out
      ·rw [ERL.out.2]; exact A5.out
   ·have e:E=O:=by rw [EC.out]; simp
    subst e
    have ec:CN=0:=by rw [EN.out,if_neg z1]
    have h3:=H3.out
    rw [PN.out z1] at h3
    have np:=NOP.out z1 _ h3
    rw [if_neg z1] at np
    have NP:=qh np
    clear np
    subst ec
    clear h3
    go_wp2_with fail
    go_ret2
    exact ⟨rfl,NP.out⟩
  ·have e:E=Z:=by rw [EC.out,if_neg (by decide),if_pos z0]
   subst e
   have ec:CN=0:=by rw [EN.out,if_neg z0]
   subst ec
   go_wp2_with fail
   go_ret2
   have np:=NOP.out z0 _ H2.out
   rw [if_neg z0] at np
   exact ⟨rfl,np⟩
end

end Go.Proofs.YtomjlopcifafpaaGreat

namespace Go.Proofs.YtomjlopcifafpaaGreat
open Go.RowKit

theorem xRightR (A:Option Addr) (c:Nat) (zs:List Int) (g1 g2 g3:Int) (w:World) (h:Sl w A zs) (hm:zs.length<=maxLen) :
  Calls Tryz.prog 76 #[.agg #[.slice A zs.length c,.int .i64 g1,.int .i64 g2,.int .i64 g3]] w fun e w'=>e=.returned (.bool (stOk zs g1 g2 g3))∧Below w.heap.size w w':=by
 have b0:Below w.heap.size w (w.alloc (.cells #[.slice A zs.length c,.int .i64 g1,.int .i64 g2,.int .i64 g3] 24)):=(Below.refl _ _).alloc (Nat.le_refl _) _
 have CR:=qh (lright A c zs _ (h.below b0) hm)
 have B0:=qh b0
 obtain ⟨n,hn⟩:=nmq (zs.length)
 obtain ⟨R,hR⟩:=nmq (La.right zs)
 obtain ⟨T,hT⟩:=nmq (stOk zs g1 g2 g3)
 have eT:T=(R && (decide (1<=g1) && (decide (g1<=16) && (decide (0<=g2) && (decide (g2<=1048576) && (decide (1<=g3) && decide (g3<=1073741824))))))):=by rw [hT,hR]; rfl
 rw [<-hT]
 rw [<-hR,<-hn] at CR
 rw [<-hn] at B0 ⊢
 have ET:=qh eT
 clear h hm hn hR hT eT b0
 go_enter Tryz.func76,Tryz.ntmps76
 go_wp2_with fail
 refine CR.out.mono ?_
 rintro e w1 ⟨rfl,rfl⟩
 have B1:=B0
 clear CR
 cases R with
 | false =>
  have e:=qh (show T=false from ET.out)
  go_wp2_with fail
  go_ret
  exact ⟨by rw [e.out]; rfl,B1.out⟩
 | true =>
 by_cases p1:(1:Int)<=g1
 case neg =>
  have d1:decide ((1:Int)<=g1)=false:=decide_eq_false p1
  have e:=qh (show T=false by rw [ET.out,d1]; simp)
  clear p1
  go_wp2_with fail
  go_ret
  exact ⟨by rw [e.out]; rfl,B1.out⟩
 have d1:decide ((1:Int)<=g1)=true:=decide_eq_true p1
 by_cases p2:g1<=(16:Int)
 case neg =>
  have d2:decide (g1<=(16:Int))=false:=decide_eq_false p2
  have e:=qh (show T=false by rw [ET.out,d2]; simp)
  clear p1 p2
  go_wp2_with fail
  go_ret
  exact ⟨by rw [e.out]; rfl,B1.out⟩
 have d2:decide (g1<=(16:Int))=true:=decide_eq_true p2
 by_cases p3:(0:Int)<=g2
 case neg =>
  have d3:decide ((0:Int)<=g2)=false:=decide_eq_false p3
  have e:=qh (show T=false by rw [ET.out,d3]; simp)
  clear p1 p2 p3
  go_wp2_with fail
  go_ret
  exact ⟨by rw [e.out]; rfl,B1.out⟩
 have d3:decide ((0:Int)<=g2)=true:=decide_eq_true p3
 by_cases p4:g2<=(1048576:Int)
 case neg =>
  have d4:decide (g2<=(1048576:Int))=false:=decide_eq_false p4
  have e:=qh (show T=false by rw [ET.out,d4]; simp)
  clear p1 p2 p3 p4
  go_wp2_with fail
  go_ret
  exact ⟨by rw [e.out]; rfl,B1.out⟩
 have d4:decide (g2<=(1048576:Int))=true:=decide_eq_true p4
 by_cases p5:(1:Int)<=g3
 case neg =>
  have d5:decide ((1:Int)<=g3)=false:=decide_eq_false p5
  have e:=qh (show T=false by rw [ET.out,d5]; simp)
  clear p1 p2 p3 p4 p5
  go_wp2_with fail
  go_ret
  exact ⟨by rw [e.out]; rfl,B1.out⟩
 have d5:decide ((1:Int)<=g3)=true:=decide_eq_true p5
 clear p1 p2 p3 p4 p5
 cases d6:decide (g3<=(1073741824:Int)) with
 | false =>
  have e:=qh (show T=false by rw [ET.out,d6]; simp)
  go_wp2_with fail
  go_ret
  exact ⟨by rw [e.out]; rfl,B1.out⟩
 | true =>
  have e:=qh (show T=true by rw [ET.out,d1,d2,d3,d4,d5,d6]; rfl)
  go_wp2_with fail
  go_ret
  exact ⟨by rw [e.out]; rfl,B1.out⟩

theorem scloneA (A:Option Addr) (c:Nat) (zs:List Int) (w:World) (h:Sl w A zs) (hl:zs.length<=1024) :
  Calls Tryz.prog 79 #[.slice A zs.length c] w fun e w'=>∃ v,e=.returned v∧Own w' w.heap.size v zs∧Below w.heap.size w w':=by
 have RUN:=fun w':World=>Lib.run_eql_slice_nil (P:=Tryz.prog) w' 22 34 A zs.length c 0 0 Tryz.underlying22
 cases A with
 | none =>
  have e:zs=[]:=by
   cases zs with
   | nil=>rfl
   | cons z l=>obtain ⟨_,_,e,_⟩:=h (by simp); cases e
  subst e
  simp only [Option.isNone_none,List.length_nil] at RUN
  have HO:=qh (show Own w w.heap.size (.slice none 0 0) [] from ⟨by simp,.inl ⟨rfl,rfl⟩⟩)
  clear h hl
  go_enter Tryz.func79,Tryz.ntmps79
  go_wp2_with fail
  go_ret
  exact ⟨_,rfl,HO.out,Below.refl _ _⟩
 | some a =>
  have HA:=qh h
  have OM:=qh (Own.made w w.heap.size (Nat.le_refl _) [] (by simp))
  have BM:=qh ((Below.refl w.heap.size w).alloc (Nat.le_refl _) (.cells (([]:List Int).map (Value.int .u64)).toArray 34))
  simp only [Option.isNone_some] at RUN
  clear h
  go_enter Tryz.func79,Tryz.ntmps79
  go_wp2_with (at_builtin; refine wp_putN rfl (.tmp 5) (.tmp 6) rfl w.heap.size _ [] rfl OM.out (some a) c zs rfl (HA.out.alloc _) (fun e=>by cases e) (by simp; omega) (by simp) ?_; intro v2 w2 hown2 hb2; have HO2:=qh hown2; have HB2:=qh (BM.out.trans hb2); clear hown2 hb2)
  go_ret
  exact ⟨v2,rfl,by simpa using HO2.out,HB2.out⟩

theorem Side.perm {w0 w:World} {N:Nat->Prop} {os os':List Ob} (h:Side w0 N w os) (f:Nat->Nat) (h1:∀ i,i<os'.length->f i<os.length∧os'[i]?=os[f i]?) (h2:∀ i j,i<os'.length->j<os'.length->f i=f j->i=j):Side w0 N w os':=by
 obtain ⟨F,p1,p2,p3,p4,p5⟩:=h
 refine ⟨fun i=>F (f i),fun i o e=>?_,fun i j k hi hj hn=>p2 _ _ k (h1 i hi).1 (h1 j hj).1 (fun e=>hn (h2 i j hi hj e)),fun i k hi=>p3 _ k (h1 i hi).1,p4,p5⟩
 have il:=(List.getElem?_eq_some_iff.1 e).1
 exact p1 _ o (by rw [<-(h1 i il).2]; exact e)
def Sh.new (lb:Value) (g1 g2 g3:Int) (q:Nat) (r:Rg) (zs:List Int):Sh:=⟨lb,g1,g2,g3,q,.slice none 0 0,.slice none 0 0,.slice none 0 0,0,0,0,none,[],0,[],[],[],r,zs⟩
theorem Sh.new_at (lb:Value) (g1 g2 g3:Int) (q:Nat) (r:Rg) (zs:List Int):(Sh.new lb g1 g2 g3 q r zs).At [] 0 where
 f:=⟨Fine.nil,fun _=>⟨rfl,rfl⟩,Nat.le_refl _,Nat.zero_le _,Nat.le_refl _,Nat.zero_le _,
  ⟨Nat.zero_le _,fun x h=>(by cases h),fun x h=>(by cases h),fun x h=>(by cases h),fun x h=>(by cases h),List.Pairwise.nil,fun x h=>(by cases h)⟩,fun x h=>(by cases h),Nat.zero_le _⟩
 x1:=rfl
 x2:=rfl
 x3:=rfl
def perm8:Nat->Nat
 | 0=>3 | 1=>4 | 2=>5 | 3=>6 | 4=>7 | 5=>8 | 6=>1 | _=>2
theorem newSh {w0 w:World} {N:Nat->Prop} {o:Ob} {lb:Value} {q:Nat} {r:Rg} {zs:List Int} (g1 g2 g3:Int) (h:Side w0 N w [o,oRing q r,oLab lb zs]) :
  Side w0 N (w.alloc (.cells (Sh.row (Sh.new lb g1 g2 g3 q r zs)).toArray 116)) ((Sh.new lb g1 g2 g3 q r zs).os w.heap.size):=by
 have k1:=h.rowNew (Sh.row (Sh.new lb g1 g2 g3 q r zs)) 116
 have k2:=k1.more (Below.refl _ _) (o:=oTree none [] 0) (F':=fun _=>False) (.inl ⟨rfl,rfl,fun _ e=>e⟩) (fun k e=>e.elim)
 have v (t:TypeId) (w:World):(oVec t (.slice none 0 0) []).P w fun _=>False:=⟨World.ownsRow_nil _ _ _ _,fun k=>⟨fun e=>e.elim,fun e=>(by cases e)⟩⟩
 have k3:=k2.more (Below.refl _ _) (v 189 _) (fun k e=>e.elim)
 have k4:=k3.more (Below.refl _ _) (v 124 _) (fun k e=>e.elim)
 have k5:=k4.more (Below.refl _ _) (v 3 _) (fun k e=>e.elim)
 have k6:=k5.more (Below.refl _ _) (o:=oDat [] []) (F':=fun _=>False) ⟨rfl,fun i hi=>(by cases hi),fun k e=>e.elim⟩ (fun k e=>e.elim)
 refine k6.perm perm8 (fun i hi=>?_) fun i j hi hj e=>?_
 ·have hi:i<8:=hi
  match i,hi with
  | 0,_=>exact ⟨(show 3<9 by decide),rfl⟩
  | 1,_=>exact ⟨(show 4<9 by decide),rfl⟩
  | 2,_=>exact ⟨(show 5<9 by decide),rfl⟩
  | 3,_=>exact ⟨(show 6<9 by decide),rfl⟩
  | 4,_=>exact ⟨(show 7<9 by decide),rfl⟩
  | 5,_=>exact ⟨(show 8<9 by decide),rfl⟩
  | 6,_=>exact ⟨(show 1<9 by decide),rfl⟩
  | 7,_=>exact ⟨(show 2<9 by decide),rfl⟩
 ·have hi:i<8:=hi
  have hj:j<8:=hj
  have A:∀ i,i<8->∀ j,j<8->perm8 i=perm8 j->i=j:=by decide
  exact A i hi j hj e
theorem put_last {L:Ch} {k:ByteArray} {v:Ver} (h:Ch.Rise (L++[(k,[v])])):L.of k=[]∧L.put k v=L++[(k,[v])]:=by
 have hk:∀ a,a ∈ L->ltB a.1 k=true:=fun a ha=>(List.pairwise_append.1 h).2.2 a ha (k,[v]) (List.mem_singleton.2 rfl)
 have kk:∀ i,i<L.length->ltB (L.key i) k=true:=fun i hi=>by
  have:=hk _ (List.getElem_mem hi)
  unfold Ch.key
  rw [List.getD_eq_getElem?_getD,List.getElem?_eq_getElem hi]; exact this
 have nh:L.has k=false:=by
  cases q:L.has k with
  | false=>rfl
  | true =>
   obtain ⟨p1,p2⟩:=(Ch.has_iff L k).1 q
   have:=kk _ p1
   rw [p2,ltB_irr] at this; cases this
 have pl:L.pos k=L.length:=by
  have le:=L.pos_le k
  by_cases z:L.pos k<L.length
  ·have a:=Ch.not_has nh z
   rw [ltB_asym (kk _ z)] at a; cases a
  ·omega
 refine ⟨Ch.of_no nh,?_⟩
 unfold Ch.put
 rw [if_neg (by rw [nh]; decide),pl,List.take_length,List.drop_length]
theorem load_asks {l:List En} {sq:Int} (hm:mayE l sq=true) (hf:FitsE l) (hs:sq<=1073741824) (hl:l.length<=3900) {i:Nat} (hi:i<l.length) :
  GoodL ((loadL (l.take i)).of (l.getD i En.Z).key++[(l.getD i En.Z).ver])∧rightL ((loadL (l.take i)).of (l.getD i En.Z).key++[(l.getD i En.Z).ver])=true∧(l.getD i En.Z).key.size<=1000∧(loadL (l.take i)).length<=i ∧
   (loadL (l.take i)).put (l.getD i En.Z).key (l.getD i En.Z).ver=loadL (l.take (i+1)):=by
 have o:=(OkL.load hm hf hs).1
 have g:=loadL_good hm hf (by omega)
 have r:Ch.Rise (loadL (l.take (i+1))):=by
  have e:loadL (l.take (i+1))=(loadL l).take (i+1):=by unfold loadL; rw [List.map_take]
  rw [e]
  exact List.Pairwise.sublist (List.take_sublist _ _) o.rise
 rw [loadL_succ l hi] at r ⊢
 obtain ⟨e1,e2⟩:=put_last r
 have mem:((l.getD i En.Z).key,[(l.getD i En.Z).ver]) ∈ loadL l:=by
  rw [List.getD_eq_getElem?_getD,List.getElem?_eq_getElem hi]
  exact List.mem_map.2 ⟨_,List.getElem_mem hi,rfl⟩
 rw [e1,e2]
 exact ⟨⟨g.fits _ mem,g.texts _ mem,g.lens _ mem⟩,o.right _ mem,g.keys _ mem,by rw [loadL_len,List.length_take]; omega,rfl⟩
theorem ringNew (s q:Int) (w:World):Calls Tryz.prog 75 #[.int .i64 s,.int .i64 q] w fun e w'=>Below w.heap.size w w' ∧
  ((Rg.fits s q=true∧∃ b F,e=.returned (.tuple #[PtrR b,.int .i64 0])∧theR w' b F (Rg.new s q)∧∀ k,F k->w.heap.size<=k) ∨
   (Rg.fits s q=false∧e=.returned (.tuple #[.pointer none,.int .i64 1]))) :=
 (xNew0 s q w).mono fun e w' ⟨hb,h⟩=>⟨hb,by
  rcases h with ⟨hf,b,he,hp,hs⟩ | h
  ·refine .inl ⟨hf,b,rfoot b (.slice none 0 0),he,⟨.slice none 0 0,rfl,?_,Rg.new_ok hf⟩,fun k e=>?_⟩
   ·have ek:(Rg.new s q).kept=[]:=by unfold Rg.kept Rg.new; simp
    rw [ek]
    exact hp
   ·rcases e with rfl | e
    ·exact hs
    ·cases e
  ·exact .inr h⟩
theorem SlEn.below' {w w':World} {A:Option Addr} {l:List En} (h:SlEn w A l) (hb:Below w.heap.size w w'):SlEn w' A l:=fun hp=>by
 obtain ⟨b,o,e,hl,hc⟩:=h hp
 exact ⟨b,o,e,Nat.lt_of_lt_of_le hl hb.size,fun j hj=>sw5 hb (hc j hj)⟩
theorem Own.lab {w1 w:World} {v:Value} {zs:List Int} (h:Own w w1.heap.size v zs):(oLab v zs).P w (fun k=>v.ownBlock=some k):=by
 obtain ⟨A,c,e,_,hs,hn,hg⟩:=h.form
 subst e
 refine ⟨⟨A,c,rfl,hs,fun hp=>?_⟩,fun k e=>(World.ownsRow.lt h k e).2⟩
 cases A with
 | none =>
  have:=(hn rfl).2
  subst this; cases hp
 | some a =>
  obtain ⟨g,rfl,_⟩:=hg a rfl
  exact ⟨g,0,rfl,rfl⟩
theorem xLoadR (A:Option Addr) (c:Nat) (zs:List Int) (g1 g2 g3 sq:Int) (l:List En) (A2:Option Addr) (c2:Nat) (w:World) (h:Sl w A zs) (hm:zs.length<=1000) (he:SlEn w A2 l) (hf:FitsE l) (hl:l.length<=3900) :
  Calls Tryz.prog 43 #[.agg #[.slice A zs.length c,.int .i64 g1,.int .i64 g2,.int .i64 g3],.int .i64 sq,.slice A2 l.length c2] w fun e w' =>
   ((ldE zs g1 g2 g3 sq l≠0∧Below w.heap.size w w'∧e=.returned (.tuple #[.pointer none,.int .i64 (ldE zs g1 g2 g3 sq l)])) ∨
    (ldE zs g1 g2 g3 sq l=0∧∃ (b:Nat) (s:Sh),e=.returned (.tuple #[PtrM b,.int .i64 0])∧Side w (fun k=>k<w.heap.size) w' (s.os b)∧s.At (loadL l) l.length∧s.zs=zs∧s.g1=g1∧s.g2=g2∧s.g3=g3∧s.r=Rg.new g1 sq)):=by
 obtain ⟨T,hT⟩:=nmq (ldE zs g1 g2 g3 sq l)
 obtain ⟨R,hR⟩:=nmq (stOk zs g1 g2 g3)
 obtain ⟨M,hM⟩:=nmq (mayE l sq)
 obtain ⟨V,hV⟩:=nmq ((loadL l).live)
 have eT:T=if (R && (decide (0<=sq) && decide (sq<=g3)))=false then 1 else if M=false then 1 else if g2<(V:Int) then 15 else 0:=by rw [hT,hR,hM,hV]; rfl
 have st1:R=true->1<=g1∧g1<=16∧g3<=1073741824:=fun q=>by
  rw [hR] at q
  unfold stOk at q
  simp only [Bool.and_eq_true,decide_eq_true_eq] at q
  exact ⟨q.2.1,q.2.2.1,q.2.2.2.2.2.2⟩
 have fit0:Rg.fits g1 sq=false->T=1:=fun q=>by
  rw [eT]
  cases r:R with
  | false=>rw [if_pos (by simp)]
  | true =>
   obtain ⟨a1,a2,a3⟩:=st1 r
   unfold Rg.fits at q
   rw [decide_eq_true a1,decide_eq_true a2] at q
   by_cases z1:0<=sq
   ·by_cases z2:sq<=g3
    ·rw [decide_eq_true z1,decide_eq_true (show sq<=1073741824 by omega)] at q; cases q
    ·rw [decide_eq_false z2]; simp
   ·rw [decide_eq_false z1]; simp
 have fit1:Rg.fits g1 sq=true->0<=sq∧sq<=1073741824:=fun q=>by
  unfold Rg.fits at q
  simp only [Bool.and_eq_true,decide_eq_true_eq] at q
  exact q.2.2
 have AK:=qh (fun (m:M=true) (s:sq<=1073741824) i (hi:i<l.length)=>load_asks (by rw [<-hM]; exact m) hf s hl hi)
 obtain ⟨w0,hw0⟩:=nmq (w.alloc (.cells #[.slice A zs.length c,.int .i64 g1,.int .i64 g2,.int .i64 g3] 24))
 have H0:=qh (show Side w (fun k=>k<w.heap.size) w0 [Ob.row w.heap.size [.slice A zs.length c,.int .i64 g1,.int .i64 g2,.int .i64 g3] 24] from by
  have:=(Side.nil w).rowNew [.slice A zs.length c,.int .i64 g1,.int .i64 g2,.int .i64 g3] 24
  rw [hw0]; exact this)
 have CN:=qh (ringNew g1 sq w0)
 have CR:=qh (fun W (hb:Below w.heap.size w W)=>xRightR A c zs g1 g2 g3 W (h.below hb) (Nat.le_trans hm (by decide)))
 have CM:=qh (fun W (hb:Below w.heap.size w W)=>xMayER l A2 c2 sq W (he.below' hb) hf (by omega))
 have CW:=qh (fun (m:M=true) W (hb:Below w.heap.size w W)=>xWeighR l A2 c2 sq W (he.below' hb) hf (by omega) (by rw [<-hM]; exact m))
 have CC:=qh (fun W (hb:Below w.heap.size w W)=>scloneA A c zs W (h.below hb) (by omega))
 have HZ:=qh (fun (lb:Value) (q:Nat)=>Sh.new_at lb g1 g2 g3 q (Rg.new g1 sq) zs)
 have BS:=qh (fun W os (hW:Side w (fun k=>k<w.heap.size) W os)=>show Below w.heap.size w W from hW.base (Nat.le_refl _) fun k e=>e)
 simp only [<-hR] at CR
 simp only [<-hM] at CM
 simp only [<-hV] at CW
 rw [<-hT]
 obtain ⟨m,hm2⟩:=nmq (zs.length)
 obtain ⟨n,hn⟩:=nmq (l.length)
 simp only [<-hm2] at hw0 H0 CR CC
 simp only [<-hn] at CM CW AK
 rw [<-hn,<-hm2]
 rw [<-hn] at hl
 have HN:=qh hn
 have HS:=qh he
 have ET:=qh eT
 have ST1:=qh st1
 have FT0:=qh fit0
 have FT1:=qh fit1
 have HW0:=qh hw0
 have HL:=qh hl
 clear h hm he hf hT hR hM hV hm2 hn eT st1 fit0 fit1 hw0 hl
 go_enter Tryz.func43,Tryz.ntmps43
 go_wp2_with fail
 rw [<-HW0.out]
 have c1:=(H0.out.rowAt (i:=0) rfl).cell 1
 simp only [geS] at c1
 go_wp2_with fail
 refine CN.out.mono ?_
 rintro e w1 ⟨hb1,⟨hfi,q,F,rfl,hr,hF⟩ | ⟨hfi,rfl⟩⟩
 case inr =>
  have B1:=qh (BS.out _ _ (H0.out.below hb1))
  have e:=FT0.out hfi
  subst e
  clear hb1 hfi c1
  go_wp2_with fail
  go_ret2
  exact .inl ⟨by decide,B1.out,rfl⟩
 have H1:=qh (H0.out.more hb1 (o:=oRing q (Rg.new g1 sq)) hr hF)
 have HFI:=qh (FT1.out hfi)
 clear hb1 hr hF hfi CN c1 FT0 FT1
 have c0:=(H1.out.rowAt (i:=0) rfl).cell 0
 have c1:=(H1.out.rowAt (i:=0) rfl).cell 1
 have c2':=(H1.out.rowAt (i:=0) rfl).cell 2
 have c3:=(H1.out.rowAt (i:=0) rfl).cell 3
 simp only [geS] at c0 c1 c2' c3
 have CR1:=qh (CR.out _ (BS.out _ _ H1.out))
 go_wp2_with fail
 refine CR1.out.mono ?_
 rintro e w2 ⟨rfl,hb2⟩
 have H2:=qh (H1.out.below hb2)
 have B2:=qh (BS.out _ _ H2.out)
 clear hb2 CR CR1 c0 c1 c2' c3
 have c0:=(H2.out.rowAt (i:=0) rfl).cell 0
 have c1:=(H2.out.rowAt (i:=0) rfl).cell 1
 have c2':=(H2.out.rowAt (i:=0) rfl).cell 2
 have c3:=(H2.out.rowAt (i:=0) rfl).cell 3
 simp only [geS] at c0 c1 c2' c3
 cases R with
 | false =>
  have e:=ET.out
  rw [if_pos (by simp)] at e
  subst e
  go_wp2_with fail
  go_ret2
  exact .inl ⟨by decide,B2.out,rfl⟩
 | true =>
 obtain ⟨s0,s1⟩:=HFI.out
 have p1':decide ((0:Int)<=sq)=true:=decide_eq_true s0
 by_cases p2:g3<sq
 ·have e:=ET.out
  rw [if_pos (by rw [decide_eq_false (show ¬ sq<=g3 by omega)]; simp)] at e
  subst e
  go_wp2_with fail
  go_ret2
  exact .inl ⟨by decide,B2.out,rfl⟩
 have ET2:=qh (show T=if M=false then 1 else if g2<(V:Int) then 15 else 0 from by have:=ET.out; rwa [if_neg (by rw [p1',decide_eq_true (show sq<=g3 by omega)]; simp)] at this)
 clear p1' ET
 have CM2:=qh (CM.out _ B2.out)
 clear CM
 go_wp2_with fail
 refine CM2.out.mono ?_
 rintro e w3 ⟨rfl,hb3⟩
 have H3:=qh (H2.out.below hb3)
 have B3:=qh (BS.out _ _ H3.out)
 clear hb3 CM2 c0 c1 c2' c3
 cases M with
 | false =>
  have e:=ET2.out
  rw [if_pos rfl] at e
  subst e
  go_wp2_with fail
  go_ret2
  exact .inl ⟨by decide,B3.out,rfl⟩
 | true =>
 have ET3:=qh (show T=if g2<(V:Int) then 15 else 0 from by have:=ET2.out; rwa [if_neg (by decide)] at this)
 clear ET2
 have c2':=(H3.out.rowAt (i:=0) rfl).cell 2
 simp only [geS] at c2'
 have CW3:=qh (CW.out rfl _ (B3.out.drew))
 clear CW
 have B3d:=qh (show Below w.heap.size w w3.drew from B3.out.drew)
 go_wp2_with fail
 refine wp_region_held_drew (S:=(fun w'=>w'.cell? ⟨w.heap.size,2,none⟩=some (.int .i64 g2))) (by kernel_rfl) (c2') (fun gH=>?_)
 refine rgT 0 (v:=?v1) ?y1 gH ?_
 case y1=>(intro v hSw; go_simp<;>rfl)
 refine rgT 2 (v:=?v2) ?y2 gH ?_
 case y2=>(intro v hSw; go_simp<;>rfl)
 refine rgT 3 (v:=?v3) ?y3 gH ?_
 case y3=>(intro v hSw; go_simp<;>rfl)
 try simp only [putS]
 refine rgO 1 fun K hK=>?_
 go_simp
 refine CW3.out.mono ?_
 rintro r W4 ⟨rfl,hb4⟩
 have H4:=qh ((H3.out.below (Below.refl _ _).drew).below hb4)
 clear hb4
 refine hK.out _ _ ((show W4.cell? ⟨w.heap.size,2,none⟩=some (.int .i64 g2) from (H4.out.rowAt (i:=0) rfl).cell 2)) (fun gH=>?_)
 clear hK K
 try simp only [putS]
 clear CW3
 by_cases z:g2<(V:Int)
 ·have e:=ET3.out
  rw [if_pos z] at e
  subst e
  have B4:=qh (BS.out _ _ H4.out)
  refine rgT 4 (v:=?v4) ?y4 gH ?_
  case y4=>(intro v hSw; go_simp<;>rfl)
  try simp only [putS]
  refine rgD ?_
  go_wp2_with fail
  go_ret2
  exact .inl ⟨by decide,B4.out,rfl⟩
 have e:=ET3.out
 rw [if_neg z] at e
 subst e
 refine rgT 4 (v:=?v5) ?y5 gH ?_
 case y5=>(intro v hSw; go_simp<;>rfl)
 try simp only [putS]
 refine rgD ?_
 have c0:=(H4.out.rowAt (i:=0) rfl).cell 0
 simp only [List.getElem?_cons_zero] at c0
 have CC4:=qh (CC.out _ (BS.out _ _ H4.out))
 clear CC c2' z
 go_wp2_with fail
 refine CC4.out.mono ?_
 rintro e w5 ⟨lb,rfl,hown,hb5⟩
 obtain ⟨A',c',elb,_⟩:=hown.form
 have ha:=hown.lab
 have hl2:=fun k e=>(World.ownsRow.lt hown k e).1
 obtain ⟨z,hz⟩:=nmq (zs.length)
 rw [<-hz] at elb
 subst elb
 have H5:=qh (H4.out.more hb5 (o:=oLab (.slice A' z c') zs) ha hl2)
 clear ha hl2 hz hown hb5 CC4 c0
 have f0:=(H5.out.rowAt (i:=0) rfl).frozen 0
 have H6:=qh (H5.out.rowSet (i:=0) rfl (cs':=[.slice A' z c',.int .i64 g1,.int .i64 g2,.int .i64 g3]) (w':=w5.setCell ⟨w.heap.size,0,none⟩ (.slice A' z c')) ((Chg.refl (fun k=>k=w.heap.size) w5).setCell (.inl rfl) _) ((H5.out.rowAt (i:=0) rfl).set 0 (.slice A' z c')))
 have c0:=(H5.out.rowAt (i:=0) rfl).cell 0
 have c1:=(H5.out.rowAt (i:=0) rfl).cell 1
 have c2':=(H5.out.rowAt (i:=0) rfl).cell 2
 have c3:=(H5.out.rowAt (i:=0) rfl).cell 3
 simp only [geS] at c0 c1 c2' c3
 have H7:=newSh g1 g2 g3 H6.out
 obtain ⟨b,hb⟩:=nmq (w5.heap.size)
 rw [World.size_setCell,<-hb] at H7
 have HB:=qh hb
 obtain ⟨w7,hw7⟩:=nmq ((w5.setCell ⟨w.heap.size,0,none⟩ (.slice A' z c')).alloc (.cells #[.slice A' z c',.int .i64 g1,.int .i64 g2,.int .i64 g3,.pointer (some ⟨q,0,none⟩),.slice none 0 0,.slice none 0 0,.slice none 0 0,.int .i64 0,.int .i64 0,.int .i64 0] 116))
 have HW7:=qh hw7
 have H7:=qh (show Side w (fun k=>k<w.heap.size) w7 ((Sh.new (.slice A' z c') g1 g2 g3 q (Rg.new g1 sq) zs).os b) from by rw [hw7]; exact H7)
 have A7:=qh (HZ.out (.slice A' z c') q)
 obtain ⟨S0,hS0⟩:=nmq (Sh.new (.slice A' z c') g1 g2 g3 q (Rg.new g1 sq) zs)
 have D7:=qh (show S0.zs=zs∧S0.g1=g1∧S0.g2=g2∧S0.g3=g3∧S0.r=Rg.new g1 sq from by rw [hS0]; exact ⟨rfl,rfl,rfl,rfl,rfl⟩)
 rw [<-hS0] at H7 A7
 clear hb hw7 hS0 H0 H1 H2 H3 H4 HZ HW0 ET3 ST1
 go_wp2_with fail
 rw [<-HW7.out,<-HB.out]
 have AK':=qh (AK.out (by simp) HFI.out.2)
 have N3:=HL.out
 clear HW7 HB AK HFI c0 c1 c2' c3 f0 H5 H6
 go_loopw [54] (fun vi wr=>∃ (i:Nat) (si:Sh),i<=n∧vi=.int .i64 i∧Hid (Side w (fun k=>k<w.heap.size) wr (si.os b))∧Hid (Sh.Hd S0 si)∧Hid (si.At (loadL (l.take i)) i)) (fun vi _=>n-(intOf vi).toNat)
 case atStart=>exact ⟨0,S0,Nat.zero_le _,rfl,H7,qh ⟨rfl,rfl,rfl,rfl,rfl,rfl,rfl⟩,A7⟩
 case round =>
  obtain ⟨i,si,hi,rfl,HI,HD,HAi⟩:=hrel
  by_cases z:i<n
  ·obtain ⟨bb,o,ea,hbl,d⟩:=HS.out.at (j:=i) (by rw [<-HN.out]; exact z)
   obtain ⟨c0,c1,c2,c3,c4⟩:=sw5 (BS.out _ _ HI.out) d
   obtain ⟨k1,k2,k3,k4,k5⟩:=AK'.out i z
   obtain ⟨y0,hy0⟩:=nmq (l.getD i En.Z)
   rw [<-hy0] at c0 c1 c2 c3 c4 k1 k2 k3 k5
   have KA:=qh (fun W (hW:Side w (fun k=>k<w.heap.size) W (si.os b))=>(xAddR (k:=y0.key) y0.ver hW HAi.out (by omega) (by omega) k1 k2 k3).mono (R':=fun e w'=>e=.returned (.tuple #[])∧∃ s',Side w (fun k=>k<w.heap.size) w' (s'.os b)∧Sh.Hd S0 s'∧s'.At (loadL (l.take (i+1))) (i+1)) fun e w' ⟨q1,s',q2,q3,q4⟩=>⟨q1,s',q2,HD.out.trans q3,by rw [<-k5]; exact q4⟩)
   obtain ⟨k,s,v⟩:=y0
   obtain ⟨nm,t,bt⟩:=v
   have KA:Hid (∀ W,Side w (fun k=>k<w.heap.size) W (si.os b)->Calls Tryz.prog 50 #[PtrS b,.string k,.agg #[.int .i64 s,.bool false,.bool nm,.string t,.int .u64 (bt:Int)]] W fun e w'=>e=.returned (.tuple #[])∧∃ s',Side w (fun k=>k<w.heap.size) w' (s'.os b)∧Sh.Hd S0 s'∧s'.At (loadL (l.take (i+1))) (i+1)):=KA
   subst ea
   have i0:(0:Int)<=(i:Int):=by omega
   have i1:(i:Int)<(n:Int):=by omega
   have c0:wr.cell? ⟨bb,o+i * 5,none⟩=some (.string k):=c0
   have c1:wr.cell? ⟨bb,o+i * 5+1,none⟩=some (.int .i64 s):=c1
   have c2:wr.cell? ⟨bb,o+i * 5+2,none⟩=some (.bool nm):=c2
   have c3:wr.cell? ⟨bb,o+i * 5+3,none⟩=some (.string t):=c3
   have c4:wr.cell? ⟨bb,o+i * 5+4,none⟩=some (.int .u64 (bt:Int)):=c4
   obtain ⟨X,hX⟩:=nmq (wr.heap.size)
   obtain ⟨r1,hr1⟩:=nmq (wr.alloc (.cells #[.string k,.int .i64 s,.bool nm,.string t,.int .u64 (bt:Int)] 134))
   have R1:=qh (show RowAt r1 X [.string k,.int .i64 s,.bool nm,.string t,.int .u64 (bt:Int)] 134 from by rw [hr1,hX]; exact RowAt.new wr _ _)
   have S1:=qh (show Side w (fun k=>k<w.heap.size) r1.drew (si.os b) from by rw [hr1]; exact (HI.out.below ((Below.refl _ _).alloc (Nat.le_refl _) _)).below (Below.refl _ _).drew)
   have HR1:=qh hr1
   have HX:=qh hX
   have KA1:=qh (KA.out _ S1.out)
   clear hy0 hbl k1 k2 k3 k4 k5 hr1 hX KA d
   go_wp2_with fail
   rw [<-HR1.out,<-HX.out]
   clear c0 c1 c2 c3 c4
   obtain ⟨c0,c1,c2,c3,c4⟩:=row5 (w:=r1.drew) R1.out
   go_still_tail 10,(by kernel_rfl)
   change wpList _ _ _ _ _ r1.drew
   go_wp2_with fail
   refine KA1.out.mono ?_
   rintro e w5 ⟨rfl,s5,h5,d5,a5⟩
   have H5:=qh h5
   have D5:=qh d5
   have A5:=qh a5
   clear h5 d5 a5 c0 c1 c2 c3 c4
   go_wp2_with fail
   go_roundw
   case rel=>exact ⟨i+1,s5,by omega,by go_num,H5,D5,A5⟩
   case measure=>simp [intOf]; omega
  ·obtain rfl:i=n:=by omega
   have a5:=HAi.out
   rw [show l.take i=l from by rw [HN.out,List.take_length]] at a5
   have D:=D7.out
   have E:=HD.out
   have FIN:=qh (show ∃ (s:Sh),Side w (fun k=>k<w.heap.size) wr (s.os b)∧s.At (loadL l) i∧s.zs=zs∧s.g1=g1∧s.g2=g2∧s.g3=g3∧s.r=Rg.new g1 sq from
    ⟨si,HI.out,a5,E.2.2.2.2.2.2.trans D.1,E.2.1.trans D.2.1,E.2.2.1.trans D.2.2.1,E.2.2.2.1.trans D.2.2.2.1,E.2.2.2.2.2.1.trans D.2.2.2.2⟩)
   clear a5 D E
   go_wp2_with fail
   go_ret2
   obtain ⟨s,f1,f2⟩:=FIN.out
   first | exact ⟨b,rfl,s,f1,f2⟩ | exact ⟨b,s,rfl,f1,f2⟩
end Go.Proofs.YtomjlopcifafpaaGreat
