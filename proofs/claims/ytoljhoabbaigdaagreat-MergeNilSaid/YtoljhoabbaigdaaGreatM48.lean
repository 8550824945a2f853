/- Proved parts: B5t B5ta B5tb B5tc B5td. Conditions: each theorem's own. -/
import Derived.Test.YtoljhoabbaigdaaGreatM46
import Derived.Test.YtoljhoabbaigdaaGreatM47
import Derived.Test.YtoljhoabbaigdaaGreatM36
import Derived.Test.YtoljhoabbaigdaaGreatM45
import Derived.Test.YtoljhoabbaigdaaGreatM26
import Derived.Test.YtoljhoabbaigdaaGreatQ2
set_option maxRecDepth 100000
set_option maxHeartbeats 8000000
namespace Go.Proofs.YtoljhoabbaigdaaGreat
open Go.RowKit

theorem Ch.pos_is {L:Ch} {k:ByteArray} {m:Nat} (hm:m<=L.length) (h1:∀ j,j<m->ltB (L.key j) k=true) (h2:m<L.length->ltB (L.key m) k=false):L.pos k=m:=by
 have le:=L.pos_le k
 rcases Nat.lt_trichotomy (L.pos k) m with q | q | q
 ·have a:=Ch.stop (L:=L) (k:=k) (by omega)
  rw [h1 _ q] at a; cases a
 ·exact q
 ·have a:=Ch.below q
  rw [h2 (by omega)] at a; cases a
theorem Ch.rise_lt {L:Ch} (h:L.Rise) {i j:Nat} (hij:i<j) (hj:j<L.length):ltB (L.key i) (L.key j)=true:=by
 have:=List.pairwise_iff_getElem.1 h i j (by omega) hj hij
 unfold Ch.key
 rw [List.getD_eq_getElem?_getD,List.getD_eq_getElem?_getD,List.getElem?_eq_getElem (show i<L.length by omega),List.getElem?_eq_getElem hj]
 exact this
theorem Ch.key_mem {L:Ch} {i:Nat} (hi:i<L.length):(L.key i,L.chn i) ∈ L:=by
 have:(L.key i,L.chn i)=L[i]:=by
  unfold Ch.key Ch.chn
  rw [List.getD_eq_getElem?_getD,List.getElem?_eq_getElem hi]; rfl
 rw [this]
 exact List.getElem_mem hi
theorem Ch.key_front {front L0:Ch} {i:Nat} (_:i<L0.length):(front++L0.drop i).length=front.length+(L0.length-i)∧Ch.key (front++L0.drop i) front.length=L0.key i∧Ch.chn (front++L0.drop i) front.length=L0.chn i:=by
 have e:(front++L0.drop i)[front.length]?=L0[i]?:=by
  rw [List.getElem?_append_right (Nat.le_refl _),Nat.sub_self,List.getElem?_drop,Nat.add_zero]
 refine ⟨by rw [List.length_append,List.length_drop],?_,?_⟩
 ·unfold Ch.key
  rw [List.getD_eq_getElem?_getD,List.getD_eq_getElem?_getD,e]
 ·unfold Ch.chn
  rw [List.getD_eq_getElem?_getD,List.getD_eq_getElem?_getD,e]
theorem Ch.front_key {front L:Ch} {j:Nat} (hj:j<front.length):∃ x,x ∈ front∧Ch.key (front++L) j=x.1:=by
 refine ⟨front[j],List.getElem_mem hj,?_⟩
 unfold Ch.key
 rw [List.getD_eq_getElem?_getD,List.getElem?_append_left hj,List.getElem?_eq_getElem hj]; rfl

def View (b:Nat) (L0:Ch) (i:Nat) (V:World):Prop :=
 ∃ (wz:World) (N:Nat->Prop) (s:Sh) (L:Ch) (P:Nat) (os2:List Ob) (front:Ch),Side wz N V (s.os b++os2)∧s.AtF L P∧L=front++L0.drop i∧∀ x,x ∈ front->∃ y,y ∈ L0.take i∧y.1=x.1
def Fix (b:Nat) (L0:Ch) (i:Nat) (K:ByteArray) (p:Nat) (V:World):Prop :=
 ∃ (wz:World) (N:Nat->Prop) (s:Sh) (os2:List Ob),Side wz N V (s.os b++os2)∧(i<L0.length->K=L0.key i∧p<s.cs.length∧s.cs.getD p []=L0.chn i)
theorem View.below {b:Nat} {L0:Ch} {i:Nat} {V V':World} (h:View b L0 i V) (hb:Below V.heap.size V V'):View b L0 i V':=by
 obtain ⟨wz,N,s,L,P,os2,front,h1,h2⟩:=h
 exact ⟨wz,N,s,L,P,os2,front,h1.below hb,h2⟩
section
variable {wz V:World} {N:Nat->Prop} {b i P:Nat} {s:Sh} {os2:List Ob} {L L0 front:Ch}
theorem next_of (a:s.AtF L P) (e:L=front++L0.drop i):decide (front.length<s.l.length)=decide (i<L0.length) ∧
  ∃ p:Nat,s.l.atN front.length=(p:Int)∧(i<L0.length->s.l.atK front.length=L0.key i∧p<s.cs.length∧s.cs.getD p []=L0.chn i):=by
 have ll:s.l.length=L.length:=a.fine.llen
 have le:L.length=front.length+(L0.length-i):=by rw [e,List.length_append,List.length_drop]
 by_cases hi:i<L0.length
 ·have hm:front.length<L.length:=by omega
  obtain ⟨_,k2,k3⟩:=Ch.key_front (front:=front) hi
  rw [<-e] at k2 k3
  have hl:front.length<s.l.length:=by omega
  have kk:s.l.key front.length=L0.key i:=by rw [a.fine.key hm,k2]
  have mem:(s.l.key front.length,s.l.num front.length) ∈ s.l:=by rw [<-KV.getE _ _ hl]; exact List.getElem_mem hl
  obtain ⟨n,e1,e2,e3,_⟩:=a.fine.at_ _ _ mem
  have m2:=Ch.key_mem hm
  rw [k2,k3] at m2
  rw [kk] at e3
  have u1:=Ch.of_mem a.fine.rise m2
  have u2:=Ch.of_mem a.fine.rise e3
  refine ⟨by rw [decide_eq_true hl,decide_eq_true hi],n,by unfold KV.atN; rw [if_pos hl]; exact e1,fun _=>⟨by unfold KV.atK; rw [if_pos hl]; exact kk,e2,by rw [<-u2,u1]⟩⟩
 ·have hl:¬ front.length<s.l.length:=by omega
  exact ⟨by rw [decide_eq_false hl,decide_eq_false hi],0,by unfold KV.atN; rw [if_neg hl]; rfl,fun q=>absurd q hi⟩
theorem stepS (h:View b L0 i V) (k:ByteArray) (h1:∀ y,y ∈ L0.take i->ltB y.1 k=true) (h2:i<L0.length->ltB (L0.key i) k=false) :
  Calls Tryz.prog 153 #[PtrS b,.func (.func 139) #[] #[],.string k] V fun e V'=>∃ (K:ByteArray) (p:Nat),e=.returned (.tuple #[.string K,.int .i64 (p:Int),.bool (decide (i<L0.length))])∧Below V.heap.size V V'∧Fix b L0 i K p V':=by
 obtain ⟨wz,N,s,L,P,os2,front,h0,a,e,hf⟩:=h
 obtain ⟨q1,p,q2,q3⟩:=next_of a e
 have hp:s.l.pos k=front.length:=by
  rw [a.fine.pos]
  refine Ch.pos_is (by rw [e,List.length_append]; omega) (fun j hj=>?_) fun hm=>?_
  ·obtain ⟨x,hx,ex⟩:=Ch.front_key (L:=L0.drop i) hj
   obtain ⟨y,hy,ey⟩:=hf x hx
   rw [e,ex,<-ey]; exact h1 y hy
  ·have hi:i<L0.length:=by rw [e,List.length_append,List.length_drop] at hm; omega
   rw [e,(Ch.key_front hi).2.1]; exact h2 hi
 have c:=xLeastS h0 a k
 rw [hp,q1,q2] at c
 exact c.mono fun e w' ⟨c1,c2⟩=>⟨_,p,c1,c2,wz,N,s,os2,h0.below c2,q3⟩
theorem stepA (h:View b L0 i V) (k:ByteArray) (h1:∀ y,y ∈ L0.take i->ltB k y.1=false) (h2:i<L0.length->ltB k (L0.key i)=true) :
  Calls Tryz.prog 153 #[PtrS b,.func (.func 140) #[] #[],.string k] V fun e V'=>∃ (K:ByteArray) (p:Nat),e=.returned (.tuple #[.string K,.int .i64 (p:Int),.bool (decide (i<L0.length))])∧Below V.heap.size V V'∧Fix b L0 i K p V':=by
 obtain ⟨wz,N,s,L,P,os2,front,h0,a,e,hf⟩:=h
 obtain ⟨q1,p,q2,q3⟩:=next_of a e
 have fle:front.length<=L.length:=by rw [e,List.length_append]; omega
 have k1:∀ j,j<front.length->ltB k (L.key j)=false:=fun j hj=>by
  obtain ⟨x,hx,ex⟩:=Ch.front_key (L:=L0.drop i) hj
  obtain ⟨y,hy,ey⟩:=hf x hx
  rw [e,ex,<-ey]; exact h1 y hy
 have k2:front.length<L.length->ltB k (L.key front.length)=true:=fun hm=>by
  have hi:i<L0.length:=by rw [e,List.length_append,List.length_drop] at hm; omega
  rw [e,(Ch.key_front hi).2.1]; exact h2 hi
 have hp:s.l.aft k=front.length:=by
  have ea:s.l.aft k=if L.has k then L.pos k+1 else L.pos k:=by unfold KV.aft; rw [a.fine.has,a.fine.pos]
  have pl:=L.pos_le k
  rw [ea]
  cases hh:L.has k with
  | true =>
   obtain ⟨p1,p2⟩:=(Ch.has_iff L k).1 hh
   rw [if_pos rfl]
   rcases Nat.lt_trichotomy (L.pos k+1) front.length with z | z | z
   ·-- a key in front above k
    have r:=Ch.rise_lt a.fine.rise (i:=L.pos k) (j:=L.pos k+1) (by omega) (by omega)
    rw [p2,k1 _ z] at r; cases r
   ·exact z
   ·have z':front.length<=L.pos k:=by omega
    rcases Nat.lt_or_ge front.length (L.pos k) with y | y
    ·have a1:=Ch.below y
     have a2:=k2 (by omega)
     rw [ltB_asym a2] at a1; cases a1
    ·have a2:=k2 (by omega)
     rw [show front.length=L.pos k by omega,p2,ltB_irr] at a2; cases a2
  | false =>
   rw [if_neg (by decide)]
   refine Ch.pos_is fle (fun j hj=>?_) fun hm=>ltB_asym (k2 hm)
   have a1:=k1 j hj
   cases z:ltB (L.key j) k with
   | true=>rfl
   | false =>
    exfalso
    have ek:=ltB_total z a1
    have:=(Ch.has_iff L k).2 ⟨by rw [<-ek,Ch.pos_of a.fine.rise (by omega)]; omega,by rw [<-ek,Ch.pos_of a.fine.rise (by omega)]⟩
    rw [hh] at this; cases this
 have c:=xLeastA h0 a k
 rw [hp,q1,q2] at c
 exact c.mono fun e w' ⟨c1,c2⟩=>⟨_,p,c1,c2,wz,N,s,os2,h0.below c2,q3⟩
end

end Go.Proofs.YtoljhoabbaigdaaGreat

namespace Go.Proofs.YtoljhoabbaigdaaGreat
open Go.RowKit Go.Shelf

abbrev WItm:=ByteArray × Value
def encW (x:WItm):Array Value:=#[.string x.1,x.2]
def OkW (L0:Ch) (j0:Nat) (pre:List WItm) (x:WItm) (V:World):Prop :=
 j0+pre.length<L0.length∧x.1=L0.key (j0+pre.length)∧∃ A c,x.2=.slice A (L0.chn (j0+pre.length)).length c∧(L0.chn (j0+pre.length)).length<=c∧SlV V A (L0.chn (j0+pre.length))
def EndW (L0:Ch) (j0:Nat) (xs:List WItm):Prop:=j0+xs.length=L0.length
def strAt:Value->ByteArray
 | .string k=>k
 | _=>⟨#[]⟩
def isOn:Value->Bool
 | .bool t=>t
 | _=>false
theorem Fix.cells {b i p:Nat} {L0:Ch} {K:ByteArray} {V:World} (h:Fix b L0 i K p V) (hi:i<L0.length):K=L0.key i∧∃ g m c A c2,p<m∧m<=c∧V.cell? ⟨b,6,none⟩=some (.slice (some ⟨g,0,none⟩) m c)∧V.cell? ⟨g,p,none⟩=some (.slice A (L0.chn i).length c2)∧(L0.chn i).length<=c2∧SlV V A (L0.chn i):=by
 obtain ⟨wz,N,s,os2,h0,q⟩:=h
 obtain ⟨e1,hp,e2⟩:=q hi
 obtain ⟨g,c,A,c2,e3,e4,_,e5,e6⟩:=Sh.cview h0 hp
 have c6:=(Sh.rowAt h0).cell 6
 simp only [Sh.row,List.getElem?_cons_succ,List.getElem?_cons_zero] at c6
 rw [e2] at e4 e5 e6
 rw [e3] at c6
 refine ⟨e1,g,s.cs.length,c,A,c2,hp,?_,c6,e4,e5,e6⟩
 have hv:=h0.vecAt (i:=3) (t:=145) (v:=s.cv) (xs:=s.vs) rfl
 obtain ⟨F,hP⟩:=h0.get (i:=5) (o:=oDat s.vs s.cs) rfl
 rcases vec_form hv with ⟨e7,_⟩ | ⟨g',c',e7,hc,_⟩
 ·rw [e3] at e7; cases e7
 ·rw [e3] at e7
  injection e7 with _ _ e8
  rw [e8,<-hP.len]; exact hc

theorem stepN {b i:Nat} {L0:Ch} {K:ByteArray} {V:World} (hr:L0.Rise) (hi:i<L0.length) (eK:K=L0.key i) (h:View b L0 (i+1) V) :
  Calls Tryz.prog 153 #[PtrS b,.func (.func 140) #[] #[],.string K] V fun e V'=>∃ (K:ByteArray) (p:Nat),e=.returned (.tuple #[.string K,.int .i64 (p:Int),.bool (decide (i+1<L0.length))])∧Below V.heap.size V V'∧Fix b L0 (i+1) K p V':=by
 subst eK
 refine stepA h _ (fun y hy=>?_) fun q=>Ch.rise_lt hr (Nat.lt_succ_self i) q
 obtain ⟨j,hj,rfl⟩:=List.mem_iff_getElem.1 hy
 rw [List.length_take] at hj
 have e:(L0.take (i+1))[j].1=L0.key j:=by
  rw [List.getElem_take]
  unfold Ch.key
  rw [List.getD_eq_getElem?_getD,List.getElem?_eq_getElem (by omega)]; rfl
 rw [e]
 rcases Nat.lt_or_ge j i with z | z
 ·exact ltB_asym (Ch.rise_lt hr z hi)
 ·rw [show j=i by omega]; exact ltB_irr _

attribute [local go_sem] Oper.semAt_some
theorem xWalkB {n b q0 q1 q2 j0:Nat} {fv:Value} {k:ByteArray} {L0:Ch} {w0:World} (I:List WItm->World->Prop) (hr:L0.Rise) (hj:j0<=L0.length)
  (hI:∀ pre V,I pre V->View b L0 (j0+pre.length) V∧V.cell? ⟨q0,0,none⟩=some (PtrS b))
  (hS:∀ W,View b L0 j0 W->Calls Tryz.prog 153 #[PtrS b,fv,.string k] W fun e V'=>∃ (K:ByteArray) (p:Nat),e=.returned (.tuple #[.string K,.int .i64 (p:Int),.bool (decide (j0<L0.length))])∧Below W.heap.size W V'∧Fix b L0 j0 K p V')
  (l1:q1<w0.heap.size) (l2:q2<w0.heap.size) (c1:w0.cell? ⟨q1,0,none⟩=some fv) (c2:w0.cell? ⟨q2,0,none⟩=some (.string k)) :
  GivesB Fence.wide n Tryz.prog 152 #[.pointer (some ⟨q0,0,none⟩),.pointer (some ⟨q1,0,none⟩),.pointer (some ⟨q2,0,none⟩)] encW I (OkW L0 j0) (EndW L0 j0) w0:=by
 intro l J Jx W hb hJ hJx hJI hY h0
 have c0:=(hI _ _ (hJI _ _ h0)).2
 have c1:=(hb.cell (p:=⟨q1,0,none⟩) l1).trans c1
 have c2:=(hb.cell (p:=⟨q2,0,none⟩) l2).trans c2
 have SB:=qh (hS W (by have:=(hI _ _ (hJI _ _ h0)).1; simpa using this))
 have JB:=qh hJ
 have XB:=qh hJx
 have HI:=qh (fun pre V (h:J pre V)=>hI _ _ (hJI _ _ h))
 have HY:=qh hY
 have H0:=qh h0
 have HR:=qh hr
 have HJ0:=qh hj
 clear hI hS hb hJ hJx hJI hY h0 hr hj l1 l2
 refine callsIn_of_wp Tryz.func152 rfl trivial ?_ rfl
 simp only [Tryz.ntmps152,List.size_toArray,List.length_cons,List.length_nil,Nat.reduceAdd,Nat.reduceSub,Array.replicate_succ,Array.replicate_zero,List.push_toArray,List.append_toArray,List.nil_append,List.cons_append]
 gi_wp2_with (refine ⟨trivial,(fun h=>by cases h),?_⟩; gi_at_call 153; refine (callsIn_wide.2 SB.out).mono ?_; rintro e w1 ⟨K,p,rfl,hb1,hF⟩; have HB1:=qh hb1; have HF:=qh hF; clear hb1 hF)
 gi_loopw [5,6,7] (fun vk vp vt wr=>∃ (pre:List WItm) (K:ByteArray) (p:Nat),vk=.string K∧vp=.int .i64 (p:Int)∧vt=.bool (decide (j0+pre.length<L0.length))∧j0+pre.length<=L0.length∧Hid (J pre wr)∧Hid (Fix b L0 (j0+pre.length) K p wr))
  (fun vk _ vt _=>if isOn vt then L0.length-L0.pos (strAt vk) else 0)
 case atStart=>exact ⟨[],K,p,rfl,rfl,rfl,HJ0.out,qh (JB.out _ _ _ H0.out HB1.out),HF⟩
 case round =>
  obtain ⟨pre,K,p,rfl,rfl,rfl,hle,HJi,HFi⟩:=hrel
  have c0:=(HI.out _ _ HJi.out).2
  cases d:decide (j0+pre.length<L0.length) with
  | false =>
   have e:j0+pre.length=L0.length:=by have:=of_decide_eq_false d; omega
   have E:=qh (show EndW L0 j0 pre from e)
   clear d e HB1 HF SB H0 HY
   gi_wp2_with (refine ⟨(fun _ h=>by cases h),?_⟩)
   go_end0
   exact ⟨⟨_,rfl⟩,.inl ⟨pre,E.out,HJi.out⟩⟩
  | true =>
   have hi:=of_decide_eq_true d
   obtain ⟨eK,g,m,c,A,c9,pm,mc,k6,kp,kc,ks⟩:=HFi.out.cells hi
   obtain ⟨z,hz⟩:=nmq ((L0.chn (j0+pre.length)).length)
   rw [<-hz] at kp
   have ok:OkW L0 j0 pre (K,.slice A z c9) wr:=⟨hi,eK,A,c9,by rw [hz],kc,ks⟩
   obtain ⟨fn,tmps,assign,body,hy,hR⟩:=HY.out pre (K,.slice A z c9) wr HJi.out ok
   have hR:=round_anyDepth (m':=n-1) rfl hR
   have hy:(Instr.yield l #[.string K,.slice A z c9]).run Tryz.prog wr=.ok (.round l fn tmps assign body) wr:=hy
   have HRD:=qh hR
   have HIi:=qh (show j0+pre.length<L0.length from hi)
   have EK:=qh eK
   have p0:(0:Int)<=(p:Int):=by omega
   have p1:(p:Int)<(m:Int):=by omega
   clear hR ok kc ks hz d HB1 HF SB H0 hi eK
   have ln:j0+(pre++[(K,Value.slice A z c9)]).length=j0+pre.length+1:=by rw [List.length_append]; rfl
   have ST:=qh (fun V (h:J (pre++[(K,.slice A z c9)]) V)=>stepN HR.out HIi.out EK.out (by have:=(HI.out _ _ h).1; rw [ln] at this; exact this))
   have LN:=qh ln
   clear ln
   gi_wp2_with (first
    | (refine ⟨(fun h=>by cases h),?_⟩; refine HRD.out.mono ?_; rintro e W3 (⟨rfl,hJ3⟩ | ⟨rfl,hJx3⟩)<;>first | (have c3:=(HI.out _ _ hJ3).2; have HJ3:=qh hJ3; clear hJ3) | (have HX3:=qh hJx3; clear hJx3))
    | (refine ⟨trivial,(fun h=>by cases h),?_⟩; gi_at_call 153; refine (callsIn_wide.2 (ST.out _ HJ3.out)).mono ?_; rintro e w4 ⟨K4,p4,rfl,hb4,hF4⟩; have HB4:=qh hb4; have HF4:=qh hF4; clear hb4 hF4))
   ·refine ⟨⟨pre++[(K,.slice A z c9)],K4,p4,rfl,rfl,by rw [LN.out],by rw [LN.out]; exact HIi.out,qh (JB.out _ _ _ HJ3.out HB4.out),by rw [LN.out]; exact HF4⟩,?_⟩
    have hi:=HIi.out
    have e1:L0.pos K=j0+pre.length:=by rw [EK.out]; exact Ch.pos_of HR.out hi
    show (if decide (j0+pre.length+1<L0.length)=true then L0.length-L0.pos K4 else 0)<(if true=true then L0.length-L0.pos K else 0)
    rw [if_pos rfl,e1]
    split
    ·rename_i q
     have q:=of_decide_eq_true q
     obtain ⟨_,_,_,_,f1,f2⟩:=HF4.out
     rw [(f2 q).1,Ch.pos_of HR.out q]; omega
    ·omega
   ·go_end0
    exact ⟨⟨_,rfl⟩,.inr ⟨_,HX3.out⟩⟩

theorem xWalkG {n b q0 q1 q2 j0:Nat} {fv:Value} {k:ByteArray} {L0:Ch} {w0:World} (I:List WItm->World->Prop) (hr:L0.Rise) (hj:j0<=L0.length)
  (hI:∀ pre V,I pre V->View b L0 (j0+pre.length) V∧V.cell? ⟨q0,0,none⟩=some (PtrS b))
  (hS:∀ W,View b L0 j0 W->Calls Tryz.prog 153 #[PtrS b,fv,.string k] W fun e V'=>∃ (K:ByteArray) (p:Nat),e=.returned (.tuple #[.string K,.int .i64 (p:Int),.bool (decide (j0<L0.length))])∧Below W.heap.size W V'∧Fix b L0 j0 K p V')
  (l1:q1<w0.heap.size) (l2:q2<w0.heap.size) (c1:w0.cell? ⟨q1,0,none⟩=some fv) (c2:w0.cell? ⟨q2,0,none⟩=some (.string k)) :
  Gives Fence.wide n Tryz.prog 152 #[.pointer (some ⟨q0,0,none⟩),.pointer (some ⟨q1,0,none⟩),.pointer (some ⟨q2,0,none⟩)] encW I (OkW L0 j0) (EndW L0 j0) w0 :=
 (xWalkB I hr hj hI hS l1 l2 c1 c2).gives

end Go.Proofs.YtoljhoabbaigdaaGreat

namespace Go.Proofs.YtoljhoabbaigdaaGreat
open Go.RowKit Go.Shelf

theorem xWalkRS (b:Nat) (k:ByteArray) (w:World):Calls Tryz.prog 138 #[PtrS b,.func (.func 139) #[] #[],.string k] w fun e w'=>e=.returned (.func (.func 152) #[] #[.pointer (some ⟨w.heap.size,0,none⟩),.pointer (some ⟨w.heap.size+1,0,none⟩),.pointer (some ⟨w.heap.size+2,0,none⟩)]) ∧
  w'=((w.alloc (.cells #[PtrS b] 164)).alloc (.cells #[.func (.func 139) #[] #[]] 242)).alloc (.cells #[.string k] 9):=by
 go_enter Tryz.func138,Tryz.ntmps138
 go_wp2_with fail
 go_ret
 exact ⟨rfl,rfl⟩
theorem xFromR (b:Nat) (k:ByteArray) (w:World):Calls Tryz.prog 122 #[PtrS b,.string k] w fun e w'=>e=.returned (.func (.func 152) #[] #[.pointer (some ⟨w.heap.size,0,none⟩),.pointer (some ⟨w.heap.size+1,0,none⟩),.pointer (some ⟨w.heap.size+2,0,none⟩)]) ∧
  w'=((w.alloc (.cells #[PtrS b] 164)).alloc (.cells #[.func (.func 139) #[] #[]] 242)).alloc (.cells #[.string k] 9):=by
 have C:=qh (xWalkRS b k w)
 go_enter Tryz.func122,Tryz.ntmps122
 go_wp2_with fail
 refine C.out.mono ?_
 rintro e w1 ⟨rfl,rfl⟩
 clear C
 go_wp2_with fail
 go_ret
 exact ⟨rfl,rfl⟩
theorem xWalkRA (b:Nat) (k:ByteArray) (w:World):Calls Tryz.prog 138 #[PtrS b,.func (.func 140) #[] #[],.string k] w fun e w'=>e=.returned (.func (.func 152) #[] #[.pointer (some ⟨w.heap.size,0,none⟩),.pointer (some ⟨w.heap.size+1,0,none⟩),.pointer (some ⟨w.heap.size+2,0,none⟩)]) ∧
  w'=((w.alloc (.cells #[PtrS b] 164)).alloc (.cells #[.func (.func 140) #[] #[]] 242)).alloc (.cells #[.string k] 9):=by
 go_enter Tryz.func138,Tryz.ntmps138
 go_wp2_with fail
 go_ret
 exact ⟨rfl,rfl⟩
theorem xAboveR (b:Nat) (k:ByteArray) (w:World):Calls Tryz.prog 123 #[PtrS b,.string k] w fun e w'=>e=.returned (.func (.func 152) #[] #[.pointer (some ⟨w.heap.size,0,none⟩),.pointer (some ⟨w.heap.size+1,0,none⟩),.pointer (some ⟨w.heap.size+2,0,none⟩)]) ∧
  w'=((w.alloc (.cells #[PtrS b] 164)).alloc (.cells #[.func (.func 140) #[] #[]] 242)).alloc (.cells #[.string k] 9):=by
 have C:=qh (xWalkRA b k w)
 go_enter Tryz.func123,Tryz.ntmps123
 go_wp2_with fail
 refine C.out.mono ?_
 rintro e w1 ⟨rfl,rfl⟩
 clear C
 go_wp2_with fail
 go_ret
 exact ⟨rfl,rfl⟩

theorem gives_from {n b:Nat} {k:ByteArray} {L0:Ch} {w:World} {j0:Nat} (I:List WItm->World->Prop) (hr:L0.Rise) (hj:j0=L0.pos k)
  (hI:∀ pre V,I pre V->View b L0 (j0+pre.length) V∧V.cell? ⟨w.heap.size,0,none⟩=some (PtrS b)) :
  Gives Fence.wide n Tryz.prog 152 #[.pointer (some ⟨w.heap.size,0,none⟩),.pointer (some ⟨w.heap.size+1,0,none⟩),.pointer (some ⟨w.heap.size+2,0,none⟩)] encW I (OkW L0 j0) (EndW L0 j0)
   (((w.alloc (.cells #[PtrS b] 164)).alloc (.cells #[.func (.func 139) #[] #[]] 242)).alloc (.cells #[.string k] 9)):=by
 have r1:=(RowAt.new (w.alloc (.cells #[PtrS b] 164)) [.func (.func 139) #[] #[]] 242).alloc (.cells #[.string k] 9)
 have r2:=RowAt.new ((w.alloc (.cells #[PtrS b] 164)).alloc (.cells #[.func (.func 139) #[] #[]] 242)) [.string k] 9
 simp only [World.size_alloc] at r1 r2
 refine xWalkG I hr (by rw [hj]; exact L0.pos_le k) hI (fun W h=>?_) r1.lt r2.lt (r1.cell 0) (r2.cell 0)
 refine stepS h k (fun y hy=>?_) fun q=>by rw [hj] at q ⊢; exact Ch.stop q
 obtain ⟨i,hi,rfl⟩:=List.mem_iff_getElem.1 hy
 rw [List.length_take] at hi
 have e:(L0.take j0)[i].1=L0.key i:=by
  rw [List.getElem_take]
  unfold Ch.key
  rw [List.getD_eq_getElem?_getD,List.getElem?_eq_getElem (by omega)]; rfl
 rw [e]
 exact Ch.below (by omega)
def Ch.aft (L:Ch) (k:ByteArray):Nat:=if L.has k then L.pos k+1 else L.pos k
theorem gives_above {n b:Nat} {k:ByteArray} {L0:Ch} {w:World} {j0:Nat} (I:List WItm->World->Prop) (hr:L0.Rise) (hj:j0=L0.aft k)
  (hI:∀ pre V,I pre V->View b L0 (j0+pre.length) V∧V.cell? ⟨w.heap.size,0,none⟩=some (PtrS b)) :
  Gives Fence.wide n Tryz.prog 152 #[.pointer (some ⟨w.heap.size,0,none⟩),.pointer (some ⟨w.heap.size+1,0,none⟩),.pointer (some ⟨w.heap.size+2,0,none⟩)] encW I (OkW L0 j0) (EndW L0 j0)
   (((w.alloc (.cells #[PtrS b] 164)).alloc (.cells #[.func (.func 140) #[] #[]] 242)).alloc (.cells #[.string k] 9)):=by
 have r1:=(RowAt.new (w.alloc (.cells #[PtrS b] 164)) [.func (.func 140) #[] #[]] 242).alloc (.cells #[.string k] 9)
 have r2:=RowAt.new ((w.alloc (.cells #[PtrS b] 164)).alloc (.cells #[.func (.func 140) #[] #[]] 242)) [.string k] 9
 simp only [World.size_alloc] at r1 r2
 have pl:=L0.pos_le k
 have hle:j0<=L0.length:=by
  rw [hj]
  unfold Ch.aft
  cases hh:L0.has k with
  | true=>rw [if_pos rfl]; exact ((Ch.has_iff L0 k).1 hh).1
  | false=>rw [if_neg (by decide)]; exact pl
 refine xWalkG I hr hle hI (fun W h=>?_) r1.lt r2.lt (r1.cell 0) (r2.cell 0)
 refine stepA h k (fun y hy=>?_) fun q=>?_
 ·obtain ⟨i,hi,rfl⟩:=List.mem_iff_getElem.1 hy
  rw [List.length_take] at hi
  have e:(L0.take j0)[i].1=L0.key i:=by
   rw [List.getElem_take]
   unfold Ch.key
   rw [List.getD_eq_getElem?_getD,List.getElem?_eq_getElem (by omega)]; rfl
  rw [e]
  unfold Ch.aft at hj
  cases hh:L0.has k with
  | true =>
   obtain ⟨p1,p2⟩:=(Ch.has_iff L0 k).1 hh
   rw [hh,if_pos rfl] at hj
   rcases Nat.lt_or_ge i (L0.pos k) with z | z
   ·exact ltB_asym (Ch.below z)
   ·rw [show i=L0.pos k by omega,p2]; exact ltB_irr _
  | false =>
   rw [hh,if_neg (by decide)] at hj
   exact ltB_asym (Ch.below (by omega))
 ·unfold Ch.aft at hj
  cases hh:L0.has k with
  | true =>
   obtain ⟨p1,p2⟩:=(Ch.has_iff L0 k).1 hh
   rw [hh,if_pos rfl] at hj
   have:=Ch.rise_lt hr (i:=L0.pos k) (j:=j0) (by omega) q
   rwa [p2] at this
  | false =>
   rw [hh,if_neg (by decide)] at hj
   rw [hj] at q ⊢
   exact Ch.not_has hh q

end Go.Proofs.YtoljhoabbaigdaaGreat

namespace Go.Proofs.YtoljhoabbaigdaaGreat
open Go.RowKit Go.Shelf

theorem View.of {wz w V:World} {N:Nat->Prop} {b P:Nat} {s:Sh} {os2:List Ob} {L:Ch} (h:Side wz N w (s.os b++os2)) (a:s.AtF L P) (i:Nat) (hb:Below w.heap.size w V):View b L i V :=
 ⟨wz,N,s,L,P,os2,L.take i,h.below hb,a,(List.take_append_drop i L).symm,fun x hx=>⟨x,hx,rfl⟩⟩
def firstV (L:Ch) (q:Int):Nat->Nat->ByteArray × (Val × Bool)
 | _,0=>(⟨#[]⟩,(Val.V0,false))
 | i,n+1=>if atOk (L.chn i) q then (L.key i,((atL (L.chn i) q).val,true)) else firstV L q (i+1) n

theorem firstV_none {L:Ch} {q:Int}:∀ {n i:Nat},(∀ j,j<n->atOk (L.chn (i+j)) q=false)->firstV L q i n=(⟨#[]⟩,(Val.V0,false))
 | 0,_,_=>rfl
 | n+1,i,h=>by
  have h0:=h 0 (by omega)
  unfold firstV
  rw [Nat.add_zero] at h0
  rw [h0,if_neg (by decide)]
  exact firstV_none fun j hj=>by rw [Nat.add_assoc,Nat.add_comm 1 j]; exact h (j+1) (by omega)
theorem firstV_some {L:Ch} {q:Int}:∀ {n m i:Nat},m<n->(∀ j,j<m->atOk (L.chn (i+j)) q=false)->atOk (L.chn (i+m)) q=true->firstV L q i n=(L.key (i+m),((atL (L.chn (i+m)) q).val,true))
 | n+1,0,i,_,_,h=>by unfold firstV; rw [Nat.add_zero] at h; rw [h,if_pos rfl]; rfl
 | n+1,m+1,i,hm,h1,h=>by
  have h0:=h1 0 (by omega)
  unfold firstV
  rw [Nat.add_zero] at h0
  rw [h0,if_neg (by decide)]
  have:=firstV_some (L:=L) (q:=q) (n:=n) (m:=m) (i:=i+1) (by omega) (fun j hj=>by rw [Nat.add_assoc,Nat.add_comm 1 j]; exact h1 (j+1) (by omega)) (by rw [Nat.add_assoc,Nat.add_comm 1 m]; exact h)
  rw [this,Nat.add_assoc,Nat.add_comm 1 m]
theorem cell_kept {X Y:World} {row:Option Nat} {p:Addr} {v:Value} (h:X.cell? p=some v) (hg:X.grownBy Y row) (hr:∀ r,row=some r->∃ o:Obj,X.heap[r]?=some o∧o.isCells=false):Y.cell? p=some v:=by
 have e:some p.block≠row:=fun e=>by
  obtain ⟨o,ho,hc⟩:=hr p.block e.symm
  have q:=h
  unfold World.cell? at q
  rw [ho] at q
  cases o<;>simp_all [Obj.isCells]
 exact (World.cell?_of_block (hg.block _ (block_lt_of_cell h) e)).trans h

theorem SlV.kept {X Y:World} {row:Option Nat} {A:Option Addr} {l:List Ver} (h:SlV X A l) (hg:X.grownBy Y row) (hr:∀ r,row=some r->∃ o:Obj,X.heap[r]?=some o∧o.isCells=false):SlV Y A l:=fun hp=>by
 obtain ⟨b,o,e,hl,hc⟩:=h hp
 refine ⟨b,o,e,Nat.lt_of_lt_of_le hl hg.size,fun j hj=>?_⟩
 obtain ⟨c0,c1,c2,c3,c4⟩:=hc j hj
 exact ⟨cell_kept c0 hg hr,cell_kept c1 hg hr,cell_kept c2 hg hr,cell_kept c3 hg hr,cell_kept c4 hg hr⟩

attribute [local go_sem] Oper.semAt_some
theorem xFirstR {wz w:World} {N:Nat->Prop} {b P q0 j0:Nat} {s:Sh} {os2:List Ob} {L:Ch} {lb:Array Value} {wD:World} (h:Side wz N w (s.os b++os2)) (a:s.AtF L P) (q:Int) (hq0:q0<w.heap.size) (c0:w.cell? ⟨q0,0,none⟩=some (PtrS b))
  (hD:Below wD.heap.size wD w)
  (hg:∀ I:List WItm->World->Prop,(∀ pre V,I pre V->View b L (j0+pre.length) V∧V.cell? ⟨q0,0,none⟩=some (PtrS b))->Gives Fence.wide (6-1) Tryz.prog 152 lb encW I (OkW L j0) (EndW L j0) wD) :
  Calls Tryz.prog 121 #[.func (.func 152) #[] lb,.int .i64 q] w fun e w'=>e=.returned (.tuple #[.string (firstV L q j0 (L.length-j0)).1,(firstV L q j0 (L.length-j0)).2.1.v,.bool (firstV L q j0 (L.length-j0)).2.2])∧Below w.heap.size w w':=by
 have TN:=fun h=>firstV_none (L:=L) (q:=q) (n:=L.length-j0) (i:=j0) h
 have TS:=fun m h=>firstV_some (L:=L) (q:=q) (n:=L.length-j0) (m:=m) (i:=j0) h
 obtain ⟨T,hT⟩:=nmq (firstV L q j0 (L.length-j0))
 rw [<-hT] at TN ⊢
 simp only [<-hT] at TS
 have TN:=qh TN
 have TS:=qh TS
 clear hT
 refine (callsIn_wide (n:=6)).1 ?_
 refine callsIn_of_wp_marks Tryz.func121 rfl trivial ?_ rfl
 simp only [Tryz.ntmps121,List.size_toArray,List.length_cons,List.length_nil,Nat.reduceAdd,Nat.reduceSub,Array.replicate_succ,Array.replicate_zero,List.push_toArray,List.append_toArray,List.nil_append,List.cons_append]
 gi_wp2
 obtain ⟨B,hB⟩:=nmq (w.heap.size)
 have b3:=((((Boxed.new w 3 (.int .i64 q)).alloc (.cells #[.string ⟨#[]⟩] 9)).alloc (.cells #[.bool false,.string ⟨#[]⟩,.int .u64 0] 59)).alloc (.cells #[.bool false] 4))
 have b4:=(((Boxed.new (w.alloc (.cells #[.int .i64 q] 3)) 9 (.string ⟨#[]⟩)).alloc (.cells #[.bool false,.string ⟨#[]⟩,.int .u64 0] 59)).alloc (.cells #[.bool false] 4))
 have b5:=((RowAt.new ((w.alloc (.cells #[.int .i64 q] 3)).alloc (.cells #[.string ⟨#[]⟩] 9)) [.bool false,.string ⟨#[]⟩,.int .u64 0] 59).alloc (.cells #[.bool false] 4))
 have b6:=Boxed.new (((w.alloc (.cells #[.int .i64 q] 3)).alloc (.cells #[.string ⟨#[]⟩] 9)).alloc (.cells #[.bool false,.string ⟨#[]⟩,.int .u64 0] 59)) 4 (.bool false)
 have hb:Below w.heap.size w ((((w.alloc (.cells #[.int .i64 q] 3)).alloc (.cells #[.string ⟨#[]⟩] 9)).alloc (.cells #[.bool false,.string ⟨#[]⟩,.int .u64 0] 59)).alloc (.cells #[.bool false] 4)) :=
  ((((Below.refl _ w).alloc (Nat.le_refl _) _).alloc (by simp) _).alloc (by simp; omega) _).alloc (by simp; omega) _
 have hsz:((((w.alloc (.cells #[.int .i64 q] 3)).alloc (.cells #[.string ⟨#[]⟩] 9)).alloc (.cells #[.bool false,.string ⟨#[]⟩,.int .u64 0] 59)).alloc (.cells #[.bool false] 4)).heap.size=w.heap.size+4:=by simp
 simp only [World.size_alloc] at b3 b4 b5 b6
 obtain ⟨W0,hW0⟩:∃ W0,((((w.alloc (.cells #[.int .i64 q] 3)).alloc (.cells #[.string ⟨#[]⟩] 9)).alloc (.cells #[.bool false,.string ⟨#[]⟩,.int .u64 0] 59)).alloc (.cells #[.bool false] 4))=W0:=⟨_,rfl⟩
 have b5:RowAt W0 (w.heap.size+1+1) [.bool false,.string ⟨#[]⟩,.int .u64 0] 59:=by rw [<-hW0]; exact b5
 rw [hW0] at b3 b4 b6 hb hsz ⊢
 clear hW0
 obtain ⟨I,eI⟩:∃ I:List WItm->World->Prop,I=fun pre V=>((∀ j,j<pre.length->atOk (L.chn (j0+j)) q=false)∧B+4<=V.heap.size∧Boxed V B 3 (.int .i64 q)∧Boxed V (B+1) 9 (.string ⟨#[]⟩)∧RowAt V (B+1+1) [.bool false,.string ⟨#[]⟩,.int .u64 0] 59∧Boxed V (B+1+1+1) 4 (.bool false))∧Below B w V:=⟨_,rfl⟩
 have hc:=hg I (fun pre V hI=>by
  rw [eI] at hI
  have hb:=hI.2
  rw [hB] at hb
  exact ⟨View.of h a _ hb,(hb.cell (p:=⟨q0,0,none⟩) hq0).trans c0⟩)
 have VW:=qh (fun V (hb:Below w.heap.size w V)=>View.of h a (i:=0) hb)
 rw [<-hB] at b3 b4 b5 b6 hb hsz ⊢
 have HBS:=qh hB
 have WZ:=qh (show B<=W0.heap.size from by omega)
 have own1:OwnFrom W0.heap.size I:=by
  rw [eI]
  exact OwnFrom.and (Own.from (fun s X Y row hs hg hr=>⟨hs.1,Nat.le_trans hs.2.1 hg.size,boxed_kept hs.2.2.1 hg hr,boxed_kept hs.2.2.2.1 hg hr,rowAt_kept hs.2.2.2.2.1 hg hr,boxed_kept hs.2.2.2.2.2 hg hr⟩) _) (ownFrom_below (by omega) (by omega))
 obtain ⟨Ix,eIx⟩:∃ Ix:List WItm->World->Prop,Ix=fun pre V=>(∃ ys x,pre=ys++[x]∧j0+ys.length<L.length∧(∀ j,j<ys.length->atOk (L.chn (j0+j)) q=false)∧atOk (L.chn (j0+ys.length)) q=true∧Boxed V (B+1) 9 (.string (L.key (j0+ys.length))) ∧
   RowAt V (B+1+1) [.bool (atL (L.chn (j0+ys.length)) q).val.num,.string (atL (L.chn (j0+ys.length)) q).val.txt,.int .u64 ((atL (L.chn (j0+ys.length)) q).val.bits:Int)] 59∧Boxed V (B+1+1+1) 4 (.bool true))∧Below B w V:=⟨_,rfl⟩
 have own2:OwnFrom W0.heap.size Ix:=by
  rw [eIx]
  exact OwnFrom.and (Own.from (fun s X Y row hs hg hr=>by obtain ⟨ys,x,h1,h2,h3,h4,h5,h6,h7⟩:=hs; exact ⟨ys,x,h1,h2,h3,h4,boxed_kept h5 hg hr,rowAt_kept h6 hg hr,boxed_kept h7 hg hr⟩) _) (ownFrom_below (by omega) (by omega))
 refine wpIn_rangeFunc_told rfl (by decide) (gf:=152) (lb:=lb) rfl trivial (enters_of Tryz.func152 (by kernel_rfl) rfl) hc (hD.trans (by rw [hB] at hb; exact hb.mono hD.size)) (fun _=>rfl) own1 own2
  (by rw [eI]; exact ⟨⟨fun j hj=>(by cases hj),by omega,b3,b4,b5,b6⟩,hb⟩)
  (fun pre x a' V=>(OkW L j0 pre x V∧a'={ tmps:=#[.func (.func 152) #[] lb,.int .i64 q,undef,.pointer (some ⟨B,0,none⟩),.pointer (some ⟨B+1,0,none⟩),.pointer (some ⟨B+1+1,0,none⟩),.pointer (some ⟨B+1+1+1,0,none⟩),.string x.1,x.2,undef,undef,.func (.func 152) #[] lb,.string x.1,x.2,undef,undef,undef,undef,undef,undef,undef,undef,undef,undef,undef],defers:=[] })∧I pre V)
  (fun pre x a' u X Y row hs hg hr=>⟨⟨⟨hs.1.1.1,hs.1.1.2.1,by obtain ⟨A,c,h1,h2,h3⟩:=hs.1.1.2.2; exact ⟨A,c,h1,h2,h3.kept hg (fun r e=>(hr r e).2)⟩⟩,hs.1.2⟩,own1 pre X Y row hs.2 hg hr⟩)
  ?assign ?body ?done ?stop
 case assign =>
  rintro l pre x V K hi ok hK
  dsimp only [encW]
  clear b3 b4 b5 b6 hc hB hsz hb
  gi_wp2
  exact hK _ _ (KeepsFrom.refl _ _) ⟨⟨ok,rfl⟩,hi⟩
 case body =>
  rintro l pre ⟨k,sl⟩ a' V ⟨⟨⟨hlt,e1,A,c,e2,hc',hs⟩,rfl⟩,hi⟩
  simp only at e1 e2
  subst e1 e2
  rw [eI] at hi
  obtain ⟨⟨i1,i2,i3,i4,i5,i6⟩,hV⟩:=hi
  have AT:=xAtR a (L.key (j0+pre.length)) A c q
  rw [Ch.of_at a.fine.rise hlt] at AT
  have AT:=AT V hc' hs
  obtain ⟨y,hy⟩:=nmq (atL (L.chn (j0+pre.length)) q)
  obtain ⟨D,hD2⟩:=nmq (atOk (L.chn (j0+pre.length)) q)
  obtain ⟨z,hz⟩:=nmq ((L.chn (j0+pre.length)).length)
  obtain ⟨K,hK⟩:=nmq (L.key (j0+pre.length))
  rw [<-hy,<-hD2,<-hz] at AT
  rw [<-hK,<-hz]
  have YS:=qh hy
  have DS:=qh hD2
  have KS:=qh hK
  obtain ⟨sq,gn,u⟩:=y
  obtain ⟨nu,tx,bt⟩:=u
  have AT:Hid (Calls Tryz.prog 137 #[.slice A z c,.int .i64 q] V fun e w'=>e=.returned (.tuple #[.agg #[.int .i64 sq,.bool gn,.bool nu,.string tx,.int .u64 (bt:Int)],.bool D])∧Below V.heap.size V w'):=qh AT
  have t3:=i3.cell
  have I1:=qh i1
  have I3:=qh i3
  have I4:=qh i4
  have I5:=qh i5
  have I6:=qh i6
  have HV:=qh hV
  have h1':1<=6-1-1:=by decide
  clear b3 b4 b5 b6 hc hB hsz hb hy hD2 hz hK i1 i3 i4 i5 i6 hV hs hc'
  cases D with
  | false =>
   gi_wp2_with (refine ⟨trivial,?_⟩; gi_at_call 137; refine (CallsIn.inRound l (callsIn_wide.2 AT.out)).mono ?_; rintro e w' ⟨rfl,hb'⟩; have HB':=qh hb'; clear hb')
   have hBV:B<=V.heap.size:=by omega
   have bb:=(Below.refl V.heap.size V).trans HB'.out
   have b2:Below V.heap.size V (w'.alloc (.cells #[.int .i64 sq,.bool gn,.bool nu,.string tx,.int .u64 (bt:Int)] 129)):=bb.alloc bb.size _
   refine ⟨keepsFrom_below b2,?_⟩
   rw [eI]
   refine ⟨⟨fun j hj=>?_,Nat.le_trans i2 b2.size,boxed_below I3.out b2,boxed_below I4.out b2,I5.out.below b2,boxed_below I6.out b2⟩,Below.then2 HV.out b2 hBV⟩
   rw [List.length_append,List.length_singleton] at hj
   rcases Nat.lt_or_ge j pre.length with y | y
   ·exact I1.out j y
   ·rw [show j=pre.length by omega]; exact DS.out.symm
  | true =>
   have mo:Tryz.prog.follows .mixedOrders=true:=by kernel_rfl
   have AR:=qh (show ∀ w',Below V.heap.size V w'->(w'.alloc (.cells #[.int .i64 sq,.bool gn,.bool nu,.string tx,.int .u64 (bt:Int)] 129)).cell? ⟨w'.heap.size,2,none⟩=some (.bool nu) from fun w' _=>(RowAt.new w' [.int .i64 sq,.bool gn,.bool nu,.string tx,.int .u64 (bt:Int)] 129).cell 2)
   gi_wp2_with (refine ⟨trivial,?_⟩; gi_at_call 137; refine (CallsIn.inRound l (callsIn_wide.2 AT.out)).mono ?_; rintro e w' ⟨rfl,hb'⟩; have HB':=qh hb'; clear hb')
   obtain ⟨E,hE⟩:=nmq (w'.heap.size)
   obtain ⟨V2,hV2⟩:=nmq (w'.alloc (.cells #[.int .i64 sq,.bool gn,.bool nu,.string tx,.int .u64 (bt:Int)] 129))
   have RE:RowAt V2 E [.int .i64 sq,.bool gn,.bool nu,.string tx,.int .u64 (bt:Int)] 129:=by rw [hV2,hE]; exact RowAt.new w' _ _
   have b2:Below V.heap.size V V2:=by rw [hV2]; exact HB'.out.alloc HB'.out.size _
   have hEV:V.heap.size<=E:=by rw [hE]; exact HB'.out.size
   rw [<-hV2,<-hE]
   have HB2:=qh b2
   have J4:=qh (boxed_below I4.out b2)
   have J5:=qh (I5.out.below b2)
   have J6:=qh (boxed_below I6.out b2)
   have g2:=RE.cell 2
   have g3:=RE.cell 3
   have g4:=RE.cell 4
   simp only [geS] at g2 g3 g4
   have f4:=J4.out.frozen
   have f50:=J5.out.frozen 0
   have f51:=J5.out.frozen 1
   have f52:=J5.out.frozen 2
   have f6:=J6.out.frozen
   have s4:=J4.out.cell
   have s50:=J5.out.cell 0
   have s51:=J5.out.cell 1
   have s52:=J5.out.cell 2
   have s6:=J6.out.cell
   simp only [geS] at s50 s51 s52
   clear hE hV2 RE b2 HB' AR
   have n1:E≠B+1:=by omega
   have n2:E≠B+1+1:=by omega
   have FIN:=qh (show KeepsFrom W0.heap.size V (((((V2.setCell ⟨B+1,0,none⟩ (.string K)).setCell ⟨B+1+1,0,none⟩ (.bool nu)).setCell ⟨B+1+1,1,none⟩ (.string tx)).setCell ⟨B+1+1,2,none⟩ (.int .u64 (bt:Int))).setCell ⟨B+1+1+1,0,none⟩ (.bool true)).drew ∧
    Ix (pre++[(K,.slice A z c)]) (((((V2.setCell ⟨B+1,0,none⟩ (.string K)).setCell ⟨B+1+1,0,none⟩ (.bool nu)).setCell ⟨B+1+1,1,none⟩ (.string tx)).setCell ⟨B+1+1,2,none⟩ (.int .u64 (bt:Int))).setCell ⟨B+1+1+1,0,none⟩ (.bool true)).drew from by
    obtain ⟨Va,hVa⟩:=nmq (V2.setCell ⟨B+1,0,none⟩ (.string K))
    have k1:KeepsOthers V2 Va:=by rw [hVa]; exact KeepsOthers.setCell _ _ _
    have c1:Chg (fun k=>k=B+1) V2 Va:=by rw [hVa]; exact (Chg.refl (fun k=>k=B+1) V2).setCell (p:=⟨B+1,0,none⟩) (.inl rfl) _
    have x4:Boxed Va (B+1) 9 (.string K):=by rw [hVa]; exact J4.out.set _
    rw [<-hVa]
    have x5:RowAt Va (B+1+1) [.bool false,.string ⟨#[]⟩,.int .u64 0] 59:=(c1.block _ J5.out.lt (by omega)).trans J5.out
    have x6:Boxed Va (B+1+1+1) 4 (.bool false):=(c1.block _ J6.out.lt (by omega)).trans J6.out
    obtain ⟨Vb,hVb⟩:=nmq (((Va.setCell ⟨B+1+1,0,none⟩ (.bool nu)).setCell ⟨B+1+1,1,none⟩ (.string tx)).setCell ⟨B+1+1,2,none⟩ (.int .u64 (bt:Int)))
    have k2:KeepsFrom W0.heap.size Va Vb:=by rw [hVb]; exact ((KeepsOthers.setCell _ _ _).from _).trans (((KeepsOthers.setCell _ _ _).from _).trans ((KeepsOthers.setCell _ _ _).from _))
    have c2:Chg (fun k=>k=B+1+1) Va Vb:=by rw [hVb]; exact (((Chg.refl (fun k=>k=B+1+1) Va).setCell (p:=⟨B+1+1,0,none⟩) (.inl rfl) _).setCell (p:=⟨B+1+1,1,none⟩) (.inl rfl) _).setCell (p:=⟨B+1+1,2,none⟩) (.inl rfl) _
    have y5:RowAt Vb (B+1+1) [.bool nu,.string tx,.int .u64 (bt:Int)] 59:=by rw [hVb]; exact ((x5.set 0 (.bool nu)).set 1 (.string tx)).set 2 (.int .u64 (bt:Int))
    rw [<-hVb]
    have y4:Boxed Vb (B+1) 9 (.string K):=(c2.block _ x4.lt (by omega)).trans x4
    have y6:Boxed Vb (B+1+1+1) 4 (.bool false):=(c2.block _ x6.lt (by omega)).trans x6
    have c3:Chg (fun k=>k=B+1+1+1) Vb (Vb.setCell ⟨B+1+1+1,0,none⟩ (.bool true)):=(Chg.refl (fun k=>k=B+1+1+1) Vb).setCell (p:=⟨B+1+1+1,0,none⟩) (.inl rfl) _
    have hBV:B<=V.heap.size:=by omega
    have bb:=Below.then2 HV.out HB2.out hBV
    have ba:Below B w Va:=bb.trans (c1.below (by rintro i rfl; omega) (by have:=bb.size; have:=HB2.out.size; omega))
    have bc:Below B w Vb:=ba.trans (c2.below (by rintro i rfl; omega) (by have:=c1.size; have:=HB2.out.size; omega))
    refine ⟨(keepsFrom_below HB2.out).trans ((k1.from _).trans (k2.trans (((KeepsOthers.setCell _ _ _).from _).trans ⟨Nat.le_refl _,fun _ _ _ h _=>h⟩))),?_⟩
    rw [eIx]
    refine ⟨⟨pre,(K,.slice A z c),rfl,hlt,I1.out,DS.out.symm,?_,?_,y6.set _⟩,(bc.trans (c3.below (by rintro i rfl; omega) (by have:=c1.size; have:=c2.size; have:=HB2.out.size; omega))).drew⟩
    ·rw [<-KS.out]; exact (c3.block _ y4.lt (by omega)).trans y4
    ·rw [<-YS.out]; exact (c3.block _ y5.lt (by omega)).trans y5)
   gi_region_with_o (fail)
   all_goals (gi_wp2; exact FIN.out)
 case done =>
  rintro D xs V hD hs hi hK
  rw [eI] at hi
  obtain ⟨⟨i1,i2,i3,i4,i5,i6⟩,hV⟩:=hi
  have TE:=qh (TN.out (fun j hj=>i1 j (by unfold EndW at hs; omega)))
  have C4:=qh i4
  have C5:=qh i5
  have C6:=qh i6
  have HV:=qh hV
  have t4:=i4.cell
  have t50:=i5.cell 0
  have t51:=i5.cell 1
  have t52:=i5.cell 2
  have t6:=i6.cell
  simp only [geS] at t50 t51 t52
  have f4:=i4.frozen
  have f50:=i5.frozen 0
  have f51:=i5.frozen 1
  have f52:=i5.frozen 2
  have f6:=i6.frozen
  clear b3 b4 b5 b6 hc hB hsz hb i3 i4 i5 i6 hV
  simp only [Exit.inBlock]
  gi_wp2
  obtain ⟨V3,hV3⟩:=nmq ((((((V.setCell ⟨B+1,0,none⟩ (.string ⟨#[]⟩)).setCell ⟨B+1+1,0,none⟩ (.bool false)).setCell ⟨B+1+1,1,none⟩ (.string ⟨#[]⟩)).setCell ⟨B+1+1,2,none⟩ (.int .u64 0)).setCell ⟨B+1+1+1,0,none⟩ (.bool false)))
  have KO:KeepsOthers V V3:=by rw [hV3]; exact (KeepsOthers.setCell _ _ _).trans ((KeepsOthers.setCell _ _ _).trans ((KeepsOthers.setCell _ _ _).trans ((KeepsOthers.setCell _ _ _).trans (KeepsOthers.setCell _ _ _))))
  have hK':V3.heap[D]?=some (.deferred (some [])):=KO.same D _ hK rfl
  have es:V3.heap.size=V.heap.size∧(Boxed V3 (B+1) 9 (.string ⟨#[]⟩)∧RowAt V3 (B+1+1) [.bool false,.string ⟨#[]⟩,.int .u64 0] 59∧Boxed V3 (B+1+1+1) 4 (.bool false))∧Below B w V3:=by
   rw [hV3]
   obtain ⟨Va,hVa⟩:=nmq (V.setCell ⟨B+1,0,none⟩ (.string ⟨#[]⟩))
   have c1:Chg (fun k=>k=B+1) V Va:=by rw [hVa]; exact (Chg.refl (fun k=>k=B+1) V).setCell (p:=⟨B+1,0,none⟩) (.inl rfl) _
   have z1:Va.heap.size=V.heap.size:=by rw [hVa]; exact World.size_setCell _ _ _
   have x4:Boxed Va (B+1) 9 (.string ⟨#[]⟩):=by rw [hVa]; exact C4.out.set _
   rw [<-hVa]
   have x5:RowAt Va (B+1+1) [.bool false,.string ⟨#[]⟩,.int .u64 0] 59:=(c1.block _ C5.out.lt (by omega)).trans C5.out
   have x6:Boxed Va (B+1+1+1) 4 (.bool false):=(c1.block _ C6.out.lt (by omega)).trans C6.out
   obtain ⟨Vb,hVb⟩:=nmq (((Va.setCell ⟨B+1+1,0,none⟩ (.bool false)).setCell ⟨B+1+1,1,none⟩ (.string ⟨#[]⟩)).setCell ⟨B+1+1,2,none⟩ (.int .u64 0))
   have z2:Vb.heap.size=Va.heap.size:=by rw [hVb,World.size_setCell,World.size_setCell,World.size_setCell]
   have c2:Chg (fun k=>k=B+1+1) Va Vb:=by rw [hVb]; exact (((Chg.refl (fun k=>k=B+1+1) Va).setCell (p:=⟨B+1+1,0,none⟩) (.inl rfl) _).setCell (p:=⟨B+1+1,1,none⟩) (.inl rfl) _).setCell (p:=⟨B+1+1,2,none⟩) (.inl rfl) _
   have y5:RowAt Vb (B+1+1) [.bool false,.string ⟨#[]⟩,.int .u64 0] 59:=by rw [hVb]; exact ((x5.set 0 (.bool false)).set 1 (.string ⟨#[]⟩)).set 2 (.int .u64 0)
   rw [<-hVb]
   have y4:Boxed Vb (B+1) 9 (.string ⟨#[]⟩):=(c2.block _ x4.lt (by omega)).trans x4
   have y6:Boxed Vb (B+1+1+1) 4 (.bool false):=(c2.block _ x6.lt (by omega)).trans x6
   have c3:Chg (fun k=>k=B+1+1+1) Vb (Vb.setCell ⟨B+1+1+1,0,none⟩ (.bool false)):=(Chg.refl (fun k=>k=B+1+1+1) Vb).setCell (p:=⟨B+1+1+1,0,none⟩) (.inl rfl) _
   exact ⟨by rw [World.size_setCell]; omega,⟨(c3.block _ y4.lt (by omega)).trans y4,(c3.block _ y5.lt (by omega)).trans y5,y6.set _⟩,
    ((HV.out.trans (c1.below (by rintro i rfl; omega) (by omega))).trans (c2.below (by rintro i rfl; omega) (by omega))).trans (c3.below (by rintro i rfl; omega) (by omega))⟩
  obtain ⟨_,⟨e4,e5,e6⟩,eb⟩:=es
  rw [<-hV3]
  refine ⟨by simp,.inl ⟨_,_,rfl,run_takeDeferred hK',?_⟩⟩
  have gr:=grownBy_putObj' V3 D (.deferred none)
  have gk:∀ r,some D=some r->∃ o:Obj,V3.heap[r]?=some o∧o.isCells=false:=fun r e=>by cases e; exact ⟨_,hK',rfl⟩
  have g4:=(boxed_kept e4 gr gk).cell
  have g5:=rowAt_kept e5 gr gk
  have g6:=(boxed_kept e6 gr gk).cell
  have g50:=g5.cell 0
  have g51:=g5.cell 1
  have g52:=g5.cell 2
  simp only [geS] at g50 g51 g52
  refine ⟨.tuple #[.string ⟨#[]⟩,.agg #[.bool false,.string ⟨#[]⟩,.int .u64 0],.bool false],?_,?_,by rw [<-HBS.out]; exact eb.trans (belowK_b (w:=W0) (n₀:=B) WZ.out _ D _ _ hD hK' rfl rfl)⟩
  ·simp [results,Tryz.f121,go_sem,g4,g50,g51,g52,g6]
  ·rw [TE.out]; rfl
 case stop =>
  rintro D pre V hD hi hK
  rw [eIx] at hi
  obtain ⟨⟨ys,x,e,hlt,i1,i2,i4,i5,i6⟩,hV⟩:=hi
  have TE:=qh (TS.out ys.length (by omega) i1 i2)
  have C4:=qh i4
  have C5:=qh i5
  have C6:=qh i6
  have HV:=qh hV
  clear b3 b4 b5 b6 hc hB hsz hb i4 i5 i6 hV
  gi_wp2
  obtain ⟨V3,hV3⟩:=nmq (V)
  have hK':V3.heap[D]?=some (.deferred (some [])):=by rw [hV3]; exact hK
  obtain ⟨u,hu⟩:=nmq ((atL (L.chn (j0+ys.length)) q).val)
  have e4:Boxed V3 (B+1) 9 (.string (L.key (j0+ys.length))):=by rw [hV3]; exact C4.out
  have e5:RowAt V3 (B+1+1) [.bool u.num,.string u.txt,.int .u64 (u.bits:Int)] 59:=by rw [hV3,hu]; exact C5.out
  have e6:Boxed V3 (B+1+1+1) 4 (.bool true):=by rw [hV3]; exact C6.out
  have eb:Below B w V3:=by rw [hV3]; exact HV.out
  have TE:=qh (show T=(L.key (j0+ys.length),(u,true)) from by rw [hu]; exact TE.out)
  rw [<-hV3]
  refine ⟨by simp,.inl ⟨_,_,rfl,run_takeDeferred hK',?_⟩⟩
  have gr:=grownBy_putObj' V3 D (.deferred none)
  have gk:∀ r,some D=some r->∃ o:Obj,V3.heap[r]?=some o∧o.isCells=false:=fun r e=>by cases e; exact ⟨_,hK',rfl⟩
  have g4:=(boxed_kept e4 gr gk).cell
  have g5:=rowAt_kept e5 gr gk
  have g6:=(boxed_kept e6 gr gk).cell
  have g50:=g5.cell 0
  have g51:=g5.cell 1
  have g52:=g5.cell 2
  simp only [geS] at g50 g51 g52
  refine ⟨.tuple #[.string (L.key (j0+ys.length)),.agg #[.bool u.num,.string u.txt,.int .u64 (u.bits:Int)],.bool true],?_,?_,by rw [<-HBS.out]; exact eb.trans (belowK_b (w:=W0) (n₀:=B) WZ.out _ D _ _ hD hK' rfl rfl)⟩
  ·simp [results,Tryz.f121,go_sem,g4,g50,g51,g52,g6]
  ·rw [TE.out]; rfl

end Go.Proofs.YtoljhoabbaigdaaGreat

namespace Go.Proofs.YtoljhoabbaigdaaGreat
open Go.RowKit

theorem frm_none {L:Ch} {k:ByteArray} {ab:Bool} {q:Int} (h:∀ j,j<L.length->L.hit k ab q j=false):L.frm k ab q=L.length:=by
 unfold Ch.frm
 have:(List.range L.length).find? (L.hit k ab q)=none:=List.find?_eq_none.2 fun j hj=>by rw [h j (List.mem_range.1 hj)]; decide
 rw [this]; rfl
theorem frm_some {L:Ch} {k:ByteArray} {ab:Bool} {q:Int} {i:Nat} (hi:i<L.length) (h0:L.hit k ab q i=true) (h:∀ j,j<i->L.hit k ab q j=false):L.frm k ab q=i:=by
 unfold Ch.frm
 have:(List.range L.length).find? (L.hit k ab q)=some i:=List.find?_range_eq_some.2 ⟨h0,List.mem_range.2 hi,fun j hj=>by rw [h j hj]; rfl⟩
 rw [this]; rfl
theorem firstV_is {L:Ch} {k:ByteArray} {ab:Bool} {q:Int} {j0:Nat} (hj:j0<=L.length) (h1:∀ j,j<j0->(ltB k (L.key j) || (!ab && ((L.key j).toList == k.toList)))=false) (h2:∀ j,j0<=j->j<L.length->(ltB k (L.key j) || (!ab && ((L.key j).toList == k.toList)))=true) :
  firstV L q j0 (L.length-j0)=aftV L k ab q:=by
 have lo:∀ j,j<j0->L.hit k ab q j=false:=fun j hj=>by unfold Ch.hit; rw [h1 j hj,Bool.and_false]
 have hi:∀ j,j0<=j->j<L.length->L.hit k ab q j=atOk (L.chn j) q:=fun j a b=>by unfold Ch.hit; rw [h2 j a b,Bool.and_true]
 unfold aftV
 have key:∀ n,n<=L.length-j0->(∀ j,j<n->atOk (L.chn (j0+j)) q=false)∨∃ m,m<n∧(∀ j,j<m->atOk (L.chn (j0+j)) q=false)∧atOk (L.chn (j0+m)) q=true:=by
  intro n
  induction n with
  | zero=>exact fun _=>.inl fun j hj=>by cases hj
  | succ n ih =>
   intro hn
   rcases ih (by omega) with a | ⟨m,m1,m2,m3⟩
   ·cases z:atOk (L.chn (j0+n)) q with
    | true=>exact .inr ⟨n,Nat.lt_succ_self n,a,z⟩
    | false =>
     refine .inl fun j hj=>?_
     rcases Nat.lt_or_ge j n with y | y
     ·exact a j y
     ·rw [show j=n by omega]; exact z
   ·exact .inr ⟨m,by omega,m2,m3⟩
 rcases key _ (Nat.le_refl _) with a | ⟨m,m1,m2,m3⟩
 ·rw [firstV_none a,frm_none (fun j hjl=>by
   rcases Nat.lt_or_ge j j0 with y | y
   ·exact lo j y
   ·rw [hi j y hjl]
    have:=a (j-j0) (by omega)
    rwa [show j0+(j-j0)=j by omega] at this),if_neg (Nat.lt_irrefl _)]
 ·have f:L.frm k ab q=j0+m:=frm_some (by omega) (by rw [hi _ (by omega) (by omega)]; exact m3) fun j hjm=>by
   rcases Nat.lt_or_ge j j0 with y | y
   ·exact lo j y
   ·rw [hi j y (by omega)]
    have:=m2 (j-j0) (by omega)
    rwa [show j0+(j-j0)=j by omega] at this
  rw [firstV_some m1 m2 m3,f,if_pos (by omega)]
theorem beq_self (a b:ByteArray):(a.toList == b.toList)=decide (a=b):=by
 by_cases h:a=b
 ·subst h; simp
 ·rw [decide_eq_false h]
  cases z:a.toList == b.toList with
  | false=>rfl
  | true=>exact absurd (toList_inj (eq_of_beq z)) h
theorem seekV {L:Ch} (hr:L.Rise) (k:ByteArray) (q:Int):firstV L q (L.pos k) (L.length-L.pos k)=aftV L k false q:=by
 refine firstV_is (L.pos_le k) (fun j hj=>?_) fun j h1 h2=>?_
 ·have b:=Ch.below hj
  have ne:L.key j≠k:=fun e=>by rw [e,ltB_irr] at b; cases b
  rw [ltB_asym b,beq_self,decide_eq_false ne]; rfl
 ·rw [beq_self]
  cases z:ltB k (L.key j) with
  | true=>rfl
  | false =>
   have s:ltB (L.key j) k=false:=by
    rcases Nat.lt_or_ge (L.pos k) j with y | y
    ·have a:=Ch.stop (L:=L) (k:=k) (by omega)
     cases u:ltB (L.key j) k with
     | false=>rfl
     | true=>rw [ltB_trans (Ch.rise_lt hr y h2) u] at a; cases a
    ·rw [show j=L.pos k by omega]; exact Ch.stop (by omega)
   rw [decide_eq_true (ltB_total s z)]; rfl
theorem afterV {L:Ch} (hr:L.Rise) (k:ByteArray) (q:Int):firstV L q (L.aft k) (L.length-L.aft k)=aftV L k true q:=by
 have pl:=L.pos_le k
 cases hh:L.has k with
 | true =>
  obtain ⟨p1,p2⟩:=(Ch.has_iff L k).1 hh
  have e:L.aft k=L.pos k+1:=by unfold Ch.aft; rw [hh]; rfl
  rw [e]
  refine firstV_is p1 (fun j hj=>?_) fun j h1 h2=>?_
  ·rw [Bool.not_true,Bool.false_and,Bool.or_false]
   rcases Nat.lt_or_ge j (L.pos k) with y | y
   ·exact ltB_asym (Ch.below y)
   ·rw [show j=L.pos k by omega,p2]; exact ltB_irr _
  ·have:=Ch.rise_lt hr (i:=L.pos k) (j:=j) (by omega) h2
   rw [p2] at this
   rw [this]; rfl
 | false =>
  have e:L.aft k=L.pos k:=by unfold Ch.aft; rw [hh]; rfl
  rw [e]
  refine firstV_is pl (fun j hj=>?_) fun j h1 h2=>?_
  ·rw [Bool.not_true,Bool.false_and,Bool.or_false]
   exact ltB_asym (Ch.below hj)
  ·have n:=Ch.not_has hh (show L.pos k<L.length by omega)
   rcases Nat.lt_or_ge (L.pos k) j with y | y
   ·rw [ltB_trans n (Ch.rise_lt hr y h2)]; rfl
   ·rw [show j=L.pos k by omega,n]; rfl

section
variable {w0 w:World} {N:Nat->Prop} {b:Nat} {s:Sh} {L:Ch} {P:Nat} {os2:List Ob}
theorem xAfterR (h:Side w0 N w (s.os b++os2)) (a:s.AtF L P) (k:ByteArray) (q:Int) :
  Calls Tryz.prog 90 #[PtrM b,.string k,.int .i64 q] w fun e w'=>e=.returned (.tuple #[.string (aftV L k true q).1,(aftV L k true q).2.1.v,.bool (aftV L k true q).2.2])∧Below w.heap.size w w':=by
 rw [<-afterV a.fine.rise]
 obtain ⟨B,hB⟩:=nmq (w.heap.size)
 obtain ⟨w1,hw1⟩:=nmq (w.alloc (.cells #[.bool false,.string ⟨#[]⟩,.int .u64 0] 59))
 have R1:=qh (show RowAt w1 B [.bool false,.string ⟨#[]⟩,.int .u64 0] 59 from by rw [hw1,hB]; exact RowAt.new w _ _)
 have b1:Below w.heap.size w w1:=by rw [hw1]; exact (Below.refl _ _).alloc (Nat.le_refl _) _
 have CA:=qh (xAboveR b k w1)
 obtain ⟨w2,hw2⟩:=nmq (((w1.alloc (.cells #[PtrS b] 164)).alloc (.cells #[.func (.func 140) #[] #[]] 242)).alloc (.cells #[.string k] 9))
 have b2:Below w1.heap.size w1 w2:=by rw [hw2]; exact (((Below.refl _ w1).alloc (Nat.le_refl _) _).alloc (by simp) _).alloc (by simp; omega) _
 have r0:RowAt w2 w1.heap.size [PtrS b] 164:=by rw [hw2]; exact ((RowAt.new w1 _ _).alloc _).alloc _
 have CF:=xFirstR (lb:=#[.pointer (some ⟨w1.heap.size,0,none⟩),.pointer (some ⟨w1.heap.size+1,0,none⟩),.pointer (some ⟨w1.heap.size+2,0,none⟩)]) (j0:=L.aft k) (wD:=w2) ((h.below b1).below b2) a q (q0:=w1.heap.size) r0.lt (r0.cell 0) (Below.refl _ _)
  (fun I hI=>by rw [hw2]; exact gives_above I a.fine.rise rfl hI)
 obtain ⟨T,hT⟩:=nmq (firstV L q (L.aft k) (L.length-L.aft k))
 rw [<-hT] at CF ⊢
 obtain ⟨K,u,D⟩:=T
 obtain ⟨nu,tx,bt⟩:=u
 have CF:=qh CF
 have CF:Hid (Calls Tryz.prog 121 #[.func (.func 152) #[] #[.pointer (some ⟨w1.heap.size,0,none⟩),.pointer (some ⟨w1.heap.size+1,0,none⟩),.pointer (some ⟨w1.heap.size+2,0,none⟩)],.int .i64 q] w2 fun e w'=>e=.returned (.tuple #[.string K,.agg #[.bool nu,.string tx,.int .u64 (bt:Int)],.bool D])∧Below w2.heap.size w2 w'):=CF
 show Calls Tryz.prog 90 #[PtrM b,.string k,.int .i64 q] w fun e w'=>e=.returned (.tuple #[.string K,.agg #[.bool nu,.string tx,.int .u64 (bt:Int)],.bool D])∧Below w.heap.size w w'
 have HW1:=qh hw1
 have HW2:=qh hw2
 have HB:=qh hB
 have B2:=qh (below_then b1 b2)
 have R2:=qh (R1.out.below b2)
 clear h a hB hw1 hw2 b1 b2 r0 hT R1
 go_enter Tryz.func90,Tryz.ntmps90
 go_wp2_with fail
 rw [<-HW1.out,<-HB.out]
 refine CA.out.mono ?_
 rintro e w3 ⟨rfl,e3⟩
 rw [<-HW2.out] at e3
 subst e3
 clear CA HW2
 go_wp2_with fail
 refine CF.out.mono ?_
 rintro e w4 ⟨rfl,hb4⟩
 have R4:=qh (R2.out.below hb4)
 have B4:=qh (below_then B2.out hb4)
 have f0:=R4.out.frozen 0
 have f1:=R4.out.frozen 1
 have f2:=R4.out.frozen 2
 have e0:=R4.out.cell 0
 have e1:=R4.out.cell 1
 have e2:=R4.out.cell 2
 simp only [geS] at e0 e1 e2
 clear hb4 CF
 go_wp2_with fail
 have hB:w.heap.size<=B:=by rw [HB.out]; exact Nat.le_refl _
 exact bodyPost_ret (results_tct rfl _ _ B _ [.bool nu,.string tx,.int .u64 (bt:Int)] _ rfl (((R4.out.set 0 (.bool nu)).set 1 (.string tx)).set 2 (.int .u64 (bt:Int))) Tryz.underlying59 rfl (by kernel_rfl)) rfl
  ⟨rfl,((B4.out.setCell (p:=⟨B,0,none⟩) hB _).setCell (p:=⟨B,1,none⟩) hB _).setCell (p:=⟨B,2,none⟩) hB _⟩
theorem xSeekR (h:Side w0 N w (s.os b++os2)) (a:s.AtF L P) (k:ByteArray) (q:Int) :
  Calls Tryz.prog 89 #[PtrM b,.string k,.int .i64 q] w fun e w'=>e=.returned (.tuple #[.string (aftV L k false q).1,(aftV L k false q).2.1.v,.bool (aftV L k false q).2.2])∧Below w.heap.size w w':=by
 rw [<-seekV a.fine.rise]
 obtain ⟨B,hB⟩:=nmq (w.heap.size)
 obtain ⟨w1,hw1⟩:=nmq (w.alloc (.cells #[.bool false,.string ⟨#[]⟩,.int .u64 0] 59))
 have R1:=qh (show RowAt w1 B [.bool false,.string ⟨#[]⟩,.int .u64 0] 59 from by rw [hw1,hB]; exact RowAt.new w _ _)
 have b1:Below w.heap.size w w1:=by rw [hw1]; exact (Below.refl _ _).alloc (Nat.le_refl _) _
 have CA:=qh (xFromR b k w1)
 obtain ⟨w2,hw2⟩:=nmq (((w1.alloc (.cells #[PtrS b] 164)).alloc (.cells #[.func (.func 139) #[] #[]] 242)).alloc (.cells #[.string k] 9))
 have b2:Below w1.heap.size w1 w2:=by rw [hw2]; exact (((Below.refl _ w1).alloc (Nat.le_refl _) _).alloc (by simp) _).alloc (by simp; omega) _
 have r0:RowAt w2 w1.heap.size [PtrS b] 164:=by rw [hw2]; exact ((RowAt.new w1 _ _).alloc _).alloc _
 have CF:=xFirstR (lb:=#[.pointer (some ⟨w1.heap.size,0,none⟩),.pointer (some ⟨w1.heap.size+1,0,none⟩),.pointer (some ⟨w1.heap.size+2,0,none⟩)]) (j0:=L.pos k) (wD:=w2) ((h.below b1).below b2) a q (q0:=w1.heap.size) r0.lt (r0.cell 0) (Below.refl _ _)
  (fun I hI=>by rw [hw2]; exact gives_from I a.fine.rise rfl hI)
 obtain ⟨T,hT⟩:=nmq (firstV L q (L.pos k) (L.length-L.pos k))
 rw [<-hT] at CF ⊢
 obtain ⟨K,u,D⟩:=T
 obtain ⟨nu,tx,bt⟩:=u
 have CF:=qh CF
 have CF:Hid (Calls Tryz.prog 121 #[.func (.func 152) #[] #[.pointer (some ⟨w1.heap.size,0,none⟩),.pointer (some ⟨w1.heap.size+1,0,none⟩),.pointer (some ⟨w1.heap.size+2,0,none⟩)],.int .i64 q] w2 fun e w'=>e=.returned (.tuple #[.string K,.agg #[.bool nu,.string tx,.int .u64 (bt:Int)],.bool D])∧Below w2.heap.size w2 w'):=CF
 show Calls Tryz.prog 89 #[PtrM b,.string k,.int .i64 q] w fun e w'=>e=.returned (.tuple #[.string K,.agg #[.bool nu,.string tx,.int .u64 (bt:Int)],.bool D])∧Below w.heap.size w w'
 have HW1:=qh hw1
 have HW2:=qh hw2
 have HB:=qh hB
 have B2:=qh (below_then b1 b2)
 have R2:=qh (R1.out.below b2)
 clear h a hB hw1 hw2 b1 b2 r0 hT R1
 go_enter Tryz.func89,Tryz.ntmps89
 go_wp2_with fail
 rw [<-HW1.out,<-HB.out]
 refine CA.out.mono ?_
 rintro e w3 ⟨rfl,e3⟩
 rw [<-HW2.out] at e3
 subst e3
 clear CA HW2
 go_wp2_with fail
 refine CF.out.mono ?_
 rintro e w4 ⟨rfl,hb4⟩
 have R4:=qh (R2.out.below hb4)
 have B4:=qh (below_then B2.out hb4)
 have f0:=R4.out.frozen 0
 have f1:=R4.out.frozen 1
 have f2:=R4.out.frozen 2
 have e0:=R4.out.cell 0
 have e1:=R4.out.cell 1
 have e2:=R4.out.cell 2
 simp only [geS] at e0 e1 e2
 clear hb4 CF
 go_wp2_with fail
 have hB:w.heap.size<=B:=by rw [HB.out]; exact Nat.le_refl _
 exact bodyPost_ret (results_tct rfl _ _ B _ [.bool nu,.string tx,.int .u64 (bt:Int)] _ rfl (((R4.out.set 0 (.bool nu)).set 1 (.string tx)).set 2 (.int .u64 (bt:Int))) Tryz.underlying59 rfl (by kernel_rfl)) rfl
  ⟨rfl,((B4.out.setCell (p:=⟨B,0,none⟩) hB _).setCell (p:=⟨B,1,none⟩) hB _).setCell (p:=⟨B,2,none⟩) hB _⟩
end

end Go.Proofs.YtoljhoabbaigdaaGreat
