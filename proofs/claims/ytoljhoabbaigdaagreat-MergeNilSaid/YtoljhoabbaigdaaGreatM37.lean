/- Proved parts: T9yz T8g T9yk. Conditions: each theorem's own. -/
import Derived.Test.YtoljhoabbaigdaaGreatM36
import Derived.StillTailTactics
import Derived.Test.YtoljhoabbaigdaaGreatQ2
set_option maxRecDepth 100000
set_option maxHeartbeats 8000000
namespace Go.Proofs.YtoljhoabbaigdaaGreat
open Go.RowKit Go.Shelf

theorem xWalk (w:World) (T:Nat) (E:Nat->Prop) (s:Tab) (rv fv:Value) (vs:List Value) (k:ByteArray) (hv:TabV w T E s rv fv vs) (l N B0:Nat) (J Jx:List Itm->World->Prop)
  (hJ:AbidesFrom B0 J) (hY:∀ m pre x W,J pre W->pre.length<N->YieldAt Fence.wide m Tryz.prog l (encI x) W fun e W'=>(e=.returned (.bool true)∧J (pre++[x]) W'∧Below w.heap.size W W')∨(e=.returned (.bool false)∧Jx (pre++[x]) W')) :
  ∀ (h:Nat),h<=1000->∀ (n p:Nat) (pre:List Itm) (W:World),s.Sound h p->Below w.heap.size w W->J pre W->pre.length+(s.give k h p).length<=N →
  CallsIn Fence.wide n Tryz.prog 166 #[Ptr T,.int .i64 p,.int .i64 ((h:Int)+1),.string k,.func (.yield l) #[] #[]] W fun e W' =>
   (e=.returned (.bool true)∧J (pre++(s.give k h p).map toI) W'∧Below w.heap.size W W')∨(e=.returned (.bool false)∧∃ q,q <+: (s.give k h p).map toI∧Jx (pre++q) W'):=by
 intro h
 induction h with
 | zero =>
  intro _ n p pre W h1 h2 h3 h4
  exact xWalk0 w T E s rv fv vs k hv l N B0 J Jx hJ hY n p pre W h1 h2 h3 h4
 | succ h ih =>
  intro hh n p pre W h1 h2 h3 h4
  exact xWalkS w T E s rv fv vs k hv l N B0 J Jx hJ h (ih (by omega)) (by omega) n p pre W h1 h2 h3 h4

theorem iterTree (w:World) (T:Nat) (E:Nat->Prop) (s:Tab) (rv fv:Value) (vs:List Value) (k:ByteArray) (hv:TabV w T E s rv fv vs) (d:Nat) (hd:s.depth=d+1) (hs:s.Sound d s.root) (hd2:d<=1000):Iter w (some ⟨T,0,none⟩) k ((s.give k d s.root).map toI):=by
 intro w2 q n hb hq hq2 c0 c1 hn l J Jx W hW hJ hJx hY h0
 have bW:Below w.heap.size w W:=hb.trans (hW.mono hb.size)
 have hp:=xWalk w T E s rv fv vs k hv l _ W.heap.size J Jx hJ (fun m pre x W hj hl=>yield_anyDepth rfl m (hY pre x W hj hl)) d hd2
 have hVW:=hv.below bW
 have c0':W.cell? ⟨q,0,none⟩=some (Ptr T):=(hW.cell (p:=⟨q,0,none⟩) (by show q<w2.heap.size; omega)).trans c0
 have c1':W.cell? ⟨q+1,0,none⟩=some (.string k):=(hW.cell (p:=⟨q+1,0,none⟩) (by show q+1<w2.heap.size; omega)).trans c1
 have d2:W.cell? ⟨T,2,none⟩=some (.int .i64 s.root):=hVW.row.cell 2
 have d3:W.cell? ⟨T,3,none⟩=some (.int .i64 ((d:Int)+1)):=by have:=hVW.row.cell 3; rw [hd] at this; exact this
 have hJd:J [] W.drew:=hJ [] W W.drew none h0 ⟨rfl,rfl,rfl,Nat.le_refl _,fun _ _ _=>rfl⟩ (fun r e=>by cases e)
 have WC:=qh (show Calls Tryz.prog 166 #[Ptr T,.int .i64 s.root,.int .i64 ((d:Int)+1),.string k,.func (.yield l) #[] #[]] W.drew fun e W'=>∃ bv,e=.returned (.bool bv)∧((∃ ys,ys=(s.give k d s.root).map toI∧J ys W')∨∃ pre,pre <+: (s.give k d s.root).map toI∧Jx pre W') from
  (callsIn_wide.1 (hp (n-1) s.root [] W.drew hs bW.drew hJd (by simp))).mono fun e W' h=>by
   rcases h with ⟨rfl,h1,_⟩ | ⟨rfl,q',h1,h2⟩
   ·exact ⟨_,rfl,.inl ⟨_,rfl,by simpa using h1⟩⟩
   ·exact ⟨_,rfl,.inr ⟨q',h1,by simpa using h2⟩⟩)
 obtain ⟨R,hR⟩:=nmq (s.root)
 have HR:=qh hR
 rw [<-hR] at d2
 rw [<-hR] at WC ⊢
 clear hp hVW c0 c1 hv hY hJ hJx hb hW bW h0 hJd hs hd hR
 have dz:(0:Int)<(d:Int)+1:=by omega
 refine callsIn_wide.2 ?_
 show Calls Tryz.prog 165 #[.func (.yield l) #[] #[],.pointer (some ⟨q,0,none⟩),.pointer (some ⟨q+1,0,none⟩)] W _
 go_enter Tryz.func165,Tryz.ntmps165
 go_wp2_with fail
 go_still_tail 11,(by kernel_rfl)
 change wpList _ _ _ _ _ W.drew
 go_wp2_with (go_at_call 166; refine WC.out.mono ?_; rintro e W1 ⟨bv,rfl,hpo⟩; have HPO:=qh hpo; clear hpo)
 exact bodyPost_end (results_none rfl _ _ _) rfl ⟨⟨_,rfl⟩,HPO.out⟩

end Go.Proofs.YtoljhoabbaigdaaGreat

namespace Go.Proofs.YtoljhoabbaigdaaGreat
open Go.RowKit

def Tab.sub (s:Tab):Nat->Nat->KV
 | 0,p=>s.nd p
 | h+1,p=>(s.nd p).flatMap fun x=>s.sub h x.2.toNat
section
variable {s:Tab} {L:Nat->List Nat} {l:KV}
theorem Whole.sub_all (m:Whole s L l):∀ h,h<s.depth->(L h).flatMap (s.sub h)=l
 | 0,_=>m.leaf
 | h+1,hd=>by
  have ih:=Whole.sub_all m h (by omega)
  have e:(L (h+1)).flatMap (s.sub (h+1))=((L (h+1)).flatMap s.nd).flatMap fun x=>s.sub h x.2.toNat:=by
   rw [List.flatMap_assoc]; rfl
  rw [e,m.linkW hd,List.flatMap_map]
  exact ih
theorem Whole.sub_root (m:Whole s L l):s.sub (s.depth-1) s.root=l:=by
 have:=m.sub_all (s.depth-1) (by have:=m.d1; omega)
 rw [m.top] at this
 simpa using this
theorem Whole.kidsW (m:Whole s L l) {h p:Nat} (hd:h+1<s.depth) (hp:p ∈ L (h+1)):∃ M:List Nat,s.nd p=M.map (fun r=>((s.nd r).key 0,(r:Int)))∧∀ r,r ∈ M->r ∈ L h:=by
 obtain ⟨A,B,X,M,Y,_,h2,_,h4,_⟩:=(m.at h 0).seg hd (a:=0) (n:=(s.nd p).length) hp
 rw [List.drop_zero,List.take_length] at h4
 refine ⟨M,?_,fun r hr=>by rw [h2]; simp [hr]⟩
 rw [h4]
 exact List.map_congr_left fun r _=>lk_self _ _ _
theorem Whole.sub_mem (m:Whole s L l) (h0:RiseL l) {h p:Nat} (hd:h<s.depth) (hp:p ∈ L h):RiseL (s.sub h p):=by
 have e:=m.sub_all h hd
 rw [<-e] at h0
 unfold RiseL at h0 ⊢
 rw [List.pairwise_flatMap] at h0
 exact h0.1 p hp
theorem Whole.sub_head (m:Whole s L l):∀ h p,h<s.depth->p ∈ L h->0<(s.sub h p).length∧(s.sub h p).key 0=(s.nd p).key 0
 | 0,p,hd,hp=>⟨by have:=m.pos hd hp; exact this.1,rfl⟩
 | h+1,p,hd,hp=>by
  obtain ⟨M,e,hM⟩:=m.kidsW hd hp
  have sz:=m.pos hd hp
  have es:s.sub (h+1) p=M.flatMap (s.sub h):=by
   show (s.nd p).flatMap _=_
   rw [e,List.flatMap_map]; rfl
  match M,e,hM,es with
  | [],e,_,_=>rw [e] at sz; simp at sz
  | r :: M,e,hM,es =>
   obtain ⟨a1,a2⟩:=Whole.sub_head m h r (by omega) (hM r (by simp))
   rw [es,List.flatMap_cons]
   refine ⟨by rw [List.length_append]; omega,?_⟩
   rw [KV.key_app_l a1,a2,e]; rfl
theorem pos_zero {z:KV} {k:ByteArray} (h:ltB (z.key 0) k=false):z.pos k=0:=by
 cases z with
 | nil=>rfl
 | cons x z =>
  have e:KV.pos k (x :: z)=if ltB x.1 k then KV.pos k z+1 else 0:=rfl
  have h:ltB x.1 k=false:=h
  rw [e,if_neg (by rw [h]; decide)]
theorem Whole.give_eq (m:Whole s L l) (h0:RiseL l) (k:ByteArray):∀ h p,h<s.depth->p ∈ L h->s.give k h p=(s.sub h p).drop ((s.sub h p).pos k)
 | 0,p,_,_=>rfl
 | h+1,p,hd,hp=>by
  obtain ⟨M,e,hM⟩:=m.kidsW hd hp
  have sz:=m.pos hd hp
  have rp:RiseL (s.nd p):=by
   have:=m.rise h0 (h+1) hd
   unfold RiseL at this
   rw [List.pairwise_flatMap] at this
   exact this.1 p hp
  obtain ⟨a,ha⟩:=nmq ((s.nd p).kid k)
  have al:a<(s.nd p).length:=by rw [ha]; exact kid_lt (by omega)
  have ml:M.length=(s.nd p).length:=by rw [e,List.length_map]
  have am:a<M.length:=by omega
  have key:∀ i (hi:i<M.length),(s.nd p).key i=(s.nd M[i]).key 0:=fun i hi=>by
   unfold KV.key
   rw [List.getD_eq_getElem?_getD (l:=s.nd p),e,List.getElem?_map,List.getElem?_eq_getElem hi]; rfl
  have es:s.sub (h+1) p=M.flatMap (s.sub h):=by
   show (s.nd p).flatMap _=_
   rw [e,List.flatMap_map]; rfl
  have eg:s.give k (h+1) p=(M.drop a).flatMap (s.give k h):=by
   show ((s.nd p).drop ((s.nd p).kid k)).flatMap _=_
   rw [<-ha,e,<-List.map_drop,List.flatMap_map]; rfl
  have cut:M=M.take a++(M[a] :: M.drop (a+1)):=by rw [<-List.drop_eq_getElem_cons am,List.take_append_drop]
  have rs:RiseL (M.flatMap (s.sub h)):=by rw [<-es]; exact m.sub_mem h0 hd hp
  obtain ⟨q,hq⟩:=nmq (M[a])
  have qm:q ∈ L h:=hM q (by rw [hq]; exact List.getElem_mem am)
  obtain ⟨q1,q2⟩:=m.sub_head h q (by omega) qm
  obtain ⟨M1,hM1⟩:=nmq (M.take a)
  obtain ⟨M3,hM3⟩:=nmq (M.drop (a+1))
  have ed:M.drop a=q :: M3:=by rw [List.drop_eq_getElem_cons am,hq,hM3]
  rw [<-hM1,<-hq,<-hM3] at cut
  have late:∀ r,r ∈ M3->r ∈ L h∧ltB k ((s.nd r).key 0)=true:=fun r hr=>by
   refine ⟨hM r (by rw [cut]; simp [hr]),?_⟩
   rw [hM3] at hr
   obtain ⟨i,hi,rfl⟩:=List.getElem_of_mem hr
   rw [List.length_drop] at hi
   rw [List.getElem_drop,<-key (a+1+i) (by omega)]
   exact kid_above rp (by rw [<-ha]; omega) (by omega)
  have e3:M3.flatMap (s.give k h)=M3.flatMap (s.sub h):=fm_congr fun r hr=>by
   obtain ⟨r1,r2⟩:=late r hr
   rw [Whole.give_eq m h0 k h r (by omega) r1,pos_zero (by rw [(m.sub_head h r (by omega) r1).2]; exact ltB_asym r2),List.drop_zero]
  rw [cut] at rs es
  rw [List.flatMap_append,List.flatMap_cons] at rs es
  have hU:∀ x,x ∈ M1.flatMap (s.sub h)->ltB x.1 k=true:=fun x hx=>by
   unfold RiseL at rs
   rw [List.pairwise_append] at rs
   obtain ⟨n0,k0⟩:=KV.key_mem (s.sub h q) q1
   have lt:=rs.2.2 x hx _ (List.mem_append_left _ k0)
   have c:a≠0:=fun t=>by
    rw [hM1,t,List.take_zero] at hx; cases hx
   have nb:ltB k ((s.nd p).key a)=false:=by rw [ha]; exact kid_below (.inl (by rw [<-ha]; exact c))
   rw [key a am,<-hq,<-q2] at nb
   exact ltB_le_trans lt nb
  have hW:∀ x,x ∈ M3.flatMap (s.sub h)->ltB x.1 k=false:=fun x hx=>by
   rw [List.mem_flatMap] at hx
   obtain ⟨r,hr,hx⟩:=hx
   obtain ⟨r1,r2⟩:=late r hr
   obtain ⟨i,hi,rfl⟩:=List.getElem_of_mem hx
   rw [KV.getE _ _ hi]
   have rr:=m.sub_mem h0 (by omega) r1
   have hh:=(m.sub_head h r (by omega) r1).2
   by_cases c:i=0
   ·subst c
    show ltB ((s.sub h r).key 0) k=false
    rw [hh]; exact ltB_asym r2
   ·have:=KV.rise_at rr (show 0<i by omega) hi
    rw [hh] at this
    exact ltB_asym (ltB_trans r2 this)
  rw [eg,ed,List.flatMap_cons,e3,Whole.give_eq m h0 k h q (by omega) qm,es,KV.pos_app hU,KV.pos_app_r hW,List.drop_length_add_append,List.drop_append_of_le_length (KV.pos_le k _)]
theorem Whole.sound (m:Whole s L l) (hs:∀ x,x ∈ l->x.1.size<=1000000):∀ h p,h<s.depth->p ∈ L h->s.Sound h p
 | 0,p,hd,hp=>⟨m.lt 0 p hd hp,by have:=m.pos hd hp; omega,fun x hx=>hs x (by rw [<-m.leaf]; exact List.mem_flatMap.2 ⟨p,hp,hx⟩)⟩
 | h+1,p,hd,hp=>by
  refine ⟨m.lt _ p hd hp,by have:=m.pos hd hp; omega,fun x hx=>?_⟩
  obtain ⟨M,e,hM⟩:=m.kidsW hd hp
  rw [e,List.mem_map] at hx
  obtain ⟨r,hr,rfl⟩:=hx
  exact ⟨r,rfl,Whole.sound m hs h r (by omega) (hM r hr)⟩
end

end Go.Proofs.YtoljhoabbaigdaaGreat

namespace Go.Proofs.YtoljhoabbaigdaaGreat
open Go.RowKit Go.Shelf

section
attribute [local go_sem] Oper.semAt_some
theorem iterBare (w:World) (T:Nat) (E:Nat->Prop) (s:Tab) (rv fv:Value) (vs:List Value) (k:ByteArray) (hv:TabV w T E s rv fv vs) (hd:s.depth=0):Iter w (some ⟨T,0,none⟩) k []:=by
 intro w2 q n hb hq hq2 c0 c1 hn l J Jx W hW hJ hJx hY h0
 have bW:Below w.heap.size w W:=hb.trans (hW.mono hb.size)
 have c0':W.cell? ⟨q,0,none⟩=some (Ptr T):=(hW.cell (p:=⟨q,0,none⟩) (by show q<w2.heap.size; omega)).trans c0
 have d3:W.cell? ⟨T,3,none⟩=some (.int .i64 0):=by have:=(hv.below bW).row.cell 3; rw [hd] at this; exact this
 have H0:=qh h0
 clear hv hY hJ hJx hb hW bW h0 c0 c1
 refine callsIn_of_wp Tryz.func165 rfl trivial ?_ rfl
 simp only [Tryz.ntmps165,List.size_toArray,List.length_cons,List.length_nil,Nat.reduceAdd,Nat.reduceSub,Array.replicate_succ,Array.replicate_zero,List.push_toArray,List.append_toArray,List.nil_append,List.cons_append]
 gi_wp2
 go_end0
 exact ⟨⟨_,rfl⟩,.inl ⟨[],rfl,H0.out⟩⟩
end
theorem iterRep (w:World) (T:Nat) (E:Nat->Prop) (l:KV) (b:Nat) (k:ByteArray) (h:Rep w T E l b) (hl:l.length<=4000) (hs:∀ x,x ∈ l->x.1.size<=1000000):Iter w (some ⟨T,0,none⟩) k ((l.drop (l.pos k)).map toI):=by
 obtain ⟨s,⟨rv,fv,vs,h⟩,ok,_⟩:=h
 have dp:=ok.deep hl
 rcases ok with ⟨rfl,rfl⟩ | ⟨L,m,h0,_⟩
 ·exact iterBare w T E _ rv fv vs k h rfl
 ·obtain ⟨d,hd⟩:∃ d,s.depth=d+1:=⟨s.depth-1,by have:=m.d1; omega⟩
  have rm:s.root ∈ L d:=by rw [show d=s.depth-1 by omega,m.top]; simp
  have it:=iterTree w T E s rv fv vs k h d hd (m.sound hs d s.root (by omega) rm) (by omega)
  rw [m.give_eq h0 k d s.root (by omega) rm,show d=s.depth-1 by omega,m.sub_root] at it
  exact it
theorem firstK_drop {l:KV} (hs:∀ x,x ∈ l->x.1.size<=1000000) (i:Nat):firstK ((l.drop i).map toI)=(if i<l.length then l.key i else ⟨#[]⟩)∧firstN ((l.drop i).map toI)=(if i<l.length then l.num i else 0)∧decide ((l.drop i).map toI≠[])=decide (i<l.length):=by
 by_cases h:i<l.length
 ·rw [if_pos h,if_pos h,List.drop_eq_getElem_cons h,List.map_cons]
  have hz:=toI_val (hs _ (List.getElem_mem h))
  refine ⟨?_,?_,by simp [h]⟩
  ·show (toI l[i]).1.1=_
   rw [hz,KV.getE _ _ h]
  ·show (toI l[i]).1.2=_
   rw [hz,KV.getE _ _ h]
 ·rw [if_neg h,if_neg h,List.drop_of_length_le (by omega)]
  exact ⟨rfl,rfl,by simp [h]⟩
theorem aft_drop {l:KV} {k:ByteArray} (h0:RiseL l) (hs:∀ x,x ∈ l->x.1.size<=1000000):aftI k ((l.drop (l.pos k)).map toI)=(l.drop (l.aft k)).map toI:=by
 have one:∀ i (hi:i<l.length),l.key i≠k->aftI k ((l.drop i).map toI)=(l.drop i).map toI:=fun i hi hn=>by
  rw [List.drop_eq_getElem_cons hi,List.map_cons]
  unfold aftI
  have hz:=toI_val (hs _ (List.getElem_mem hi))
  rw [List.dropWhile_cons,if_neg]
  rw [hz,KV.getE _ _ hi]
  simpa using hn
 by_cases c:l.has k=true
 ·obtain ⟨hp,hk⟩:=(KV.has_iff l k).1 c
  have ea:l.aft k=l.pos k+1:=if_pos c
  rw [ea,List.drop_eq_getElem_cons hp,List.map_cons]
  have hz:=toI_val (hs _ (List.getElem_mem hp))
  have e:aftI k (toI l[l.pos k] :: (l.drop (l.pos k+1)).map toI)=aftI k ((l.drop (l.pos k+1)).map toI):=by
   unfold aftI
   rw [List.dropWhile_cons,if_pos]
   rw [hz,KV.getE _ _ hp]
   simpa using hk
  rw [e]
  by_cases q:l.pos k+1<l.length
  ·refine one _ q fun t=>?_
   have:=KV.rise_at h0 (show l.pos k<l.pos k+1 by omega) q
   rw [hk,t,ltB_irr] at this
   cases this
  ·rw [List.drop_of_length_le (by omega)]; rfl
 ·have ea:l.aft k=l.pos k:=if_neg c
  rw [ea]
  by_cases q:l.pos k<l.length
  ·exact one _ q fun t=>c ((KV.has_iff l k).2 ⟨q,t⟩)
  ·rw [List.drop_of_length_le (by omega)]; rfl
theorem xSeek (w:World) (T:Nat) (E:Nat->Prop) (l:KV) (b:Nat) (k:ByteArray) (h:Rep w T E l b) (hl:l.length<=4000) (hs:∀ x,x ∈ l->x.1.size<=1000000) :
  Calls Tryz.prog 139 #[Ptr T,.string k] w fun e w'=>e=.returned (.tuple #[.string (if l.pos k<l.length then l.key (l.pos k) else ⟨#[]⟩),.int .i64 (if l.pos k<l.length then l.num (l.pos k) else 0),.bool (decide (l.pos k<l.length))])∧Below w.heap.size w w':=by
 have:=xSeekI w (some ⟨T,0,none⟩) k _ (iterRep w T E l b k h hl hs)
 obtain ⟨e1,e2,e3⟩:=firstK_drop hs (l.pos k)
 rw [e1,e2,e3] at this
 exact this
theorem xAfter (w:World) (T:Nat) (E:Nat->Prop) (l:KV) (b:Nat) (k:ByteArray) (h:Rep w T E l b) (hl:l.length<=4000) (hs:∀ x,x ∈ l->x.1.size<=1000000) :
  Calls Tryz.prog 140 #[Ptr T,.string k] w fun e w'=>e=.returned (.tuple #[.string (if l.aft k<l.length then l.key (l.aft k) else ⟨#[]⟩),.int .i64 (if l.aft k<l.length then l.num (l.aft k) else 0),.bool (decide (l.aft k<l.length))])∧Below w.heap.size w w':=by
 have h0:RiseL l:=by obtain ⟨s,_,ok,_⟩:=h; exact ok.rise
 have:=xAfterI w (some ⟨T,0,none⟩) k _ (iterRep w T E l b k h hl hs)
 rw [aft_drop h0 hs] at this
 obtain ⟨e1,e2,e3⟩:=firstK_drop hs (l.aft k)
 rw [e1,e2,e3] at this
 exact this

end Go.Proofs.YtoljhoabbaigdaaGreat
