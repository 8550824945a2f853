/- Proved parts: T9e T9o T9g T9q T8t T8x T8y. Conditions: each theorem's own. -/
import Derived.Test.YtomjlopcifafpaaGreatM28
import Derived.Test.YtomjlopcifafpaaGreatQ1
import Derived.Test.YtomjlopcifafpaaGreatQ2
set_option maxRecDepth 100000
set_option maxHeartbeats 8000000
namespace Go.Proofs.YtomjlopcifafpaaGreat
open Go.RowKit

theorem xInsert0 (w:World) (T:Nat) (E:Nat->Prop) (s:Tab) (v:Value) (k:ByteArray) (n:Int) (h:TabG w T E s) (hv:SlW w v []) (hf:∀ p,p ∈ s.free->p<s.nds.length) (hn:s.nds.length<=900000) (hn2:s.free.length<=900000) :
  Calls Tryz.prog 167 #[Ptr T,v,.agg #[.string k,.int .i64 n]] w fun r w'=>r=.returned (.tuple #[])∧LeftP w T E { s.take [(k,n)] with root:=s.place,depth:=1 } w':=by
 obtain ⟨rv,fv,vs,h⟩:=h
 obtain ⟨A,c,rfl,_⟩:=hv
 obtain ⟨q,hq⟩:=nmq (w.heap.size)
 obtain ⟨w1,hw1⟩:=nmq ((w.alloc (.cells #[.string k,.int .i64 n] 226)).alloc (.cells #[.string k,.int .i64 n] 226))
 have B1:Below w.heap.size w w1:=by rw [hw1]; exact ((Below.refl _ _).alloc (Nat.le_refl _) _).alloc (by simp) _
 have s1:w1.heap.size=q+2:=by rw [hw1,hq]; simp
 have r1:RowAt w1 (q+1) [.string k,.int .i64 n] 226:=by
  rw [hw1,hq]
  have:=RowAt.new (w.alloc (.cells #[.string k,.int .i64 n] 226)) [.string k,.int .i64 n] 226
  simpa using this
 have v1:TabV w1 T (fun i=>E i∨i=q+1) s rv fv vs:=(h.below B1).grow (fun i e=>.inl e) (fun i e=>by
  rcases e with e | e
  ·have:=h.lt i e; omega
  ·omega)
 have wn:WinAt w1 (q+1) 0 1 [(k,n)]:=by
  refine ⟨Nat.le_refl _,by decide,by decide,fun j u hj=>?_,fun j hj=>?_,⟨_,r1⟩⟩
  ·rw [Nat.zero_add,r1.cell]; exact hj
  ·rw [Nat.zero_add,r1.cell,List.getElem?_eq_getElem hj]; rfl
 have TC:=qh (xTake w1 T (fun i=>E i∨i=q+1) s rv fv vs (some ⟨q+1,0,none⟩) 1 1 [(k,n)] v1 wn.node (fun i j ⟨_,_,_,e,_⟩=>by
  injection e with e _ _
  injection e with e
  injection e with e _ _
  have e:i=q+1:=e.symm
  refine ⟨⟨.inr e,fun t=>?_,fun t=>?_,fun t=>?_⟩,fun m hm f=>?_⟩
  ·have:=h.lt T h.eT; omega
  ·have:=h.lt i (h.eN i t).1; omega
  ·have:=h.lt i (h.eF i t).1; omega
  ·have:=h.lt i (h.eW m i j hm f).1; omega) hf hn hn2)
 have FIN:=qh (show ∀ w3,TookP w1 T (fun i=>E i∨i=q+1) s rv fv [(k,n)] w3->LeftP w T E { s.take [(k,n)] with root:=s.place,depth:=1 } ((w3.setCell ⟨T,2,none⟩ (.int .i64 s.place)).setCell ⟨T,3,none⟩ (.int .i64 1)) from fun w3 ⟨⟨E3,⟨rv3,fv3,vs3,h3⟩,a3,c3⟩,_⟩=>by
  have h4:=h3.field (s':={ s.take [(k,n)] with root:=s.place }) (u:=.int .i64 s.place) 2 rfl rfl rfl
  have h5:=h4.field (s':={ s.take [(k,n)] with root:=s.place,depth:=1 }) (u:=.int .i64 1) 3 rfl rfl rfl
  refine ⟨E3,⟨rv3,fv3,vs3,h5⟩,fun i e=>?_,?_⟩
  ·rcases a3 i e with (f | f) | f
   ·exact .inl f
   ·exact .inr (by omega)
   ·exact .inr (by omega)
  ·refine Chg.setCell (Chg.setCell ((Chg.of_below B1).trans c3 fun i e=>?_) (.inl h.eT) _) (.inl h.eT) _
   rcases e with e | e
   ·exact .inl e
   ·exact .inr (by omega))
 have ST:=qh (show ∀ w3,TookP w1 T (fun i=>E i∨i=q+1) s rv fv [(k,n)] w3->(∃ u,w3.cell? ⟨T,2,none⟩=some u)∧(∃ u,w3.cell? ⟨T,3,none⟩=some u)∧∀ j,w3.frozen? ⟨T,j,none⟩=false from fun w3 ⟨⟨E3,⟨rv3,fv3,vs3,h3⟩,_,_⟩,_⟩=>⟨⟨_,h3.row.cell 2⟩,⟨_,h3.row.cell 3⟩,fun j=>h3.row.frozen j⟩)
 have HW1:=qh hw1
 have HQ:=qh hq
 clear h v1 wn r1 s1 B1 hw1 hq hn hn2 hf
 go_enter Tryz.func167,Tryz.ntmps167
 go_wp2_with (go_at_call 181; rw [<-HW1.out,<-HQ.out]; refine TC.out.mono ?_; rintro r w3 ⟨rfl,ht⟩; obtain ⟨⟨u2,e2⟩,⟨u3,e3⟩,z⟩:=ST.out w3 ht; have z2:=z 2; have z3:=z 3; have T3:=qh ht; clear ht z)
 (try simp only [Exit.inBlock,Exit.then])
 refine bodyPost_ret (results_none rfl _ _ _) rfl ?_
 exact ⟨rfl,FIN.out w3 T3.out⟩

def Tab.cutR (s:Tab):Tab:=(s.put s.root ((s.nd s.root).take 3)).take ((s.nd s.root).drop 3)
def Tab.top (s:Tab):Tab :=
 if 4<(s.nd s.root).length then { s.cutR.take [((s.nd s.root).key 0,(s.root:Int)),((s.nd s.root).key 3,(s.place:Int))] with root:=s.cutR.place,depth:=s.depth+1 }
 else s
theorem xTakeNew (w:World) (T:Nat) (E:Nat->Prop) (s:Tab) (zs:KV) (h:TabG w T E s) (h0:0<zs.length) (hm:zs.length<=1000) (hf:∀ p,p ∈ s.free->p<s.nds.length) (hn:s.nds.length<=900000) (hn2:s.free.length<=900000) :
  Calls Tryz.prog 181 #[Ptr T,.slice (some ⟨w.heap.size,0,none⟩) zs.length zs.length] (w.alloc (.cells (itc zs).toArray 226)) fun x w'=>x=.returned (.int .i64 s.place)∧LeftP w T E (s.take zs) w':=by
 obtain ⟨rv,fv,vs,h⟩:=h
 have B1:Below w.heap.size w (w.alloc (.cells (itc zs).toArray 226)):=(Below.refl _ _).alloc (Nat.le_refl _) _
 have r1:RowAt (w.alloc (.cells (itc zs).toArray 226)) w.heap.size (itc zs) 226:=RowAt.new w _ _
 obtain ⟨w1,hw1⟩:=nmq (w.alloc (.cells (itc zs).toArray 226))
 rw [<-hw1] at B1 r1 ⊢
 have s1:w1.heap.size=w.heap.size+1:=by rw [hw1]; simp
 have v1:TabV w1 T (fun i=>E i∨i=w.heap.size) s rv fv vs:=(h.below B1).grow (fun i e=>.inl e) (fun i e=>by
  rcases e with e | e
  ·have:=h.lt i e; omega
  ·omega)
 have wn:WinAt w1 w.heap.size 0 zs.length zs:=by
  refine ⟨Nat.le_refl _,by unfold maxLen; omega,h0,fun j u hj=>?_,fun j hj=>?_,⟨_,r1⟩⟩
  ·rw [Nat.zero_add,r1.cell]; exact hj
  ·rw [Nat.zero_add,r1.cell,List.getElem?_eq_getElem (by rw [itc_len]; exact hj)]; rfl
 refine (xTake w1 T (fun i=>E i∨i=w.heap.size) s rv fv vs (some ⟨w.heap.size,0,none⟩) zs.length zs.length zs v1 wn.node (fun i j ⟨_,_,_,e,_⟩=>by
  injection e with e _ _
  injection e with e
  injection e with e _ _
  have e:i=w.heap.size:=e.symm
  refine ⟨⟨.inr e,fun t=>?_,fun t=>?_,fun t=>?_⟩,fun m hm f=>?_⟩
  ·have:=h.lt T h.eT; omega
  ·have:=h.lt i (h.eN i t).1; omega
  ·have:=h.lt i (h.eF i t).1; omega
  ·have:=h.lt i (h.eW m i j hm f).1; omega) hf hn hn2).mono fun x w3 ⟨hx,⟨E3,h3,a3,c3⟩,_⟩=>⟨hx,E3,h3,fun i e=>?_,(Chg.of_below B1).trans c3 fun i e=>?_⟩
 ·rcases a3 i e with (f | f) | f
  ·exact .inl f
  ·exact .inr (by omega)
  ·exact .inr (by omega)
 ·rcases e with e | e
  ·exact .inl e
  ·exact .inr (by omega)
structure FineTop (s:Tab):Prop where
 ir:s.root<s.nds.length
 l0:0<(s.nd s.root).length
 lr:(s.nd s.root).length<=10000
 free:∀ f,f ∈ s.free->f<s.nds.length
 ln:s.nds.length<=850000
 lf:s.free.length<=850000
 dep:s.depth<=850000

theorem xInsert1 (w:World) (T:Nat) (E:Nat->Prop) (s:Tab) (v:Value) (ws:List (Nat × Nat)) (e:Nat) (x:ByteArray × Int) (h:TabG w T E s) (hv:SlW w v ws) (hb:∀ k,v.ownBlock=some k->¬ E k) (he:ws.length=e+1) (hws:ws.length<=10000)
  (h1:(ws.getD e (0,0)).1<s.nds.length) (h2:(ws.getD e (0,0)).2<=(s.nd (ws.getD e (0,0)).1).length) (h3:0<(s.nd (ws.getD e (0,0)).1).length) (h4:(s.nd (ws.getD e (0,0)).1).length<=100000)
  (hu:FineUps ws e (s.put (ws.getD e (0,0)).1 (ins (s.nd (ws.getD e (0,0)).1) (ws.getD e (0,0)).2 x))) (ht:FineTop (Tab.ups ws e (s.put (ws.getD e (0,0)).1 (ins (s.nd (ws.getD e (0,0)).1) (ws.getD e (0,0)).2 x)))) :
  Calls Tryz.prog 167 #[Ptr T,v,.agg #[.string x.1,.int .i64 x.2]] w fun r w'=>r=.returned (.tuple #[])∧LeftP w T E (Tab.ups ws e (s.put (ws.getD e (0,0)).1 (ins (s.nd (ws.getD e (0,0)).1) (ws.getD e (0,0)).2 x))).top w':=by
 obtain ⟨A,c,rfl,hs⟩:=hv
 obtain ⟨g,rfl,_⟩:=hs 0 (by omega)
 obtain ⟨q,hq⟩:=nmq (w.heap.size)
 obtain ⟨w1,hw1⟩:=nmq (w.alloc (.cells #[.string x.1,.int .i64 x.2] 226))
 have B1:Below w.heap.size w w1:=by rw [hw1]; exact (Below.refl _ _).alloc (Nat.le_refl _) _
 have r1:RowAt w1 q [.string x.1,.int .i64 x.2] 226:=by rw [hw1,hq]; exact RowAt.new w _ _
 have gE:¬ E g:=hb g rfl
 have WC:=qh (show ∀ w',Chg E w w'->∀ j,j<ws.length->w'.cell? ⟨g,j * 2,none⟩=some (.int .i64 (ws.getD j (0,0)).1)∧w'.cell? ⟨g,j * 2+1,none⟩=some (.int .i64 (ws.getD j (0,0)).2) from fun w' hc j hj=>by
  obtain ⟨g',e',a1,a2⟩:=hs j hj
  injection e' with e'
  injection e' with e' _ _
  subst e'
  exact ⟨hc.cell a1 gE,hc.cell a2 gE⟩)
 obtain ⟨P,hP⟩:=nmq ((ws.getD e (0,0)).1)
 obtain ⟨a,ha⟩:=nmq ((ws.getD e (0,0)).2)
 rw [<-hP] at h1
 rw [<-hP,<-ha] at h2
 rw [<-hP] at h3 h4
 rw [<-hP,<-ha] at hu ht ⊢
 have we:=WC.out w1 (Chg.of_below B1) e (by omega)
 rw [<-hP,<-ha] at we
 have LC:=qh (xLay w1.drew T E s P a x (h.below (w':=w1.drew) B1.drew) h1 h2 h3 h4)
 have L1:=qh (show ∀ w3,LeftP w1.drew T E (s.put P (ins (s.nd P) a x)) w3->LeftP w T E (s.put P (ins (s.nd P) a x)) w3 from fun w3 ⟨E3,h3,a3,c3⟩=>⟨E3,h3,fun k e=>by
  rcases a3 k e with f | f
  ·exact .inl f
  ·exact .inr (Nat.le_trans B1.size f),(Chg.of_below B1.drew).then c3⟩)
 obtain ⟨S0,hS0⟩:=nmq (s.put P (ins (s.nd P) a x))
 rw [<-hS0] at LC L1 hu ht ⊢
 obtain ⟨S,hS⟩:=nmq (Tab.ups ws e S0)
 rw [<-hS] at ht ⊢
 have HU:=qh hu
 have HT:=qh ht
 have HS:=qh hS
 have HW1:=qh hw1
 have HQ:=qh hq
 have R1:=qh r1
 have HE:=qh he
 have LT:=qh h.lt
 have wl:=we.1
 have wr:=we.2
 have x0:=r1.cell 0
 have x1:=r1.cell 1
 simp only [geS] at x0 x1
 rw [he] at hws ⊢
 have ei:(e:Int)+1-1=(e:Int):=by omega
 have e0:¬ ((e:Int)+1=0):=by omega
 have e1z:(e:Int)<(e:Int)+1:=by omega
 clear hu ht hS hw1 hq r1 h h1 h2 h3 h4 hs hb hP ha we hS0 he B1
 go_enter Tryz.func167,Tryz.ntmps167
 go_wp2_with fail
 rw [<-HW1.out,<-HQ.out]
 have qE:∀ k,E k->k≠q:=fun k ek=>by have:=LT.out k ek; have:=HQ.out; omega
 have SH:=qh (show ∀ w3,LeftP w1.drew T E S0 w3->w3.cell? ⟨g,e * 2,none⟩=some (.int .i64 P)∧w3.cell? ⟨g,e * 2+1,none⟩=some (.int .i64 a)∧w3.cell? ⟨q,0,none⟩=some (.string x.1)∧w3.cell? ⟨q,1,none⟩=some (.int .i64 x.2) from fun w3 ⟨E3,h3,a3,c3⟩ =>
  ⟨c3.cell wl gE,c3.cell wr gE,c3.cell x0 (fun k=>qE _ k rfl),c3.cell x1 (fun k=>qE _ k rfl)⟩)
 clear qE
 refine wp_region_held_drew (S:=(fun w'=>w'.cell? ⟨g,e * 2,none⟩=some (.int .i64 P)∧w'.cell? ⟨g,e * 2+1,none⟩=some (.int .i64 a)∧w'.cell? ⟨q,0,none⟩=some (.string x.1)∧w'.cell? ⟨q,1,none⟩=some (.int .i64 x.2))) (by kernel_rfl) (⟨wl,wr,x0,x1⟩) (fun gH=>?_)
 refine rgT 0 (v:=?v1) ?y1 gH ?_
 case y1=>(intro v hSw; go_simp<;>rfl)
 refine rgT 1 (v:=?v2) ?y2 gH ?_
 case y2=>(intro v hSw; go_simp<;>rfl)
 refine rgT 2 (v:=?v3) ?y3 gH ?_
 case y3=>(intro v hSw; go_simp<;>rfl)
 try simp only [putS]
 refine rgT 3 (v:=?v4) ?y4 gH ?_
 case y4=>(intro v hSw; go_simp<;>rfl)
 refine rgT 4 (v:=?v5) ?y5 gH ?_
 case y5=>(intro v hSw; go_simp<;>rfl)
 refine rgT 5 (v:=?v6) ?y6 gH ?_
 case y6=>(intro v hSw; go_simp<;>rfl)
 try simp only [putS]
 refine rgO 6 fun K hK=>?_
 go_simp
 refine LC.out.mono ?_
 rintro r w3 ⟨rfl,hl⟩
 have HL:=qh (L1.out w3 hl)
 refine hK.out _ _ ((SH.out w3 hl)) (fun gH=>?_)
 clear hK K
 try simp only [putS]
 refine rgD ?_
 clear wl wr x0 x1
 go_wp2_with fail
 go_loopw [7] (fun vi wr=>∃ (i:Nat) (s1:Tab),i<=e∧vi=.int .i64 i∧Hid (LeftP w T E s1 wr)∧Hid (Tab.ups ws i s1=S)∧Hid (FineUps ws i s1)) (fun vi _=>(intOf vi).toNat)
 case atStart=>exact ⟨e,S0,Nat.le_refl _,rfl,HL,qh HS.out.symm,HU⟩
 case round =>
  obtain ⟨i,s1,hie,rfl,HLi,HSi,HUi⟩:=hrel
  cases i with
  | zero =>
   have hs2:s1=S:=HSi.out
   subst hs2
   obtain ⟨E1,g1,a1,c1⟩:=HLi.out
   have f:=HT.out
   obtain ⟨rv,fv,vs,tv⟩:=g1
   have p1:s1.root<vs.length:=by rw [tv.len]; exact f.ir
   obtain ⟨g0,c0,rfl,hg0,gT,hc⟩:=tv.rowAt (by omega)
   obtain ⟨A3,cz,ev3,_⟩:=(tv.node s1.root p1).form
   obtain ⟨R,hR⟩:=nmq (s1.root)
   obtain ⟨D,hD⟩:=nmq (s1.depth)
   have d0:=tv.row.cell 0
   have d1:=tv.row.cell 2
   simp only [geS] at d0 d1
   have d2:=(hc s1.root p1).1
   rw [ev3] at d2
   obtain ⟨z,hz⟩:=nmq ((s1.nd s1.root).length)
   obtain ⟨N,hN⟩:=nmq (vs.length)
   rw [<-hz,<-hR] at d2
   rw [<-hR] at d1
   rw [<-hN] at d0
   have p1':R<N:=by rw [hR,hN]; exact p1
   have TV:=qh tv
   have A1:=qh a1
   have C1:=qh c1
   have HZ:=qh hz
   have HR:=qh hR
   have HD:=qh hD
   obtain ⟨wo,hwo⟩:=nmq (wr)
   subst hwo
   clear f hc tv a1 c1 hz hR hD hN ev3 p1 hl HUi HSi HLi
   go_wp2_with fail
   refine wp_region_held_drew (S:=(fun w'=>w'.cell? ⟨T,0,none⟩=some (.slice (some ⟨g0,0,none⟩) N c0)∧w'.cell? ⟨T,2,none⟩=some (.int .i64 R)∧w'.cell? ⟨g0,R,none⟩=some (.slice A3 z cz))) (by kernel_rfl) (⟨d0,d1,d2⟩) (fun gH=>?_)
   by_cases z4:4<z
   ·have z4':(4:Int)<(z:Int):=by omega
    have f:=HT.out
    have UP:=qh (show s1.top={ s1.cutR.take [((s1.nd s1.root).key 0,(s1.root:Int)),((s1.nd s1.root).key 3,(s1.place:Int))] with root:=s1.cutR.place,depth:=s1.depth+1 } from if_pos (by rw [<-HZ.out]; exact z4))
    obtain ⟨K0,hK0⟩:=nmq ((s1.nd s1.root).key 0)
    obtain ⟨K3,hK3⟩:=nmq ((s1.nd s1.root).key 3)
    obtain ⟨PL,hPL⟩:=nmq (s1.place)
    obtain ⟨w2,hw2⟩:=nmq (wo.drew)
    have t2:=TV.out.below (w':=w2) (by rw [hw2]; exact (Below.refl _ _).drew)
    have p1:R<vs.length:=by rw [HR.out,TV.out.len]; exact f.ir
    have LE:=qh (show ∀ w',Below w2.heap.size w2 w'->Calls Tryz.prog 183 #[Ptr T,.int .i64 R] w' fun x w''=>x=.returned (.string K0)∧w''=w' from fun w' hb=>by
     have:=xLeast w' T E1 s1 _ _ _ R (t2.below hb) p1 (by rw [HR.out]; exact f.l0)
     rw [HR.out,<-hK0,<-HR.out] at this; exact this)
    have BD:=qh (show Below w2.heap.size w2 w2.drew from (Below.refl _ _).drew)
    have BA:=qh (show ∀ cs t,Below w2.heap.size w2 (w2.alloc (.cells cs t)).drew from fun cs t=>((Below.refl _ _).alloc (Nat.le_refl _) _).drew)
    obtain ⟨w3,hw3⟩:=nmq ((w2.alloc (.cells #[.string K0,.int .i64 R] 226)).drew)
    obtain ⟨q10,hq10⟩:=nmq (w2.heap.size)
    have e2:w2.cell? ⟨T,2,none⟩=some (.int .i64 R):=by rw [HR.out]; exact t2.row.cell 2
    have KS:=qh (show ∀ cs t,(w2.alloc (.cells cs t)).drew.cell? ⟨T,2,none⟩=some (.int .i64 R) from fun cs t=>by
     have hb:Below w2.heap.size w2 (w2.alloc (.cells cs t)).drew:=((Below.refl _ _).alloc (Nat.le_refl _) _).drew
     exact (hb.cell (p:=⟨T,2,none⟩) (block_lt_of_cell e2)).trans e2)
    have B3:Below w2.heap.size w2 w3:=by rw [hw3]; exact ((Below.refl _ _).alloc (Nat.le_refl _) _).drew
    have R3:=qh (show RowAt w3 q10 [.string K0,.int .i64 R] 226 by rw [hw3,hq10]; exact RowAt.new w2 _ _)
    have S3:w3.heap.size=q10+1:=by rw [hw3,hq10,heap_drew]; simp
    have T3:=qh (t2.below B3)
    obtain ⟨w4,hw4⟩:=nmq (w3.drew)
    have C4:=qh (show Chg E wo.drew w4 by rw [hw4,<-hw2]; exact (Chg.of_below B3).drew)
    have R4:=qh (show RowAt w4 q10 [.string K0,.int .i64 R] 226 by rw [hw4]; exact R3.out)
    have g4:TabG w4 T E1 s1:=by rw [hw4]; exact ⟨_,_,_,T3.out.below (Below.refl _ _).drew⟩
    have PC:=qh (xPart w4 T E1 s1 s1.root g4 f.ir (by rw [<-HZ.out]; omega) f.free (by have:=f.ln; omega) (by have:=f.lf; omega))
    rw [<-hK3,<-hPL,<-HR.out] at PC
    have Q10:=qh (show ∀ k,E1 k->k≠q10 from fun k e=>by have:=t2.lt k e; omega)
    have CT:s1.cutR=(s1.put R ((s1.nd R).take 3)).take ((s1.nd R).drop 3):=by unfold Tab.cutR; rw [HR.out]
    rw [<-CT] at PC
    have SK:=qh (show ∀ s' w5,LeftP w4 T E1 s' w5->s'.root=s1.root->w5.cell? ⟨T,2,none⟩=some (.int .i64 R)∧w5.cell? ⟨q10,0,none⟩=some (.string K0)∧w5.cell? ⟨q10,1,none⟩=some (.int .i64 R) from fun s' w5 ⟨E5,⟨r5,f5,v5,g5⟩,a5,c5⟩ hr=>by
     have r5:RowAt w5 q10 _ _:=R4.out.keep c5 (fun e=>Q10.out _ e rfl)
     exact ⟨by rw [HR.out,<-hr]; exact g5.row.cell 2,r5.cell 0,r5.cell 1⟩)
    have TK:=qh (show ∀ w5,LeftP w4 T E1 s1.cutR w5->Calls Tryz.prog 181 #[Ptr T,.slice (some ⟨w5.heap.size,0,none⟩) 2 2] (w5.alloc (.cells #[.string K0,.int .i64 R,.string K3,.int .i64 PL] 226)) fun x w'=>x=.returned (.int .i64 s1.cutR.place)∧LeftP w4 T E1 (s1.cutR.take [(K0,(R:Int)),(K3,(PL:Int))]) w' from fun w5 ⟨E5,g5,a5,c5⟩=>by
     have l1:=(Tab.take_len (s:=s1.put s1.root ((s1.nd s1.root).take 3)) (zs:=(s1.nd s1.root).drop 3))
     have l2:(s1.put s1.root ((s1.nd s1.root).take 3)).nds.length=s1.nds.length:=Tab.put_len _ _ _
     have l3:s1.cutR.free=s1.free.dropLast:=Tab.take_free
     refine (xTakeNew w5 T E5 s1.cutR [(K0,(R:Int)),(K3,(PL:Int))] g5 (by simp) (by simp) (fun q hq=>?_) ?_ ?_).mono fun x w' h=>⟨h.1,LeftP.then c5 a5 h.2⟩
     ·rw [l3] at hq
      have:=f.free q (List.dropLast_subset _ hq)
      show q<((s1.put s1.root ((s1.nd s1.root).take 3)).take ((s1.nd s1.root).drop 3)).nds.length
      omega
     ·have:=f.ln
      show ((s1.put s1.root ((s1.nd s1.root).take 3)).take ((s1.nd s1.root).drop 3)).nds.length<=_
      omega
     ·rw [l3,List.length_dropLast]; have:=f.lf; omega)
    have rt1:∀ zs,(s1.cutR.take zs).root=s1.root∧(s1.cutR.take zs).depth=s1.depth:=fun zs=>by
     unfold Tab.cutR
     have key:∀ (s:Tab) (zs:KV),(s.take zs).root=s.root∧(s.take zs).depth=s.depth:=fun s zs=>by
      unfold Tab.take; cases s.free.getLast?<;>exact ⟨rfl,rfl⟩
     obtain ⟨e1,e2⟩:=key ((s1.put s1.root ((s1.nd s1.root).take 3)).take ((s1.nd s1.root).drop 3)) zs
     obtain ⟨e3,e4⟩:=key (s1.put s1.root ((s1.nd s1.root).take 3)) ((s1.nd s1.root).drop 3)
     exact ⟨e1.trans e3,e2.trans e4⟩
    have rt0:s1.cutR.root=s1.root:=by
     unfold Tab.cutR Tab.take; cases (s1.put s1.root ((s1.nd s1.root).take 3)).free.getLast?<;>rfl
    have FIN:=qh (show ∀ w6,LeftP w4 T E1 (s1.cutR.take [(K0,(R:Int)),(K3,(PL:Int))]) w6->LeftP w T E s1.top ((w6.setCell ⟨T,2,none⟩ (.int .i64 s1.cutR.place)).setCell ⟨T,3,none⟩ (.int .i64 ((D:Int)+1)))∧w6.cell? ⟨T,3,none⟩=some (.int .i64 D)∧∀ j,w6.frozen? ⟨T,j,none⟩=false from fun w6 ⟨E6,⟨r6,f6,v6,g6⟩,a6,c6⟩=>by
     have ed:=(rt1 [(K0,(R:Int)),(K3,(PL:Int))]).2
     have h4:=g6.field (s':={ s1.cutR.take [(K0,(R:Int)),(K3,(PL:Int))] with root:=s1.cutR.place }) (u:=.int .i64 s1.cutR.place) 2 rfl rfl rfl
     have h5:=h4.field (s':={ s1.cutR.take [(K0,(R:Int)),(K3,(PL:Int))] with root:=s1.cutR.place,depth:=s1.depth+1 }) (u:=.int .i64 ((D:Int)+1)) 3 rfl rfl (by rw [HD.out]; rfl)
     refine ⟨?_,by rw [HD.out,<-ed]; exact g6.row.cell 3,fun j=>g6.row.frozen j⟩
     rw [UP.out,<-hK0,<-hK3,<-hPL,<-HR.out]
     refine LeftP.then (C1.out.drew.trans C4.out fun _ e=>.inl e) A1.out ?_
     exact ⟨E6,⟨r6,f6,v6,h5⟩,a6,Chg.setCell (Chg.setCell c6 (.inl TV.out.eT) _) (.inl TV.out.eT) _⟩)
    have M2:=qh (show w4.cell? ⟨T,2,none⟩=some (.int .i64 R) by rw [hw4,HR.out]; exact T3.out.row.cell 2)
    have AL:=qh (show ∀ w5:World,w5.cell? ⟨q10,0,none⟩=some (.string K0)∧w5.cell? ⟨q10,1,none⟩=some (.int .i64 R)->∀ cs t,(w5.alloc (.cells cs t)).cell? ⟨q10,0,none⟩=some (.string K0)∧(w5.alloc (.cells cs t)).cell? ⟨q10,1,none⟩=some (.int .i64 R) from fun w5 h cs t=>by
     have hb:Below w5.heap.size w5 (w5.alloc (.cells cs t)):=(Below.refl _ _).alloc (Nat.le_refl _) _
     exact ⟨(hb.cell (p:=⟨q10,0,none⟩) (block_lt_of_cell h.1)).trans h.1,(hb.cell (p:=⟨q10,1,none⟩) (block_lt_of_cell h.2)).trans h.2⟩)
    have ST6:=qh (show ∀ w5:World,w5.cell? ⟨q10,0,none⟩=some (.string K0)∧w5.cell? ⟨q10,1,none⟩=some (.int .i64 R)->∀ u,(w5.setCell ⟨T,2,none⟩ u).cell? ⟨q10,0,none⟩=some (.string K0)∧(w5.setCell ⟨T,2,none⟩ u).cell? ⟨q10,1,none⟩=some (.int .i64 R) from fun w5 h u=>by
     have tq:q10≠T:=fun e=>Q10.out T TV.out.eT e.symm
     exact ⟨(World.cell?_of_block (a:=⟨q10,0,none⟩) (Below.heap_setCell _ _ _ _ tq)).trans h.1,(World.cell?_of_block (a:=⟨q10,1,none⟩) (Below.heap_setCell _ _ _ _ tq)).trans h.2⟩)
    have RT:=qh rt0
    have RT1:=qh rt1
    have HW2:=qh hw2
    have HW3:=qh hw3
    have HW4:=qh hw4
    have HQ10:=qh hq10
    have dd:D<=850000:=by rw [HD.out]; exact f.dep
    clear hw2 hw3 hw4 hq10 hK0 hK3 hPL B3 S3 CT t2 f g4 rt0 rt1 p1
    refine rgT 0 (v:=?v7) ?y7 gH ?_
    case y7=>(intro v hSw; go_simp<;>rfl)
    refine rgT 1 (v:=?v8) ?y8 gH ?_
    case y8=>(intro v hSw; go_simp<;>rfl)
    refine rgT 2 (v:=?v9) ?y9 gH ?_
    case y9=>(intro v hSw; go_simp<;>rfl)
    try simp only [putS]
    refine rgT 3 (v:=?v10) ?y10 gH ?_
    case y10=>(intro v hSw; go_simp<;>rfl)
    refine rgT 4 (v:=?v11) ?y11 gH ?_
    case y11=>(intro v hSw; go_simp<;>rfl)
    refine rgT 5 (v:=?v12) ?y12 gH ?_
    case y12=>(intro v hSw; go_simp<;>rfl)
    try simp only [putS]
    refine rgT 6 (v:=?v13) ?y13 gH ?_
    case y13=>(intro v hSw; go_simp<;>rfl)
    refine rgT 7 (v:=?v14) ?y14 gH ?_
    case y14=>(intro v hSw; go_simp<;>rfl)
    refine rgT 8 (v:=?v15) ?y15 gH ?_
    case y15=>(intro v hSw; go_simp<;>rfl)
    try simp only [putS]
    refine rgT 9 (v:=?v16) ?y16 gH ?_
    case y16=>(intro v hSw; go_simp<;>rfl)
    refine rgT 10 (v:=?v17) ?y17 gH ?_
    case y17=>(intro v hSw; go_simp<;>rfl)
    refine rgT 11 (v:=?v18) ?y18 gH ?_
    case y18=>(intro v hSw; go_simp<;>rfl)
    try simp only [putS]
    refine rgD ?_
    clear d0 d1 d2 gH
    go_wp2_with fail
    rw [<-HW2.out]
    refine wp_region_held_drew (S:=(fun w'=>w'.cell? ⟨T,2,none⟩=some (.int .i64 R))) (by kernel_rfl) (e2) (fun gH=>?_)
    refine rgT 0 (v:=?v19) ?y19 gH ?_
    case y19=>(intro v hSw; have y0:=hSw; go_simp<;>rfl)
    refine rgT 1 (v:=?v20) ?y20 gH ?_
    case y20=>(intro v hSw; have y0:=hSw; go_simp<;>rfl)
    refine rgT 2 (v:=?v21) ?y21 gH ?_
    case y21=>(intro v hSw; have y0:=hSw; go_simp<;>rfl)
    try simp only [putS]
    refine rgT 3 (v:=?v22) ?y22 gH ?_
    case y22=>(intro v hSw; have y0:=hSw; go_simp<;>rfl)
    refine rgT 4 (v:=?v23) ?y23 gH ?_
    case y23=>(intro v hSw; have y0:=hSw; go_simp<;>rfl)
    refine rgT 6 (v:=?v24) ?y24 gH ?_
    case y24=>(intro v hSw; have y0:=hSw; go_simp<;>rfl)
    try simp only [putS]
    refine rgT 7 (v:=?v25) ?y25 gH ?_
    case y25=>(intro v hSw; have y0:=hSw; go_simp<;>rfl)
    refine rgT 8 (v:=?v26) ?y26 gH ?_
    case y26=>(intro v hSw; have y0:=hSw; go_simp<;>rfl)
    refine rgT 9 (v:=?v27) ?y27 gH ?_
    case y27=>(intro v hSw; have y0:=hSw; go_simp<;>rfl)
    try simp only [putS]
    refine rgnTwo 5 11 rfl rfl (by kernel_rfl) (fun K hK=>?_) (fun K hK=>?_)
    ·go_simp
     refine (LE.out _ BD.out).mono ?_
     rintro r w4' ⟨rfl,h4⟩
     subst h4
     refine hK.out _ _ gH (fun gH=>?_)
     clear hK K
     refine rgT 10 (v:=?v28) ?y28 gH ?_
     case y28=>(intro v hSw; have y0:=hSw; go_simp<;>rfl)
     try simp only [putS]
     refine rgO 11 fun K hK=>?_
     go_simp
     refine hK.out _ _ ((KS.out _ _)) (fun gH=>?_)
     clear hK K
     try simp only [putS]
     refine rgO 12 fun K hK=>?_
     go_simp
     refine hK.out _ _ ((KS.out _ _)) (fun gH=>?_)
     clear hK K
     try simp only [putS]
     refine rgD ?_
     clear e2
     go_wp2_with fail
     rw [<-HW3.out,<-HQ10.out]
     have m0:=R3.out.cell 0
     have m1:=R3.out.cell 1
     simp only [geS] at m0 m1
     refine wp_region_held_drew (S:=(fun w'=>w'.cell? ⟨q10,0,none⟩=some (.string K0)∧w'.cell? ⟨q10,1,none⟩=some (.int .i64 R))) (by kernel_rfl) (⟨m0,m1⟩) (fun gH=>?_)
     rw [<-HW4.out] at gH ⊢
     have m2:=M2.out
     refine rgT 0 (v:=?v29) ?y29 gH ?_
     case y29=>(intro v hSw; go_simp<;>rfl)
     refine rgT 1 (v:=?v30) ?y30 gH ?_
     case y30=>(intro v hSw; go_simp<;>rfl)
     refine rgT 2 (v:=?v31) ?y31 gH ?_
     case y31=>(intro v hSw; go_simp<;>rfl)
     try simp only [putS]
     refine rgT 3 (v:=?v32) ?y32 gH ?_
     case y32=>(intro v hSw; go_simp<;>rfl)
     refine rgT 4 (v:=?v33) ?y33 gH ?_
     case y33=>(intro v hSw; go_simp<;>rfl)
     refine rgT 5 (v:=?v34) ?y34 gH ?_
     case y34=>(intro v hSw; go_simp<;>rfl)
     try simp only [putS]
     refine rgT 6 (v:=?v35) ?y35 gH ?_
     case y35=>(intro v hSw; go_simp<;>rfl)
     try simp only [putS]
     refine rgO 7 fun K hK=>?_
     go_simp
     refine hK.out _ _ (gH) (fun gH=>?_)
     clear hK K
     try simp only [putS]
     clear m2
     refine rgO 8 fun K hK=>?_
     go_simp
     refine PC.out.mono ?_
     rintro r w5 ⟨rfl,hp⟩
     have TC5:=qh (TK.out w5 hp)
     have A5:=qh (AL.out w5 (SK.out _ w5 hp RT.out).2)
     refine hK.out _ _ (((SK.out _ w5 hp RT.out).2)) (fun gH=>?_)
     clear hK K
     try simp only [putS]
     refine rgO 9 fun K hK=>?_
     go_simp
     refine hK.out _ _ ((A5.out _ _)) (fun gH=>?_)
     clear hK K
     try simp only [putS]
     refine rgO 10 fun K hK=>?_
     go_simp
     refine TC5.out.mono ?_
     rintro r w6 ⟨rfl,hp6⟩
     have F6:=qh (FIN.out w6 hp6)
     have f62:=F6.out.2.2 2
     have f63:=F6.out.2.2 3
     have c63:=F6.out.2.1
     have c62:=(SK.out _ w6 hp6 (RT1.out _).1).1
     refine hK.out _ _ (((SK.out _ w6 hp6 (RT1.out _).1).2)) (fun gH=>?_)
     clear hK K
     refine rgT 11 (v:=?v36) ?y36 gH ?_
     case y36=>(intro v hSw; go_simp<;>rfl)
     refine rgT 12 (v:=?v37) ?y37 gH ?_
     case y37=>(intro v hSw; go_simp<;>rfl)
     try simp only [putS]
     refine rgO 13 fun K hK=>?_
     go_simp
     refine hK.out _ _ ((ST6.out w6 (SK.out _ w6 hp6 (RT1.out _).1).2 _)) (fun gH=>?_)
     clear hK K
     try simp only [putS]
     refine rgD ?_
     go_wp2_with fail
     refine bodyPost_end (results_none rfl _ _ _) rfl ⟨rfl,?_⟩
     exact F6.out.1
    ·go_simp
     refine hK.out _ _ ((KS.out _ _)) (fun gH=>?_)
     clear hK K
     try simp only [putS]
     refine rgO 5 fun K hK=>?_
     go_simp
     refine (LE.out _ (BA.out _ _)).mono ?_
     rintro r w4' ⟨rfl,h4⟩
     subst h4
     refine hK.out _ _ (gH) (fun gH=>?_)
     clear hK K
     refine rgT 10 (v:=?v38) ?y38 gH ?_
     case y38=>(intro v hSw; have y0:=hSw; go_simp<;>rfl)
     try simp only [putS]
     refine rgO 12 fun K hK=>?_
     go_simp
     refine hK.out _ _ ((KS.out _ _)) (fun gH=>?_)
     clear hK K
     try simp only [putS]
     refine rgD ?_
     clear e2
     go_wp2_with fail
     rw [<-HW3.out,<-HQ10.out]
     have m0:=R3.out.cell 0
     have m1:=R3.out.cell 1
     simp only [geS] at m0 m1
     refine wp_region_held_drew (S:=(fun w'=>w'.cell? ⟨q10,0,none⟩=some (.string K0)∧w'.cell? ⟨q10,1,none⟩=some (.int .i64 R))) (by kernel_rfl) (⟨m0,m1⟩) (fun gH=>?_)
     rw [<-HW4.out] at gH ⊢
     have m2:=M2.out
     refine rgT 0 (v:=?v39) ?y39 gH ?_
     case y39=>(intro v hSw; go_simp<;>rfl)
     refine rgT 1 (v:=?v40) ?y40 gH ?_
     case y40=>(intro v hSw; go_simp<;>rfl)
     refine rgT 2 (v:=?v41) ?y41 gH ?_
     case y41=>(intro v hSw; go_simp<;>rfl)
     try simp only [putS]
     refine rgT 3 (v:=?v42) ?y42 gH ?_
     case y42=>(intro v hSw; go_simp<;>rfl)
     refine rgT 4 (v:=?v43) ?y43 gH ?_
     case y43=>(intro v hSw; go_simp<;>rfl)
     refine rgT 5 (v:=?v44) ?y44 gH ?_
     case y44=>(intro v hSw; go_simp<;>rfl)
     try simp only [putS]
     refine rgT 6 (v:=?v45) ?y45 gH ?_
     case y45=>(intro v hSw; go_simp<;>rfl)
     try simp only [putS]
     refine rgO 7 fun K hK=>?_
     go_simp
     refine hK.out _ _ (gH) (fun gH=>?_)
     clear hK K
     try simp only [putS]
     clear m2
     refine rgO 8 fun K hK=>?_
     go_simp
     refine PC.out.mono ?_
     rintro r w5 ⟨rfl,hp⟩
     have TC5:=qh (TK.out w5 hp)
     have A5:=qh (AL.out w5 (SK.out _ w5 hp RT.out).2)
     refine hK.out _ _ (((SK.out _ w5 hp RT.out).2)) (fun gH=>?_)
     clear hK K
     try simp only [putS]
     refine rgO 9 fun K hK=>?_
     go_simp
     refine hK.out _ _ ((A5.out _ _)) (fun gH=>?_)
     clear hK K
     try simp only [putS]
     refine rgO 10 fun K hK=>?_
     go_simp
     refine TC5.out.mono ?_
     rintro r w6 ⟨rfl,hp6⟩
     have F6:=qh (FIN.out w6 hp6)
     have f62:=F6.out.2.2 2
     have f63:=F6.out.2.2 3
     have c63:=F6.out.2.1
     have c62:=(SK.out _ w6 hp6 (RT1.out _).1).1
     refine hK.out _ _ (((SK.out _ w6 hp6 (RT1.out _).1).2)) (fun gH=>?_)
     clear hK K
     refine rgT 11 (v:=?v46) ?y46 gH ?_
     case y46=>(intro v hSw; go_simp<;>rfl)
     refine rgT 12 (v:=?v47) ?y47 gH ?_
     case y47=>(intro v hSw; go_simp<;>rfl)
     try simp only [putS]
     refine rgO 13 fun K hK=>?_
     go_simp
     refine hK.out _ _ ((ST6.out w6 (SK.out _ w6 hp6 (RT1.out _).1).2 _)) (fun gH=>?_)
     clear hK K
     try simp only [putS]
     refine rgD ?_
     go_wp2_with fail
     refine bodyPost_end (results_none rfl _ _ _) rfl ⟨rfl,?_⟩
     exact F6.out.1
   ·have UP:=qh (show s1.top=s1 from if_neg (by rw [<-HZ.out]; exact z4))
    have z4':decide ((4:Int)<(z:Int))=false:=decide_eq_false (by omega)
    refine rgT 0 (v:=?v48) ?y48 gH ?_
    case y48=>(intro v hSw; go_simp<;>rfl)
    refine rgT 1 (v:=?v49) ?y49 gH ?_
    case y49=>(intro v hSw; go_simp<;>rfl)
    refine rgT 2 (v:=?v50) ?y50 gH ?_
    case y50=>(intro v hSw; go_simp<;>rfl)
    try simp only [putS]
    refine rgT 3 (v:=?v51) ?y51 gH ?_
    case y51=>(intro v hSw; go_simp<;>rfl)
    refine rgT 4 (v:=?v52) ?y52 gH ?_
    case y52=>(intro v hSw; go_simp<;>rfl)
    refine rgT 5 (v:=?v53) ?y53 gH ?_
    case y53=>(intro v hSw; go_simp<;>rfl)
    try simp only [putS]
    refine rgT 6 (v:=?v54) ?y54 gH ?_
    case y54=>(intro v hSw; go_simp<;>rfl)
    refine rgT 7 (v:=?v55) ?y55 gH ?_
    case y55=>(intro v hSw; go_simp<;>rfl)
    refine rgT 8 (v:=?v56) ?y56 gH ?_
    case y56=>(intro v hSw; go_simp<;>rfl)
    try simp only [putS]
    refine rgT 9 (v:=?v57) ?y57 gH ?_
    case y57=>(intro v hSw; go_simp<;>rfl)
    refine rgT 10 (v:=?v58) ?y58 gH ?_
    case y58=>(intro v hSw; go_simp<;>rfl)
    refine rgT 11 (v:=?v59) ?y59 gH ?_
    case y59=>(intro v hSw; go_simp<;>rfl)
    try simp only [putS]
    refine rgD ?_
    go_wp2_with fail
    refine bodyPost_end (results_none rfl _ _ _) rfl ⟨rfl,?_⟩
    rw [UP.out]
    exact ⟨E1,⟨_,_,_,TV.out.below (Below.refl _ _).drew⟩,A1.out,C1.out.drew⟩
  | succ i =>
   have hu:=HUi.out
   obtain ⟨hf,hu2⟩:=hu
   have hs2:Tab.ups ws i (s1.up (ws.getD i (0,0)) (ws.getD (i+1) (0,0)).1)=S:=HSi.out
   obtain ⟨E1,g1,a1,c1⟩:=HLi.out
   obtain ⟨y0,y1⟩:=WC.out wr c1 i (by have:=HE.out; omega)
   obtain ⟨y2,y3⟩:=WC.out wr c1 (i+1) (by have:=HE.out; omega)
   obtain ⟨X,hX⟩:=nmq (ws.getD i (0,0))
   obtain ⟨Y,hY⟩:=nmq ((ws.getD (i+1) (0,0)).1)
   rw [<-hX] at y0 y1 hf hu2 hs2
   rw [<-hY] at y2 hf hu2 hs2
   have i1:(i:Int)+1-1=(i:Int):=by omega
   have i0:(0:Int)<(i:Int)+1:=by omega
   have F:=qh hf
   have HU2:=qh hu2
   have HS2:=qh hs2
   have G1:=qh g1
   have A1:=qh a1
   have C1:=qh c1
   clear hf hu2 hs2 g1 a1 c1 hX hY HUi HSi y3 hl
   have z1:(i:Int)<(e:Int)+1:=by omega
   have z2:(i:Int)+1<(e:Int)+1:=by omega
   have z3:(0:Int)<=(i:Int)+1:=by omega
   have n3:((i:Int)+1).toNat=i+1:=by omega
   have w3i:IntKind.i64.wrap (i:Int)=(i:Int):=by rw [IntKind.wrap_i64]; omega
   have z4:(0:Int)<=(i:Int):=by omega
   go_wp2_with fail
   obtain ⟨q8,hq8⟩:=nmq (wr.heap.size)
   obtain ⟨wo,hwo⟩:=nmq (wr)
   have W0:=qh (show wo.cell? ⟨g,i * 2,none⟩=some (.int .i64 X.1)∧wo.cell? ⟨g,i * 2+1,none⟩=some (.int .i64 X.2)∧wo.cell? ⟨g,(i+1) * 2,none⟩=some (.int .i64 Y) by rw [hwo]; exact ⟨y0,y1,y2⟩)
   have KS:=qh (show ∀ cs t,(wr.alloc (.cells cs t)).drew.cell? ⟨g,i * 2,none⟩=some (.int .i64 X.1)∧(wr.alloc (.cells cs t)).drew.cell? ⟨g,i * 2+1,none⟩=some (.int .i64 X.2)∧(wr.alloc (.cells cs t)).drew.cell? ⟨g,(i+1) * 2,none⟩=some (.int .i64 Y) from fun cs t=>by
    have hb:Below wr.heap.size wr (wr.alloc (.cells cs t)).drew:=((Below.refl _ _).alloc (Nat.le_refl _) _).drew
    exact ⟨(hb.cell (p:=⟨g,i * 2,none⟩) (block_lt_of_cell y0)).trans y0,(hb.cell (p:=⟨g,i * 2+1,none⟩) (block_lt_of_cell y1)).trans y1,(hb.cell (p:=⟨g,(i+1) * 2,none⟩) (block_lt_of_cell y2)).trans y2⟩)
   obtain ⟨w2,hw2⟩:=nmq ((wr.alloc (.cells #[.int .i64 X.1,.int .i64 X.2] 261)).drew)
   have B2:=qh (show Below wr.heap.size wr w2 by rw [hw2]; exact ((Below.refl _ _).alloc (Nat.le_refl _) _).drew)
   have R2:=qh (show RowAt w2 q8 [.int .i64 X.1,.int .i64 X.2] 261 by rw [hw2,hq8]; exact RowAt.new wr _ _)
   have HW2:=qh hw2
   have HQ8:=qh hq8
   have S8:=qh (show w2.heap.size=q8+1 by rw [hw2,hq8,heap_drew]; simp)
   clear hw2 hwo hq8
   refine wp_region_held_drew (S:=(fun w'=>w'.cell? ⟨g,i * 2,none⟩=some (.int .i64 X.1)∧w'.cell? ⟨g,i * 2+1,none⟩=some (.int .i64 X.2)∧w'.cell? ⟨g,(i+1) * 2,none⟩=some (.int .i64 Y))) (by kernel_rfl) (⟨y0,y1,y2⟩) (fun gH=>?_)
   refine rgT 0 (v:=?v60) ?y60 gH ?_
   case y60=>(intro v hSw; go_simp<;>rfl)
   refine rgT 1 (v:=?v61) ?y61 gH ?_
   case y61=>(intro v hSw; go_simp<;>rfl)
   refine rgT 2 (v:=?v62) ?y62 gH ?_
   case y62=>(intro v hSw; go_simp<;>rfl)
   try simp only [putS]
   refine rgT 3 (v:=?v63) ?y63 gH ?_
   case y63=>(intro v hSw; go_simp<;>rfl)
   refine rgT 4 (v:=?v64) ?y64 gH ?_
   case y64=>(intro v hSw; go_simp<;>rfl)
   refine rgT 5 (v:=?v65) ?y65 gH ?_
   case y65=>(intro v hSw; go_simp<;>rfl)
   try simp only [putS]
   refine rgT 6 (v:=?v66) ?y66 gH ?_
   case y66=>(intro v hSw; go_simp<;>rfl)
   refine rgT 7 (v:=?v67) ?y67 gH ?_
   case y67=>(intro v hSw; go_simp<;>rfl)
   refine rgT 8 (v:=?v68) ?y68 gH ?_
   case y68=>(intro v hSw; go_simp<;>rfl)
   try simp only [putS]
   refine rgT 9 (v:=?v69) ?y69 gH ?_
   case y69=>(intro v hSw; go_simp<;>rfl)
   try simp only [putS]
   refine rgO 10 fun K hK=>?_
   go_simp
   refine hK.out _ _ ((KS.out _ _)) (fun gH=>?_)
   clear hK K
   try simp only [putS]
   refine rgO 11 fun K hK=>?_
   go_simp
   refine hK.out _ _ ((KS.out _ _)) (fun gH=>?_)
   clear hK K
   try simp only [putS]
   refine rgO 12 fun K hK=>?_
   go_simp
   refine hK.out _ _ ((KS.out _ _)) (fun gH=>?_)
   clear hK K
   try simp only [putS]
   refine rgD ?_
   clear y0 y1 y2
   go_wp2_with fail
   rw [<-HW2.out,<-HQ8.out]
   obtain ⟨rv,fv,vs,tv⟩:=G1.out
   have t2:=tv.below B2.out
   have f:=F.out
   have q1':X.1<vs.length:=by rw [tv.len]; exact f.iq
   have p1':Y<vs.length:=by rw [tv.len]; exact f.ip
   obtain ⟨g0,c0,rfl,hg0,gT,hc⟩:=t2.rowAt (by omega)
   obtain ⟨b,o,cp,ev,hw⟩:=t2.win q1' (by have:=f.ia; omega)
   have hW:=t2.eW X.1 b o q1' ⟨o,_,cp,ev,Nat.le_refl _,by have:=hw.pos; omega⟩
   have L8:∀ k,E1 k->k≠q8:=fun k e=>by have:=tv.lt k e; have:=HQ8.out; omega
   have d0:=t2.row.cell 0
   simp only [List.getElem?_cons_zero] at d0
   have d1:=(hc X.1 q1').1
   rw [ev] at d1
   have d2:=R2.out.cell 0
   have d3:=R2.out.cell 1
   simp only [geS] at d2 d3
   have d4:=(hw.cells X.2 f.ia).1
   have d5:=hw.plain.frozen (o+X.2 * 2)
   have LE:=qh (xLeast w2.drew T E1 s1 _ _ _ Y (t2.below (Below.refl _ _).drew) p1' f.l0)
   obtain ⟨K,hK⟩:=nmq ((s1.nd Y).key 0)
   rw [<-hK] at LE
   obtain ⟨w3,hw3⟩:=nmq ((w2.setCell ⟨b,o+X.2 * 2,none⟩ (.string K)).drew)
   have k3:∀ k,k≠b->w3.heap[k]?=w2.heap[k]?:=fun k hk=>by rw [hw3]; exact Below.heap_setCell w2 _ _ _ hk
   have t3:=qh (show TabV w3 T E1 (s1.tell X Y) _ fv vs by
    rw [hw3]
    have:=t2.item (j:=0) (u:=.string K) (K,(s1.nd X.1).num X.2) q1' ev f.ia (by decide) (by rw [KV.getE _ _ f.ia]; rfl)
    rw [Nat.add_zero,hK] at this
    rw [hK]
    exact this.below (Below.refl _ _).drew)
   have R3:=qh (show RowAt w3 q8 [.int .i64 X.1,.int .i64 X.2] 261 from (k3 q8 (L8 b hW.1).symm).trans R2.out)
   have C3:=qh (show Chg E1 wr w3 by rw [hw3]; exact (Chg.setCell (Chg.of_below B2.out) (.inl hW.1) _).drew)
   have S3:=qh (show w3.heap.size=q8+1 by rw [hw3,heap_drew]; simp [World.setCell,S8.out])
   have SS:=qh (show w3.cell? ⟨T,0,none⟩=some (.slice (some ⟨g0,0,none⟩) vs.length c0)∧w3.cell? ⟨g0,X.1,none⟩=some (.slice (some ⟨b,o,none⟩) (s1.nd X.1).length cp)∧w3.cell? ⟨q8,0,none⟩=some (.int .i64 X.1)∧w3.cell? ⟨q8,1,none⟩=some (.int .i64 X.2) from
    ⟨(World.cell?_of_block (a:=⟨T,0,none⟩) (k3 T (Ne.symm hW.2.1))).trans d0,(World.cell?_of_block (a:=⟨g0,X.1,none⟩) (k3 g0 (fun t=>hW.2.2.1 (by rw [<-t]; rfl)))).trans d1,R3.out.cell 0,R3.out.cell 1⟩)
   have HW3:=qh hw3
   have HLW:=qh L8
   obtain ⟨N,hN⟩:=nmq (vs.length)
   obtain ⟨Z,hZ⟩:=nmq ((s1.nd X.1).length)
   have xz:X.2<Z:=by rw [hZ]; exact f.ia
   rw [<-hN,<-hZ] at SS
   rw [<-hN] at d0 q1' p1'
   rw [<-hZ] at d1
   have HN:=qh hN
   have HK:=qh hK
   clear hw3 k3 L8 hK hN hZ hw hc t2 tv ev f
   refine wp_region_held_drew (S:=(fun w'=>w'.cell? ⟨T,0,none⟩=some (.slice (some ⟨g0,0,none⟩) N c0)∧w'.cell? ⟨g0,X.1,none⟩=some (.slice (some ⟨b,o,none⟩) Z cp)∧w'.cell? ⟨q8,0,none⟩=some (.int .i64 X.1)∧w'.cell? ⟨q8,1,none⟩=some (.int .i64 X.2))) (by kernel_rfl) (⟨d0,d1,d2,d3⟩) (fun gH=>?_)
   refine rgT 0 (v:=?v70) ?y70 gH ?_
   case y70=>(intro v hSw; go_simp<;>rfl)
   refine rgT 1 (v:=?v71) ?y71 gH ?_
   case y71=>(intro v hSw; go_simp<;>rfl)
   refine rgT 2 (v:=?v72) ?y72 gH ?_
   case y72=>(intro v hSw; go_simp<;>rfl)
   try simp only [putS]
   refine rgT 3 (v:=?v73) ?y73 gH ?_
   case y73=>(intro v hSw; go_simp<;>rfl)
   refine rgT 4 (v:=?v74) ?y74 gH ?_
   case y74=>(intro v hSw; go_simp<;>rfl)
   refine rgT 5 (v:=?v75) ?y75 gH ?_
   case y75=>(intro v hSw; go_simp<;>rfl)
   try simp only [putS]
   refine rgT 6 (v:=?v76) ?y76 gH ?_
   case y76=>(intro v hSw; go_simp<;>rfl)
   refine rgT 7 (v:=?v77) ?y77 gH ?_
   case y77=>(intro v hSw; go_simp<;>rfl)
   refine rgT 8 (v:=?v78) ?y78 gH ?_
   case y78=>(intro v hSw; go_simp<;>rfl)
   try simp only [putS]
   refine rgT 9 (v:=?v79) ?y79 gH ?_
   case y79=>(intro v hSw; go_simp<;>rfl)
   refine rgT 10 (v:=?v80) ?y80 gH ?_
   case y80=>(intro v hSw; go_simp<;>rfl)
   refine rgT 11 (v:=?v81) ?y81 gH ?_
   case y81=>(intro v hSw; go_simp<;>rfl)
   try simp only [putS]
   refine rgO 12 fun K hK=>?_
   go_simp
   refine LE.out.mono ?_
   rintro r w4 ⟨rfl,h4⟩
   subst h4
   refine hK.out _ _ (gH) (fun gH=>?_)
   clear hK K
   refine rgT 13 (v:=?v82) ?y82 gH ?_
   case y82=>(intro v hSw; go_simp<;>rfl)
   refine rgT 14 (v:=?v83) ?y83 gH ?_
   case y83=>(intro v hSw; go_simp<;>rfl)
   try simp only [putS]
   refine rgO 15 fun K hK=>?_
   go_simp
   refine hK.out _ _ ((by have:=SS.out; rw [HW3.out] at this; exact this)) (fun gH=>?_)
   clear hK K
   try simp only [putS]
   refine rgD ?_
   rw [<-HW3.out]
   clear d0 d1 d2 d3 d4 d5
   have e0':=SS.out.1
   have f:=F.out
   have p3:Y<vs.length:=by rw [<-HN.out]; exact p1'
   obtain ⟨A3,cz,ev3,_⟩:=(t3.out.node Y p3).form
   have ndY:(s1.tell X Y).nd Y=s1.nd Y:=f.nd
   have e1':w3.cell? ⟨g0,Y,none⟩=some (.slice A3 ((s1.tell X Y).nd Y).length cz):=by
    obtain ⟨g',c',er,_,_,hc'⟩:=t3.out.rowAt (by omega)
    injection er with er _ _
    injection er with er
    injection er with er _ _
    rw [<-ev3,er]; exact (hc' Y p3).1
   have LW:=qh (show ∀ s' w5,LeftP w3 T E1 s' w5->LeftP w T E s' w5 from fun s' w5 hl=>LeftP.then (C1.out.trans C3.out fun k e=>A1.out k e) A1.out hl)
   obtain ⟨z,hz⟩:=nmq (((s1.tell X Y).nd Y).length)
   rw [<-hz] at e1'
   have HZ:=qh hz
   have NDY:=qh ndY
   clear hz ndY f ev3 p3 gH
   by_cases z4:4<z
   ·have z4':(4:Int)<(z:Int):=by omega
    have UP:=qh (show s1.up X Y=(s1.tell X Y).split X Y from if_pos (by rw [<-NDY.out,<-HZ.out]; exact z4))
    obtain ⟨w4,hw4⟩:=nmq (w3.drew)
    have g4:TabG w4 T E1 (s1.tell X Y):=by rw [hw4]; exact ⟨_,_,_,t3.out.below (Below.refl _ _).drew⟩
    have f:=F.out
    have PC:=qh (xPart w4 T E1 (s1.tell X Y) Y g4 (by rw [f.tlen]; exact f.ip) (by rw [<-HZ.out]; omega) (fun q hq=>by rw [f.tlen]; exact (f.free q hq).1) (by rw [f.tlen]; have:=f.ln; omega) (by have:=f.lf; show s1.free.length<=_; omega))
    have LY:=qh (show ∀ w5,LeftP w4 T E1 (((s1.tell X Y).put Y (((s1.tell X Y).nd Y).take 3)).take (((s1.tell X Y).nd Y).drop 3)) w5->Calls Tryz.prog 182 #[Ptr T,.agg #[.int .i64 X.1,.int .i64 ((X.2:Int)+1)],.agg #[.string (((s1.tell X Y).nd Y).key 3),.int .i64 (s1.tell X Y).place]] w5 fun r w'=>r=.returned (.tuple #[])∧LeftP w4 T E1 ((s1.tell X Y).split X Y) w' from fun w5 ⟨E5,g5,a5,c5⟩=>by
     have nq:=f.lay
     have ql:=f.laylen
     rw [<-f.nd] at nq ql
     have le:((s1.tell X Y).nd X.1).length=(s1.nd X.1).length:=by rw [f.ndq,List.length_set]
     have:=xLay w5 T E5 _ X.1 (X.2+1) (((s1.tell X Y).nd Y).key 3,((s1.tell X Y).place:Int)) g5 (Nat.lt_of_lt_of_le f.iq ql) (by rw [nq,le]; have:=f.ia; omega) (by rw [nq,le]; have:=f.ia; omega) (by rw [nq,le]; have:=f.lq; omega)
     rw [show ((X.2+1:Nat):Int)=(X.2:Int)+1 from rfl] at this
     refine this.mono fun r w' h=>⟨h.1,LeftP.then c5 a5 h.2⟩)
    have SK:=qh (show ∀ s' w5,LeftP w4 T E1 s' w5->w5.cell? ⟨q8,0,none⟩=some (.int .i64 X.1)∧w5.cell? ⟨q8,1,none⟩=some (.int .i64 X.2) from fun s' w5 ⟨E5,g5,a5,c5⟩=>by
     have r5:RowAt w5 q8 _ _:=(show RowAt w4 q8 _ _ by rw [hw4]; exact R3.out).keep c5 (fun e=>HLW.out _ e rfl)
     exact ⟨r5.cell 0,r5.cell 1⟩)
    have LV:=qh (show ∀ w5,LeftP w4 T E1 ((s1.tell X Y).split X Y) w5->LeftP w T E (s1.up X Y) w5 from fun w5 h5=>LW.out _ w5 (by
     rw [UP.out]
     obtain ⟨E5,g5,a5,c5⟩:=h5
     rw [hw4] at a5 c5
     exact ⟨E5,g5,a5,⟨c5.os,c5.tape,c5.output,c5.size,c5.block⟩⟩))
    have d2:=R3.out.cell 0
    have d3:=R3.out.cell 1
    simp only [geS] at d2 d3
    have HW4:=qh hw4
    have wx2:IntKind.i64.wrap ((X.2:Int)+1)=(X.2:Int)+1:=by rw [IntKind.wrap_i64]; have:=f.ia; have:=f.lq; omega
    clear f g4 hw4
    go_wp2_with fail
    clear e0' e1'
    refine wp_region_held_drew (S:=(fun w'=>w'.cell? ⟨q8,0,none⟩=some (.int .i64 X.1)∧w'.cell? ⟨q8,1,none⟩=some (.int .i64 X.2))) (by kernel_rfl) (⟨d2,d3⟩) (fun gH=>?_)
    rw [<-HW4.out] at gH ⊢
    refine rgT 0 (v:=?v84) ?y84 gH ?_
    case y84=>(intro v hSw; go_simp<;>rfl)
    refine rgT 1 (v:=?v85) ?y85 gH ?_
    case y85=>(intro v hSw; go_simp<;>rfl)
    refine rgT 2 (v:=?v86) ?y86 gH ?_
    case y86=>(intro v hSw; go_simp<;>rfl)
    try simp only [putS]
    refine rgT 3 (v:=?v87) ?y87 gH ?_
    case y87=>(intro v hSw; go_simp<;>rfl)
    refine rgT 4 (v:=?v88) ?y88 gH ?_
    case y88=>(intro v hSw; go_simp<;>rfl)
    refine rgT 5 (v:=?v89) ?y89 gH ?_
    case y89=>(intro v hSw; go_simp<;>rfl)
    try simp only [putS]
    refine rgT 6 (v:=?v90) ?y90 gH ?_
    case y90=>(intro v hSw; go_simp<;>rfl)
    refine rgT 7 (v:=?v91) ?y91 gH ?_
    case y91=>(intro v hSw; go_simp<;>rfl)
    refine rgT 8 (v:=?v92) ?y92 gH ?_
    case y92=>(intro v hSw; go_simp<;>rfl)
    try simp only [putS]
    refine rgO 9 fun K hK=>?_
    go_simp
    refine PC.out.mono ?_
    rintro r w5 ⟨rfl,hp⟩
    have LC5:=qh (LY.out w5 hp)
    refine hK.out _ _ ((SK.out _ w5 hp)) (fun gH=>?_)
    clear hK K
    try simp only [putS]
    refine rgO 10 fun K hK=>?_
    go_simp
    refine LC5.out.mono ?_
    rintro r w6 ⟨rfl,hp6⟩
    have HL6:=qh (LV.out w6 hp6)
    refine hK.out _ _ ((SK.out _ w6 hp6)) (fun gH=>?_)
    clear hK K
    try simp only [putS]
    refine rgD ?_
    go_wp2_with fail
    go_roundw
    case rel=>exact ⟨i,_,by omega,rfl,HL6,HS2,HU2⟩
    case measure=>simp [intOf]
   ·have UP:=qh (show s1.up X Y=s1.tell X Y from if_neg (by rw [<-NDY.out,<-HZ.out]; exact z4))
    go_wp2_with fail
    go_roundw
    case rel=>exact ⟨i,_,by omega,rfl,qh (by rw [UP.out]; exact ⟨E1,⟨_,_,_,t3.out⟩,A1.out,C1.out.trans C3.out fun k e=>A1.out k e⟩),HS2,HU2⟩
    case measure=>simp [intOf]
theorem TabV.eq_win {w:World} {T:Nat} {E:Nat->Prop} {s:Tab} {rv fv:Value} {vs:List Value} (h:TabV w T E s rv fv vs) {g c:Nat} (hr:rv=.slice (some ⟨g,0,none⟩) vs.length c) {p:Nat} (hp:p<vs.length):w.cell? ⟨g,p,none⟩=some (tnv vs p)∧w.frozen? ⟨g,p,none⟩=false:=by
 obtain ⟨g',c',e,_,_,hc⟩:=h.rowAt (by omega)
 rw [hr] at e
 injection e with e _ _
 injection e with e
 injection e with e _ _
 subst e
 exact hc p hp
theorem step_append_run {P:Program} {ops:Array Oper} {o:Oper} {a:Act} {w:World} {K:Act->World->Prop} {Q:Exit->Act->World->Prop} {E:Prop}
  (hg:o.guard=none) (s x:Operand) (t:TypeId) (hop:o.op=Op.call { callee:=Callee.builtin Builtin.append,args:=#[s,x],argTypes:=#[t,t] })
  (u1 u2:Value) (hs:a.eval s=u1) (hx:a.eval x=u2) (v':Value) (w':World) (hrun:(Builtin.append_ #[t,t] o.type #[u1,u2]).run P w=.ok v' w')
  (hK:K (a.put o.dst v') w'):if Region.wanted o (yielded ops a.tmps)=true then Oper.wp P o a w K Q else E:=by
 have hw:Region.wanted o (yielded ops a.tmps)=true:=by simp [Region.wanted,hg]
 rw [if_pos hw]
 unfold Oper.wp
 simp [execOp,hop,resolve,invoke,builtin,hs,hx,hrun,Result.andThen]
 exact hK
theorem xFill (w:World) (T:Nat) (E:Nat->Prop) (s:Tab) (x:Nat × Nat) (h:TabG w T E s) (hf:FineFill s x) :
  Calls Tryz.prog 171 #[Ptr T,.agg #[.int .i64 x.1,.int .i64 x.2]] w fun r w'=>r=.returned (.tuple #[])∧LeftP w T E (s.fill x) w':=by
 obtain ⟨q,a⟩:=x
 obtain ⟨rv,fv,vs,h⟩:=h
 have iq:q<vs.length:=by rw [h.len]; exact hf.iq
 have ia:a<(s.nd q).length:=hf.ia
 obtain ⟨g,c,hrv,hg,gT,hc⟩:=h.rowAt (by omega)
 obtain ⟨b,o,cp,ev,hw⟩:=h.win iq (by omega)
 have hW:=h.eW q b o iq ⟨o,_,cp,ev,Nat.le_refl _,by have:=hw.pos; omega⟩
 obtain ⟨p0,hp0,p0l,p0q,p0n,p0m⟩:=hf.kid a ia
 have p0l':p0<vs.length:=by rw [h.len]; exact p0l
 obtain ⟨A0,c0,ev0,_⟩:=(h.node p0 p0l').form
 obtain ⟨q3,hq3⟩:=nmq (w.heap.size)
 obtain ⟨w1,hw1⟩:=nmq (w.alloc (.cells #[.int .i64 q,.int .i64 a] 261))
 have B1:Below w.heap.size w w1:=by rw [hw1]; exact (Below.refl _ _).alloc (Nat.le_refl _) _
 have R1:=qh (show RowAt w1 q3 [.int .i64 q,.int .i64 a] 261 by rw [hw1,hq3]; exact RowAt.new w _ _)
 have S1:=qh (show w1.heap.size=q3+1 by rw [hw1,hq3]; simp)
 have V1:=qh (h.below B1)
 have d0:=V1.out.row.cell 0
 simp only [List.getElem?_cons_zero] at d0
 rw [hrv] at d0
 have d1:=(V1.out.eq_win hrv iq).1
 have d2:=(V1.out.eq_win hrv p0l').1
 rw [ev] at d1
 rw [ev0] at d2
 have d3:w1.cell? ⟨b,o+a * 2+1,none⟩=some (.int .i64 p0):=by
  have:=(hw.cells a ia).2
  rw [hp0] at this
  exact (B1.cell (p:=⟨b,o+a * 2+1,none⟩) (block_lt_of_cell this)).trans this
 have d4:=(hw.cells a ia).1
 have d4:w1.cell? ⟨b,o+a * 2,none⟩=some _:=(B1.cell (p:=⟨b,o+a * 2,none⟩) (block_lt_of_cell d4)).trans d4
 have d5:=R1.out.cell 0
 have d6:=R1.out.cell 1
 simp only [geS] at d5 d6
 have L3:=qh (show ∀ k,E k->k≠q3 from fun k e=>by have:=h.lt k e; omega)
 have KA:s.kid q a=p0:=by unfold Tab.kid; rw [hp0]; rfl
 obtain ⟨N,hN⟩:=nmq (vs.length)
 obtain ⟨Z,hZ⟩:=nmq ((s.nd q).length)
 obtain ⟨Z0,hZ0⟩:=nmq ((s.nd p0).length)
 have iaZ:a<Z:=by rw [hZ]; exact ia
 have ap:a<100000:=by have:=hf.lq; have e:(s.nd q).length<=1000:=this; omega
 rw [<-hN] at d0
 rw [<-hZ] at d1
 rw [<-hZ0] at d2
 have iqN:q<N:=by rw [hN]; exact iq
 have p0N:p0<N:=by rw [hN]; exact p0l'
 have H:=qh h
 have HF:=qh hf
 have EV:=qh ev
 have HRV:=qh hrv
 have HWE:=qh hW
 have HN:=qh hN
 have HZ:=qh hZ
 have HZ0:=qh hZ0
 have HW1:=qh hw1
 have HQ3:=qh hq3
 have HKA:=qh KA
 have HP0:=qh hp0
 have BB1:=qh B1
 have WW:=qh hw
 have P0L:=qh (show p0<s.nds.length∧p0≠q∧0<(s.nd p0).length from ⟨p0l,p0q,p0n⟩)
 have az:(0:Int)<=(a:Int):=by omega
 clear h hf ev hrv hW hN hZ hZ0 hw1 hq3 hc KA hp0 B1 hw ev0 ia iq p0l' p0l p0n p0m hg
 go_enter Tryz.func171,Tryz.ntmps171
 go_wp2_with fail
 rw [<-HW1.out,<-HQ3.out]
 have D:=qh (And.intro d0 (And.intro d1 (And.intro d2 (And.intro d3 (And.intro d4 (And.intro d5 d6))))))
 refine wp_region_held_drew (S:=(fun w'=>w'.cell? ⟨T,0,none⟩=some (.slice (some ⟨g,0,none⟩) N c)∧w'.cell? ⟨g,q,none⟩=some (.slice (some ⟨b,o,none⟩) Z cp)∧w'.cell? ⟨g,p0,none⟩=some (.slice A0 Z0 c0)∧w'.cell? ⟨b,o+a * 2+1,none⟩=some (.int .i64 p0)∧w'.cell? ⟨b,o+a * 2,none⟩=some (.string ((s.nd q).key a))∧w'.cell? ⟨q3,0,none⟩=some (.int .i64 q)∧w'.cell? ⟨q3,1,none⟩=some (.int .i64 a))) (by kernel_rfl) (D.out) (fun gH=>?_)
 refine rgT 0 (v:=?v1) ?y1 gH ?_
 case y1=>(intro v hSw; go_simp<;>rfl)
 refine rgT 1 (v:=?v2) ?y2 gH ?_
 case y2=>(intro v hSw; go_simp<;>rfl)
 refine rgT 2 (v:=?v3) ?y3 gH ?_
 case y3=>(intro v hSw; go_simp<;>rfl)
 try simp only [putS]
 refine rgT 3 (v:=?v4) ?y4 gH ?_
 case y4=>(intro v hSw; go_simp<;>rfl)
 refine rgT 4 (v:=?v5) ?y5 gH ?_
 case y5=>(intro v hSw; go_simp<;>rfl)
 refine rgT 5 (v:=?v6) ?y6 gH ?_
 case y6=>(intro v hSw; go_simp<;>rfl)
 try simp only [putS]
 refine rgT 6 (v:=?v7) ?y7 gH ?_
 case y7=>(intro v hSw; go_simp<;>rfl)
 refine rgT 7 (v:=?v8) ?y8 gH ?_
 case y8=>(intro v hSw; go_simp<;>rfl)
 refine rgT 8 (v:=?v9) ?y9 gH ?_
 case y9=>(intro v hSw; go_simp<;>rfl)
 try simp only [putS]
 refine rgD ?_
 go_wp2_with fail
 refine wp_region_held_drew (S:=(fun w'=>w'.cell? ⟨T,0,none⟩=some (.slice (some ⟨g,0,none⟩) N c)∧w'.cell? ⟨g,q,none⟩=some (.slice (some ⟨b,o,none⟩) Z cp)∧w'.cell? ⟨g,p0,none⟩=some (.slice A0 Z0 c0)∧w'.cell? ⟨b,o+a * 2+1,none⟩=some (.int .i64 p0)∧w'.cell? ⟨b,o+a * 2,none⟩=some (.string ((s.nd q).key a))∧w'.cell? ⟨q3,0,none⟩=some (.int .i64 q)∧w'.cell? ⟨q3,1,none⟩=some (.int .i64 a))) (by kernel_rfl) (D.out) (fun gH=>?_)
 by_cases z2:2<=Z0
 ·have z2':(2:Int)<=(Z0:Int):=by omega
  have UP:=qh (show s.fill (q,a)=s.tell (q,a) p0 by unfold Tab.fill; rw [HKA.out]; exact if_pos (by rw [<-HZ0.out]; exact z2))
  refine rgT 0 (v:=?v10) ?y10 gH ?_
  case y10=>(intro v hSw; go_simp<;>rfl)
  refine rgT 1 (v:=?v11) ?y11 gH ?_
  case y11=>(intro v hSw; go_simp<;>rfl)
  refine rgT 2 (v:=?v12) ?y12 gH ?_
  case y12=>(intro v hSw; go_simp<;>rfl)
  try simp only [putS]
  refine rgT 3 (v:=?v13) ?y13 gH ?_
  case y13=>(intro v hSw; go_simp<;>rfl)
  refine rgT 4 (v:=?v14) ?y14 gH ?_
  case y14=>(intro v hSw; go_simp<;>rfl)
  refine rgT 5 (v:=?v15) ?y15 gH ?_
  case y15=>(intro v hSw; go_simp<;>rfl)
  try simp only [putS]
  refine rgT 6 (v:=?v16) ?y16 gH ?_
  case y16=>(intro v hSw; go_simp<;>rfl)
  refine rgT 7 (v:=?v17) ?y17 gH ?_
  case y17=>(intro v hSw; go_simp<;>rfl)
  refine rgT 8 (v:=?v18) ?y18 gH ?_
  case y18=>(intro v hSw; go_simp<;>rfl)
  try simp only [putS]
  refine rgT 9 (v:=?v19) ?y19 gH ?_
  case y19=>(intro v hSw; go_simp<;>rfl)
  refine rgT 10 (v:=?v20) ?y20 gH ?_
  case y20=>(intro v hSw; go_simp<;>rfl)
  refine rgT 11 (v:=?v21) ?y21 gH ?_
  case y21=>(intro v hSw; go_simp<;>rfl)
  try simp only [putS]
  refine rgT 12 (v:=?v22) ?y22 gH ?_
  case y22=>(intro v hSw; go_simp<;>rfl)
  refine rgT 13 (v:=?v23) ?y23 gH ?_
  case y23=>(intro v hSw; go_simp<;>rfl)
  try simp only [putS]
  refine rgD ?_
  go_wp2_with fail
  obtain ⟨K,hK⟩:=nmq ((s.nd p0).key 0)
  obtain ⟨w2,hw2⟩:=nmq (w1.drew.drew.drew)
  have V2:=V1.out.below (w':=w2) (by rw [hw2]; exact (Below.refl _ _).drew.drew.drew)
  have LE:=qh (xLeast w2 T E s _ _ _ p0 V2 (by rw [V2.len]; exact P0L.out.1) P0L.out.2.2)
  rw [<-hK] at LE
  have iq:q<vs.length:=by rw [<-HN.out]; exact iqN
  have ia:a<(s.nd q).length:=HF.out.ia
  have V3:=qh (V2.item (j:=0) (u:=.string K) (K,(s.nd q).num a) iq EV.out ia (by decide) (by rw [KV.getE _ _ ia]; rfl))
  rw [Nat.add_zero,hK] at V3
  have F3:=qh (show ∀ w3,w3=w2.setCell ⟨b,o+a * 2,none⟩ (.string K)->LeftP w T E (s.fill (q,a)) w3 from fun w3 h3=>by
   rw [UP.out,h3]
   refine ⟨E,⟨_,_,_,by rw [hK]; exact V3.out⟩,fun _ e=>.inl e,?_⟩
   rw [hw2]
   exact Chg.setCell (Chg.of_below BB1.out).drew.drew.drew (.inl HWE.out.1) _)
  have fz:w1.frozen? ⟨b,o+a * 2,none⟩=false:=by
   obtain ⟨b',o',c',e,k⟩:=V1.out.win iq (by omega)
   rw [EV.out] at e
   injection e with e1 _ e3
   injection e1 with e1
   injection e1 with e1 e4 _
   subst e1
   exact k.plain.frozen _
  have bq:b≠q3:=L3.out b HWE.out.1
  have KS:=qh (show ∀ u,(w1.setCell ⟨b,o+a * 2,none⟩ u).cell? ⟨b,o+a * 2+1,none⟩=some (.int .i64 p0)∧(w1.setCell ⟨b,o+a * 2,none⟩ u).cell? ⟨q3,1,none⟩=some (.int .i64 a) from fun u=>by
   refine ⟨?_,(World.cell?_of_block (a:=⟨q3,1,none⟩) (Below.heap_setCell _ _ _ _ (Ne.symm bq))).trans d6⟩
   rw [World.cell?_setCell_other (h:=fun e=>by injection e with _ e _; omega)]
   exact d3)
  have HW2:=qh hw2
  clear V2 hw2 hK gH
  refine wp_region_held_drew (S:=(fun w'=>w'.cell? ⟨b,o+a * 2+1,none⟩=some (.int .i64 p0)∧w'.cell? ⟨q3,1,none⟩=some (.int .i64 a))) (by kernel_rfl) (⟨d3,d6⟩) (fun gH=>?_)
  refine rgT 0 (v:=?v24) ?y24 gH ?_
  case y24=>(intro v hSw; go_simp<;>rfl)
  refine rgT 1 (v:=?v25) ?y25 gH ?_
  case y25=>(intro v hSw; go_simp<;>rfl)
  refine rgT 2 (v:=?v26) ?y26 gH ?_
  case y26=>(intro v hSw; go_simp<;>rfl)
  try simp only [putS]
  refine rgT 3 (v:=?v27) ?y27 gH ?_
  case y27=>(intro v hSw; go_simp<;>rfl)
  refine rgT 4 (v:=?v28) ?y28 gH ?_
  case y28=>(intro v hSw; go_simp<;>rfl)
  refine rgT 5 (v:=?v29) ?y29 gH ?_
  case y29=>(intro v hSw; go_simp<;>rfl)
  try simp only [putS]
  refine rgT 6 (v:=?v30) ?y30 gH ?_
  case y30=>(intro v hSw; go_simp<;>rfl)
  refine rgT 7 (v:=?v31) ?y31 gH ?_
  case y31=>(intro v hSw; go_simp<;>rfl)
  refine rgT 8 (v:=?v32) ?y32 gH ?_
  case y32=>(intro v hSw; go_simp<;>rfl)
  try simp only [putS]
  refine rgT 9 (v:=?v33) ?y33 gH ?_
  case y33=>(intro v hSw; go_simp<;>rfl)
  try simp only [putS]
  rw [<-HW2.out] at gH ⊢
  refine rgO 10 fun K hK=>?_
  go_simp
  refine LE.out.mono ?_
  rintro r w2' ⟨rfl,h2⟩
  subst h2
  rw [HW2.out] at gH ⊢
  refine hK.out _ _ (gH) (fun gH=>?_)
  clear hK K
  refine rgT 11 (v:=?v34) ?y34 gH ?_
  case y34=>(intro v hSw; go_simp<;>rfl)
  refine rgT 12 (v:=?v35) ?y35 gH ?_
  case y35=>(intro v hSw; go_simp<;>rfl)
  try simp only [putS]
  refine rgO 13 fun K hK=>?_
  go_simp
  refine hK.out _ _ ((KS.out _)) (fun gH=>?_)
  clear hK K
  try simp only [putS]
  refine rgD ?_
  go_wp2_with fail
  exact bodyPost_ret (results_none rfl _ _ _) rfl ⟨rfl,F3.out _ (by rw [HW2.out]; rfl)⟩
 ·have z2':decide ((2:Int)<=(Z0:Int))=false:=decide_eq_false (by omega)
  refine rgT 0 (v:=?v36) ?y36 gH ?_
  case y36=>(intro v hSw; go_simp<;>rfl)
  refine rgT 1 (v:=?v37) ?y37 gH ?_
  case y37=>(intro v hSw; go_simp<;>rfl)
  refine rgT 2 (v:=?v38) ?y38 gH ?_
  case y38=>(intro v hSw; go_simp<;>rfl)
  try simp only [putS]
  refine rgT 3 (v:=?v39) ?y39 gH ?_
  case y39=>(intro v hSw; go_simp<;>rfl)
  refine rgT 4 (v:=?v40) ?y40 gH ?_
  case y40=>(intro v hSw; go_simp<;>rfl)
  refine rgT 5 (v:=?v41) ?y41 gH ?_
  case y41=>(intro v hSw; go_simp<;>rfl)
  try simp only [putS]
  refine rgT 6 (v:=?v42) ?y42 gH ?_
  case y42=>(intro v hSw; go_simp<;>rfl)
  refine rgT 7 (v:=?v43) ?y43 gH ?_
  case y43=>(intro v hSw; go_simp<;>rfl)
  refine rgT 8 (v:=?v44) ?y44 gH ?_
  case y44=>(intro v hSw; go_simp<;>rfl)
  try simp only [putS]
  refine rgT 9 (v:=?v45) ?y45 gH ?_
  case y45=>(intro v hSw; go_simp<;>rfl)
  refine rgT 10 (v:=?v46) ?y46 gH ?_
  case y46=>(intro v hSw; go_simp<;>rfl)
  refine rgT 11 (v:=?v47) ?y47 gH ?_
  case y47=>(intro v hSw; go_simp<;>rfl)
  try simp only [putS]
  refine rgT 12 (v:=?v48) ?y48 gH ?_
  case y48=>(intro v hSw; go_simp<;>rfl)
  refine rgT 13 (v:=?v49) ?y49 gH ?_
  case y49=>(intro v hSw; go_simp<;>rfl)
  try simp only [putS]
  refine rgD ?_
  obtain ⟨f,hf⟩:=nmq (a-1)
  obtain ⟨w2,hw2⟩:=nmq (w1.drew.drew)
  have V2:=V1.out.below (w':=w2) (by rw [hw2]; exact (Below.refl _ _).drew.drew)
  have C2:=qh (show Chg E w w2 by rw [hw2]; exact (Chg.of_below BB1.out).drew.drew)
  have R2:=qh (show RowAt w2 q3 [.int .i64 q,.int .i64 a] 261 by rw [hw2]; exact R1.out)
  have S2:=qh (show w2.heap.size=q3+1 by rw [hw2]; exact S1.out)
  have fl:f<Z∧f+1<Z:=by have e:=HF.out.two; have e:2<=(s.nd q).length:=e; rw [<-HZ.out] at e; omega
  have UP:s.fill (q,a)=(s.join q f (s.kid q f) (s.kid q (f+1))).fix (q,f) (s.kid q f):=by
   unfold Tab.fill; rw [HKA.out,hf]; exact if_neg (by rw [<-HZ0.out]; exact z2)
  obtain ⟨P,hP⟩:=nmq (s.kid q f)
  obtain ⟨O,hO⟩:=nmq (s.kid q (f+1))
  have PR:Pair s q f P O:=by rw [hP,hO,hf]; exact HF.out.pair
  rw [<-hP,<-hO] at UP
  obtain ⟨P',eP,_,_,nP,mP⟩:=HF.out.kid f (by rw [<-HZ.out]; exact fl.1)
  obtain ⟨O',eO,_,_,nO,mO⟩:=HF.out.kid (f+1) (by rw [<-HZ.out]; exact fl.2)
  have eP':P'=P:=by rw [hP]; unfold Tab.kid; rw [show (s.nd q).num f=(P':Int) from eP]; rfl
  have eO':O'=O:=by rw [hO]; unfold Tab.kid; rw [show (s.nd q).num (f+1)=(O':Int) from eO]; rfl
  subst eP'
  subst eO'
  have Pl:P'<vs.length:=by rw [V2.len]; exact PR.ip
  have Ol:O'<vs.length:=by rw [V2.len]; exact PR.io
  have ql:q<vs.length:=by rw [V2.len]; exact PR.iq
  obtain ⟨bP,oP,cP,evP,_⟩:=V2.win Pl nP
  obtain ⟨bO,oO,cO,evO,_⟩:=V2.win Ol nO
  have kb:∀ v i,w.cell? ⟨b,i,none⟩=some v->w2.cell? ⟨b,i,none⟩=some v:=fun v i hv=>by
   have e:w2.heap[b]?=w.heap[b]?:=by rw [hw2]; exact BB1.out.block b (H.out.lt b HWE.out.1)
   exact (World.cell?_of_block (a:=⟨b,i,none⟩) e).trans hv
  have m0:w2.cell? ⟨b,o+f * 2+1,none⟩=some (.int .i64 P'):=by
   have:=(WW.out.cells f (by rw [<-HZ.out]; exact fl.1)).2
   rw [show (s.nd q).num f=(P':Int) from eP] at this
   exact kb _ _ this
  have m1:w2.cell? ⟨b,o+(f+1) * 2+1,none⟩=some (.int .i64 O'):=by
   have:=(WW.out.cells (f+1) (by rw [<-HZ.out]; exact fl.2)).2
   rw [show (s.nd q).num (f+1)=(O':Int) from eO] at this
   exact kb _ _ this
  obtain ⟨w3,hw3⟩:=nmq (w2.drew.drew)
  have V3:=V2.below (w':=w3) (by rw [hw3]; exact (Below.refl _ _).drew.drew)
  have WP:WinAt w3 bP oP cP (s.nd P'):=by
   obtain ⟨b',o',c',e,k⟩:=V3.win Pl nP
   rw [evP] at e
   injection e with e1 _ e3
   injection e1 with e1
   injection e1 with e1 e4 _
   subst e1; subst e4; subst e3; exact k
  have WO:WinAt w3 bO oO cO (s.nd O'):=by
   obtain ⟨b',o',c',e,k⟩:=V3.win Ol nO
   rw [evO] at e
   injection e with e1 _ e3
   injection e1 with e1
   injection e1 with e1 e4 _
   subst e1; subst e4; subst e3; exact k
  obtain ⟨v',w4,hrun,hmv,_⟩:=run_app w3 259 259 259 Tryz.underlying259 Tryz.underlying259 bP oP cP (s.nd P') (s.nd O') WP bO oO cO WO.row (by omega)
  rw [<-evP] at hmv
  have n3:TabV w3 T E s rv fv vs:=V3
  obtain ⟨hm1,hm2,hm3,_⟩:=hmv
  obtain ⟨A',c',rfl,_⟩:=hm1.form
  have s3:w3.heap.size=q3+1:=by rw [hw3]; exact S2.out
  have V5:TabV (w4.setCell ⟨g,P',none⟩ _) T (fun k=>k<w4.heap.size∧(E k∨w3.heap.size<=k)) (s.put P' (s.nd P'++s.nd O')) rv fv (vs.set P' _):=V3.moved Pl HRV.out hm1 hm2 hm3 (fun k e=>⟨by have:=V3.lt k e; have:=hm2.size; omega,.inl e⟩) (fun k e f=>⟨f,.inr e⟩) (fun k e=>e.1)
  obtain ⟨w5,hw5⟩:=nmq (w4.setCell ⟨g,P',none⟩ (.slice A' (s.nd P'++s.nd O').length c'))
  rw [<-hw5] at V5
  have gE:E g:=(V3.eN g (by rw [HRV.out]; rfl)).1
  have C5:Chg E w w5:=by
   rw [hw5]
   refine Chg.setCell (Chg.then (a:=w) (b:=w3) ?_ (hm2.chg fun k j e=>(V3.eW P' k j Pl e).1)) (.inl gE) _
   rw [hw3]; exact C2.out.drew.drew
  obtain ⟨E5,hE5⟩:∃ E5:Nat->Prop,E5=fun k=>k<w4.heap.size∧(E k∨w3.heap.size<=k):=⟨_,rfl⟩
  rw [<-hE5] at V5
  have A5:∀ k,E5 k->E k∨q3+1<=k:=fun k e=>by rw [hE5] at e; rw [<-s3]; exact e.2
  have fw:w4.frozen? ⟨g,P',none⟩=false∧w4.cell? ⟨g,P',none⟩=some (tnv vs P')∧w4.cell? ⟨g,O',none⟩=some (tnv vs O')∧w4.cell? ⟨T,0,none⟩=some rv:=by
   have kp:∀ k,k<w3.heap.size->(∀ j,¬ InWin (tnv vs P') k j)->w4.heap[k]?=w3.heap[k]?:=hm2.block
   have ng:∀ j,¬ InWin (tnv vs P') g j:=fun j e=>(V3.eW P' g j Pl e).2.2.1 (by rw [HRV.out]; rfl)
   have nT:∀ j,¬ InWin (tnv vs P') T j:=fun j e=>(V3.eW P' T j Pl e).2.1 rfl
   have eg:=kp g (V3.lt g gE) ng
   have eT:=kp T (V3.lt T V3.eT) nT
   obtain ⟨k1,k2⟩:=V3.eq_win HRV.out Pl
   exact ⟨(World.frozen?_of_block (a:=⟨g,P',none⟩) eg).trans k2,(World.cell?_of_block (a:=⟨g,P',none⟩) eg).trans k1,(World.cell?_of_block (a:=⟨g,O',none⟩) eg).trans (V3.eq_win HRV.out Ol).1,(World.cell?_of_block (a:=⟨T,0,none⟩) eT).trans (V3.row.cell 0)⟩
  have C5q3:w5.cell? ⟨q3,0,none⟩=some (.int .i64 q):=by
   have e3:w3.heap[q3]?=w2.heap[q3]?:=by rw [hw3]; rfl
   have nw:∀ j,¬ InWin (tnv vs P') q3 j:=fun j e=>L3.out q3 (V3.eW P' q3 j Pl e).1 rfl
   have e4:=hm2.block q3 (by omega) nw
   have gq:g≠q3:=L3.out g gE
   rw [hw5]
   refine (World.cell?_of_block (a:=⟨q3,0,none⟩) ((Below.heap_setCell _ _ _ _ (Ne.symm gq)).trans (e4.trans e3))).trans ?_
   exact R2.out.cell 0
  have nO1:(s.put P' (s.nd P'++s.nd O')).nd O'=s.nd O':=by rw [PR.nd1,if_neg (Ne.symm PR.po)]
  have RL:=qh (xReleaseV w5 T E5 (s.put P' (s.nd P'++s.nd O')) rv fv _ O' V5 (by rw [PR.len1]; exact PR.io) (by rw [nO1]; exact nO) (by have:=HF.out.lf; show s.free.length<=_; omega))
  have VS6:∀ u,tnv ((vs.set P' u).set O' nilv) q=.slice (some ⟨b,o,none⟩) (s.nd q).length cp:=fun u=>by
   rw [nv_set (by rw [List.length_set]; exact Ol),if_neg (Ne.symm PR.oq),nv_set Pl,if_neg (Ne.symm PR.pq)]
   exact EV.out
  obtain ⟨K,hK⟩:=nmq (((s.melt P' O').nd P').key 0)
  have lm:0<((s.melt P' O').nd P').length:=by rw [PR.nd2p,List.length_append]; omega
  have AF:=qh (show ∀ w6 E6 fv6,TabV w6 T E6 (s.melt P' O') rv fv6 ((vs.set P' (.slice A' (s.nd P'++s.nd O').length c')).set O' nilv)->(∀ k,E6 k->E5 k∨w5.heap.size<=k)->Chg E5 w5 w6 →
    (∃ u,w6.cell? ⟨b,o+f * 2,none⟩=some u)∧w6.frozen? ⟨b,o+f * 2,none⟩=false∧Calls Tryz.prog 183 #[Ptr T,.int .i64 P'] w6 (fun x w'=>x=.returned (.string K)∧w'=w6)∧(w6.setCell ⟨b,o+f * 2,none⟩ (.string K)).cell? ⟨q3,0,none⟩=some (.int .i64 q) ∧
    ∀ w8,w8=(w6.setCell ⟨b,o+f * 2,none⟩ (.string K)).alloc (.cells #[.int .i64 q,.int .i64 ((f:Int)+1)] 261)->Calls Tryz.prog 170 #[Ptr T,.agg #[.int .i64 q,.int .i64 ((f:Int)+1)]] w8 (fun r w9=>r=.returned (.tuple #[])∧LeftP w8 T E6 (s.join q f P' O') w9)∧Chg E6 w6 w8∧(∀ k,E6 k->k<w6.heap.size)∧RowAt w8 w6.heap.size [.int .i64 q,.int .i64 ((f:Int)+1)] 261∧w8.heap.size=w6.heap.size+1 from fun w6 E6 fv6 V6 A6 C6=>by
   have l6:P'<((vs.set P' (.slice A' (s.nd P'++s.nd O').length c')).set O' nilv).length:=by rw [List.length_set,List.length_set]; exact Pl
   have q6:q<((vs.set P' (.slice A' (s.nd P'++s.nd O').length c')).set O' nilv).length:=by rw [List.length_set,List.length_set]; exact ql
   have ev6:=VS6 (.slice A' (s.nd P'++s.nd O').length c')
   have nq6:(s.melt P' O').nd q=s.nd q:=PR.nd2q
   rw [<-nq6] at ev6
   have f6:f<((s.melt P' O').nd q).length:=by rw [nq6,<-HZ.out]; exact fl.1
   have W6:WinAt w6 b o cp ((s.melt P' O').nd q):=by
    obtain ⟨b',o',c',e,k⟩:=V6.win q6 (by omega)
    rw [ev6] at e
    injection e with e1 _ e3
    injection e1 with e1
    injection e1 with e1 e4 _
    subst e1; subst e4; subst e3; exact k
   have b6:=V6.eW q b o q6 (by rw [ev6]; exact ⟨o,_,cp,rfl,Nat.le_refl _,by have:=W6.pos; omega⟩)
   have q3n:¬ E5 q3:=fun e=>by
    rcases A5 q3 e with r | r
    ·exact L3.out q3 r rfl
    ·omega
   have s5:w3.heap.size<=w5.heap.size:=by rw [hw5]; simp [World.setCell]; exact hm2.size
   have bq3:b≠q3:=fun e=>by rw [e] at b6; exact (A6 q3 b6.1).elim (fun r=>q3n r) (fun r=>by omega)
   have c3:w6.cell? ⟨q3,0,none⟩=some (.int .i64 q):=C6.cell (p:=⟨q3,0,none⟩) (C5q3) q3n
   refine ⟨⟨_,(W6.cells f f6).1⟩,W6.plain.frozen _,?_,(World.cell?_of_block (a:=⟨q3,0,none⟩) (Below.heap_setCell _ _ _ _ (Ne.symm bq3))).trans c3,fun w8 hw8=>?_⟩
   ·rw [hK]; exact xLeast w6 T E6 _ rv fv6 _ P' V6 l6 lm
   ·have V7:=V6.item (j:=0) (u:=.string K) (K,((s.melt P' O').nd q).num f) q6 ev6 f6 (by decide) (by rw [KV.getE _ _ f6]; rfl)
    rw [Nat.add_zero,hK] at V7
    have V7':TabV _ T E6 ((s.melt P' O').tell (q,f) P') _ _ _:=V7
    have b8:Below (w6.setCell ⟨b,o+f * 2,none⟩ (.string K)).heap.size (w6.setCell ⟨b,o+f * 2,none⟩ (.string K)) w8:=by rw [hw8]; exact (Below.refl _ _).alloc (Nat.le_refl _) _
    have V8:=V7'.below (w':=w8) (by rw [<-hK]; exact b8)
    have z6:(w6.setCell ⟨b,o+f * 2,none⟩ (.string K)).heap.size=w6.heap.size:=by simp [World.setCell]
    refine ⟨?_,Chg.then (Chg.setCell (Chg.refl E6 w6) (.inl b6.1) _) (Chg.of_below b8),V6.lt,by rw [hw8,<-z6]; exact RowAt.new _ _ _,by rw [hw8,World.size_alloc,z6]⟩
    have:=xDrop w8 T E6 ((s.melt P' O').tell (q,f) P') q (f+1) ⟨_,_,_,V8⟩ (by rw [PR.len3]; exact PR.iq) (by rw [PR.nd3,if_pos rfl,List.length_set]; exact PR.lf1) (by rw [PR.nd3,if_pos rfl,List.length_set]; have e:(s.nd q).length<=1000:=HF.out.lq; omega)
    exact this)
  have A5w:∀ k,E5 k->E k∨w.heap.size<=k:=fun k e=>by
   rcases A5 k e with r | r
   ·exact .inl r
   ·exact .inr (by have:=HQ3.out; omega)
  obtain ⟨z9,hz9⟩:=nmq (((s.join q f P' O').nd P').length)
  have UPy:∀ s',s'=s.fill (q,a)->4<z9->s'=(s.join q f P' O').split (q,f) P':=fun s' e h4=>by rw [e,UP]; exact if_pos (by rw [<-hz9]; exact h4)
  have UPn:¬ 4<z9->s.fill (q,a)=s.join q f P' O':=fun h4=>by rw [UP]; exact if_neg (by rw [<-hz9]; exact h4)
  have LV:=qh (show ∀ w6 E6 w8 s' w9,(∀ k,E6 k->E5 k∨w5.heap.size<=k)->Chg E5 w5 w6->Chg E6 w6 w8->LeftP w8 T E6 s' w9->LeftP w T E s' w9 from fun w6 E6 w8 s' w9 a6 c6 c68 h=>LeftP.then C5 A5w (LeftP.then c6 a6 (LeftP.then c68 (fun _ e=>.inl e) h)))
  have G9:=qh (show ∀ w8 E6 w9,LeftP w8 T E6 (s.join q f P' O') w9->∃ g9 N9 c9 A9 cz,w9.cell? ⟨T,0,none⟩=some (.slice (some ⟨g9,0,none⟩) N9 c9)∧P'<N9∧w9.cell? ⟨g9,P',none⟩=some (.slice A9 z9 cz) from fun w8 E6 w9 ⟨E9,⟨rv9,fv9,vs9,V9⟩,_,_⟩=>by
   have p9:P'<vs9.length:=by rw [V9.len,PR.len4]; exact PR.ip
   obtain ⟨g9,c9,e9,_,_,hc9⟩:=V9.rowAt (by omega)
   obtain ⟨A9,cz,ev9,_⟩:=(V9.node P' p9).form
   refine ⟨g9,vs9.length,c9,A9,cz,by rw [<-e9]; exact V9.row.cell 0,p9,?_⟩
   rw [hz9,<-ev9]; exact (hc9 P' p9).1)
  have q6:∀ k,E5 k->k≠q3:=fun k e t=>by
   rcases A5 k e with r | r
   ·exact L3.out k r t
   ·omega
  have m2:=fw.1
  have m3:=fw.2.1
  have m4:=fw.2.2.1
  have m5:=fw.2.2.2
  rw [HRV.out] at m5
  rw [evP] at m3
  rw [evO] at m4
  have n0:=V2.row.cell 0
  simp only [List.getElem?_cons_zero] at n0
  rw [HRV.out] at n0
  have n1:=(V2.eq_win HRV.out Pl).1
  have n2:=(V2.eq_win HRV.out Ol).1
  rw [evP] at n1
  rw [evO] at n2
  obtain ⟨zP,hzP⟩:=nmq ((s.nd P').length)
  obtain ⟨zO,hzO⟩:=nmq ((s.nd O').length)
  obtain ⟨zA,hzA⟩:=nmq ((s.nd P'++s.nd O').length)
  rw [<-hzA] at hw5
  rw [<-hzP] at m3 n1 hrun
  rw [<-hzO] at m4 n2 hrun
  rw [<-hzA] at hrun
  rw [<-HN.out] at m5 n0 Pl Ol
  have hrun':=fun ty=>(show (Builtin.append_ #[259,259] ty #[.slice (some ⟨bP,oP,none⟩) zP cP,.slice (some ⟨bO,oO,none⟩) zO cO]).run Tryz.prog w3=.ok (.slice A' zA c') w4 from hrun)
  have H6:=qh (show ∀ u,(w4.setCell ⟨g,P',none⟩ u).cell? ⟨T,0,none⟩=some (.slice (some ⟨g,0,none⟩) N c)∧(w4.setCell ⟨g,P',none⟩ u).cell? ⟨g,O',none⟩=some (.slice (some ⟨bO,oO,none⟩) zO cO) from fun u=>by
   refine ⟨(World.cell?_of_block (a:=⟨T,0,none⟩) (Below.heap_setCell _ _ _ _ (Ne.symm gT))).trans m5,?_⟩
   rw [World.cell?_setCell_other (h:=fun e=>PR.po (by injection e))]
   exact m4)
  have P3:=qh (show w3.cell? ⟨g,P',none⟩=some (.slice (some ⟨bP,oP,none⟩) zP cP) by rw [hw3]; exact n1)
  have HW2:=qh hw2
  have HW3:=qh hw3
  have HW5:=qh hw5
  have HFA:=qh hf
  have M:=qh (And.intro m0 m1)
  have M6:=qh (And.intro m2 (And.intro m3 (And.intro m4 m5)))
  have N6:=qh (And.intro n0 n2)
  have HPR:=qh PR
  have HUY:=qh UPy
  have HUN:=qh UPn
  have Q6:=qh q6
  have HZ9:=qh hz9
  have HR:=qh hrun'
  have fl1:=fl.1
  have fl2:(f:Int)+1<(Z:Int):=by have:=fl.2; omega
  have f0:(0:Int)<=(f:Int)+1:=by omega
  have fb:f<100000:=by omega
  have fw1:IntKind.i64.wrap ((f:Int)+1)=(f:Int)+1:=by rw [IntKind.wrap_i64]; omega
  have ft:((f:Int)+1).toNat=f+1:=by omega
  clear V2 V3 WP WO n3 hm1 hm2 hm3 s3 V5 gE C5 A5 fw nO1 VS6 lm C5q3 A5w q6 kb evP evO nP nO mP mO eP eO hw2 hw3 hw5 hE5 hP hO hK hz9 UP UPy UPn PR ql m0 m1 m2 m3 m4 m5 n0 n1 n2 gH d0 d1 d2 d3 d4 d5 d6 hzP hzO hzA hrun hrun' hf fl D
  by_cases z4:4<z9
  ·have z4':(4:Int)<(z9:Int):=by omega
   by_cases a1:1<=a
   ·have a2:(0:Int)<=(a:Int)-1:=by omega
    go_wp2_with fail
    have e:(a:Int)-1=(f:Int):=by have:=HFA.out; omega
    rw [e]
    clear e
    rw [<-HW2.out]
    refine wp_region_held_drew (S:=(fun w'=>w'.cell? ⟨b,o+f * 2+1,none⟩=some (.int .i64 P')∧w'.cell? ⟨b,o+(f+1) * 2+1,none⟩=some (.int .i64 O'))) (by kernel_rfl) (M.out) (fun gH=>?_)
    refine rgT 0 (v:=?v50) ?y50 gH ?_
    case y50=>(intro v hSw; go_simp<;>rfl)
    refine rgT 1 (v:=?v51) ?y51 gH ?_
    case y51=>(intro v hSw; go_simp<;>rfl)
    refine rgT 2 (v:=?v52) ?y52 gH ?_
    case y52=>(intro v hSw; go_simp<;>rfl)
    try simp only [putS]
    refine rgT 3 (v:=?v53) ?y53 gH ?_
    case y53=>(intro v hSw; go_simp<;>rfl)
    refine rgT 4 (v:=?v54) ?y54 gH ?_
    case y54=>(intro v hSw; go_simp<;>rfl)
    refine rgT 5 (v:=?v55) ?y55 gH ?_
    case y55=>(intro v hSw; go_simp<;>rfl)
    try simp only [putS]
    refine rgT 6 (v:=?v56) ?y56 gH ?_
    case y56=>(intro v hSw; go_simp<;>rfl)
    refine rgT 7 (v:=?v57) ?y57 gH ?_
    case y57=>(intro v hSw; go_simp<;>rfl)
    refine rgT 8 (v:=?v58) ?y58 gH ?_
    case y58=>(intro v hSw; go_simp<;>rfl)
    try simp only [putS]
    refine rgT 9 (v:=?v59) ?y59 gH ?_
    case y59=>(intro v hSw; go_simp<;>rfl)
    refine rgT 10 (v:=?v60) ?y60 gH ?_
    case y60=>(intro v hSw; go_simp<;>rfl)
    refine rgT 11 (v:=?v61) ?y61 gH ?_
    case y61=>(intro v hSw; go_simp<;>rfl)
    try simp only [putS]
    refine rgT 12 (v:=?v62) ?y62 gH ?_
    case y62=>(intro v hSw; go_simp<;>rfl)
    try simp only [putS]
    refine rgD ?_
    clear gH
    go_wp2_with fail
    refine wp_region_held_drew (S:=(fun w'=>w'.cell? ⟨T,0,none⟩=some (.slice (some ⟨g,0,none⟩) N c)∧w'.cell? ⟨g,O',none⟩=some (.slice (some ⟨bO,oO,none⟩) zO cO))) (by kernel_rfl) (N6.out) (fun gH=>?_)
    rw [<-HW3.out] at gH ⊢
    have p3:=P3.out
    refine rgT 0 (v:=?v63) ?y63 gH ?_
    case y63=>(intro v hSw; go_simp<;>rfl)
    refine rgT 1 (v:=?v64) ?y64 gH ?_
    case y64=>(intro v hSw; go_simp<;>rfl)
    refine rgT 2 (v:=?v65) ?y65 gH ?_
    case y65=>(intro v hSw; go_simp<;>rfl)
    try simp only [putS]
    refine rgT 3 (v:=?v66) ?y66 gH ?_
    case y66=>(intro v hSw; go_simp<;>rfl)
    refine rgT 4 (v:=?v67) ?y67 gH ?_
    case y67=>(intro v hSw; go_simp<;>rfl)
    refine rgT 5 (v:=?v68) ?y68 gH ?_
    case y68=>(intro v hSw; go_simp<;>rfl)
    try simp only [putS]
    refine rgT 6 (v:=?v69) ?y69 gH ?_
    case y69=>(intro v hSw; go_simp<;>rfl)
    refine rgT 7 (v:=?v70) ?y70 gH ?_
    case y70=>(intro v hSw; go_simp<;>rfl)
    refine rgT 8 (v:=?v71) ?y71 gH ?_
    case y71=>(intro v hSw; go_simp<;>rfl)
    try simp only [putS]
    refine rgT 9 (v:=?v72) ?y72 gH ?_
    case y72=>(intro v hSw; go_simp<;>rfl)
    refine rgT 10 (v:=?v73) ?y73 gH ?_
    case y73=>(intro v hSw; go_simp<;>rfl)
    refine rgT 12 (v:=?v74) ?y74 gH ?_
    case y74=>(intro v hSw; go_simp<;>rfl)
    try simp only [putS]
    refine rgT 13 (v:=?v75) ?y75 gH ?_
    case y75=>(intro v hSw; go_simp<;>rfl)
    refine rgT 14 (v:=?v76) ?y76 gH ?_
    case y76=>(intro v hSw; go_simp<;>rfl)
    refine rgT 15 (v:=?v77) ?y77 gH ?_
    case y77=>(intro v hSw; go_simp<;>rfl)
    try simp only [putS]
    refine rgT 16 (v:=?v78) ?y78 gH ?_
    case y78=>(intro v hSw; go_simp<;>rfl)
    refine rgT 17 (v:=?v79) ?y79 gH ?_
    case y79=>(intro v hSw; go_simp<;>rfl)
    refine rgT 18 (v:=?v80) ?y80 gH ?_
    case y80=>(intro v hSw; go_simp<;>rfl)
    try simp only [putS]
    refine rgO 11 fun K hK=>?_
    go_simp
    refine hK.out _ _ (gH) (fun gH=>?_)
    clear hK K
    try simp only [putS]
    clear p3
    refine rgO 19 fun K hK=>?_
    refine step_append_run rfl (.tmp 70) (.tmp 77) 259 rfl _ _ rfl rfl _ _ (HR.out _) ?_
    refine hK.out _ _ ⟨M6.out.2.2.2,M6.out.2.2.1⟩ (fun gH=>?_)
    clear hK K
    simp only [putS]
    refine rgT 20 (v:=?v81) ?y81 gH ?_
    case y81=>(intro v hSw; go_simp<;>rfl)
    try simp only [putS]
    have m2:=M6.out.1
    have m3:=M6.out.2.1
    refine rgO 21 fun K hK=>?_
    go_simp
    refine hK.out _ _ ((H6.out _)) (fun gH=>?_)
    clear hK K
    try simp only [putS]
    refine rgD ?_
    rw [<-HW5.out]
    clear m2 m3 gH
    go_wp2_with (first | (go_at_call 172; refine RL.out.mono ?_; rintro r w6 ⟨rfl,E6,fv6,V6,A6,C6⟩; obtain ⟨⟨u6,k6⟩,z6,le6,q36,f8⟩:=AF.out w6 E6 fv6 V6 A6 C6; have LE6:=qh le6; have F8:=qh f8; have HA6:=qh A6; have HC6:=qh C6; clear V6 A6 C6 le6 f8) | (go_at_call 183; refine LE6.out.mono ?_; rintro r w6 ⟨rfl,h6⟩; subst h6) | (go_at_call 170; refine (F8.out _ rfl).1.mono ?_; rintro r w9 ⟨rfl,h9⟩; obtain ⟨g9,N9,c9,A9,cz,e90,p9,e91⟩:=G9.out _ _ _ h9; have H9:=qh h9; clear h9))
    obtain ⟨E9,g9t,a9,c9t⟩:=H9.out
    obtain ⟨_,C68,l68,r8,s8⟩:=F8.out _ rfl
    obtain ⟨w10,hw10⟩:=nmq (w9.drew)
    have g10:TabG w10 T E9 (s.join q f P' O'):=by rw [hw10]; exact g9t.below (Below.refl _ _).drew
    have pr:=HPR.out
    have hf:=HF.out
    have fr:∀ f',f' ∈ (s.join q f P' O').free->f'<(s.join q f P' O').nds.length∧f'≠q:=fun f' hm=>by
     rw [pr.free4,List.mem_append] at hm
     rw [pr.len4]
     rcases hm with hm | hm
     ·exact hf.free f' hm
     ·rw [List.mem_singleton] at hm
      rw [hm]; exact ⟨pr.io,pr.oq⟩
    have lfr:(s.join q f P' O').free.length<=850001:=by rw [pr.free4]; have:=hf.lf; simp; omega
    have lnr:(s.join q f P' O').nds.length<=850000:=by rw [pr.len4]; exact hf.ln
    have PC:=qh (xPart w10 T E9 (s.join q f P' O') P' g10 (by rw [pr.len4]; exact pr.ip) (by rw [<-HZ9.out]; omega) (fun f' hm=>(fr f' hm).1) (by omega) (by omega))
    have LY:=qh (show ∀ w11,LeftP w10 T E9 (((s.join q f P' O').put P' (((s.join q f P' O').nd P').take 3)).take (((s.join q f P' O').nd P').drop 3)) w11->Calls Tryz.prog 182 #[Ptr T,.agg #[.int .i64 q,.int .i64 ((f:Int)+1)],.agg #[.string (((s.join q f P' O').nd P').key 3),.int .i64 (s.join q f P' O').place]] w11 fun r w'=>r=.returned (.tuple #[])∧LeftP w10 T E9 ((s.join q f P' O').split (q,f) P') w' from fun w11 ⟨E11,g11,a11,c11⟩=>by
     obtain ⟨nq,ql⟩:=Tab.split_lay (s:=s.join q f P' O') (q:=q) (p:=P') (a:=((s.join q f P' O').nd P').take 3) (b:=((s.join q f P' O').nd P').drop 3) (by rw [pr.len4]; exact pr.iq) (by rw [pr.len4]; exact pr.ip) pr.pq fr
     have le:=pr.len4q
     have l1:=pr.lf1
     have lq:(s.nd q).length<=1000:=hf.lq
     have:=xLay w11 T E11 _ q (f+1) (((s.join q f P' O').nd P').key 3,((s.join q f P' O').place:Int)) g11 (Nat.lt_of_lt_of_le (by rw [pr.len4]; exact pr.iq) ql) (by rw [nq]; omega) (by rw [nq]; omega) (by rw [nq]; omega)
     rw [show ((f+1:Nat):Int)=(f:Int)+1 from rfl] at this
     exact this.mono fun r w' h=>⟨h.1,LeftP.then c11 a11 h.2⟩)
    have q9:¬ E9 w6.heap.size:=fun e=>by
     rcases a9 _ e with r | r
     ·have:=l68 _ r; omega
     ·omega
    have r9:RowAt w10 w6.heap.size [.int .i64 q,.int .i64 ((f:Int)+1)] 261:=by
     rw [hw10]
     exact (RowAt.keep r8 c9t.drew (fun e=>by have:=l68 _ e; omega))
    have SK:=qh (show ∀ s' w11,LeftP w10 T E9 s' w11->w11.cell? ⟨w6.heap.size,0,none⟩=some (.int .i64 q)∧w11.cell? ⟨w6.heap.size,1,none⟩=some (.int .i64 ((f:Int)+1)) from fun s' w11 ⟨E11,g11,a11,c11⟩=>by
     have r11:RowAt w11 w6.heap.size _ _:=r9.keep c11 q9
     exact ⟨r11.cell 0,r11.cell 1⟩)
    have FN:=qh (show ∀ w12,LeftP w10 T E9 ((s.join q f P' O').split (q,f) P') w12->LeftP w T E (s.fill (q,a)) w12 from fun w12 ⟨E12,g12,a12,c12⟩=>by
     rw [HUY.out _ rfl z4]
     refine LV.out _ _ _ _ _ HA6.out HC6.out C68 (LeftP.then c9t a9 ?_)
     rw [hw10] at a12 c12
     exact ⟨E12,g12,a12,⟨c12.os,c12.tape,c12.output,c12.size,c12.block⟩⟩)
    have t0:=r9.cell 0
    have t1:=r9.cell 1
    simp only [geS] at t0 t1
    have t0':w9.cell? ⟨w6.heap.size,0,none⟩=some (.int .i64 q):=by rw [hw10] at t0; exact t0
    have t1':w9.cell? ⟨w6.heap.size,1,none⟩=some (.int .i64 ((f:Int)+1)):=by rw [hw10] at t1; exact t1
    have HW10:=qh hw10
    clear g10 hw10 r9 q9 lfr lnr fr hf pr g9t a9 c9t C68 l68 r8 s8 e90 e91 t0 t1
    refine wp_region_held_drew (S:=(fun w'=>w'.cell? ⟨w6.heap.size,0,none⟩=some (.int .i64 q)∧w'.cell? ⟨w6.heap.size,1,none⟩=some (.int .i64 ((f:Int)+1)))) (by kernel_rfl) (⟨t0',t1'⟩) (fun gH=>?_)
    rw [<-HW10.out] at gH ⊢
    refine rgT 0 (v:=?v82) ?y82 gH ?_
    case y82=>(intro v hSw; go_simp<;>rfl)
    refine rgT 1 (v:=?v83) ?y83 gH ?_
    case y83=>(intro v hSw; go_simp<;>rfl)
    refine rgT 2 (v:=?v84) ?y84 gH ?_
    case y84=>(intro v hSw; go_simp<;>rfl)
    try simp only [putS]
    refine rgT 3 (v:=?v85) ?y85 gH ?_
    case y85=>(intro v hSw; go_simp<;>rfl)
    try simp only [putS]
    refine rgO 4 fun K hK=>?_
    go_simp
    refine PC.out.mono ?_
    rintro r w11 ⟨rfl,hp⟩
    have LC5:=qh (LY.out w11 hp)
    refine hK.out _ _ ((SK.out _ w11 hp)) (fun gH=>?_)
    clear hK K
    try simp only [putS]
    refine rgO 5 fun K hK=>?_
    go_simp
    refine LC5.out.mono ?_
    rintro r w12 ⟨rfl,hp6⟩
    have HL6:=qh (FN.out w12 hp6)
    refine hK.out _ _ ((SK.out _ w12 hp6)) (fun gH=>?_)
    clear hK K
    try simp only [putS]
    refine rgD ?_
    go_wp2_with fail
    exact bodyPost_end (results_none rfl _ _ _) rfl ⟨rfl,HL6.out⟩
   ·have a2:¬ (0:Int)<=(a:Int)-1:=by omega
    have a3:(a:Int)-1<0:=by omega
    go_wp2_with fail
    have e:Value.int .i64 (0:Int)=Value.int .i64 (f:Int):=by have:=HFA.out; congr 1; omega
    rw [e]
    clear e
    rw [<-HW2.out]
    refine wp_region_held_drew (S:=(fun w'=>w'.cell? ⟨b,o+f * 2+1,none⟩=some (.int .i64 P')∧w'.cell? ⟨b,o+(f+1) * 2+1,none⟩=some (.int .i64 O'))) (by kernel_rfl) (M.out) (fun gH=>?_)
    refine rgT 0 (v:=?v86) ?y86 gH ?_
    case y86=>(intro v hSw; go_simp<;>rfl)
    refine rgT 1 (v:=?v87) ?y87 gH ?_
    case y87=>(intro v hSw; go_simp<;>rfl)
    refine rgT 2 (v:=?v88) ?y88 gH ?_
    case y88=>(intro v hSw; go_simp<;>rfl)
    try simp only [putS]
    refine rgT 3 (v:=?v89) ?y89 gH ?_
    case y89=>(intro v hSw; go_simp<;>rfl)
    refine rgT 4 (v:=?v90) ?y90 gH ?_
    case y90=>(intro v hSw; go_simp<;>rfl)
    refine rgT 5 (v:=?v91) ?y91 gH ?_
    case y91=>(intro v hSw; go_simp<;>rfl)
    try simp only [putS]
    refine rgT 6 (v:=?v92) ?y92 gH ?_
    case y92=>(intro v hSw; go_simp<;>rfl)
    refine rgT 7 (v:=?v93) ?y93 gH ?_
    case y93=>(intro v hSw; go_simp<;>rfl)
    refine rgT 8 (v:=?v94) ?y94 gH ?_
    case y94=>(intro v hSw; go_simp<;>rfl)
    try simp only [putS]
    refine rgT 9 (v:=?v95) ?y95 gH ?_
    case y95=>(intro v hSw; go_simp<;>rfl)
    refine rgT 10 (v:=?v96) ?y96 gH ?_
    case y96=>(intro v hSw; go_simp<;>rfl)
    refine rgT 11 (v:=?v97) ?y97 gH ?_
    case y97=>(intro v hSw; go_simp<;>rfl)
    try simp only [putS]
    refine rgT 12 (v:=?v98) ?y98 gH ?_
    case y98=>(intro v hSw; go_simp<;>rfl)
    try simp only [putS]
    refine rgD ?_
    clear gH
    go_wp2_with fail
    refine wp_region_held_drew (S:=(fun w'=>w'.cell? ⟨T,0,none⟩=some (.slice (some ⟨g,0,none⟩) N c)∧w'.cell? ⟨g,O',none⟩=some (.slice (some ⟨bO,oO,none⟩) zO cO))) (by kernel_rfl) (N6.out) (fun gH=>?_)
    rw [<-HW3.out] at gH ⊢
    have p3:=P3.out
    refine rgT 0 (v:=?v99) ?y99 gH ?_
    case y99=>(intro v hSw; go_simp<;>rfl)
    refine rgT 1 (v:=?v100) ?y100 gH ?_
    case y100=>(intro v hSw; go_simp<;>rfl)
    refine rgT 2 (v:=?v101) ?y101 gH ?_
    case y101=>(intro v hSw; go_simp<;>rfl)
    try simp only [putS]
    refine rgT 3 (v:=?v102) ?y102 gH ?_
    case y102=>(intro v hSw; go_simp<;>rfl)
    refine rgT 4 (v:=?v103) ?y103 gH ?_
    case y103=>(intro v hSw; go_simp<;>rfl)
    refine rgT 5 (v:=?v104) ?y104 gH ?_
    case y104=>(intro v hSw; go_simp<;>rfl)
    try simp only [putS]
    refine rgT 6 (v:=?v105) ?y105 gH ?_
    case y105=>(intro v hSw; go_simp<;>rfl)
    refine rgT 7 (v:=?v106) ?y106 gH ?_
    case y106=>(intro v hSw; go_simp<;>rfl)
    refine rgT 8 (v:=?v107) ?y107 gH ?_
    case y107=>(intro v hSw; go_simp<;>rfl)
    try simp only [putS]
    refine rgT 9 (v:=?v108) ?y108 gH ?_
    case y108=>(intro v hSw; go_simp<;>rfl)
    refine rgT 10 (v:=?v109) ?y109 gH ?_
    case y109=>(intro v hSw; go_simp<;>rfl)
    refine rgT 12 (v:=?v110) ?y110 gH ?_
    case y110=>(intro v hSw; go_simp<;>rfl)
    try simp only [putS]
    refine rgT 13 (v:=?v111) ?y111 gH ?_
    case y111=>(intro v hSw; go_simp<;>rfl)
    refine rgT 14 (v:=?v112) ?y112 gH ?_
    case y112=>(intro v hSw; go_simp<;>rfl)
    refine rgT 15 (v:=?v113) ?y113 gH ?_
    case y113=>(intro v hSw; go_simp<;>rfl)
    try simp only [putS]
    refine rgT 16 (v:=?v114) ?y114 gH ?_
    case y114=>(intro v hSw; go_simp<;>rfl)
    refine rgT 17 (v:=?v115) ?y115 gH ?_
    case y115=>(intro v hSw; go_simp<;>rfl)
    refine rgT 18 (v:=?v116) ?y116 gH ?_
    case y116=>(intro v hSw; go_simp<;>rfl)
    try simp only [putS]
    refine rgO 11 fun K hK=>?_
    go_simp
    refine hK.out _ _ (gH) (fun gH=>?_)
    clear hK K
    try simp only [putS]
    clear p3
    refine rgO 19 fun K hK=>?_
    refine step_append_run rfl (.tmp 70) (.tmp 77) 259 rfl _ _ rfl rfl _ _ (HR.out _) ?_
    refine hK.out _ _ ⟨M6.out.2.2.2,M6.out.2.2.1⟩ (fun gH=>?_)
    clear hK K
    simp only [putS]
    refine rgT 20 (v:=?v117) ?y117 gH ?_
    case y117=>(intro v hSw; go_simp<;>rfl)
    try simp only [putS]
    have m2:=M6.out.1
    have m3:=M6.out.2.1
    refine rgO 21 fun K hK=>?_
    go_simp
    refine hK.out _ _ ((H6.out _)) (fun gH=>?_)
    clear hK K
    try simp only [putS]
    refine rgD ?_
    rw [<-HW5.out]
    clear m2 m3 gH
    go_wp2_with (first | (go_at_call 172; refine RL.out.mono ?_; rintro r w6 ⟨rfl,E6,fv6,V6,A6,C6⟩; obtain ⟨⟨u6,k6⟩,z6,le6,q36,f8⟩:=AF.out w6 E6 fv6 V6 A6 C6; have LE6:=qh le6; have F8:=qh f8; have HA6:=qh A6; have HC6:=qh C6; clear V6 A6 C6 le6 f8) | (go_at_call 183; refine LE6.out.mono ?_; rintro r w6 ⟨rfl,h6⟩; subst h6) | (go_at_call 170; refine (F8.out _ rfl).1.mono ?_; rintro r w9 ⟨rfl,h9⟩; obtain ⟨g9,N9,c9,A9,cz,e90,p9,e91⟩:=G9.out _ _ _ h9; have H9:=qh h9; clear h9))
    obtain ⟨E9,g9t,a9,c9t⟩:=H9.out
    obtain ⟨_,C68,l68,r8,s8⟩:=F8.out _ rfl
    obtain ⟨w10,hw10⟩:=nmq (w9.drew)
    have g10:TabG w10 T E9 (s.join q f P' O'):=by rw [hw10]; exact g9t.below (Below.refl _ _).drew
    have pr:=HPR.out
    have hf:=HF.out
    have fr:∀ f',f' ∈ (s.join q f P' O').free->f'<(s.join q f P' O').nds.length∧f'≠q:=fun f' hm=>by
     rw [pr.free4,List.mem_append] at hm
     rw [pr.len4]
     rcases hm with hm | hm
     ·exact hf.free f' hm
     ·rw [List.mem_singleton] at hm
      rw [hm]; exact ⟨pr.io,pr.oq⟩
    have lfr:(s.join q f P' O').free.length<=850001:=by rw [pr.free4]; have:=hf.lf; simp; omega
    have lnr:(s.join q f P' O').nds.length<=850000:=by rw [pr.len4]; exact hf.ln
    have PC:=qh (xPart w10 T E9 (s.join q f P' O') P' g10 (by rw [pr.len4]; exact pr.ip) (by rw [<-HZ9.out]; omega) (fun f' hm=>(fr f' hm).1) (by omega) (by omega))
    have LY:=qh (show ∀ w11,LeftP w10 T E9 (((s.join q f P' O').put P' (((s.join q f P' O').nd P').take 3)).take (((s.join q f P' O').nd P').drop 3)) w11->Calls Tryz.prog 182 #[Ptr T,.agg #[.int .i64 q,.int .i64 ((f:Int)+1)],.agg #[.string (((s.join q f P' O').nd P').key 3),.int .i64 (s.join q f P' O').place]] w11 fun r w'=>r=.returned (.tuple #[])∧LeftP w10 T E9 ((s.join q f P' O').split (q,f) P') w' from fun w11 ⟨E11,g11,a11,c11⟩=>by
     obtain ⟨nq,ql⟩:=Tab.split_lay (s:=s.join q f P' O') (q:=q) (p:=P') (a:=((s.join q f P' O').nd P').take 3) (b:=((s.join q f P' O').nd P').drop 3) (by rw [pr.len4]; exact pr.iq) (by rw [pr.len4]; exact pr.ip) pr.pq fr
     have le:=pr.len4q
     have l1:=pr.lf1
     have lq:(s.nd q).length<=1000:=hf.lq
     have:=xLay w11 T E11 _ q (f+1) (((s.join q f P' O').nd P').key 3,((s.join q f P' O').place:Int)) g11 (Nat.lt_of_lt_of_le (by rw [pr.len4]; exact pr.iq) ql) (by rw [nq]; omega) (by rw [nq]; omega) (by rw [nq]; omega)
     rw [show ((f+1:Nat):Int)=(f:Int)+1 from rfl] at this
     exact this.mono fun r w' h=>⟨h.1,LeftP.then c11 a11 h.2⟩)
    have q9:¬ E9 w6.heap.size:=fun e=>by
     rcases a9 _ e with r | r
     ·have:=l68 _ r; omega
     ·omega
    have r9:RowAt w10 w6.heap.size [.int .i64 q,.int .i64 ((f:Int)+1)] 261:=by
     rw [hw10]
     exact (RowAt.keep r8 c9t.drew (fun e=>by have:=l68 _ e; omega))
    have SK:=qh (show ∀ s' w11,LeftP w10 T E9 s' w11->w11.cell? ⟨w6.heap.size,0,none⟩=some (.int .i64 q)∧w11.cell? ⟨w6.heap.size,1,none⟩=some (.int .i64 ((f:Int)+1)) from fun s' w11 ⟨E11,g11,a11,c11⟩=>by
     have r11:RowAt w11 w6.heap.size _ _:=r9.keep c11 q9
     exact ⟨r11.cell 0,r11.cell 1⟩)
    have FN:=qh (show ∀ w12,LeftP w10 T E9 ((s.join q f P' O').split (q,f) P') w12->LeftP w T E (s.fill (q,a)) w12 from fun w12 ⟨E12,g12,a12,c12⟩=>by
     rw [HUY.out _ rfl z4]
     refine LV.out _ _ _ _ _ HA6.out HC6.out C68 (LeftP.then c9t a9 ?_)
     rw [hw10] at a12 c12
     exact ⟨E12,g12,a12,⟨c12.os,c12.tape,c12.output,c12.size,c12.block⟩⟩)
    have t0:=r9.cell 0
    have t1:=r9.cell 1
    simp only [geS] at t0 t1
    have t0':w9.cell? ⟨w6.heap.size,0,none⟩=some (.int .i64 q):=by rw [hw10] at t0; exact t0
    have t1':w9.cell? ⟨w6.heap.size,1,none⟩=some (.int .i64 ((f:Int)+1)):=by rw [hw10] at t1; exact t1
    have HW10:=qh hw10
    clear g10 hw10 r9 q9 lfr lnr fr hf pr g9t a9 c9t C68 l68 r8 s8 e90 e91 t0 t1
    refine wp_region_held_drew (S:=(fun w'=>w'.cell? ⟨w6.heap.size,0,none⟩=some (.int .i64 q)∧w'.cell? ⟨w6.heap.size,1,none⟩=some (.int .i64 ((f:Int)+1)))) (by kernel_rfl) (⟨t0',t1'⟩) (fun gH=>?_)
    rw [<-HW10.out] at gH ⊢
    refine rgT 0 (v:=?v118) ?y118 gH ?_
    case y118=>(intro v hSw; go_simp<;>rfl)
    refine rgT 1 (v:=?v119) ?y119 gH ?_
    case y119=>(intro v hSw; go_simp<;>rfl)
    refine rgT 2 (v:=?v120) ?y120 gH ?_
    case y120=>(intro v hSw; go_simp<;>rfl)
    try simp only [putS]
    refine rgT 3 (v:=?v121) ?y121 gH ?_
    case y121=>(intro v hSw; go_simp<;>rfl)
    try simp only [putS]
    refine rgO 4 fun K hK=>?_
    go_simp
    refine PC.out.mono ?_
    rintro r w11 ⟨rfl,hp⟩
    have LC5:=qh (LY.out w11 hp)
    refine hK.out _ _ ((SK.out _ w11 hp)) (fun gH=>?_)
    clear hK K
    try simp only [putS]
    refine rgO 5 fun K hK=>?_
    go_simp
    refine LC5.out.mono ?_
    rintro r w12 ⟨rfl,hp6⟩
    have HL6:=qh (FN.out w12 hp6)
    refine hK.out _ _ ((SK.out _ w12 hp6)) (fun gH=>?_)
    clear hK K
    try simp only [putS]
    refine rgD ?_
    go_wp2_with fail
    exact bodyPost_end (results_none rfl _ _ _) rfl ⟨rfl,HL6.out⟩
  ·have z4':¬ (4:Int)<(z9:Int):=by omega
   by_cases a1:1<=a
   ·have a2:(0:Int)<=(a:Int)-1:=by omega
    go_wp2_with fail
    have e:(a:Int)-1=(f:Int):=by have:=HFA.out; omega
    rw [e]
    clear e
    rw [<-HW2.out]
    refine wp_region_held_drew (S:=(fun w'=>w'.cell? ⟨b,o+f * 2+1,none⟩=some (.int .i64 P')∧w'.cell? ⟨b,o+(f+1) * 2+1,none⟩=some (.int .i64 O'))) (by kernel_rfl) (M.out) (fun gH=>?_)
    refine rgT 0 (v:=?v122) ?y122 gH ?_
    case y122=>(intro v hSw; go_simp<;>rfl)
    refine rgT 1 (v:=?v123) ?y123 gH ?_
    case y123=>(intro v hSw; go_simp<;>rfl)
    refine rgT 2 (v:=?v124) ?y124 gH ?_
    case y124=>(intro v hSw; go_simp<;>rfl)
    try simp only [putS]
    refine rgT 3 (v:=?v125) ?y125 gH ?_
    case y125=>(intro v hSw; go_simp<;>rfl)
    refine rgT 4 (v:=?v126) ?y126 gH ?_
    case y126=>(intro v hSw; go_simp<;>rfl)
    refine rgT 5 (v:=?v127) ?y127 gH ?_
    case y127=>(intro v hSw; go_simp<;>rfl)
    try simp only [putS]
    refine rgT 6 (v:=?v128) ?y128 gH ?_
    case y128=>(intro v hSw; go_simp<;>rfl)
    refine rgT 7 (v:=?v129) ?y129 gH ?_
    case y129=>(intro v hSw; go_simp<;>rfl)
    refine rgT 8 (v:=?v130) ?y130 gH ?_
    case y130=>(intro v hSw; go_simp<;>rfl)
    try simp only [putS]
    refine rgT 9 (v:=?v131) ?y131 gH ?_
    case y131=>(intro v hSw; go_simp<;>rfl)
    refine rgT 10 (v:=?v132) ?y132 gH ?_
    case y132=>(intro v hSw; go_simp<;>rfl)
    refine rgT 11 (v:=?v133) ?y133 gH ?_
    case y133=>(intro v hSw; go_simp<;>rfl)
    try simp only [putS]
    refine rgT 12 (v:=?v134) ?y134 gH ?_
    case y134=>(intro v hSw; go_simp<;>rfl)
    try simp only [putS]
    refine rgD ?_
    clear gH
    go_wp2_with fail
    refine wp_region_held_drew (S:=(fun w'=>w'.cell? ⟨T,0,none⟩=some (.slice (some ⟨g,0,none⟩) N c)∧w'.cell? ⟨g,O',none⟩=some (.slice (some ⟨bO,oO,none⟩) zO cO))) (by kernel_rfl) (N6.out) (fun gH=>?_)
    rw [<-HW3.out] at gH ⊢
    have p3:=P3.out
    refine rgT 0 (v:=?v135) ?y135 gH ?_
    case y135=>(intro v hSw; go_simp<;>rfl)
    refine rgT 1 (v:=?v136) ?y136 gH ?_
    case y136=>(intro v hSw; go_simp<;>rfl)
    refine rgT 2 (v:=?v137) ?y137 gH ?_
    case y137=>(intro v hSw; go_simp<;>rfl)
    try simp only [putS]
    refine rgT 3 (v:=?v138) ?y138 gH ?_
    case y138=>(intro v hSw; go_simp<;>rfl)
    refine rgT 4 (v:=?v139) ?y139 gH ?_
    case y139=>(intro v hSw; go_simp<;>rfl)
    refine rgT 5 (v:=?v140) ?y140 gH ?_
    case y140=>(intro v hSw; go_simp<;>rfl)
    try simp only [putS]
    refine rgT 6 (v:=?v141) ?y141 gH ?_
    case y141=>(intro v hSw; go_simp<;>rfl)
    refine rgT 7 (v:=?v142) ?y142 gH ?_
    case y142=>(intro v hSw; go_simp<;>rfl)
    refine rgT 8 (v:=?v143) ?y143 gH ?_
    case y143=>(intro v hSw; go_simp<;>rfl)
    try simp only [putS]
    refine rgT 9 (v:=?v144) ?y144 gH ?_
    case y144=>(intro v hSw; go_simp<;>rfl)
    refine rgT 10 (v:=?v145) ?y145 gH ?_
    case y145=>(intro v hSw; go_simp<;>rfl)
    refine rgT 12 (v:=?v146) ?y146 gH ?_
    case y146=>(intro v hSw; go_simp<;>rfl)
    try simp only [putS]
    refine rgT 13 (v:=?v147) ?y147 gH ?_
    case y147=>(intro v hSw; go_simp<;>rfl)
    refine rgT 14 (v:=?v148) ?y148 gH ?_
    case y148=>(intro v hSw; go_simp<;>rfl)
    refine rgT 15 (v:=?v149) ?y149 gH ?_
    case y149=>(intro v hSw; go_simp<;>rfl)
    try simp only [putS]
    refine rgT 16 (v:=?v150) ?y150 gH ?_
    case y150=>(intro v hSw; go_simp<;>rfl)
    refine rgT 17 (v:=?v151) ?y151 gH ?_
    case y151=>(intro v hSw; go_simp<;>rfl)
    refine rgT 18 (v:=?v152) ?y152 gH ?_
    case y152=>(intro v hSw; go_simp<;>rfl)
    try simp only [putS]
    refine rgO 11 fun K hK=>?_
    go_simp
    refine hK.out _ _ (gH) (fun gH=>?_)
    clear hK K
    try simp only [putS]
    clear p3
    refine rgO 19 fun K hK=>?_
    refine step_append_run rfl (.tmp 70) (.tmp 77) 259 rfl _ _ rfl rfl _ _ (HR.out _) ?_
    refine hK.out _ _ ⟨M6.out.2.2.2,M6.out.2.2.1⟩ (fun gH=>?_)
    clear hK K
    simp only [putS]
    refine rgT 20 (v:=?v153) ?y153 gH ?_
    case y153=>(intro v hSw; go_simp<;>rfl)
    try simp only [putS]
    have m2:=M6.out.1
    have m3:=M6.out.2.1
    refine rgO 21 fun K hK=>?_
    go_simp
    refine hK.out _ _ ((H6.out _)) (fun gH=>?_)
    clear hK K
    try simp only [putS]
    refine rgD ?_
    rw [<-HW5.out]
    clear m2 m3 gH
    go_wp2_with (first | (go_at_call 172; refine RL.out.mono ?_; rintro r w6 ⟨rfl,E6,fv6,V6,A6,C6⟩; obtain ⟨⟨u6,k6⟩,z6,le6,q36,f8⟩:=AF.out w6 E6 fv6 V6 A6 C6; have LE6:=qh le6; have F8:=qh f8; have HA6:=qh A6; have HC6:=qh C6; clear V6 A6 C6 le6 f8) | (go_at_call 183; refine LE6.out.mono ?_; rintro r w6 ⟨rfl,h6⟩; subst h6) | (go_at_call 170; refine (F8.out _ rfl).1.mono ?_; rintro r w9 ⟨rfl,h9⟩; obtain ⟨g9,N9,c9,A9,cz,e90,p9,e91⟩:=G9.out _ _ _ h9; have H9:=qh h9; clear h9))
    refine bodyPost_end (results_none rfl _ _ _) rfl ⟨rfl,?_⟩
    rw [HUN.out z4]
    exact LV.out _ _ _ _ _ HA6.out HC6.out (F8.out _ rfl).2.1 H9.out
   ·have a2:¬ (0:Int)<=(a:Int)-1:=by omega
    have a3:(a:Int)-1<0:=by omega
    go_wp2_with fail
    have e:Value.int .i64 (0:Int)=Value.int .i64 (f:Int):=by have:=HFA.out; congr 1; omega
    rw [e]
    clear e
    rw [<-HW2.out]
    refine wp_region_held_drew (S:=(fun w'=>w'.cell? ⟨b,o+f * 2+1,none⟩=some (.int .i64 P')∧w'.cell? ⟨b,o+(f+1) * 2+1,none⟩=some (.int .i64 O'))) (by kernel_rfl) (M.out) (fun gH=>?_)
    refine rgT 0 (v:=?v154) ?y154 gH ?_
    case y154=>(intro v hSw; go_simp<;>rfl)
    refine rgT 1 (v:=?v155) ?y155 gH ?_
    case y155=>(intro v hSw; go_simp<;>rfl)
    refine rgT 2 (v:=?v156) ?y156 gH ?_
    case y156=>(intro v hSw; go_simp<;>rfl)
    try simp only [putS]
    refine rgT 3 (v:=?v157) ?y157 gH ?_
    case y157=>(intro v hSw; go_simp<;>rfl)
    refine rgT 4 (v:=?v158) ?y158 gH ?_
    case y158=>(intro v hSw; go_simp<;>rfl)
    refine rgT 5 (v:=?v159) ?y159 gH ?_
    case y159=>(intro v hSw; go_simp<;>rfl)
    try simp only [putS]
    refine rgT 6 (v:=?v160) ?y160 gH ?_
    case y160=>(intro v hSw; go_simp<;>rfl)
    refine rgT 7 (v:=?v161) ?y161 gH ?_
    case y161=>(intro v hSw; go_simp<;>rfl)
    refine rgT 8 (v:=?v162) ?y162 gH ?_
    case y162=>(intro v hSw; go_simp<;>rfl)
    try simp only [putS]
    refine rgT 9 (v:=?v163) ?y163 gH ?_
    case y163=>(intro v hSw; go_simp<;>rfl)
    refine rgT 10 (v:=?v164) ?y164 gH ?_
    case y164=>(intro v hSw; go_simp<;>rfl)
    refine rgT 11 (v:=?v165) ?y165 gH ?_
    case y165=>(intro v hSw; go_simp<;>rfl)
    try simp only [putS]
    refine rgT 12 (v:=?v166) ?y166 gH ?_
    case y166=>(intro v hSw; go_simp<;>rfl)
    try simp only [putS]
    refine rgD ?_
    clear gH
    go_wp2_with fail
    refine wp_region_held_drew (S:=(fun w'=>w'.cell? ⟨T,0,none⟩=some (.slice (some ⟨g,0,none⟩) N c)∧w'.cell? ⟨g,O',none⟩=some (.slice (some ⟨bO,oO,none⟩) zO cO))) (by kernel_rfl) (N6.out) (fun gH=>?_)
    rw [<-HW3.out] at gH ⊢
    have p3:=P3.out
    refine rgT 0 (v:=?v167) ?y167 gH ?_
    case y167=>(intro v hSw; go_simp<;>rfl)
    refine rgT 1 (v:=?v168) ?y168 gH ?_
    case y168=>(intro v hSw; go_simp<;>rfl)
    refine rgT 2 (v:=?v169) ?y169 gH ?_
    case y169=>(intro v hSw; go_simp<;>rfl)
    try simp only [putS]
    refine rgT 3 (v:=?v170) ?y170 gH ?_
    case y170=>(intro v hSw; go_simp<;>rfl)
    refine rgT 4 (v:=?v171) ?y171 gH ?_
    case y171=>(intro v hSw; go_simp<;>rfl)
    refine rgT 5 (v:=?v172) ?y172 gH ?_
    case y172=>(intro v hSw; go_simp<;>rfl)
    try simp only [putS]
    refine rgT 6 (v:=?v173) ?y173 gH ?_
    case y173=>(intro v hSw; go_simp<;>rfl)
    refine rgT 7 (v:=?v174) ?y174 gH ?_
    case y174=>(intro v hSw; go_simp<;>rfl)
    refine rgT 8 (v:=?v175) ?y175 gH ?_
    case y175=>(intro v hSw; go_simp<;>rfl)
    try simp only [putS]
    refine rgT 9 (v:=?v176) ?y176 gH ?_
    case y176=>(intro v hSw; go_simp<;>rfl)
    refine rgT 10 (v:=?v177) ?y177 gH ?_
    case y177=>(intro v hSw; go_simp<;>rfl)
    refine rgT 12 (v:=?v178) ?y178 gH ?_
    case y178=>(intro v hSw; go_simp<;>rfl)
    try simp only [putS]
    refine rgT 13 (v:=?v179) ?y179 gH ?_
    case y179=>(intro v hSw; go_simp<;>rfl)
    refine rgT 14 (v:=?v180) ?y180 gH ?_
    case y180=>(intro v hSw; go_simp<;>rfl)
    refine rgT 15 (v:=?v181) ?y181 gH ?_
    case y181=>(intro v hSw; go_simp<;>rfl)
    try simp only [putS]
    refine rgT 16 (v:=?v182) ?y182 gH ?_
    case y182=>(intro v hSw; go_simp<;>rfl)
    refine rgT 17 (v:=?v183) ?y183 gH ?_
    case y183=>(intro v hSw; go_simp<;>rfl)
    refine rgT 18 (v:=?v184) ?y184 gH ?_
    case y184=>(intro v hSw; go_simp<;>rfl)
    try simp only [putS]
    refine rgO 11 fun K hK=>?_
    go_simp
    refine hK.out _ _ (gH) (fun gH=>?_)
    clear hK K
    try simp only [putS]
    clear p3
    refine rgO 19 fun K hK=>?_
    refine step_append_run rfl (.tmp 70) (.tmp 77) 259 rfl _ _ rfl rfl _ _ (HR.out _) ?_
    refine hK.out _ _ ⟨M6.out.2.2.2,M6.out.2.2.1⟩ (fun gH=>?_)
    clear hK K
    simp only [putS]
    refine rgT 20 (v:=?v185) ?y185 gH ?_
    case y185=>(intro v hSw; go_simp<;>rfl)
    try simp only [putS]
    have m2:=M6.out.1
    have m3:=M6.out.2.1
    refine rgO 21 fun K hK=>?_
    go_simp
    refine hK.out _ _ ((H6.out _)) (fun gH=>?_)
    clear hK K
    try simp only [putS]
    refine rgD ?_
    rw [<-HW5.out]
    clear m2 m3 gH
    go_wp2_with (first | (go_at_call 172; refine RL.out.mono ?_; rintro r w6 ⟨rfl,E6,fv6,V6,A6,C6⟩; obtain ⟨⟨u6,k6⟩,z6,le6,q36,f8⟩:=AF.out w6 E6 fv6 V6 A6 C6; have LE6:=qh le6; have F8:=qh f8; have HA6:=qh A6; have HC6:=qh C6; clear V6 A6 C6 le6 f8) | (go_at_call 183; refine LE6.out.mono ?_; rintro r w6 ⟨rfl,h6⟩; subst h6) | (go_at_call 170; refine (F8.out _ rfl).1.mono ?_; rintro r w9 ⟨rfl,h9⟩; obtain ⟨g9,N9,c9,A9,cz,e90,p9,e91⟩:=G9.out _ _ _ h9; have H9:=qh h9; clear h9))
    refine bodyPost_end (results_none rfl _ _ _) rfl ⟨rfl,?_⟩
    rw [HUN.out z4]
    exact LV.out _ _ _ _ _ HA6.out HC6.out (F8.out _ rfl).2.1 H9.out
def Tab.fills (ws:List (Nat × Nat)):Nat->Tab->Tab
 | 0,s=>s
 | i+1,s=>Tab.fills ws i (s.fill (ws.getD i (0,0)))
def FineFills (ws:List (Nat × Nat)):Nat->Tab->Prop
 | 0,_=>True
 | i+1,s=>FineFill s (ws.getD i (0,0))∧FineFills ws i (s.fill (ws.getD i (0,0)))
def Tab.bare:Tab:=⟨[],[],0,0,0⟩
def Tab.shut (s:Tab):Tab :=
 if s.count=0 then Tab.bare
 else if 1<s.depth∧(s.nd s.root).length=1 then ({ s with root:=((s.nd s.root).num 0).toNat,depth:=s.depth-1 }:Tab).off s.root
 else s
structure FineShut (s:Tab):Prop where
 ir:s.root<s.nds.length
 lr:(s.nd s.root).length<=10000
 dep:s.depth<=850000
 lf:s.free.length<=850000
 kid:(s.nd s.root).length=1->1<s.depth->∃ c:Nat,(s.nd s.root).num 0=c

theorem xRemove (w:World) (T:Nat) (E:Nat->Prop) (s:Tab) (v:Value) (ws:List (Nat × Nat)) (e:Nat) (h:TabG w T E s) (hv:SlW w v ws) (hb:∀ k,v.ownBlock=some k->¬ E k) (he:ws.length=e+1) (hws:ws.length<=10000)
  (h1:(ws.getD e (0,0)).1<s.nds.length) (h2:(ws.getD e (0,0)).2<(s.nd (ws.getD e (0,0)).1).length) (h4:(s.nd (ws.getD e (0,0)).1).length<=100000)
  (hu:FineFills ws e (s.cutK (ws.getD e (0,0)).1 (ws.getD e (0,0)).2)) (ht:FineShut (Tab.fills ws e (s.cutK (ws.getD e (0,0)).1 (ws.getD e (0,0)).2))) :
  Calls Tryz.prog 147 #[Ptr T,v] w fun r w'=>r=.returned (.tuple #[])∧LeftP w T E (Tab.fills ws e (s.cutK (ws.getD e (0,0)).1 (ws.getD e (0,0)).2)).shut w':=by
 obtain ⟨A,c,rfl,hs⟩:=hv
 obtain ⟨g,rfl,_⟩:=hs 0 (by omega)
 have gE:¬ E g:=hb g rfl
 have WC:=qh (show ∀ w',Chg E w w'->∀ j,j<ws.length->w'.cell? ⟨g,j * 2,none⟩=some (.int .i64 (ws.getD j (0,0)).1)∧w'.cell? ⟨g,j * 2+1,none⟩=some (.int .i64 (ws.getD j (0,0)).2) from fun w' hc j hj=>by
  obtain ⟨g',e',a1,a2⟩:=hs j hj
  injection e' with e'
  injection e' with e' _ _
  subst e'
  exact ⟨hc.cell a1 gE,hc.cell a2 gE⟩)
 obtain ⟨P,hP⟩:=nmq ((ws.getD e (0,0)).1)
 obtain ⟨a,ha⟩:=nmq ((ws.getD e (0,0)).2)
 rw [<-hP] at h1
 rw [<-hP,<-ha] at h2
 rw [<-hP] at h4
 rw [<-hP,<-ha] at hu ht ⊢
 have we:=WC.out w (Chg.refl E w) e (by omega)
 rw [<-hP,<-ha] at we
 have LC:=qh (xDrop w T E s P a h h1 h2 h4)
 have e0:s.put P ((s.nd P).take a++(s.nd P).drop (a+1))=s.cutK P a:=rfl
 rw [e0] at LC
 obtain ⟨S0,hS0⟩:=nmq (s.cutK P a)
 rw [<-hS0] at LC hu ht ⊢
 obtain ⟨S,hS⟩:=nmq (Tab.fills ws e S0)
 rw [<-hS] at ht ⊢
 have HU:=qh hu
 have HT:=qh ht
 have HS:=qh hS
 have HE:=qh he
 have wl:=we.1
 have wr:=we.2
 rw [he] at hws ⊢
 have ei:(e:Int)+1-1=(e:Int):=by omega
 clear hu ht hS h h1 h2 h4 hs hb hP ha we hS0 he e0
 go_enter Tryz.func147,Tryz.ntmps147
 go_wp2_with (go_at_call 170; refine LC.out.mono ?_; rintro r w3 ⟨rfl,hl⟩; have HL:=qh hl; clear hl)
 clear wl wr
 go_loopw [5] (fun vi wr=>∃ (i:Nat) (s1:Tab),i<=e∧vi=.int .i64 i∧Hid (LeftP w T E s1 wr)∧Hid (Tab.fills ws i s1=S)∧Hid (FineFills ws i s1)) (fun vi _=>(intOf vi).toNat)
 case atStart=>exact ⟨e,S0,Nat.le_refl _,rfl,HL,qh HS.out.symm,HU⟩
 case round =>
  obtain ⟨i,s1,hie,rfl,HLi,HSi,HUi⟩:=hrel
  cases i with
  | zero =>
   have hs2:s1=S:=HSi.out
   subst hs2
   obtain ⟨E1,⟨rv,fv,vs,tv⟩,a1,c1⟩:=HLi.out
   have f:=HT.out
   have p1:s1.root<vs.length:=by rw [tv.len]; exact f.ir
   obtain ⟨g0,c0,hrv,hg0,gT,hc⟩:=tv.rowAt (by omega)
   obtain ⟨A3,cz,ev3,hi3⟩:=(tv.node s1.root p1).form
   obtain ⟨R,hR⟩:=nmq (s1.root)
   obtain ⟨D,hD⟩:=nmq (s1.depth)
   obtain ⟨C,hC⟩:=nmq (s1.count)
   have d0:=tv.row.cell 0
   have d1:=tv.row.cell 1
   have d2:=tv.row.cell 2
   have d3:=tv.row.cell 3
   have d4:=tv.row.cell 4
   simp only [geS] at d0 d1 d2 d3 d4
   rw [hrv] at d0
   have f0:=tv.row.frozen 0
   have f1:=tv.row.frozen 1
   have f2:=tv.row.frozen 2
   have f3:=tv.row.frozen 3
   have f4:=tv.row.frozen 4
   have d5:=(hc s1.root p1).1
   rw [ev3] at d5
   obtain ⟨z,hz⟩:=nmq ((s1.nd s1.root).length)
   obtain ⟨N,hN⟩:=nmq (vs.length)
   rw [<-hz,<-hR] at d5
   rw [<-hR] at d2
   rw [<-hD] at d3
   rw [<-hC] at d4
   rw [<-hN] at d0
   have p1':R<N:=by rw [hR,hN]; exact p1
   have TV:=qh tv
   have LW:=qh (show ∀ s' w5,LeftP wr T E1 s' w5->LeftP w T E s' w5 from fun s' w5 hl=>LeftP.then c1 a1 hl)
   have HZ:=qh hz
   have HR:=qh hR
   have HD:=qh hD
   have HC:=qh hC
   have HI:=qh hi3
   have ET:=qh tv.eT
   clear f hc tv a1 c1 hz hR hD hC hN ev3 p1 HUi HSi HLi hi3 hrv
   by_cases c9:C=0
   ·have ci:((C:Int) == 0)=true:=by rw [c9]; rfl
    have ci2:(C:Int)=0:=by omega
    have UP:=qh (show s1.shut=Tab.bare from if_pos (by rw [<-HC.out]; exact c9))
    clear c9
    go_wp2_with fail
    refine bodyPost_end (results_none rfl _ _ _) rfl ⟨rfl,?_⟩
    rw [UP.out]
    refine LW.out _ _ ⟨fun k=>k=T,?_,fun k e=>.inl (by rw [e]; exact ET.out),?_⟩
    ·have r:=(((((TV.out.row.set 0 (.slice none 0 0)).set 1 (.slice none 0 0)).set 2 (.int .i64 0)).set 3 (.int .i64 0)).set 4 (.int .i64 0))
     refine ⟨.slice none 0 0,.slice none 0 0,[],r,⟨rfl,.inl ⟨rfl,rfl⟩⟩,⟨rfl,.inl ⟨rfl,rfl⟩⟩,rfl,fun i hi=>absurd hi (by simp),fun i _ _ _ hi=>absurd hi (by simp),rfl,fun k e=>(by cases e),fun k e=>(by cases e),fun i _ _ hi=>absurd hi (by simp),fun k e=>?_⟩
     rw [show k=T from e]
     exact RowAt.lt r
    ·exact Chg.setCell (Chg.setCell (Chg.setCell (Chg.setCell (Chg.setCell (Chg.refl E1 wr) (.inl ET.out) _) (.inl ET.out) _) (.inl ET.out) _) (.inl ET.out) _) (.inl ET.out) _
   ·have ci:((C:Int) == 0)=false:=by simp; exact c9
    have ci2:¬ (C:Int)=0:=by omega
    by_cases d9:1<D
    ·have d9':(1:Int)<(D:Int):=by omega
     by_cases z9:z=1
     ·have zi:((z:Int) == 1)=true:=by rw [z9]; rfl
      subst z9
      obtain ⟨k,hk⟩:=HT.out.kid HZ.out.symm (by rw [<-HD.out]; exact d9)
      obtain ⟨b,o,rfl,_,n0⟩:=HI.out 0 (by rw [<-HZ.out]; decide)
      rw [hk,Nat.zero_mul,Nat.add_zero] at n0
      have UP:=qh (show s1.shut=({ s1 with root:=((s1.nd s1.root).num 0).toNat,depth:=s1.depth-1 }:Tab).off s1.root from (if_neg (by rw [<-HC.out]; exact c9)).trans (if_pos ⟨by rw [<-HD.out]; exact d9,HZ.out.symm⟩))
      have V4:=TV.out.field (s':={ s1 with root:=k }) (u:=.int .i64 k) 2 rfl rfl rfl
      have V5:=V4.field (s':={ s1 with root:=k,depth:=s1.depth-1 }) (u:=.int .i64 ((s1.depth-1:Nat):Int)) 3 rfl rfl rfl
      have hd1:((s1.depth-1:Nat):Int)=(D:Int)-1:=by rw [<-HD.out]; omega
      have db:D<=850000:=by rw [HD.out]; exact HT.out.dep
      have wd:IntKind.i64.wrap ((D:Int)-1)=(D:Int)-1:=by rw [IntKind.wrap_i64]; omega
      rw [hd1] at V5
      have RL:=qh (xRelease _ T E1 { s1 with root:=k,depth:=s1.depth-1 } s1.root ⟨_,_,_,V5⟩ HT.out.ir (by show 0<(s1.nd s1.root).length; rw [<-HZ.out]; decide) (by have:=HT.out.lf; show s1.free.length<=_; omega))
      rw [hk,Int.toNat_natCast] at UP
      rw [<-HR.out] at RL UP
      clear V4 V5 hd1
      go_wp2_with (go_at_call 172; refine RL.out.mono ?_; rintro r w5 ⟨rfl,hl⟩; have HL5:=qh hl; clear hl)
      refine bodyPost_end (results_none rfl _ _ _) rfl ⟨rfl,?_⟩
      rw [UP.out]
      exact LW.out _ _ (LeftP.then (Chg.setCell (Chg.setCell (Chg.refl E1 wr) (.inl ET.out) _) (.inl ET.out) _) (fun _ e=>.inl e) HL5.out)
     ·have zi:((z:Int) == 1)=false:=by simp; omega
      have zi2:¬ (z:Int)=1:=by omega
      have UP:=qh (show s1.shut=s1 from (if_neg (by rw [<-HC.out]; exact c9)).trans (if_neg (fun t=>z9 (HZ.out.trans t.2))))
      go_wp2_with fail
      refine bodyPost_end (results_none rfl _ _ _) rfl ⟨rfl,?_⟩
      rw [UP.out]
      exact LW.out _ _ (LeftP.same ⟨_,_,_,TV.out⟩ (Below.refl _ _))
    ·have d9':¬ (1:Int)<(D:Int):=by omega
     have UP:=qh (show s1.shut=s1 from (if_neg (by rw [<-HC.out]; exact c9)).trans (if_neg (fun t=>d9 (by rw [HD.out]; exact t.1))))
     go_wp2_with fail
     refine bodyPost_end (results_none rfl _ _ _) rfl ⟨rfl,?_⟩
     rw [UP.out]
     exact LW.out _ _ (LeftP.same ⟨_,_,_,TV.out⟩ (Below.refl _ _))
  | succ i =>
   have hu:=HUi.out
   obtain ⟨hf,hu2⟩:=hu
   have hs2:Tab.fills ws i (s1.fill (ws.getD i (0,0)))=S:=HSi.out
   obtain ⟨E1,g1,a1,c1⟩:=HLi.out
   obtain ⟨y0,y1⟩:=WC.out wr c1 i (by have:=HE.out; omega)
   obtain ⟨X,hX⟩:=nmq (ws.getD i (0,0))
   rw [<-hX] at y0 y1 hf hu2 hs2
   have i1:(i:Int)+1-1=(i:Int):=by omega
   have i0:(0:Int)<(i:Int)+1:=by omega
   have FC:=qh (xFill wr T E1 s1 X g1 hf)
   have HU2:=qh hu2
   have HS2:=qh hs2
   have LW:=qh (show ∀ s' w5,LeftP wr T E1 s' w5->LeftP w T E s' w5 from fun s' w5 hl=>LeftP.then c1 a1 hl)
   clear hf hu2 hs2 g1 a1 c1 hX HUi HSi
   go_wp2_with (go_at_call 171; refine FC.out.mono ?_; rintro r w5 ⟨rfl,hl⟩; have HL5:=qh (LW.out _ w5 hl); clear hl)
   go_roundw
   case rel=>exact ⟨i,_,by omega,rfl,HL5,HS2,HU2⟩
   case measure=>simp [intOf]
end Go.Proofs.YtomjlopcifafpaaGreat

namespace Go.Proofs.YtomjlopcifafpaaGreat
open Go.RowKit

section
variable {s:Tab} {L:Nat->List Nat} {l:KV} {h p:Nat} {K:ByteArray}
theorem Mid.count (m:Mid s L l h p K) (c:Nat):Mid { s with count:=c } L l h p K:=⟨m.d1,m.top,m.nodup,m.lev,m.lt,m.fnd,m.free,m.size,m.link,m.leaf⟩
theorem Whole.leafset (m:Whole s L l) {A B:List Nat} {P:Nat} (e:L 0=A++[P]++B) (zs:KV):Mid (s.put P zs) L (A.flatMap s.nd++zs++B.flatMap s.nd) 0 P ((s.nd P).key 0):=by
 have pm:P ∈ L 0:=by rw [e]; simp
 have pl:=m.lt 0 P m.d1 pm
 have nx:=nodup_mid (by rw [<-e]; exact m.nodup 0 m.d1)
 have n1:∀ r,(s.put P zs).nd r=if r=P then zs else s.nd r:=fun r=>Tab.put_nd pl r
 have up:∀ j r,j<s.depth->j≠0->r ∈ L j->r≠P:=fun j r hj hn hr t=>hn (m.lev j 0 r hj m.d1 hr (by rw [t]; exact pm))
 refine ⟨m.d1,m.top,m.nodup,m.lev,fun j r hj hr=>by rw [Tab.put_len]; exact m.lt j r hj hr,m.fnd,fun f hf=>by rw [Tab.put_len]; exact m.free f hf,fun j r hj hr hn=>?_,fun j hj=>?_,?_⟩
 ·have:r≠P:=fun t=>by
   by_cases c:j=0
   ·exact hn ⟨c,t⟩
   ·exact up j r hj c hr t
  rw [n1,if_neg this]
  exact m.size j r hj hr (fun t=>by have:=t.1; have hj:j<s.depth:=hj; omega)
 ·have hj:j+1<s.depth:=hj
  rw [fm_congr (g:=s.nd) (fun r hr=>by rw [n1,if_neg (up (j+1) r hj (by omega) hr)]),m.linkW hj]
  apply List.map_congr_left
  intro r hr
  unfold Tab.lk
  by_cases c:j=0
  ·by_cases t:r=P
   ·rw [if_pos ⟨by simp [c],t⟩,t]
   ·rw [if_neg (fun u=>t u.2),n1,if_neg t]
  ·rw [if_neg (fun u=>c (by have:=u.1; simpa using this)),n1,if_neg (up j r (by omega) c hr)]
 ·rw [e]
  simp only [List.flatMap_append,List.flatMap_cons,List.flatMap_nil,List.append_nil]
  rw [fm_congr (X:=A) (g:=s.nd) (fun r hr=>by rw [n1,if_neg (fun t=>(nx.1 r hr).1 (by simp [t]))]),fm_congr (X:=B) (g:=s.nd) (fun r hr=>by rw [n1,if_neg (fun t=>(nx.2.2.1 r hr).2 (by simp [t]))]),n1,if_pos rfl]
theorem Whole.wide (m:Whole s L l):∀ i,i<s.depth->2 ^ i<=(L (s.depth-1-i)).length
 | 0,_=>by rw [Nat.sub_zero,m.top]; simp
 | i+1,hi=>by
  have ih:=Whole.wide m i (by omega)
  have k:=congrArg List.length (m.linkW (j:=s.depth-1-(i+1)) (by omega))
  rw [List.length_map,show s.depth-1-(i+1)+1=s.depth-1-i by omega] at k
  have two:∀ X:List Nat,(∀ r,r ∈ X->2<=(s.nd r).length)->2 * X.length<=(X.flatMap s.nd).length:=by
   intro X
   induction X with
   | nil=>intro _; simp
   | cons x X ihx =>
    intro hX
    have a:=hX x (by simp)
    have b:=ihx fun r hr=>hX r (by simp [hr])
    rw [List.flatMap_cons,List.length_append,List.length_cons]; omega
  have:=two (L (s.depth-1-i)) fun r hr=>by
   have:=m.size _ r (by omega) hr (fun t=>by omega)
   rw [if_neg (by omega)] at this
   exact this.1
  rw [Nat.pow_succ]; omega
theorem Whole.depth_le (m:Whole s L l):2 ^ (s.depth-1)<=l.length:=by
 have w:=m.wide (s.depth-1) (by have:=m.d1; omega)
 rw [Nat.sub_self] at w
 have one:∀ X:List Nat,(∀ r,r ∈ X->1<=(s.nd r).length)->X.length<=(X.flatMap s.nd).length:=by
  intro X
  induction X with
  | nil=>intro _; simp
  | cons x X ihx =>
   intro hX
   have a:=hX x (by simp)
   have b:=ihx fun r hr=>hX r (by simp [hr])
   rw [List.flatMap_cons,List.length_append,List.length_cons]; omega
 have:=one (L 0) fun r hr=>(m.pos m.d1 hr).1
 rw [m.leaf] at this
 omega

theorem ups_ok {ws:List (Nat × Nat)} {e:Nat}:∀ i,i<=e->∀ (s:Tab) (L:Nat->List Nat) (K:ByteArray),Mid s L l (e-i) (ws.getD i (0,0)).1 K->e+1=s.depth →
  (∀ j,j<i->(ws.getD j (0,0)).1 ∈ L (e-j)∧(ws.getD j (0,0)).2<(s.nd (ws.getD j (0,0)).1).length∧(s.nd (ws.getD j (0,0)).1).num (ws.getD j (0,0)).2=((ws.getD (j+1) (0,0)).1:Int)) →
  2<=(s.nd (ws.getD i (0,0)).1).length->(s.nd (ws.getD i (0,0)).1).length<=5->s.nds.length+s.free.length+i<=850000 →
  FineUps ws i s∧∃ L2 K2,Mid (Tab.ups ws i s) L2 l e (ws.getD 0 (0,0)).1 K2∧2<=((Tab.ups ws i s).nd (ws.getD 0 (0,0)).1).length∧((Tab.ups ws i s).nd (ws.getD 0 (0,0)).1).length<=5 ∧
   (Tab.ups ws i s).depth=s.depth∧(Tab.ups ws i s).root=s.root∧(Tab.ups ws i s).count=s.count∧(Tab.ups ws i s).nds.length+(Tab.ups ws i s).free.length<=s.nds.length+s.free.length+i
 | 0,_,s,L,K,m,_,_,h2,h5,_=>⟨trivial,L,K,m,h2,h5,rfl,rfl,rfl,Nat.le_refl _⟩
 | i+1,hi,s,L,K,m,hd,hp,h2,h5,hb=>by
  obtain ⟨q1,q2,q3⟩:=hp i (by omega)
  have he:e-i=e-(i+1)+1:=by omega
  rw [he] at q1
  have hdd:e-(i+1)+1<s.depth:=by omega
  have qs:=m.qsize hdd q1
  have ff:=m.fineUp hdd q1 q2 q3 (by omega) (by omega) (by omega) (by omega)
  obtain ⟨L',m',l',st0⟩:=m.up hdd q1 q2 q3 h2 (by omega)
  have st:Stepped s (s.up (ws.getD i (0,0)) (ws.getD (i+1) (0,0)).1) L (e-(i+1)) (ws.getD i (0,0)).1 (s.nd (ws.getD i (0,0)).1).length 1:=st0
  clear st0
  rw [<-he] at m'
  obtain ⟨k1,L2,K2,k2,k3,k4,k5,k6,k7,k8⟩:=ups_ok i (by omega) (s.up (ws.getD i (0,0)) (ws.getD (i+1) (0,0)).1) L' _ m' (by rw [st.depth]; exact hd) (fun j hj=>by
   obtain ⟨j1,j2,j3⟩:=hp j (by omega)
   have jq:(ws.getD j (0,0)).1≠(ws.getD i (0,0)).1:=fun t=>by
    have:=m.lev (e-j) (e-(i+1)+1) _ (by omega) hdd j1 (by rw [t]; exact q1); omega
   have jn:=st.other (e-j) _ (by omega) (by omega) j1 jq
   rw [l' (e-j) (by omega),jn]
   exact ⟨j1,j2,j3⟩) (by have:=st.size; omega) (by have:=st.size; omega) (by have:=st.sum; omega)
  refine ⟨⟨ff,k1⟩,L2,K2,k2,k3,k4,k5.trans st.depth,k6.trans st.root,k7.trans st.count,?_⟩
  have:=st.sum
  show (Tab.ups ws i (s.up (ws.getD i (0,0)) (ws.getD (i+1) (0,0)).1)).nds.length+(Tab.ups ws i (s.up (ws.getD i (0,0)) (ws.getD (i+1) (0,0)).1)).free.length<=_
  omega
theorem fills_ok {ws:List (Nat × Nat)} {e:Nat}:∀ i,i<=e->∀ (s:Tab) (L:Nat->List Nat) (K:ByteArray),Mid s L l (e-i) (ws.getD i (0,0)).1 K->e+1=s.depth →
  (∀ j,j<i->(ws.getD j (0,0)).1 ∈ L (e-j)∧(ws.getD j (0,0)).2<(s.nd (ws.getD j (0,0)).1).length∧(s.nd (ws.getD j (0,0)).1).num (ws.getD j (0,0)).2=((ws.getD (j+1) (0,0)).1:Int)) →
  (e≠0->1<=(s.nd (ws.getD i (0,0)).1).length)->(s.nd (ws.getD i (0,0)).1).length<=4->s.nds.length+s.free.length+2 * i<=850000 →
  FineFills ws i s∧∃ L2 K2,Mid (Tab.fills ws i s) L2 l e (ws.getD 0 (0,0)).1 K2∧(e≠0->1<=((Tab.fills ws i s).nd (ws.getD 0 (0,0)).1).length)∧((Tab.fills ws i s).nd (ws.getD 0 (0,0)).1).length<=4 ∧
   (Tab.fills ws i s).depth=s.depth∧(Tab.fills ws i s).root=s.root∧(Tab.fills ws i s).count=s.count∧(Tab.fills ws i s).nds.length+(Tab.fills ws i s).free.length<=s.nds.length+s.free.length+2 * i
 | 0,_,s,L,K,m,_,_,h2,h5,_=>⟨trivial,L,K,m,h2,h5,rfl,rfl,rfl,Nat.le_refl _⟩
 | i+1,hi,s,L,K,m,hd,hp,h2,h5,hb=>by
  obtain ⟨q1,q2,q3⟩:=hp i (by omega)
  have h2':=h2 (by omega)
  have he:e-i=e-(i+1)+1:=by omega
  rw [he] at q1
  have hdd:e-(i+1)+1<s.depth:=by omega
  have qs:=m.qsize hdd q1
  have ff:=m.fineFill hdd q1 q2 h2' (by omega) (by omega) (by omega)
  obtain ⟨L',n,m',l',st0,n1,n2,n3⟩:=m.fill hdd q1 q2 q3 h2' h5 (by omega) (by omega)
  have st:Stepped s (s.fill (ws.getD i (0,0))) L (e-(i+1)) (ws.getD i (0,0)).1 n 2:=st0
  clear st0
  rw [<-he] at m'
  obtain ⟨k1,L2,K2,k2,k3,k4,k5,k6,k7,k8⟩:=fills_ok i (by omega) (s.fill (ws.getD i (0,0))) L' _ m' (by rw [st.depth]; exact hd) (fun j hj=>by
   obtain ⟨j1,j2,j3⟩:=hp j (by omega)
   have jq:(ws.getD j (0,0)).1≠(ws.getD i (0,0)).1:=fun t=>by
    have:=m.lev (e-j) (e-(i+1)+1) _ (by omega) hdd j1 (by rw [t]; exact q1); omega
   have jn:=st.other (e-j) _ (by omega) (by omega) j1 jq
   rw [l' (e-j) (by omega),jn]
   exact ⟨j1,j2,j3⟩) (fun _=>by have:=st.size; omega) n3 (by have:=st.sum; omega)
  refine ⟨⟨ff,k1⟩,L2,K2,k2,k3,k4,k5.trans st.depth,k6.trans st.root,k7.trans st.count,?_⟩
  have:=st.sum
  show (Tab.fills ws i (s.fill (ws.getD i (0,0)))).nds.length+(Tab.fills ws i (s.fill (ws.getD i (0,0)))).free.length<=_
  omega
end

end Go.Proofs.YtomjlopcifafpaaGreat

namespace Go.Proofs.YtomjlopcifafpaaGreat
open Go.RowKit

section
variable {s:Tab} {L:Nat->List Nat} {l:KV} {e:Nat} {K:ByteArray}
theorem Mid.fineTop (m:Mid s L l e s.root K) (he:e+1=s.depth) (h2:1<=(s.nd s.root).length) (h5:(s.nd s.root).length<=5) (hb:s.nds.length+s.free.length<=850000) (hd:s.depth<=850000):FineTop s :=
 ⟨m.lt (s.depth-1) s.root (by omega) (by rw [m.top]; simp),h2,by omega,fun f hf=>(m.free f hf).1,by omega,by omega,hd⟩
theorem Mid.top_ok (m:Mid s L l e s.root K) (he:e+1=s.depth) (h2:2<=(s.nd s.root).length) (h5:(s.nd s.root).length<=5) :
  ∃ L',Whole s.top L' l∧s.top.count=s.count∧s.top.nds.length+s.top.free.length<=s.nds.length+s.free.length+2∧s.top.depth<=s.depth+1:=by
 have rL:s.root ∈ L e:=by rw [show e=s.depth-1 by omega,m.top]; simp
 have Le:L e=[s.root]:=by rw [show e=s.depth-1 by omega,m.top]
 have rl:=m.lt e s.root (by omega) rL
 by_cases c:4<(s.nd s.root).length
 ·have ef:s.top={ s.cutR.take [((s.nd s.root).key 0,(s.root:Int)),((s.nd s.root).key 3,(s.place:Int))] with root:=s.cutR.place,depth:=s.depth+1 }:=if_pos c
  obtain ⟨R,hR⟩:=nmq (s.root)
  obtain ⟨p1,hp1⟩:=nmq (s.place)
  obtain ⟨p2,hp2⟩:=nmq (s.cutR.place)
  have fl:∀ f,f ∈ s.free->f<s.nds.length:=fun f hf=>(m.free f hf).1
  have l1:(s.put s.root ((s.nd s.root).take 3)).nds.length=s.nds.length:=Tab.put_len _ _ _
  have l2:=Tab.take_len (s:=s.put s.root ((s.nd s.root).take 3)) (zs:=(s.nd s.root).drop 3)
  rw [l1] at l2
  have n2:∀ r,s.cutR.nd r=if r=p1 then (s.nd R).drop 3 else if r=R then (s.nd R).take 3 else s.nd r:=fun r=>by
   unfold Tab.cutR
   rw [Tab.take_nd' (s:=s.put s.root ((s.nd s.root).take 3)) (fun f hf=>by rw [l1]; exact fl f hf),Tab.put_place,<-hp1,Tab.put_nd rl,hR]
  have f2:s.cutR.free=s.free.dropLast:=Tab.take_free
  have f2l:∀ f,f ∈ s.cutR.free->f<s.nds.length∧f ∈ s.free:=fun f hf=>by
   rw [f2] at hf
   have:=List.dropLast_subset _ hf
   exact ⟨fl f this,this⟩
  have len2:s.nds.length<=s.cutR.nds.length:=l2.1
  have n3:∀ r,s.top.nd r=if r=p2 then [((s.nd R).key 0,(R:Int)),((s.nd R).key 3,(p1:Int))] else s.cutR.nd r:=fun r=>by
   rw [ef]
   show (s.cutR.take _).nd r=_
   rw [Tab.take_nd' (fun f hf=>Nat.lt_of_lt_of_le (f2l f hf).1 len2),<-hp2,hp1,hR]
  have new1:∀ j,j<s.depth->p1 ∉ L j:=fun j hj hm=>by
   rcases Tab.place_new (s:=s) with k | k
   ·rw [<-hp1] at k; exact (m.free p1 k).2 j hj hm
   ·have:=m.lt j p1 hj hm
    rw [<-hp1] at k; omega
  have new2:(∀ j,j<s.depth->p2 ∉ L j)∧p2≠p1:=by
   have po:=Tab.place_out (s:=s) (zs:=(s.nd s.root).drop 3) m.fnd
   rw [Tab.take_free,<-hp1] at po
   rcases Tab.place_new (s:=s.cutR) with k | k
   ·rw [<-hp2] at k
    refine ⟨fun j hj hm=>(m.free p2 (f2l p2 k).2).2 j hj hm,fun t=>?_⟩
    rw [f2,t] at k
    exact po k
   ·rw [<-hp2] at k
    refine ⟨fun j hj hm=>by have:=m.lt j p2 hj hm; omega,fun t=>?_⟩
    have:p1<s.cutR.nds.length:=by
     have:=Tab.place_lt (s:=s.put s.root ((s.nd s.root).take 3)) (zs:=(s.nd s.root).drop 3) (fun f hf=>by rw [l1]; exact fl f hf)
     rw [Tab.put_place,<-hp1] at this
     exact this
    omega
  have p1R:p1≠R:=fun t=>new1 e (by omega) (by rw [t,hR]; exact rL)
  have p2R:p2≠R:=fun t=>new2.1 e (by omega) (by rw [t,hR]; exact rL)
  have nR:s.top.nd R=(s.nd R).take 3:=by rw [n3,if_neg (Ne.symm p2R),n2,if_neg (Ne.symm p1R),if_pos rfl]
  have nP1:s.top.nd p1=(s.nd R).drop 3:=by rw [n3,if_neg (Ne.symm new2.2),n2,if_pos rfl]
  have nP2:s.top.nd p2=[((s.nd R).key 0,(R:Int)),((s.nd R).key 3,(p1:Int))]:=by rw [n3,if_pos rfl]
  have nO:∀ j r,j<s.depth->r ∈ L j->r≠R->s.top.nd r=s.nd r:=fun j r hj hr hn=>by
   rw [n3,if_neg (fun t=>new2.1 j hj (by rw [<-t]; exact hr)),n2,if_neg (fun t=>new1 j hj (by rw [<-t]; exact hr)),if_neg hn]
  have dT:s.top.depth=s.depth+1:=by rw [ef]
  have rT:s.top.root=p2:=by rw [ef]; exact hp2.symm
  have cT:s.top.count=s.count:=by
   rw [ef]
   exact (Tab.take_same s.cutR _).2.2.trans (Tab.take_same (s.put s.root ((s.nd s.root).take 3)) _).2.2
  have fT:s.top.free=s.free.dropLast.dropLast:=by
   rw [ef,<-f2]
   exact Tab.take_free
  have lT:s.top.nds.length=(s.cutR.take [((s.nd s.root).key 0,(s.root:Int)),((s.nd s.root).key 3,(s.place:Int))]).nds.length:=by rw [ef]
  have lT1:s.cutR.nds.length<=s.top.nds.length:=by rw [lT]; exact (Tab.take_len (s:=s.cutR)).1
  have p1T:p1<s.top.nds.length:=by
   have:=Tab.place_lt (s:=s.put s.root ((s.nd s.root).take 3)) (zs:=(s.nd s.root).drop 3) (fun f hf=>by rw [l1]; exact fl f hf)
   rw [Tab.put_place,<-hp1] at this
   exact Nat.lt_of_lt_of_le this lT1
  have p2T:p2<s.top.nds.length:=by
   rw [lT,hp2]
   exact Tab.place_lt (s:=s.cutR) (fun f hf=>Nat.lt_of_lt_of_le (f2l f hf).1 len2)
  have sum:s.top.nds.length+s.top.free.length<=s.nds.length+s.free.length+2:=by
   have a1:=Tab.take_sum (s:=s.put s.root ((s.nd s.root).take 3)) (zs:=(s.nd s.root).drop 3)
   have a2:=Tab.take_sum (s:=s.cutR) (zs:=[((s.nd s.root).key 0,(s.root:Int)),((s.nd s.root).key 3,(s.place:Int))])
   rw [l1] at a1
   have a3:s.top.free=(s.cutR.take [((s.nd s.root).key 0,(s.root:Int)),((s.nd s.root).key 3,(s.place:Int))]).free:=by rw [ef]
   have a4:(s.put s.root ((s.nd s.root).take 3)).free=s.free:=rfl
   rw [a4] at a1
   unfold Tab.cutR at a2 lT a3
   rw [lT,a3]
   omega
  refine ⟨fun j=>if j=s.depth then [p2] else if j=e then [R,p1] else L j,?_,cT,sum,by omega⟩
  have Rn:∀ j r,j<s.depth->j≠e->r ∈ L j->r≠R:=fun j r hj hn hr t=>hn (m.lev j e r hj (by omega) hr (by rw [t,hR]; exact rL))
  refine ⟨by omega,?_,fun j hj=>?_,fun i j r hi hj h1 h3=>?_,fun j r hj hr=>?_,?_,fun f hf=>?_,fun j r hj hr _=>?_,fun j hj=>?_,?_⟩
  ·rw [dT,rT,show s.depth+1-1=s.depth by omega,if_pos rfl]
  ·show (if j=s.depth then [p2] else if j=e then [R,p1] else L j).Nodup
   by_cases a:j=s.depth
   ·rw [if_pos a]; simp
   ·rw [if_neg a]
    by_cases b:j=e
    ·rw [if_pos b]; simp; exact fun t=>p1R t.symm
    ·rw [if_neg b]; exact m.nodup j (by omega)
  ·rw [dT] at hi hj
   have key:∀ i,i<s.depth+1->r ∈ (if i=s.depth then [p2] else if i=e then [R,p1] else L i)->(i=s.depth∧r=p2)∨(i=e∧r=p1)∨(i<s.depth∧r ∈ L i):=fun i hi h=>by
    by_cases a:i=s.depth
    ·rw [if_pos a] at h; simp at h; exact .inl ⟨a,h⟩
    ·rw [if_neg a] at h
     by_cases b:i=e
     ·rw [if_pos b] at h
      simp at h
      rcases h with h | h
      ·exact .inr (.inr ⟨by omega,by rw [b,h,hR]; exact rL⟩)
      ·exact .inr (.inl ⟨b,h⟩)
     ·rw [if_neg b] at h; exact .inr (.inr ⟨by omega,h⟩)
   rcases key i hi h1 with ⟨a1,a2⟩ | ⟨a1,a2⟩ | ⟨a1,a2⟩<;>rcases key j hj h3 with ⟨b1,b2⟩ | ⟨b1,b2⟩ | ⟨b1,b2⟩
   ·omega
   ·exact absurd (a2.symm.trans b2) new2.2
   ·exact absurd (a2 ▸ b2) (new2.1 j b1)
   ·exact absurd (b2.symm.trans a2) new2.2
   ·omega
   ·exact absurd (a2 ▸ b2) (new1 j b1)
   ·exact absurd (b2 ▸ a2) (new2.1 i a1)
   ·exact absurd (b2 ▸ a2) (new1 i a1)
   ·exact m.lev i j r a1 b1 a2 b2
  ·rw [dT] at hj
   by_cases a:j=s.depth
   ·rw [if_pos a] at hr; simp at hr; rw [hr]; exact p2T
   ·rw [if_neg a] at hr
    by_cases b:j=e
    ·rw [if_pos b] at hr
     simp at hr
     rcases hr with hr | hr
     ·rw [hr,hR]; omega
     ·rw [hr]; exact p1T
    ·rw [if_neg b] at hr
     have:=m.lt j r (by omega) hr
     omega
  ·rw [fT]; exact (m.fnd.sublist (List.dropLast_sublist _)).sublist (List.dropLast_sublist _)
  ·rw [fT] at hf
   have hf1:=List.dropLast_subset _ hf
   have hf2:=List.dropLast_subset _ hf1
   obtain ⟨a1,a2⟩:=m.free f hf2
   refine ⟨by omega,fun j hj=>?_⟩
   rw [dT] at hj
   have fp1:f≠p1:=fun t=>by
    have po:=Tab.place_out (s:=s) (zs:=(s.nd s.root).drop 3) m.fnd
    rw [Tab.take_free,<-hp1,<-t] at po
    exact po hf1
   have fp2:f≠p2:=fun t=>by
    have po:=Tab.place_out (s:=s.cutR) (zs:=(s.nd s.root).drop 3) (by rw [f2]; exact m.fnd.sublist (List.dropLast_sublist _))
    rw [Tab.take_free,f2,<-hp2,<-t] at po
    exact po hf
   by_cases a:j=s.depth
   ·rw [if_pos a]; simp; exact fp2
   ·rw [if_neg a]
    by_cases b:j=e
    ·rw [if_pos b]; simp
     exact ⟨fun t=>a2 e (by omega) (by rw [t,hR]; exact rL),fp1⟩
    ·rw [if_neg b]; exact a2 j (by omega)
  ·rw [dT] at hj ⊢
   rw [if_neg (show ¬ s.depth+1=1 by have:=m.d1; omega)]
   by_cases a:j=s.depth
   ·rw [if_pos a] at hr; simp at hr; rw [hr,nP2]; exact ⟨by simp,by simp⟩
   ·rw [if_neg a] at hr
    by_cases b:j=e
    ·rw [if_pos b] at hr
     simp at hr
     rcases hr with hr | hr
     ·rw [hr,nR,List.length_take,hR]; omega
     ·rw [hr,nP1,List.length_drop,hR]; omega
    ·rw [if_neg b] at hr
     have:=m.size j r (by omega) hr (fun t=>b t.1)
     rw [if_neg (show ¬ s.depth=1 by omega)] at this
     rw [nO j r (by omega) hr (Rn j r (by omega) b hr)]
     exact this
  ·rw [dT] at hj
   have lks:∀ (W:List Nat),W.map (s.top.lk (decide (j=s.top.depth)) 0 ⟨#[]⟩)=W.map (fun r=>((s.top.nd r).key 0,(r:Int))):=fun W=>by
    apply List.map_congr_left
    intro r _
    unfold Tab.lk
    rw [if_neg (fun t=>by have:=t.1; simp at this; omega)]
   rw [lks]
   by_cases a:j+1=s.depth
   ·have je:j=e:=by omega
    rw [if_pos a,if_neg (show ¬ j=s.depth by omega),if_pos je]
    simp only [List.flatMap_cons,List.flatMap_nil,List.append_nil,List.map_cons,List.map_nil]
    rw [nP2,nR,nP1,KV.key0_take _ _ (by decide),KV.key0_drop]
   ·rw [if_neg a,if_neg (show ¬ j=s.depth by omega)]
    have key:(if j+1=e then [R,p1] else L (j+1)).flatMap s.top.nd=(L (j+1)).flatMap s.nd:=by
     by_cases b:j+1=e
     ·rw [if_pos b,b,Le]
      simp only [List.flatMap_cons,List.flatMap_nil,List.append_nil]
      rw [nR,nP1,List.take_append_drop,hR]
     ·rw [if_neg b]
      exact fm_congr fun r hr=>nO (j+1) r (by omega) hr (Rn (j+1) r (by omega) b hr)
    rw [key,if_neg (show ¬ j=e by omega),m.link j (by omega)]
    apply List.map_congr_left
    intro r hr
    unfold Tab.lk
    rw [if_neg (fun t=>by have:=t.1; simp at this; omega),nO j r (by omega) hr (Rn j r (by omega) (by omega) hr)]
  ·rw [if_neg (show ¬ 0=s.depth by have:=m.d1; omega),<-m.leaf]
   by_cases b:0=e
   ·rw [if_pos b,b,Le]
    simp only [List.flatMap_cons,List.flatMap_nil,List.append_nil]
    rw [nR,nP1,List.take_append_drop,hR]
   ·rw [if_neg b]
    exact fm_congr fun r hr=>nO 0 r m.d1 hr (Rn 0 r m.d1 b hr)
 ·have ef:s.top=s:=if_neg c
  rw [ef]
  exact ⟨L,m.clean (fun _ _=>⟨by split<;>omega,by omega⟩) (fun h=>by omega),rfl,by omega,by omega⟩
end

end Go.Proofs.YtomjlopcifafpaaGreat

namespace Go.Proofs.YtomjlopcifafpaaGreat
open Go.RowKit

section
variable {s:Tab} {L:Nat->List Nat} {l:KV} {e:Nat} {K:ByteArray}
theorem Mid.shut_ok (m:Mid s L l e s.root K) (he:e+1=s.depth) (h1:e≠0->1<=(s.nd s.root).length) (h4:(s.nd s.root).length<=4) (hc:s.count=l.length) (hb:s.nds.length+s.free.length<=850000) (hd:s.depth<=850000) :
  FineShut s∧((l=[]∧s.shut=Tab.bare)∨∃ L',Whole s.shut L' l∧s.shut.count=l.length∧s.shut.nds.length+s.shut.free.length<=s.nds.length+s.free.length+1):=by
 have rL:s.root ∈ L e:=by rw [show e=s.depth-1 by omega,m.top]; simp
 have Le:L e=[s.root]:=by rw [show e=s.depth-1 by omega,m.top]
 have rl:=m.lt e s.root (by omega) rL
 have lone:(s.nd s.root).length=1->1<s.depth->∃ c:Nat,L (e-1)=[c]∧(s.nd s.root).num 0=c:=fun a b=>by
  have k:=m.link (e-1) (by omega)
  rw [show e-1+1=e by omega,Le] at k
  simp only [List.flatMap_cons,List.flatMap_nil,List.append_nil] at k
  have kl:=congrArg List.length k
  rw [List.length_map,a] at kl
  match hL:L (e-1),kl with
  | [c],_ =>
   rw [hL] at k
   exact ⟨c,rfl,by rw [k]; rfl⟩
  | [],kl=>simp at kl
  | _ :: _ :: _,kl=>simp at kl
 refine ⟨⟨rl,by omega,hd,by omega,fun a b=>by obtain ⟨c,_,h⟩:=lone a b; exact ⟨c,h⟩⟩,?_⟩
 by_cases c0:s.count=0
 ·refine .inl ⟨List.eq_nil_of_length_eq_zero (by omega),if_pos c0⟩
 ·refine .inr ?_
  by_cases c1:1<s.depth∧(s.nd s.root).length=1
  ·obtain ⟨c,hcl,hcn⟩:=lone c1.2 c1.1
   have ef:s.shut=({ s with root:=c,depth:=s.depth-1 }:Tab).off s.root:=by
    unfold Tab.shut
    rw [if_neg c0,if_pos c1,hcn]; rfl
   have nd':∀ r,s.shut.nd r=if r=s.root then [] else s.nd r:=fun r=>by
    rw [ef]; exact Tab.off_nd (s:={ s with root:=c,depth:=s.depth-1 }) rl r
   have dT:s.shut.depth=e:=by rw [ef]; show s.depth-1=e; omega
   have fT:s.shut.free=s.free++[s.root]:=by rw [ef]; rfl
   have lT:s.shut.nds.length=s.nds.length:=by rw [ef]; exact Tab.off_len _ _
   have rn:∀ j r,j<e->r ∈ L j->r≠s.root:=fun j r hj hr t=>by
    have:=m.lev j e r (by omega) (by omega) hr (by rw [t]; exact rL); omega
   have nO:∀ j r,j<e->r ∈ L j->s.shut.nd r=s.nd r:=fun j r hj hr=>by rw [nd',if_neg (rn j r hj hr)]
   refine ⟨L,⟨by omega,?_,fun j hj=>m.nodup j (by omega),fun i j r hi hj=>m.lev i j r (by omega) (by omega),fun j r hj hr=>by rw [lT]; exact m.lt j r (by omega) hr,?_,fun f hf=>?_,fun j r hj hr _=>?_,fun j hj=>?_,?_⟩,by rw [ef]; exact hc,by rw [lT,fT]; simp; omega⟩
   ·rw [dT,hcl,ef]; rfl
   ·rw [fT,List.nodup_append]
    exact ⟨m.fnd,by simp,fun x hx y hy t=>by simp at hy; exact (m.free x hx).2 e (by omega) (by rw [t,hy]; exact rL)⟩
   ·rw [fT,List.mem_append] at hf
    rw [lT,dT]
    rcases hf with hf | hf
    ·exact ⟨(m.free f hf).1,fun j hj=>(m.free f hf).2 j (by omega)⟩
    ·simp at hf
     rw [hf]; exact ⟨rl,fun j hj hm=>rn j s.root hj hm rfl⟩
   ·rw [dT] at hj ⊢
    have:=m.size j r (by omega) hr (fun t=>by omega)
    rw [if_neg (show ¬ s.depth=1 by omega)] at this
    rw [nO j r hj hr]
    by_cases t:e=1
    ·rw [if_pos t]; omega
    ·rw [if_neg t]; exact this
   ·rw [dT] at hj
    rw [fm_congr (g:=s.nd) (fun r hr=>nO (j+1) r hj hr),m.link j (by omega)]
    apply List.map_congr_left
    intro r hr
    unfold Tab.lk
    rw [if_neg (fun t=>by have:=t.1; simp at this; omega),if_neg (fun t=>by have:=t.1; simp at this; omega),nO j r (by omega) hr]
   ·rw [<-m.leaf]
    exact fm_congr fun r hr=>nO 0 r (by omega) hr
  ·have ef:s.shut=s:=by
    unfold Tab.shut
    rw [if_neg c0,if_neg c1]
   rw [ef]
   refine ⟨L,m.clean (fun _ _=>⟨?_,h4⟩) (fun h=>by omega),hc,by omega⟩
   by_cases d:s.depth=1
   ·rw [if_pos d]
    have e0:e=0:=by omega
    have k:=m.leaf
    rw [<-e0,Le] at k
    simp only [List.flatMap_cons,List.flatMap_nil,List.append_nil] at k
    rw [k]; omega
   ·rw [if_neg d]
    have:=h1 (by omega)
    have:¬ (s.nd s.root).length=1:=fun t=>c1 ⟨by have:=m.d1; omega,t⟩
    omega

theorem tput_new {l:KV} {k:ByteArray} {n:Int} (hn:l.has k=false):l.put k n=ins l (l.pos k) (k,n):=by
 unfold KV.put ins
 rw [if_neg (by rw [hn]; decide)]
theorem above_pos {l:KV} {k:ByteArray} (h0:RiseL l) (hn:l.has k=false) {j:Nat} (h:l.pos k<=j) (hj:j<l.length):ltB k (l.key j)=true:=by
 have hp:l.pos k<l.length:=by omega
 have st:=KV.pos_stop k l hp
 have lt:ltB k (l.key (l.pos k))=true:=by
  cases e:ltB k (l.key (l.pos k)) with
  | true=>rfl
  | false=>rw [(KV.has_iff l k).2 ⟨hp,(ltB_total e st).symm⟩] at hn; cases hn
 by_cases t:j=l.pos k
 ·rw [t]; exact lt
 ·exact ltB_trans lt (KV.rise_at h0 (by omega) hj)
theorem put_rise {l:KV} {k:ByteArray} {n:Int} (h0:RiseL l):RiseL (l.put k n):=by
 by_cases hn:l.has k=true
 ·have e:l.put k n=l.set (l.pos k) (k,n):=if_pos hn
  obtain ⟨hp,hk⟩:=(KV.has_iff l k).1 hn
  have em:(l.put k n).map Prod.fst=l.map Prod.fst:=by
   rw [e,List.map_set]
   show (l.map Prod.fst).set (l.pos k) k=_
   apply List.ext_getElem (by simp)
   intro i h1 h2
   rw [List.getElem_set]
   by_cases t:l.pos k=i
   ·rw [if_pos t]
    have hi:i<l.length:=by simpa using h2
    rw [List.getElem_map,KV.getE l i hi]
    show k=l.key i
    rw [<-t,hk]
   ·rw [if_neg t]
  have h1:(l.map Prod.fst).Pairwise (fun a b=>ltB a b=true):=List.pairwise_map.2 h0
  rw [<-em] at h1
  exact List.pairwise_map.1 h1
 ·have hn:l.has k=false:=by simpa using hn
  rw [tput_new hn]
  have pl:=KV.pos_le k l
  unfold ins RiseL
  rw [List.pairwise_append,List.pairwise_cons]
  refine ⟨h0.sublist (List.take_sublist _ _),⟨fun y hy=>?_,h0.sublist (List.drop_sublist _ _)⟩,fun x hx y hy=>?_⟩
  ·obtain ⟨i,hi,rfl⟩:=List.getElem_of_mem hy
   rw [List.length_drop] at hi
   rw [List.getElem_drop,KV.getE _ _ (by omega)]
   exact above_pos h0 hn (by omega) (by omega)
  ·obtain ⟨i,hi,rfl⟩:=List.getElem_of_mem hx
   rw [List.length_take] at hi
   rw [List.getElem_take,KV.getE _ _ (by omega)]
   have lx:=KV.pos_below k l i (by omega)
   rw [List.mem_cons] at hy
   rcases hy with rfl | hy
   ·exact lx
   ·obtain ⟨j,hj,rfl⟩:=List.getElem_of_mem hy
    rw [List.length_drop] at hj
    rw [List.getElem_drop,KV.getE _ _ (by omega)]
    exact ltB_trans lx (above_pos h0 hn (by omega) (by omega))
theorem del_rise {l:KV} {k:ByteArray} (h0:RiseL l):RiseL (l.del k):=by
 unfold KV.del
 split
 ·have sb:(l.take (l.pos k)++l.drop (l.pos k+1)).Sublist l:=by
   have k1:(l.drop (l.pos k+1)).Sublist (l.drop (l.pos k)):=by rw [<-List.drop_drop]; exact List.drop_sublist _ _
   have:=(List.Sublist.refl (l.take (l.pos k))).append k1
   rwa [List.take_append_drop] at this
  exact h0.sublist sb
 ·exact h0
end

section
variable {s:Tab} {L:Nat->List Nat} {l:KV}
theorem Whole.way (m:Whole s L l) (h0:RiseL l) (k:ByteArray):∃ e P a A B,s.depth=e+1∧s.Walks k s.depth s.root∧Path s L k e s.root (s.down k s.depth s.root)∧(s.down k s.depth s.root).getD e (0,0)=(P,a)∧a=(s.nd P).pos k∧Found s L l k P A B∧P<s.nds.length∧1<=(s.nd P).length∧(s.nd P).length<=4∧(e≠0->2<=(s.nd P).length):=by
 obtain ⟨e,he⟩:∃ e,s.depth=e+1:=⟨s.depth-1,by have:=m.d1; omega⟩
 have hr:=Here.root m k
 rw [he,Nat.add_sub_cancel] at hr
 obtain ⟨w,p⟩:=m.path h0 k e s.root (by omega) hr
 rw [<-he] at w p
 obtain ⟨A,B,f⟩:=p.here.found m h0
 have pm:((s.down k s.depth s.root).getD e (0,0)).1 ∈ L 0:=by rw [f.cut]; simp
 have sz:=m.pos m.d1 pm
 refine ⟨e,_,_,A,B,he,w,p,rfl,p.last,f,m.lt 0 _ m.d1 pm,sz.1,sz.2,fun h=>?_⟩
 have:=m.size 0 _ m.d1 pm (fun t=>by have:=t.1; omega)
 rw [if_neg (by omega)] at this
 exact this.1
theorem Found.put {k:ByteArray} {P:Nat} {A B:List Nat} (f:Found s L l k P A B) (n:Int) (hn:l.has k=false):l.put k n=A.flatMap s.nd++ins (s.nd P) ((s.nd P).pos k) (k,n)++B.flatMap s.nd:=by
 have pl:=KV.pos_le k (s.nd P)
 rw [tput_new hn,f.pos]
 obtain ⟨U,hU⟩:=nmq (A.flatMap s.nd)
 have fa:=f.all
 rw [<-hU] at fa ⊢
 rw [fa]
 unfold ins
 rw [List.append_assoc,List.take_length_add_append,List.drop_length_add_append,List.take_append_of_le_length pl,List.drop_append_of_le_length pl]
 simp
theorem Found.put_old {k:ByteArray} {P:Nat} {A B:List Nat} (f:Found s L l k P A B) (n:Int) (hn:l.has k=true):l.put k n=A.flatMap s.nd++(s.nd P).set ((s.nd P).pos k) (k,n)++B.flatMap s.nd:=by
 have hp:(s.nd P).pos k<(s.nd P).length:=((KV.has_iff _ _).1 (f.has ▸ hn)).1
 have e:l.put k n=l.set (l.pos k) (k,n):=if_pos hn
 rw [e,f.pos]
 obtain ⟨U,hU⟩:=nmq (A.flatMap s.nd)
 have fa:=f.all
 rw [<-hU] at fa ⊢
 rw [fa,List.append_assoc,List.set_append_right _ _ (by omega),Nat.add_sub_cancel_left,List.set_append_left _ _ hp,List.append_assoc]
theorem Found.del {k:ByteArray} {P:Nat} {A B:List Nat} (f:Found s L l k P A B) (hn:l.has k=true):l.del k=A.flatMap s.nd++((s.nd P).take ((s.nd P).pos k)++(s.nd P).drop ((s.nd P).pos k+1))++B.flatMap s.nd:=by
 have hp:(s.nd P).pos k<(s.nd P).length:=((KV.has_iff _ _).1 (f.has ▸ hn)).1
 have e:l.del k=l.take (l.pos k)++l.drop (l.pos k+1):=if_pos hn
 rw [e,f.pos]
 obtain ⟨U,hU⟩:=nmq (A.flatMap s.nd)
 have fa:=f.all
 rw [<-hU] at fa ⊢
 rw [fa,List.append_assoc,List.take_length_add_append,Nat.add_assoc,List.drop_length_add_append,List.take_append_of_le_length (by omega),List.drop_append_of_le_length (by omega)]
 simp
end

end Go.Proofs.YtomjlopcifafpaaGreat
