/- Proved parts: T9o T8t T8x T8y T8z. Conditions: each theorem's own. -/
import Derived.Test.YtoljhoabbaigdaaGreatM32
import Derived.Test.YtoljhoabbaigdaaGreatQ1
import Derived.Test.YtoljhoabbaigdaaGreatQ2
set_option maxRecDepth 100000
set_option maxHeartbeats 8000000
namespace Go.Proofs.YtoljhoabbaigdaaGreat
open Go.RowKit

def Tab.cutR (s:Tab):Tab:=(s.put s.root ((s.nd s.root).take 3)).take ((s.nd s.root).drop 3)
def Tab.top (s:Tab):Tab :=
 if 4<(s.nd s.root).length then { s.cutR.take [((s.nd s.root).key 0,(s.root:Int)),((s.nd s.root).key 3,(s.place:Int))] with root:=s.cutR.place,depth:=s.depth+1 }
 else s
theorem xTakeNew (w:World) (T:Nat) (E:Nat->Prop) (s:Tab) (zs:KV) (h:TabG w T E s) (h0:0<zs.length) (hm:zs.length<=1000) (hf:∀ p,p ∈ s.free->p<s.nds.length) (hn:s.nds.length<=900000) (hn2:s.free.length<=900000) :
  Calls Tryz.prog 157 #[Ptr T,.slice (some ⟨w.heap.size,0,none⟩) zs.length zs.length] (w.alloc (.cells (itc zs).toArray 221)) fun x w'=>x=.returned (.int .i64 s.place)∧LeftP w T E (s.take zs) w':=by
 obtain ⟨rv,fv,vs,h⟩:=h
 have B1:Below w.heap.size w (w.alloc (.cells (itc zs).toArray 221)):=(Below.refl _ _).alloc (Nat.le_refl _) _
 have r1:RowAt (w.alloc (.cells (itc zs).toArray 221)) w.heap.size (itc zs) 221:=RowAt.new w _ _
 obtain ⟨w1,hw1⟩:=nmq (w.alloc (.cells (itc zs).toArray 221))
 rw [<-hw1] at B1 r1 ⊢
 have s1:w1.heap.size=w.heap.size+1:=by rw [hw1]; simp
 have v1:TabV w1 T (fun i=>E i∨i=w.heap.size) s rv fv vs:=(h.below B1).grow (fun i e=>.inl e) (fun i e=>by
  rcases e with e | e
  ·have:=h.lt i e; omega
  ·omega)
 have wn:WinAt w1 w.heap.size 0 zs.length zs:=by
  refine ⟨Nat.le_refl _,by unfold maxLen; omega,h0,fun j u hj=>?_,fun j hj=>?_,⟨_,r1⟩⟩
  ·rw [Nat.zero_add,r1.cell]; exact hj
  ·rw [Nat.zero_add,r1.cell,List.getElem?_eq_getElem (by rw [itc_len]; exact hj)]; rfl
 refine (xTake w1 T (fun i=>E i∨i=w.heap.size) s rv fv vs (some ⟨w.heap.size,0,none⟩) zs.length zs.length zs v1 wn.node (fun i j ⟨_,_,_,e,_⟩=>by
  injection e with e _ _
  injection e with e
  injection e with e _ _
  have e:i=w.heap.size:=e.symm
  refine ⟨⟨.inr e,fun t=>?_,fun t=>?_,fun t=>?_⟩,fun m hm f=>?_⟩
  ·have:=h.lt T h.eT; omega
  ·have:=h.lt i (h.eN i t).1; omega
  ·have:=h.lt i (h.eF i t).1; omega
  ·have:=h.lt i (h.eW m i j hm f).1; omega) hf hn hn2).mono fun x w3 ⟨hx,⟨E3,h3,a3,c3⟩,_⟩=>⟨hx,E3,h3,fun i e=>?_,(Chg.of_below B1).trans c3 fun i e=>?_⟩
 ·rcases a3 i e with (f | f) | f
  ·exact .inl f
  ·exact .inr (by omega)
  ·exact .inr (by omega)
 ·rcases e with e | e
  ·exact .inl e
  ·exact .inr (by omega)
structure FineTop (s:Tab):Prop where
 ir:s.root<s.nds.length
 l0:0<(s.nd s.root).length
 lr:(s.nd s.root).length<=10000
 free:∀ f,f ∈ s.free->f<s.nds.length
 ln:s.nds.length<=850000
 lf:s.free.length<=850000
 dep:s.depth<=850000

theorem xInsert1 (w:World) (T:Nat) (E:Nat->Prop) (s:Tab) (v:Value) (ws:List (Nat × Nat)) (e:Nat) (x:ByteArray × Int) (h:TabG w T E s) (hv:SlW w v ws) (hb:∀ k,v.ownBlock=some k->¬ E k) (he:ws.length=e+1) (hws:ws.length<=10000)
  (h1:(ws.getD e (0,0)).1<s.nds.length) (h2:(ws.getD e (0,0)).2<=(s.nd (ws.getD e (0,0)).1).length) (h3:0<(s.nd (ws.getD e (0,0)).1).length) (h4:(s.nd (ws.getD e (0,0)).1).length<=100000)
  (hu:FineUps ws e (s.put (ws.getD e (0,0)).1 (ins (s.nd (ws.getD e (0,0)).1) (ws.getD e (0,0)).2 x))) (ht:FineTop (Tab.ups ws e (s.put (ws.getD e (0,0)).1 (ins (s.nd (ws.getD e (0,0)).1) (ws.getD e (0,0)).2 x)))) :
  Calls Tryz.prog 144 #[Ptr T,v,.agg #[.string x.1,.int .i64 x.2]] w fun r w'=>r=.returned (.tuple #[])∧LeftP w T E (Tab.ups ws e (s.put (ws.getD e (0,0)).1 (ins (s.nd (ws.getD e (0,0)).1) (ws.getD e (0,0)).2 x))).top w':=by
 obtain ⟨A,c,rfl,hs⟩:=hv
 obtain ⟨g,rfl,_⟩:=hs 0 (by omega)
 obtain ⟨q,hq⟩:=nmq (w.heap.size)
 obtain ⟨w1,hw1⟩:=nmq (w.alloc (.cells #[.string x.1,.int .i64 x.2] 221))
 have B1:Below w.heap.size w w1:=by rw [hw1]; exact (Below.refl _ _).alloc (Nat.le_refl _) _
 have r1:RowAt w1 q [.string x.1,.int .i64 x.2] 221:=by rw [hw1,hq]; exact RowAt.new w _ _
 have gE:¬ E g:=hb g rfl
 have WC:=qh (show ∀ w',Chg E w w'->∀ j,j<ws.length->w'.cell? ⟨g,j * 2,none⟩=some (.int .i64 (ws.getD j (0,0)).1)∧w'.cell? ⟨g,j * 2+1,none⟩=some (.int .i64 (ws.getD j (0,0)).2) from fun w' hc j hj=>by
  obtain ⟨g',e',a1,a2⟩:=hs j hj
  injection e' with e'
  injection e' with e' _ _
  subst e'
  exact ⟨hc.cell a1 gE,hc.cell a2 gE⟩)
 obtain ⟨P,hP⟩:=nmq ((ws.getD e (0,0)).1)
 obtain ⟨a,ha⟩:=nmq ((ws.getD e (0,0)).2)
 rw [<-hP] at h1
 rw [<-hP,<-ha] at h2
 rw [<-hP] at h3 h4
 rw [<-hP,<-ha] at hu ht ⊢
 have we:=WC.out w1 (Chg.of_below B1) e (by omega)
 rw [<-hP,<-ha] at we
 have LC:=qh (xLay w1.drew T E s P a x (h.below (w':=w1.drew) B1.drew) h1 h2 h3 h4)
 have L1:=qh (show ∀ w3,LeftP w1.drew T E (s.put P (ins (s.nd P) a x)) w3->LeftP w T E (s.put P (ins (s.nd P) a x)) w3 from fun w3 ⟨E3,h3,a3,c3⟩=>⟨E3,h3,fun k e=>by
  rcases a3 k e with f | f
  ·exact .inl f
  ·exact .inr (Nat.le_trans B1.size f),(Chg.of_below B1.drew).then c3⟩)
 obtain ⟨S0,hS0⟩:=nmq (s.put P (ins (s.nd P) a x))
 rw [<-hS0] at LC L1 hu ht ⊢
 obtain ⟨S,hS⟩:=nmq (Tab.ups ws e S0)
 rw [<-hS] at ht ⊢
 have HU:=qh hu
 have HT:=qh ht
 have HS:=qh hS
 have HW1:=qh hw1
 have HQ:=qh hq
 have R1:=qh r1
 have HE:=qh he
 have LT:=qh h.lt
 have wl:=we.1
 have wr:=we.2
 have x0:=r1.cell 0
 have x1:=r1.cell 1
 simp only [geS] at x0 x1
 rw [he] at hws ⊢
 have ei:(e:Int)+1-1=(e:Int):=by omega
 have e0:¬ ((e:Int)+1=0):=by omega
 have e1z:(e:Int)<(e:Int)+1:=by omega
 clear hu ht hS hw1 hq r1 h h1 h2 h3 h4 hs hb hP ha we hS0 he B1
 go_enter Tryz.func144,Tryz.ntmps144
 go_wp2_with fail
 rw [<-HW1.out,<-HQ.out]
 have qE:∀ k,E k->k≠q:=fun k ek=>by have:=LT.out k ek; have:=HQ.out; omega
 have SH:=qh (show ∀ w3,LeftP w1.drew T E S0 w3->w3.cell? ⟨g,e * 2,none⟩=some (.int .i64 P)∧w3.cell? ⟨g,e * 2+1,none⟩=some (.int .i64 a)∧w3.cell? ⟨q,0,none⟩=some (.string x.1)∧w3.cell? ⟨q,1,none⟩=some (.int .i64 x.2) from fun w3 ⟨E3,h3,a3,c3⟩ =>
  ⟨c3.cell wl gE,c3.cell wr gE,c3.cell x0 (fun k=>qE _ k rfl),c3.cell x1 (fun k=>qE _ k rfl)⟩)
 clear qE
 refine wp_region_held_drew (S:=(fun w'=>w'.cell? ⟨g,e * 2,none⟩=some (.int .i64 P)∧w'.cell? ⟨g,e * 2+1,none⟩=some (.int .i64 a)∧w'.cell? ⟨q,0,none⟩=some (.string x.1)∧w'.cell? ⟨q,1,none⟩=some (.int .i64 x.2))) (by kernel_rfl) (⟨wl,wr,x0,x1⟩) (fun gH=>?_)
 refine rgT 0 (v:=?v1) ?y1 gH ?_
 case y1=>(intro v hSw; go_simp<;>rfl)
 refine rgT 1 (v:=?v2) ?y2 gH ?_
 case y2=>(intro v hSw; go_simp<;>rfl)
 refine rgT 2 (v:=?v3) ?y3 gH ?_
 case y3=>(intro v hSw; go_simp<;>rfl)
 try simp only [putS]
 refine rgT 3 (v:=?v4) ?y4 gH ?_
 case y4=>(intro v hSw; go_simp<;>rfl)
 refine rgT 4 (v:=?v5) ?y5 gH ?_
 case y5=>(intro v hSw; go_simp<;>rfl)
 refine rgT 5 (v:=?v6) ?y6 gH ?_
 case y6=>(intro v hSw; go_simp<;>rfl)
 try simp only [putS]
 refine rgO 6 fun K hK=>?_
 go_simp
 refine LC.out.mono ?_
 rintro r w3 ⟨rfl,hl⟩
 have HL:=qh (L1.out w3 hl)
 refine hK.out _ _ ((SH.out w3 hl)) (fun gH=>?_)
 clear hK K
 try simp only [putS]
 refine rgD ?_
 clear wl wr x0 x1
 go_wp2_with fail
 go_loopw [7] (fun vi wr=>∃ (i:Nat) (s1:Tab),i<=e∧vi=.int .i64 i∧Hid (LeftP w T E s1 wr)∧Hid (Tab.ups ws i s1=S)∧Hid (FineUps ws i s1)) (fun vi _=>(intOf vi).toNat)
 case atStart=>exact ⟨e,S0,Nat.le_refl _,rfl,HL,qh HS.out.symm,HU⟩
 case round =>
  obtain ⟨i,s1,hie,rfl,HLi,HSi,HUi⟩:=hrel
  cases i with
  | zero =>
   have hs2:s1=S:=HSi.out
   subst hs2
   obtain ⟨E1,g1,a1,c1⟩:=HLi.out
   have f:=HT.out
   obtain ⟨rv,fv,vs,tv⟩:=g1
   have p1:s1.root<vs.length:=by rw [tv.len]; exact f.ir
   obtain ⟨g0,c0,rfl,hg0,gT,hc⟩:=tv.rowAt (by omega)
   obtain ⟨A3,cz,ev3,_⟩:=(tv.node s1.root p1).form
   obtain ⟨R,hR⟩:=nmq (s1.root)
   obtain ⟨D,hD⟩:=nmq (s1.depth)
   have d0:=tv.row.cell 0
   have d1:=tv.row.cell 2
   simp only [geS] at d0 d1
   have d2:=(hc s1.root p1).1
   rw [ev3] at d2
   obtain ⟨z,hz⟩:=nmq ((s1.nd s1.root).length)
   obtain ⟨N,hN⟩:=nmq (vs.length)
   rw [<-hz,<-hR] at d2
   rw [<-hR] at d1
   rw [<-hN] at d0
   have p1':R<N:=by rw [hR,hN]; exact p1
   have TV:=qh tv
   have A1:=qh a1
   have C1:=qh c1
   have HZ:=qh hz
   have HR:=qh hR
   have HD:=qh hD
   obtain ⟨wo,hwo⟩:=nmq (wr)
   subst hwo
   clear f hc tv a1 c1 hz hR hD hN ev3 p1 hl HUi HSi HLi
   go_wp2_with fail
   refine wp_region_held_drew (S:=(fun w'=>w'.cell? ⟨T,0,none⟩=some (.slice (some ⟨g0,0,none⟩) N c0)∧w'.cell? ⟨T,2,none⟩=some (.int .i64 R)∧w'.cell? ⟨g0,R,none⟩=some (.slice A3 z cz))) (by kernel_rfl) (⟨d0,d1,d2⟩) (fun gH=>?_)
   by_cases z4:4<z
   ·have z4':(4:Int)<(z:Int):=by omega
    have f:=HT.out
    have UP:=qh (show s1.top={ s1.cutR.take [((s1.nd s1.root).key 0,(s1.root:Int)),((s1.nd s1.root).key 3,(s1.place:Int))] with root:=s1.cutR.place,depth:=s1.depth+1 } from if_pos (by rw [<-HZ.out]; exact z4))
    obtain ⟨K0,hK0⟩:=nmq ((s1.nd s1.root).key 0)
    obtain ⟨K3,hK3⟩:=nmq ((s1.nd s1.root).key 3)
    obtain ⟨PL,hPL⟩:=nmq (s1.place)
    obtain ⟨w2,hw2⟩:=nmq (wo.drew)
    have t2:=TV.out.below (w':=w2) (by rw [hw2]; exact (Below.refl _ _).drew)
    have p1:R<vs.length:=by rw [HR.out,TV.out.len]; exact f.ir
    have LE:=qh (show ∀ w',Below w2.heap.size w2 w'->Calls Tryz.prog 159 #[Ptr T,.int .i64 R] w' fun x w''=>x=.returned (.string K0)∧w''=w' from fun w' hb=>by
     have:=xLeast w' T E1 s1 _ _ _ R (t2.below hb) p1 (by rw [HR.out]; exact f.l0)
     rw [HR.out,<-hK0,<-HR.out] at this; exact this)
    have BD:=qh (show Below w2.heap.size w2 w2.drew from (Below.refl _ _).drew)
    have BA:=qh (show ∀ cs t,Below w2.heap.size w2 (w2.alloc (.cells cs t)).drew from fun cs t=>((Below.refl _ _).alloc (Nat.le_refl _) _).drew)
    obtain ⟨w3,hw3⟩:=nmq ((w2.alloc (.cells #[.string K0,.int .i64 R] 221)).drew)
    obtain ⟨q10,hq10⟩:=nmq (w2.heap.size)
    have e2:w2.cell? ⟨T,2,none⟩=some (.int .i64 R):=by rw [HR.out]; exact t2.row.cell 2
    have KS:=qh (show ∀ cs t,(w2.alloc (.cells cs t)).drew.cell? ⟨T,2,none⟩=some (.int .i64 R) from fun cs t=>by
     have hb:Below w2.heap.size w2 (w2.alloc (.cells cs t)).drew:=((Below.refl _ _).alloc (Nat.le_refl _) _).drew
     exact (hb.cell (p:=⟨T,2,none⟩) (block_lt_of_cell e2)).trans e2)
    have B3:Below w2.heap.size w2 w3:=by rw [hw3]; exact ((Below.refl _ _).alloc (Nat.le_refl _) _).drew
    have R3:=qh (show RowAt w3 q10 [.string K0,.int .i64 R] 221 by rw [hw3,hq10]; exact RowAt.new w2 _ _)
    have S3:w3.heap.size=q10+1:=by rw [hw3,hq10,heap_drew]; simp
    have T3:=qh (t2.below B3)
    obtain ⟨w4,hw4⟩:=nmq (w3.drew)
    have C4:=qh (show Chg E wo.drew w4 by rw [hw4,<-hw2]; exact (Chg.of_below B3).drew)
    have R4:=qh (show RowAt w4 q10 [.string K0,.int .i64 R] 221 by rw [hw4]; exact R3.out)
    have g4:TabG w4 T E1 s1:=by rw [hw4]; exact ⟨_,_,_,T3.out.below (Below.refl _ _).drew⟩
    have PC:=qh (xPart w4 T E1 s1 s1.root g4 f.ir (by rw [<-HZ.out]; omega) f.free (by have:=f.ln; omega) (by have:=f.lf; omega))
    rw [<-hK3,<-hPL,<-HR.out] at PC
    have Q10:=qh (show ∀ k,E1 k->k≠q10 from fun k e=>by have:=t2.lt k e; omega)
    have CT:s1.cutR=(s1.put R ((s1.nd R).take 3)).take ((s1.nd R).drop 3):=by unfold Tab.cutR; rw [HR.out]
    rw [<-CT] at PC
    have SK:=qh (show ∀ s' w5,LeftP w4 T E1 s' w5->s'.root=s1.root->w5.cell? ⟨T,2,none⟩=some (.int .i64 R)∧w5.cell? ⟨q10,0,none⟩=some (.string K0)∧w5.cell? ⟨q10,1,none⟩=some (.int .i64 R) from fun s' w5 ⟨E5,⟨r5,f5,v5,g5⟩,a5,c5⟩ hr=>by
     have r5:RowAt w5 q10 _ _:=R4.out.keep c5 (fun e=>Q10.out _ e rfl)
     exact ⟨by rw [HR.out,<-hr]; exact g5.row.cell 2,r5.cell 0,r5.cell 1⟩)
    have TK:=qh (show ∀ w5,LeftP w4 T E1 s1.cutR w5->Calls Tryz.prog 157 #[Ptr T,.slice (some ⟨w5.heap.size,0,none⟩) 2 2] (w5.alloc (.cells #[.string K0,.int .i64 R,.string K3,.int .i64 PL] 221)) fun x w'=>x=.returned (.int .i64 s1.cutR.place)∧LeftP w4 T E1 (s1.cutR.take [(K0,(R:Int)),(K3,(PL:Int))]) w' from fun w5 ⟨E5,g5,a5,c5⟩=>by
     have l1:=(Tab.take_len (s:=s1.put s1.root ((s1.nd s1.root).take 3)) (zs:=(s1.nd s1.root).drop 3))
     have l2:(s1.put s1.root ((s1.nd s1.root).take 3)).nds.length=s1.nds.length:=Tab.put_len _ _ _
     have l3:s1.cutR.free=s1.free.dropLast:=Tab.take_free
     refine (xTakeNew w5 T E5 s1.cutR [(K0,(R:Int)),(K3,(PL:Int))] g5 (by simp) (by simp) (fun q hq=>?_) ?_ ?_).mono fun x w' h=>⟨h.1,LeftP.then c5 a5 h.2⟩
     ·rw [l3] at hq
      have:=f.free q (List.dropLast_subset _ hq)
      show q<((s1.put s1.root ((s1.nd s1.root).take 3)).take ((s1.nd s1.root).drop 3)).nds.length
      omega
     ·have:=f.ln
      show ((s1.put s1.root ((s1.nd s1.root).take 3)).take ((s1.nd s1.root).drop 3)).nds.length<=_
      omega
     ·rw [l3,List.length_dropLast]; have:=f.lf; omega)
    have rt1:∀ zs,(s1.cutR.take zs).root=s1.root∧(s1.cutR.take zs).depth=s1.depth:=fun zs=>by
     unfold Tab.cutR
     have key:∀ (s:Tab) (zs:KV),(s.take zs).root=s.root∧(s.take zs).depth=s.depth:=fun s zs=>by
      unfold Tab.take; cases s.free.getLast?<;>exact ⟨rfl,rfl⟩
     obtain ⟨e1,e2⟩:=key ((s1.put s1.root ((s1.nd s1.root).take 3)).take ((s1.nd s1.root).drop 3)) zs
     obtain ⟨e3,e4⟩:=key (s1.put s1.root ((s1.nd s1.root).take 3)) ((s1.nd s1.root).drop 3)
     exact ⟨e1.trans e3,e2.trans e4⟩
    have rt0:s1.cutR.root=s1.root:=by
     unfold Tab.cutR Tab.take; cases (s1.put s1.root ((s1.nd s1.root).take 3)).free.getLast?<;>rfl
    have FIN:=qh (show ∀ w6,LeftP w4 T E1 (s1.cutR.take [(K0,(R:Int)),(K3,(PL:Int))]) w6->LeftP w T E s1.top ((w6.setCell ⟨T,2,none⟩ (.int .i64 s1.cutR.place)).setCell ⟨T,3,none⟩ (.int .i64 ((D:Int)+1)))∧w6.cell? ⟨T,3,none⟩=some (.int .i64 D)∧∀ j,w6.frozen? ⟨T,j,none⟩=false from fun w6 ⟨E6,⟨r6,f6,v6,g6⟩,a6,c6⟩=>by
     have ed:=(rt1 [(K0,(R:Int)),(K3,(PL:Int))]).2
     have h4:=g6.field (s':={ s1.cutR.take [(K0,(R:Int)),(K3,(PL:Int))] with root:=s1.cutR.place }) (u:=.int .i64 s1.cutR.place) 2 rfl rfl rfl
     have h5:=h4.field (s':={ s1.cutR.take [(K0,(R:Int)),(K3,(PL:Int))] with root:=s1.cutR.place,depth:=s1.depth+1 }) (u:=.int .i64 ((D:Int)+1)) 3 rfl rfl (by rw [HD.out]; rfl)
     refine ⟨?_,by rw [HD.out,<-ed]; exact g6.row.cell 3,fun j=>g6.row.frozen j⟩
     rw [UP.out,<-hK0,<-hK3,<-hPL,<-HR.out]
     refine LeftP.then (C1.out.drew.trans C4.out fun _ e=>.inl e) A1.out ?_
     exact ⟨E6,⟨r6,f6,v6,h5⟩,a6,Chg.setCell (Chg.setCell c6 (.inl TV.out.eT) _) (.inl TV.out.eT) _⟩)
    have M2:=qh (show w4.cell? ⟨T,2,none⟩=some (.int .i64 R) by rw [hw4,HR.out]; exact T3.out.row.cell 2)
    have AL:=qh (show ∀ w5:World,w5.cell? ⟨q10,0,none⟩=some (.string K0)∧w5.cell? ⟨q10,1,none⟩=some (.int .i64 R)->∀ cs t,(w5.alloc (.cells cs t)).cell? ⟨q10,0,none⟩=some (.string K0)∧(w5.alloc (.cells cs t)).cell? ⟨q10,1,none⟩=some (.int .i64 R) from fun w5 h cs t=>by
     have hb:Below w5.heap.size w5 (w5.alloc (.cells cs t)):=(Below.refl _ _).alloc (Nat.le_refl _) _
     exact ⟨(hb.cell (p:=⟨q10,0,none⟩) (block_lt_of_cell h.1)).trans h.1,(hb.cell (p:=⟨q10,1,none⟩) (block_lt_of_cell h.2)).trans h.2⟩)
    have ST6:=qh (show ∀ w5:World,w5.cell? ⟨q10,0,none⟩=some (.string K0)∧w5.cell? ⟨q10,1,none⟩=some (.int .i64 R)->∀ u,(w5.setCell ⟨T,2,none⟩ u).cell? ⟨q10,0,none⟩=some (.string K0)∧(w5.setCell ⟨T,2,none⟩ u).cell? ⟨q10,1,none⟩=some (.int .i64 R) from fun w5 h u=>by
     have tq:q10≠T:=fun e=>Q10.out T TV.out.eT e.symm
     exact ⟨(World.cell?_of_block (a:=⟨q10,0,none⟩) (Below.heap_setCell _ _ _ _ tq)).trans h.1,(World.cell?_of_block (a:=⟨q10,1,none⟩) (Below.heap_setCell _ _ _ _ tq)).trans h.2⟩)
    have RT:=qh rt0
    have RT1:=qh rt1
    have HW2:=qh hw2
    have HW3:=qh hw3
    have HW4:=qh hw4
    have HQ10:=qh hq10
    have dd:D<=850000:=by rw [HD.out]; exact f.dep
    clear hw2 hw3 hw4 hq10 hK0 hK3 hPL B3 S3 CT t2 f g4 rt0 rt1 p1
    refine rgT 0 (v:=?v7) ?y7 gH ?_
    case y7=>(intro v hSw; go_simp<;>rfl)
    refine rgT 1 (v:=?v8) ?y8 gH ?_
    case y8=>(intro v hSw; go_simp<;>rfl)
    refine rgT 2 (v:=?v9) ?y9 gH ?_
    case y9=>(intro v hSw; go_simp<;>rfl)
    try simp only [putS]
    refine rgT 3 (v:=?v10) ?y10 gH ?_
    case y10=>(intro v hSw; go_simp<;>rfl)
    refine rgT 4 (v:=?v11) ?y11 gH ?_
    case y11=>(intro v hSw; go_simp<;>rfl)
    refine rgT 5 (v:=?v12) ?y12 gH ?_
    case y12=>(intro v hSw; go_simp<;>rfl)
    try simp only [putS]
    refine rgT 6 (v:=?v13) ?y13 gH ?_
    case y13=>(intro v hSw; go_simp<;>rfl)
    refine rgT 7 (v:=?v14) ?y14 gH ?_
    case y14=>(intro v hSw; go_simp<;>rfl)
    refine rgT 8 (v:=?v15) ?y15 gH ?_
    case y15=>(intro v hSw; go_simp<;>rfl)
    try simp only [putS]
    refine rgT 9 (v:=?v16) ?y16 gH ?_
    case y16=>(intro v hSw; go_simp<;>rfl)
    refine rgT 10 (v:=?v17) ?y17 gH ?_
    case y17=>(intro v hSw; go_simp<;>rfl)
    refine rgT 11 (v:=?v18) ?y18 gH ?_
    case y18=>(intro v hSw; go_simp<;>rfl)
    try simp only [putS]
    refine rgD ?_
    clear d0 d1 d2 gH
    go_wp2_with fail
    rw [<-HW2.out]
    refine wp_region_held_drew (S:=(fun w'=>w'.cell? ⟨T,2,none⟩=some (.int .i64 R))) (by kernel_rfl) (e2) (fun gH=>?_)
    refine rgT 0 (v:=?v19) ?y19 gH ?_
    case y19=>(intro v hSw; have y0:=hSw; go_simp<;>rfl)
    refine rgT 1 (v:=?v20) ?y20 gH ?_
    case y20=>(intro v hSw; have y0:=hSw; go_simp<;>rfl)
    refine rgT 2 (v:=?v21) ?y21 gH ?_
    case y21=>(intro v hSw; have y0:=hSw; go_simp<;>rfl)
    try simp only [putS]
    refine rgT 3 (v:=?v22) ?y22 gH ?_
    case y22=>(intro v hSw; have y0:=hSw; go_simp<;>rfl)
    refine rgT 4 (v:=?v23) ?y23 gH ?_
    case y23=>(intro v hSw; have y0:=hSw; go_simp<;>rfl)
    refine rgT 6 (v:=?v24) ?y24 gH ?_
    case y24=>(intro v hSw; have y0:=hSw; go_simp<;>rfl)
    try simp only [putS]
    refine rgT 7 (v:=?v25) ?y25 gH ?_
    case y25=>(intro v hSw; have y0:=hSw; go_simp<;>rfl)
    refine rgT 8 (v:=?v26) ?y26 gH ?_
    case y26=>(intro v hSw; have y0:=hSw; go_simp<;>rfl)
    refine rgT 9 (v:=?v27) ?y27 gH ?_
    case y27=>(intro v hSw; have y0:=hSw; go_simp<;>rfl)
    try simp only [putS]
    refine rgnTwo 5 11 rfl rfl (by kernel_rfl) (fun K hK=>?_) (fun K hK=>?_)
    ·go_simp
     refine (LE.out _ BD.out).mono ?_
     rintro r w4' ⟨rfl,h4⟩
     subst h4
     refine hK.out _ _ gH (fun gH=>?_)
     clear hK K
     refine rgT 10 (v:=?v28) ?y28 gH ?_
     case y28=>(intro v hSw; have y0:=hSw; go_simp<;>rfl)
     try simp only [putS]
     refine rgO 11 fun K hK=>?_
     go_simp
     refine hK.out _ _ ((KS.out _ _)) (fun gH=>?_)
     clear hK K
     try simp only [putS]
     refine rgO 12 fun K hK=>?_
     go_simp
     refine hK.out _ _ ((KS.out _ _)) (fun gH=>?_)
     clear hK K
     try simp only [putS]
     refine rgD ?_
     clear e2
     go_wp2_with fail
     rw [<-HW3.out,<-HQ10.out]
     have m0:=R3.out.cell 0
     have m1:=R3.out.cell 1
     simp only [geS] at m0 m1
     refine wp_region_held_drew (S:=(fun w'=>w'.cell? ⟨q10,0,none⟩=some (.string K0)∧w'.cell? ⟨q10,1,none⟩=some (.int .i64 R))) (by kernel_rfl) (⟨m0,m1⟩) (fun gH=>?_)
     rw [<-HW4.out] at gH ⊢
     have m2:=M2.out
     refine rgT 0 (v:=?v29) ?y29 gH ?_
     case y29=>(intro v hSw; go_simp<;>rfl)
     refine rgT 1 (v:=?v30) ?y30 gH ?_
     case y30=>(intro v hSw; go_simp<;>rfl)
     refine rgT 2 (v:=?v31) ?y31 gH ?_
     case y31=>(intro v hSw; go_simp<;>rfl)
     try simp only [putS]
     refine rgT 3 (v:=?v32) ?y32 gH ?_
     case y32=>(intro v hSw; go_simp<;>rfl)
     refine rgT 4 (v:=?v33) ?y33 gH ?_
     case y33=>(intro v hSw; go_simp<;>rfl)
     refine rgT 5 (v:=?v34) ?y34 gH ?_
     case y34=>(intro v hSw; go_simp<;>rfl)
     try simp only [putS]
     refine rgT 6 (v:=?v35) ?y35 gH ?_
     case y35=>(intro v hSw; go_simp<;>rfl)
     try simp only [putS]
     refine rgO 7 fun K hK=>?_
     go_simp
     refine hK.out _ _ (gH) (fun gH=>?_)
     clear hK K
     try simp only [putS]
     clear m2
     refine rgO 8 fun K hK=>?_
     go_simp
     refine PC.out.mono ?_
     rintro r w5 ⟨rfl,hp⟩
     have TC5:=qh (TK.out w5 hp)
     have A5:=qh (AL.out w5 (SK.out _ w5 hp RT.out).2)
     refine hK.out _ _ (((SK.out _ w5 hp RT.out).2)) (fun gH=>?_)
     clear hK K
     try simp only [putS]
     refine rgO 9 fun K hK=>?_
     go_simp
     refine hK.out _ _ ((A5.out _ _)) (fun gH=>?_)
     clear hK K
     try simp only [putS]
     refine rgO 10 fun K hK=>?_
     go_simp
     refine TC5.out.mono ?_
     rintro r w6 ⟨rfl,hp6⟩
     have F6:=qh (FIN.out w6 hp6)
     have f62:=F6.out.2.2 2
     have f63:=F6.out.2.2 3
     have c63:=F6.out.2.1
     have c62:=(SK.out _ w6 hp6 (RT1.out _).1).1
     refine hK.out _ _ (((SK.out _ w6 hp6 (RT1.out _).1).2)) (fun gH=>?_)
     clear hK K
     refine rgT 11 (v:=?v36) ?y36 gH ?_
     case y36=>(intro v hSw; go_simp<;>rfl)
     refine rgT 12 (v:=?v37) ?y37 gH ?_
     case y37=>(intro v hSw; go_simp<;>rfl)
     try simp only [putS]
     refine rgO 13 fun K hK=>?_
     go_simp
     refine hK.out _ _ ((ST6.out w6 (SK.out _ w6 hp6 (RT1.out _).1).2 _)) (fun gH=>?_)
     clear hK K
     try simp only [putS]
     refine rgD ?_
     go_wp2_with fail
     refine bodyPost_end (results_none rfl _ _ _) rfl ⟨rfl,?_⟩
     exact F6.out.1
    ·go_simp
     refine hK.out _ _ ((KS.out _ _)) (fun gH=>?_)
     clear hK K
     try simp only [putS]
     refine rgO 5 fun K hK=>?_
     go_simp
     refine (LE.out _ (BA.out _ _)).mono ?_
     rintro r w4' ⟨rfl,h4⟩
     subst h4
     refine hK.out _ _ (gH) (fun gH=>?_)
     clear hK K
     refine rgT 10 (v:=?v38) ?y38 gH ?_
     case y38=>(intro v hSw; have y0:=hSw; go_simp<;>rfl)
     try simp only [putS]
     refine rgO 12 fun K hK=>?_
     go_simp
     refine hK.out _ _ ((KS.out _ _)) (fun gH=>?_)
     clear hK K
     try simp only [putS]
     refine rgD ?_
     clear e2
     go_wp2_with fail
     rw [<-HW3.out,<-HQ10.out]
     have m0:=R3.out.cell 0
     have m1:=R3.out.cell 1
     simp only [geS] at m0 m1
     refine wp_region_held_drew (S:=(fun w'=>w'.cell? ⟨q10,0,none⟩=some (.string K0)∧w'.cell? ⟨q10,1,none⟩=some (.int .i64 R))) (by kernel_rfl) (⟨m0,m1⟩) (fun gH=>?_)
     rw [<-HW4.out] at gH ⊢
     have m2:=M2.out
     refine rgT 0 (v:=?v39) ?y39 gH ?_
     case y39=>(intro v hSw; go_simp<;>rfl)
     refine rgT 1 (v:=?v40) ?y40 gH ?_
     case y40=>(intro v hSw; go_simp<;>rfl)
     refine rgT 2 (v:=?v41) ?y41 gH ?_
     case y41=>(intro v hSw; go_simp<;>rfl)
     try simp only [putS]
     refine rgT 3 (v:=?v42) ?y42 gH ?_
     case y42=>(intro v hSw; go_simp<;>rfl)
     refine rgT 4 (v:=?v43) ?y43 gH ?_
     case y43=>(intro v hSw; go_simp<;>rfl)
     refine rgT 5 (v:=?v44) ?y44 gH ?_
     case y44=>(intro v hSw; go_simp<;>rfl)
     try simp only [putS]
     refine rgT 6 (v:=?v45) ?y45 gH ?_
     case y45=>(intro v hSw; go_simp<;>rfl)
     try simp only [putS]
     refine rgO 7 fun K hK=>?_
     go_simp
     refine hK.out _ _ (gH) (fun gH=>?_)
     clear hK K
     try simp only [putS]
     clear m2
     refine rgO 8 fun K hK=>?_
     go_simp
     refine PC.out.mono ?_
     rintro r w5 ⟨rfl,hp⟩
     have TC5:=qh (TK.out w5 hp)
     have A5:=qh (AL.out w5 (SK.out _ w5 hp RT.out).2)
     refine hK.out _ _ (((SK.out _ w5 hp RT.out).2)) (fun gH=>?_)
     clear hK K
     try simp only [putS]
     refine rgO 9 fun K hK=>?_
     go_simp
     refine hK.out _ _ ((A5.out _ _)) (fun gH=>?_)
     clear hK K
     try simp only [putS]
     refine rgO 10 fun K hK=>?_
     go_simp
     refine TC5.out.mono ?_
     rintro r w6 ⟨rfl,hp6⟩
     have F6:=qh (FIN.out w6 hp6)
     have f62:=F6.out.2.2 2
     have f63:=F6.out.2.2 3
     have c63:=F6.out.2.1
     have c62:=(SK.out _ w6 hp6 (RT1.out _).1).1
     refine hK.out _ _ (((SK.out _ w6 hp6 (RT1.out _).1).2)) (fun gH=>?_)
     clear hK K
     refine rgT 11 (v:=?v46) ?y46 gH ?_
     case y46=>(intro v hSw; go_simp<;>rfl)
     refine rgT 12 (v:=?v47) ?y47 gH ?_
     case y47=>(intro v hSw; go_simp<;>rfl)
     try simp only [putS]
     refine rgO 13 fun K hK=>?_
     go_simp
     refine hK.out _ _ ((ST6.out w6 (SK.out _ w6 hp6 (RT1.out _).1).2 _)) (fun gH=>?_)
     clear hK K
     try simp only [putS]
     refine rgD ?_
     go_wp2_with fail
     refine bodyPost_end (results_none rfl _ _ _) rfl ⟨rfl,?_⟩
     exact F6.out.1
   ·have UP:=qh (show s1.top=s1 from if_neg (by rw [<-HZ.out]; exact z4))
    have z4':decide ((4:Int)<(z:Int))=false:=decide_eq_false (by omega)
    refine rgT 0 (v:=?v48) ?y48 gH ?_
    case y48=>(intro v hSw; go_simp<;>rfl)
    refine rgT 1 (v:=?v49) ?y49 gH ?_
    case y49=>(intro v hSw; go_simp<;>rfl)
    refine rgT 2 (v:=?v50) ?y50 gH ?_
    case y50=>(intro v hSw; go_simp<;>rfl)
    try simp only [putS]
    refine rgT 3 (v:=?v51) ?y51 gH ?_
    case y51=>(intro v hSw; go_simp<;>rfl)
    refine rgT 4 (v:=?v52) ?y52 gH ?_
    case y52=>(intro v hSw; go_simp<;>rfl)
    refine rgT 5 (v:=?v53) ?y53 gH ?_
    case y53=>(intro v hSw; go_simp<;>rfl)
    try simp only [putS]
    refine rgT 6 (v:=?v54) ?y54 gH ?_
    case y54=>(intro v hSw; go_simp<;>rfl)
    refine rgT 7 (v:=?v55) ?y55 gH ?_
    case y55=>(intro v hSw; go_simp<;>rfl)
    refine rgT 8 (v:=?v56) ?y56 gH ?_
    case y56=>(intro v hSw; go_simp<;>rfl)
    try simp only [putS]
    refine rgT 9 (v:=?v57) ?y57 gH ?_
    case y57=>(intro v hSw; go_simp<;>rfl)
    refine rgT 10 (v:=?v58) ?y58 gH ?_
    case y58=>(intro v hSw; go_simp<;>rfl)
    refine rgT 11 (v:=?v59) ?y59 gH ?_
    case y59=>(intro v hSw; go_simp<;>rfl)
    try simp only [putS]
    refine rgD ?_
    go_wp2_with fail
    refine bodyPost_end (results_none rfl _ _ _) rfl ⟨rfl,?_⟩
    rw [UP.out]
    exact ⟨E1,⟨_,_,_,TV.out.below (Below.refl _ _).drew⟩,A1.out,C1.out.drew⟩
  | succ i =>
   have hu:=HUi.out
   obtain ⟨hf,hu2⟩:=hu
   have hs2:Tab.ups ws i (s1.up (ws.getD i (0,0)) (ws.getD (i+1) (0,0)).1)=S:=HSi.out
   obtain ⟨E1,g1,a1,c1⟩:=HLi.out
   obtain ⟨y0,y1⟩:=WC.out wr c1 i (by have:=HE.out; omega)
   obtain ⟨y2,y3⟩:=WC.out wr c1 (i+1) (by have:=HE.out; omega)
   obtain ⟨X,hX⟩:=nmq (ws.getD i (0,0))
   obtain ⟨Y,hY⟩:=nmq ((ws.getD (i+1) (0,0)).1)
   rw [<-hX] at y0 y1 hf hu2 hs2
   rw [<-hY] at y2 hf hu2 hs2
   have i1:(i:Int)+1-1=(i:Int):=by omega
   have i0:(0:Int)<(i:Int)+1:=by omega
   have F:=qh hf
   have HU2:=qh hu2
   have HS2:=qh hs2
   have G1:=qh g1
   have A1:=qh a1
   have C1:=qh c1
   clear hf hu2 hs2 g1 a1 c1 hX hY HUi HSi y3 hl
   have z1:(i:Int)<(e:Int)+1:=by omega
   have z2:(i:Int)+1<(e:Int)+1:=by omega
   have z3:(0:Int)<=(i:Int)+1:=by omega
   have n3:((i:Int)+1).toNat=i+1:=by omega
   have w3i:IntKind.i64.wrap (i:Int)=(i:Int):=by rw [IntKind.wrap_i64]; omega
   have z4:(0:Int)<=(i:Int):=by omega
   go_wp2_with fail
   obtain ⟨q8,hq8⟩:=nmq (wr.heap.size)
   obtain ⟨wo,hwo⟩:=nmq (wr)
   have W0:=qh (show wo.cell? ⟨g,i * 2,none⟩=some (.int .i64 X.1)∧wo.cell? ⟨g,i * 2+1,none⟩=some (.int .i64 X.2)∧wo.cell? ⟨g,(i+1) * 2,none⟩=some (.int .i64 Y) by rw [hwo]; exact ⟨y0,y1,y2⟩)
   have KS:=qh (show ∀ cs t,(wr.alloc (.cells cs t)).drew.cell? ⟨g,i * 2,none⟩=some (.int .i64 X.1)∧(wr.alloc (.cells cs t)).drew.cell? ⟨g,i * 2+1,none⟩=some (.int .i64 X.2)∧(wr.alloc (.cells cs t)).drew.cell? ⟨g,(i+1) * 2,none⟩=some (.int .i64 Y) from fun cs t=>by
    have hb:Below wr.heap.size wr (wr.alloc (.cells cs t)).drew:=((Below.refl _ _).alloc (Nat.le_refl _) _).drew
    exact ⟨(hb.cell (p:=⟨g,i * 2,none⟩) (block_lt_of_cell y0)).trans y0,(hb.cell (p:=⟨g,i * 2+1,none⟩) (block_lt_of_cell y1)).trans y1,(hb.cell (p:=⟨g,(i+1) * 2,none⟩) (block_lt_of_cell y2)).trans y2⟩)
   obtain ⟨w2,hw2⟩:=nmq ((wr.alloc (.cells #[.int .i64 X.1,.int .i64 X.2] 238)).drew)
   have B2:=qh (show Below wr.heap.size wr w2 by rw [hw2]; exact ((Below.refl _ _).alloc (Nat.le_refl _) _).drew)
   have R2:=qh (show RowAt w2 q8 [.int .i64 X.1,.int .i64 X.2] 238 by rw [hw2,hq8]; exact RowAt.new wr _ _)
   have HW2:=qh hw2
   have HQ8:=qh hq8
   have S8:=qh (show w2.heap.size=q8+1 by rw [hw2,hq8,heap_drew]; simp)
   clear hw2 hwo hq8
   refine wp_region_held_drew (S:=(fun w'=>w'.cell? ⟨g,i * 2,none⟩=some (.int .i64 X.1)∧w'.cell? ⟨g,i * 2+1,none⟩=some (.int .i64 X.2)∧w'.cell? ⟨g,(i+1) * 2,none⟩=some (.int .i64 Y))) (by kernel_rfl) (⟨y0,y1,y2⟩) (fun gH=>?_)
   refine rgT 0 (v:=?v60) ?y60 gH ?_
   case y60=>(intro v hSw; go_simp<;>rfl)
   refine rgT 1 (v:=?v61) ?y61 gH ?_
   case y61=>(intro v hSw; go_simp<;>rfl)
   refine rgT 2 (v:=?v62) ?y62 gH ?_
   case y62=>(intro v hSw; go_simp<;>rfl)
   try simp only [putS]
   refine rgT 3 (v:=?v63) ?y63 gH ?_
   case y63=>(intro v hSw; go_simp<;>rfl)
   refine rgT 4 (v:=?v64) ?y64 gH ?_
   case y64=>(intro v hSw; go_simp<;>rfl)
   refine rgT 5 (v:=?v65) ?y65 gH ?_
   case y65=>(intro v hSw; go_simp<;>rfl)
   try simp only [putS]
   refine rgT 6 (v:=?v66) ?y66 gH ?_
   case y66=>(intro v hSw; go_simp<;>rfl)
   refine rgT 7 (v:=?v67) ?y67 gH ?_
   case y67=>(intro v hSw; go_simp<;>rfl)
   refine rgT 8 (v:=?v68) ?y68 gH ?_
   case y68=>(intro v hSw; go_simp<;>rfl)
   try simp only [putS]
   refine rgT 9 (v:=?v69) ?y69 gH ?_
   case y69=>(intro v hSw; go_simp<;>rfl)
   try simp only [putS]
   refine rgO 10 fun K hK=>?_
   go_simp
   refine hK.out _ _ ((KS.out _ _)) (fun gH=>?_)
   clear hK K
   try simp only [putS]
   refine rgO 11 fun K hK=>?_
   go_simp
   refine hK.out _ _ ((KS.out _ _)) (fun gH=>?_)
   clear hK K
   try simp only [putS]
   refine rgO 12 fun K hK=>?_
   go_simp
   refine hK.out _ _ ((KS.out _ _)) (fun gH=>?_)
   clear hK K
   try simp only [putS]
   refine rgD ?_
   clear y0 y1 y2
   go_wp2_with fail
   rw [<-HW2.out,<-HQ8.out]
   obtain ⟨rv,fv,vs,tv⟩:=G1.out
   have t2:=tv.below B2.out
   have f:=F.out
   have q1':X.1<vs.length:=by rw [tv.len]; exact f.iq
   have p1':Y<vs.length:=by rw [tv.len]; exact f.ip
   obtain ⟨g0,c0,rfl,hg0,gT,hc⟩:=t2.rowAt (by omega)
   obtain ⟨b,o,cp,ev,hw⟩:=t2.win q1' (by have:=f.ia; omega)
   have hW:=t2.eW X.1 b o q1' ⟨o,_,cp,ev,Nat.le_refl _,by have:=hw.pos; omega⟩
   have L8:∀ k,E1 k->k≠q8:=fun k e=>by have:=tv.lt k e; have:=HQ8.out; omega
   have d0:=t2.row.cell 0
   simp only [List.getElem?_cons_zero] at d0
   have d1:=(hc X.1 q1').1
   rw [ev] at d1
   have d2:=R2.out.cell 0
   have d3:=R2.out.cell 1
   simp only [geS] at d2 d3
   have d4:=(hw.cells X.2 f.ia).1
   have d5:=hw.plain.frozen (o+X.2 * 2)
   have LE:=qh (xLeast w2.drew T E1 s1 _ _ _ Y (t2.below (Below.refl _ _).drew) p1' f.l0)
   obtain ⟨K,hK⟩:=nmq ((s1.nd Y).key 0)
   rw [<-hK] at LE
   obtain ⟨w3,hw3⟩:=nmq ((w2.setCell ⟨b,o+X.2 * 2,none⟩ (.string K)).drew)
   have k3:∀ k,k≠b->w3.heap[k]?=w2.heap[k]?:=fun k hk=>by rw [hw3]; exact Below.heap_setCell w2 _ _ _ hk
   have t3:=qh (show TabV w3 T E1 (s1.tell X Y) _ fv vs by
    rw [hw3]
    have:=t2.item (j:=0) (u:=.string K) (K,(s1.nd X.1).num X.2) q1' ev f.ia (by decide) (by rw [KV.getE _ _ f.ia]; rfl)
    rw [Nat.add_zero,hK] at this
    rw [hK]
    exact this.below (Below.refl _ _).drew)
   have R3:=qh (show RowAt w3 q8 [.int .i64 X.1,.int .i64 X.2] 238 from (k3 q8 (L8 b hW.1).symm).trans R2.out)
   have C3:=qh (show Chg E1 wr w3 by rw [hw3]; exact (Chg.setCell (Chg.of_below B2.out) (.inl hW.1) _).drew)
   have S3:=qh (show w3.heap.size=q8+1 by rw [hw3,heap_drew]; simp [World.setCell,S8.out])
   have SS:=qh (show w3.cell? ⟨T,0,none⟩=some (.slice (some ⟨g0,0,none⟩) vs.length c0)∧w3.cell? ⟨g0,X.1,none⟩=some (.slice (some ⟨b,o,none⟩) (s1.nd X.1).length cp)∧w3.cell? ⟨q8,0,none⟩=some (.int .i64 X.1)∧w3.cell? ⟨q8,1,none⟩=some (.int .i64 X.2) from
    ⟨(World.cell?_of_block (a:=⟨T,0,none⟩) (k3 T (Ne.symm hW.2.1))).trans d0,(World.cell?_of_block (a:=⟨g0,X.1,none⟩) (k3 g0 (fun t=>hW.2.2.1 (by rw [<-t]; rfl)))).trans d1,R3.out.cell 0,R3.out.cell 1⟩)
   have HW3:=qh hw3
   have HLW:=qh L8
   obtain ⟨N,hN⟩:=nmq (vs.length)
   obtain ⟨Z,hZ⟩:=nmq ((s1.nd X.1).length)
   have xz:X.2<Z:=by rw [hZ]; exact f.ia
   rw [<-hN,<-hZ] at SS
   rw [<-hN] at d0 q1' p1'
   rw [<-hZ] at d1
   have HN:=qh hN
   have HK:=qh hK
   clear hw3 k3 L8 hK hN hZ hw hc t2 tv ev f
   refine wp_region_held_drew (S:=(fun w'=>w'.cell? ⟨T,0,none⟩=some (.slice (some ⟨g0,0,none⟩) N c0)∧w'.cell? ⟨g0,X.1,none⟩=some (.slice (some ⟨b,o,none⟩) Z cp)∧w'.cell? ⟨q8,0,none⟩=some (.int .i64 X.1)∧w'.cell? ⟨q8,1,none⟩=some (.int .i64 X.2))) (by kernel_rfl) (⟨d0,d1,d2,d3⟩) (fun gH=>?_)
   refine rgT 0 (v:=?v70) ?y70 gH ?_
   case y70=>(intro v hSw; go_simp<;>rfl)
   refine rgT 1 (v:=?v71) ?y71 gH ?_
   case y71=>(intro v hSw; go_simp<;>rfl)
   refine rgT 2 (v:=?v72) ?y72 gH ?_
   case y72=>(intro v hSw; go_simp<;>rfl)
   try simp only [putS]
   refine rgT 3 (v:=?v73) ?y73 gH ?_
   case y73=>(intro v hSw; go_simp<;>rfl)
   refine rgT 4 (v:=?v74) ?y74 gH ?_
   case y74=>(intro v hSw; go_simp<;>rfl)
   refine rgT 5 (v:=?v75) ?y75 gH ?_
   case y75=>(intro v hSw; go_simp<;>rfl)
   try simp only [putS]
   refine rgT 6 (v:=?v76) ?y76 gH ?_
   case y76=>(intro v hSw; go_simp<;>rfl)
   refine rgT 7 (v:=?v77) ?y77 gH ?_
   case y77=>(intro v hSw; go_simp<;>rfl)
   refine rgT 8 (v:=?v78) ?y78 gH ?_
   case y78=>(intro v hSw; go_simp<;>rfl)
   try simp only [putS]
   refine rgT 9 (v:=?v79) ?y79 gH ?_
   case y79=>(intro v hSw; go_simp<;>rfl)
   refine rgT 10 (v:=?v80) ?y80 gH ?_
   case y80=>(intro v hSw; go_simp<;>rfl)
   refine rgT 11 (v:=?v81) ?y81 gH ?_
   case y81=>(intro v hSw; go_simp<;>rfl)
   try simp only [putS]
   refine rgO 12 fun K hK=>?_
   go_simp
   refine LE.out.mono ?_
   rintro r w4 ⟨rfl,h4⟩
   subst h4
   refine hK.out _ _ (gH) (fun gH=>?_)
   clear hK K
   refine rgT 13 (v:=?v82) ?y82 gH ?_
   case y82=>(intro v hSw; go_simp<;>rfl)
   refine rgT 14 (v:=?v83) ?y83 gH ?_
   case y83=>(intro v hSw; go_simp<;>rfl)
   try simp only [putS]
   refine rgO 15 fun K hK=>?_
   go_simp
   refine hK.out _ _ ((by have:=SS.out; rw [HW3.out] at this; exact this)) (fun gH=>?_)
   clear hK K
   try simp only [putS]
   refine rgD ?_
   rw [<-HW3.out]
   clear d0 d1 d2 d3 d4 d5
   have e0':=SS.out.1
   have f:=F.out
   have p3:Y<vs.length:=by rw [<-HN.out]; exact p1'
   obtain ⟨A3,cz,ev3,_⟩:=(t3.out.node Y p3).form
   have ndY:(s1.tell X Y).nd Y=s1.nd Y:=f.nd
   have e1':w3.cell? ⟨g0,Y,none⟩=some (.slice A3 ((s1.tell X Y).nd Y).length cz):=by
    obtain ⟨g',c',er,_,_,hc'⟩:=t3.out.rowAt (by omega)
    injection er with er _ _
    injection er with er
    injection er with er _ _
    rw [<-ev3,er]; exact (hc' Y p3).1
   have LW:=qh (show ∀ s' w5,LeftP w3 T E1 s' w5->LeftP w T E s' w5 from fun s' w5 hl=>LeftP.then (C1.out.trans C3.out fun k e=>A1.out k e) A1.out hl)
   obtain ⟨z,hz⟩:=nmq (((s1.tell X Y).nd Y).length)
   rw [<-hz] at e1'
   have HZ:=qh hz
   have NDY:=qh ndY
   clear hz ndY f ev3 p3 gH
   by_cases z4:4<z
   ·have z4':(4:Int)<(z:Int):=by omega
    have UP:=qh (show s1.up X Y=(s1.tell X Y).split X Y from if_pos (by rw [<-NDY.out,<-HZ.out]; exact z4))
    obtain ⟨w4,hw4⟩:=nmq (w3.drew)
    have g4:TabG w4 T E1 (s1.tell X Y):=by rw [hw4]; exact ⟨_,_,_,t3.out.below (Below.refl _ _).drew⟩
    have f:=F.out
    have PC:=qh (xPart w4 T E1 (s1.tell X Y) Y g4 (by rw [f.tlen]; exact f.ip) (by rw [<-HZ.out]; omega) (fun q hq=>by rw [f.tlen]; exact (f.free q hq).1) (by rw [f.tlen]; have:=f.ln; omega) (by have:=f.lf; show s1.free.length<=_; omega))
    have LY:=qh (show ∀ w5,LeftP w4 T E1 (((s1.tell X Y).put Y (((s1.tell X Y).nd Y).take 3)).take (((s1.tell X Y).nd Y).drop 3)) w5->Calls Tryz.prog 158 #[Ptr T,.agg #[.int .i64 X.1,.int .i64 ((X.2:Int)+1)],.agg #[.string (((s1.tell X Y).nd Y).key 3),.int .i64 (s1.tell X Y).place]] w5 fun r w'=>r=.returned (.tuple #[])∧LeftP w4 T E1 ((s1.tell X Y).split X Y) w' from fun w5 ⟨E5,g5,a5,c5⟩=>by
     have nq:=f.lay
     have ql:=f.laylen
     rw [<-f.nd] at nq ql
     have le:((s1.tell X Y).nd X.1).length=(s1.nd X.1).length:=by rw [f.ndq,List.length_set]
     have:=xLay w5 T E5 _ X.1 (X.2+1) (((s1.tell X Y).nd Y).key 3,((s1.tell X Y).place:Int)) g5 (Nat.lt_of_lt_of_le f.iq ql) (by rw [nq,le]; have:=f.ia; omega) (by rw [nq,le]; have:=f.ia; omega) (by rw [nq,le]; have:=f.lq; omega)
     rw [show ((X.2+1:Nat):Int)=(X.2:Int)+1 from rfl] at this
     refine this.mono fun r w' h=>⟨h.1,LeftP.then c5 a5 h.2⟩)
    have SK:=qh (show ∀ s' w5,LeftP w4 T E1 s' w5->w5.cell? ⟨q8,0,none⟩=some (.int .i64 X.1)∧w5.cell? ⟨q8,1,none⟩=some (.int .i64 X.2) from fun s' w5 ⟨E5,g5,a5,c5⟩=>by
     have r5:RowAt w5 q8 _ _:=(show RowAt w4 q8 _ _ by rw [hw4]; exact R3.out).keep c5 (fun e=>HLW.out _ e rfl)
     exact ⟨r5.cell 0,r5.cell 1⟩)
    have LV:=qh (show ∀ w5,LeftP w4 T E1 ((s1.tell X Y).split X Y) w5->LeftP w T E (s1.up X Y) w5 from fun w5 h5=>LW.out _ w5 (by
     rw [UP.out]
     obtain ⟨E5,g5,a5,c5⟩:=h5
     rw [hw4] at a5 c5
     exact ⟨E5,g5,a5,⟨c5.os,c5.tape,c5.output,c5.size,c5.block⟩⟩))
    have d2:=R3.out.cell 0
    have d3:=R3.out.cell 1
    simp only [geS] at d2 d3
    have HW4:=qh hw4
    have wx2:IntKind.i64.wrap ((X.2:Int)+1)=(X.2:Int)+1:=by rw [IntKind.wrap_i64]; have:=f.ia; have:=f.lq; omega
    clear f g4 hw4
    go_wp2_with fail
    clear e0' e1'
    refine wp_region_held_drew (S:=(fun w'=>w'.cell? ⟨q8,0,none⟩=some (.int .i64 X.1)∧w'.cell? ⟨q8,1,none⟩=some (.int .i64 X.2))) (by kernel_rfl) (⟨d2,d3⟩) (fun gH=>?_)
    rw [<-HW4.out] at gH ⊢
    refine rgT 0 (v:=?v84) ?y84 gH ?_
    case y84=>(intro v hSw; go_simp<;>rfl)
    refine rgT 1 (v:=?v85) ?y85 gH ?_
    case y85=>(intro v hSw; go_simp<;>rfl)
    refine rgT 2 (v:=?v86) ?y86 gH ?_
    case y86=>(intro v hSw; go_simp<;>rfl)
    try simp only [putS]
    refine rgT 3 (v:=?v87) ?y87 gH ?_
    case y87=>(intro v hSw; go_simp<;>rfl)
    refine rgT 4 (v:=?v88) ?y88 gH ?_
    case y88=>(intro v hSw; go_simp<;>rfl)
    refine rgT 5 (v:=?v89) ?y89 gH ?_
    case y89=>(intro v hSw; go_simp<;>rfl)
    try simp only [putS]
    refine rgT 6 (v:=?v90) ?y90 gH ?_
    case y90=>(intro v hSw; go_simp<;>rfl)
    refine rgT 7 (v:=?v91) ?y91 gH ?_
    case y91=>(intro v hSw; go_simp<;>rfl)
    refine rgT 8 (v:=?v92) ?y92 gH ?_
    case y92=>(intro v hSw; go_simp<;>rfl)
    try simp only [putS]
    refine rgO 9 fun K hK=>?_
    go_simp
    refine PC.out.mono ?_
    rintro r w5 ⟨rfl,hp⟩
    have LC5:=qh (LY.out w5 hp)
    refine hK.out _ _ ((SK.out _ w5 hp)) (fun gH=>?_)
    clear hK K
    try simp only [putS]
    refine rgO 10 fun K hK=>?_
    go_simp
    refine LC5.out.mono ?_
    rintro r w6 ⟨rfl,hp6⟩
    have HL6:=qh (LV.out w6 hp6)
    refine hK.out _ _ ((SK.out _ w6 hp6)) (fun gH=>?_)
    clear hK K
    try simp only [putS]
    refine rgD ?_
    go_wp2_with fail
    go_roundw
    case rel=>exact ⟨i,_,by omega,rfl,HL6,HS2,HU2⟩
    case measure=>simp [intOf]
   ·have UP:=qh (show s1.up X Y=s1.tell X Y from if_neg (by rw [<-NDY.out,<-HZ.out]; exact z4))
    go_wp2_with fail
    go_roundw
    case rel=>exact ⟨i,_,by omega,rfl,qh (by rw [UP.out]; exact ⟨E1,⟨_,_,_,t3.out⟩,A1.out,C1.out.trans C3.out fun k e=>A1.out k e⟩),HS2,HU2⟩
    case measure=>simp [intOf]

end Go.Proofs.YtoljhoabbaigdaaGreat

namespace Go.Proofs.YtoljhoabbaigdaaGreat
open Go.RowKit

section
variable {s:Tab} {L:Nat->List Nat} {l:KV} {h p:Nat} {K:ByteArray}
theorem Mid.count (m:Mid s L l h p K) (c:Nat):Mid { s with count:=c } L l h p K:=⟨m.d1,m.top,m.nodup,m.lev,m.lt,m.fnd,m.free,m.size,m.link,m.leaf⟩
theorem Whole.leafset (m:Whole s L l) {A B:List Nat} {P:Nat} (e:L 0=A++[P]++B) (zs:KV):Mid (s.put P zs) L (A.flatMap s.nd++zs++B.flatMap s.nd) 0 P ((s.nd P).key 0):=by
 have pm:P ∈ L 0:=by rw [e]; simp
 have pl:=m.lt 0 P m.d1 pm
 have nx:=nodup_mid (by rw [<-e]; exact m.nodup 0 m.d1)
 have n1:∀ r,(s.put P zs).nd r=if r=P then zs else s.nd r:=fun r=>Tab.put_nd pl r
 have up:∀ j r,j<s.depth->j≠0->r ∈ L j->r≠P:=fun j r hj hn hr t=>hn (m.lev j 0 r hj m.d1 hr (by rw [t]; exact pm))
 refine ⟨m.d1,m.top,m.nodup,m.lev,fun j r hj hr=>by rw [Tab.put_len]; exact m.lt j r hj hr,m.fnd,fun f hf=>by rw [Tab.put_len]; exact m.free f hf,fun j r hj hr hn=>?_,fun j hj=>?_,?_⟩
 ·have:r≠P:=fun t=>by
   by_cases c:j=0
   ·exact hn ⟨c,t⟩
   ·exact up j r hj c hr t
  rw [n1,if_neg this]
  exact m.size j r hj hr (fun t=>by have:=t.1; have hj:j<s.depth:=hj; omega)
 ·have hj:j+1<s.depth:=hj
  rw [fm_congr (g:=s.nd) (fun r hr=>by rw [n1,if_neg (up (j+1) r hj (by omega) hr)]),m.linkW hj]
  apply List.map_congr_left
  intro r hr
  unfold Tab.lk
  by_cases c:j=0
  ·by_cases t:r=P
   ·rw [if_pos ⟨by simp [c],t⟩,t]
   ·rw [if_neg (fun u=>t u.2),n1,if_neg t]
  ·rw [if_neg (fun u=>c (by have:=u.1; simpa using this)),n1,if_neg (up j r (by omega) c hr)]
 ·rw [e]
  simp only [List.flatMap_append,List.flatMap_cons,List.flatMap_nil,List.append_nil]
  rw [fm_congr (X:=A) (g:=s.nd) (fun r hr=>by rw [n1,if_neg (fun t=>(nx.1 r hr).1 (by simp [t]))]),fm_congr (X:=B) (g:=s.nd) (fun r hr=>by rw [n1,if_neg (fun t=>(nx.2.2.1 r hr).2 (by simp [t]))]),n1,if_pos rfl]
theorem Whole.wide (m:Whole s L l):∀ i,i<s.depth->2 ^ i<=(L (s.depth-1-i)).length
 | 0,_=>by rw [Nat.sub_zero,m.top]; simp
 | i+1,hi=>by
  have ih:=Whole.wide m i (by omega)
  have k:=congrArg List.length (m.linkW (j:=s.depth-1-(i+1)) (by omega))
  rw [List.length_map,show s.depth-1-(i+1)+1=s.depth-1-i by omega] at k
  have two:∀ X:List Nat,(∀ r,r ∈ X->2<=(s.nd r).length)->2 * X.length<=(X.flatMap s.nd).length:=by
   intro X
   induction X with
   | nil=>intro _; simp
   | cons x X ihx =>
    intro hX
    have a:=hX x (by simp)
    have b:=ihx fun r hr=>hX r (by simp [hr])
    rw [List.flatMap_cons,List.length_append,List.length_cons]; omega
  have:=two (L (s.depth-1-i)) fun r hr=>by
   have:=m.size _ r (by omega) hr (fun t=>by omega)
   rw [if_neg (by omega)] at this
   exact this.1
  rw [Nat.pow_succ]; omega
theorem Whole.depth_le (m:Whole s L l):2 ^ (s.depth-1)<=l.length:=by
 have w:=m.wide (s.depth-1) (by have:=m.d1; omega)
 rw [Nat.sub_self] at w
 have one:∀ X:List Nat,(∀ r,r ∈ X->1<=(s.nd r).length)->X.length<=(X.flatMap s.nd).length:=by
  intro X
  induction X with
  | nil=>intro _; simp
  | cons x X ihx =>
   intro hX
   have a:=hX x (by simp)
   have b:=ihx fun r hr=>hX r (by simp [hr])
   rw [List.flatMap_cons,List.length_append,List.length_cons]; omega
 have:=one (L 0) fun r hr=>(m.pos m.d1 hr).1
 rw [m.leaf] at this
 omega

theorem ups_ok {ws:List (Nat × Nat)} {e:Nat}:∀ i,i<=e->∀ (s:Tab) (L:Nat->List Nat) (K:ByteArray),Mid s L l (e-i) (ws.getD i (0,0)).1 K->e+1=s.depth →
  (∀ j,j<i->(ws.getD j (0,0)).1 ∈ L (e-j)∧(ws.getD j (0,0)).2<(s.nd (ws.getD j (0,0)).1).length∧(s.nd (ws.getD j (0,0)).1).num (ws.getD j (0,0)).2=((ws.getD (j+1) (0,0)).1:Int)) →
  2<=(s.nd (ws.getD i (0,0)).1).length->(s.nd (ws.getD i (0,0)).1).length<=5->s.nds.length+s.free.length+i<=850000 →
  FineUps ws i s∧∃ L2 K2,Mid (Tab.ups ws i s) L2 l e (ws.getD 0 (0,0)).1 K2∧2<=((Tab.ups ws i s).nd (ws.getD 0 (0,0)).1).length∧((Tab.ups ws i s).nd (ws.getD 0 (0,0)).1).length<=5 ∧
   (Tab.ups ws i s).depth=s.depth∧(Tab.ups ws i s).root=s.root∧(Tab.ups ws i s).count=s.count∧(Tab.ups ws i s).nds.length+(Tab.ups ws i s).free.length<=s.nds.length+s.free.length+i
 | 0,_,s,L,K,m,_,_,h2,h5,_=>⟨trivial,L,K,m,h2,h5,rfl,rfl,rfl,Nat.le_refl _⟩
 | i+1,hi,s,L,K,m,hd,hp,h2,h5,hb=>by
  obtain ⟨q1,q2,q3⟩:=hp i (by omega)
  have he:e-i=e-(i+1)+1:=by omega
  rw [he] at q1
  have hdd:e-(i+1)+1<s.depth:=by omega
  have qs:=m.qsize hdd q1
  have ff:=m.fineUp hdd q1 q2 q3 (by omega) (by omega) (by omega) (by omega)
  obtain ⟨L',m',l',st0⟩:=m.up hdd q1 q2 q3 h2 (by omega)
  have st:Stepped s (s.up (ws.getD i (0,0)) (ws.getD (i+1) (0,0)).1) L (e-(i+1)) (ws.getD i (0,0)).1 (s.nd (ws.getD i (0,0)).1).length 1:=st0
  clear st0
  rw [<-he] at m'
  obtain ⟨k1,L2,K2,k2,k3,k4,k5,k6,k7,k8⟩:=ups_ok i (by omega) (s.up (ws.getD i (0,0)) (ws.getD (i+1) (0,0)).1) L' _ m' (by rw [st.depth]; exact hd) (fun j hj=>by
   obtain ⟨j1,j2,j3⟩:=hp j (by omega)
   have jq:(ws.getD j (0,0)).1≠(ws.getD i (0,0)).1:=fun t=>by
    have:=m.lev (e-j) (e-(i+1)+1) _ (by omega) hdd j1 (by rw [t]; exact q1); omega
   have jn:=st.other (e-j) _ (by omega) (by omega) j1 jq
   rw [l' (e-j) (by omega),jn]
   exact ⟨j1,j2,j3⟩) (by have:=st.size; omega) (by have:=st.size; omega) (by have:=st.sum; omega)
  refine ⟨⟨ff,k1⟩,L2,K2,k2,k3,k4,k5.trans st.depth,k6.trans st.root,k7.trans st.count,?_⟩
  have:=st.sum
  show (Tab.ups ws i (s.up (ws.getD i (0,0)) (ws.getD (i+1) (0,0)).1)).nds.length+(Tab.ups ws i (s.up (ws.getD i (0,0)) (ws.getD (i+1) (0,0)).1)).free.length<=_
  omega
end

end Go.Proofs.YtoljhoabbaigdaaGreat

namespace Go.Proofs.YtoljhoabbaigdaaGreat
open Go.RowKit

section
variable {s:Tab} {L:Nat->List Nat} {l:KV} {e:Nat} {K:ByteArray}
theorem Mid.fineTop (m:Mid s L l e s.root K) (he:e+1=s.depth) (h2:1<=(s.nd s.root).length) (h5:(s.nd s.root).length<=5) (hb:s.nds.length+s.free.length<=850000) (hd:s.depth<=850000):FineTop s :=
 ⟨m.lt (s.depth-1) s.root (by omega) (by rw [m.top]; simp),h2,by omega,fun f hf=>(m.free f hf).1,by omega,by omega,hd⟩
theorem Mid.top_ok (m:Mid s L l e s.root K) (he:e+1=s.depth) (h2:2<=(s.nd s.root).length) (h5:(s.nd s.root).length<=5) :
  ∃ L',Whole s.top L' l∧s.top.count=s.count∧s.top.nds.length+s.top.free.length<=s.nds.length+s.free.length+2∧s.top.depth<=s.depth+1:=by
 have rL:s.root ∈ L e:=by rw [show e=s.depth-1 by omega,m.top]; simp
 have Le:L e=[s.root]:=by rw [show e=s.depth-1 by omega,m.top]
 have rl:=m.lt e s.root (by omega) rL
 by_cases c:4<(s.nd s.root).length
 ·have ef:s.top={ s.cutR.take [((s.nd s.root).key 0,(s.root:Int)),((s.nd s.root).key 3,(s.place:Int))] with root:=s.cutR.place,depth:=s.depth+1 }:=if_pos c
  obtain ⟨R,hR⟩:=nmq (s.root)
  obtain ⟨p1,hp1⟩:=nmq (s.place)
  obtain ⟨p2,hp2⟩:=nmq (s.cutR.place)
  have fl:∀ f,f ∈ s.free->f<s.nds.length:=fun f hf=>(m.free f hf).1
  have l1:(s.put s.root ((s.nd s.root).take 3)).nds.length=s.nds.length:=Tab.put_len _ _ _
  have l2:=Tab.take_len (s:=s.put s.root ((s.nd s.root).take 3)) (zs:=(s.nd s.root).drop 3)
  rw [l1] at l2
  have n2:∀ r,s.cutR.nd r=if r=p1 then (s.nd R).drop 3 else if r=R then (s.nd R).take 3 else s.nd r:=fun r=>by
   unfold Tab.cutR
   rw [Tab.take_nd' (s:=s.put s.root ((s.nd s.root).take 3)) (fun f hf=>by rw [l1]; exact fl f hf),Tab.put_place,<-hp1,Tab.put_nd rl,hR]
  have f2:s.cutR.free=s.free.dropLast:=Tab.take_free
  have f2l:∀ f,f ∈ s.cutR.free->f<s.nds.length∧f ∈ s.free:=fun f hf=>by
   rw [f2] at hf
   have:=List.dropLast_subset _ hf
   exact ⟨fl f this,this⟩
  have len2:s.nds.length<=s.cutR.nds.length:=l2.1
  have n3:∀ r,s.top.nd r=if r=p2 then [((s.nd R).key 0,(R:Int)),((s.nd R).key 3,(p1:Int))] else s.cutR.nd r:=fun r=>by
   rw [ef]
   show (s.cutR.take _).nd r=_
   rw [Tab.take_nd' (fun f hf=>Nat.lt_of_lt_of_le (f2l f hf).1 len2),<-hp2,hp1,hR]
  have new1:∀ j,j<s.depth->p1 ∉ L j:=fun j hj hm=>by
   rcases Tab.place_new (s:=s) with k | k
   ·rw [<-hp1] at k; exact (m.free p1 k).2 j hj hm
   ·have:=m.lt j p1 hj hm
    rw [<-hp1] at k; omega
  have new2:(∀ j,j<s.depth->p2 ∉ L j)∧p2≠p1:=by
   have po:=Tab.place_out (s:=s) (zs:=(s.nd s.root).drop 3) m.fnd
   rw [Tab.take_free,<-hp1] at po
   rcases Tab.place_new (s:=s.cutR) with k | k
   ·rw [<-hp2] at k
    refine ⟨fun j hj hm=>(m.free p2 (f2l p2 k).2).2 j hj hm,fun t=>?_⟩
    rw [f2,t] at k
    exact po k
   ·rw [<-hp2] at k
    refine ⟨fun j hj hm=>by have:=m.lt j p2 hj hm; omega,fun t=>?_⟩
    have:p1<s.cutR.nds.length:=by
     have:=Tab.place_lt (s:=s.put s.root ((s.nd s.root).take 3)) (zs:=(s.nd s.root).drop 3) (fun f hf=>by rw [l1]; exact fl f hf)
     rw [Tab.put_place,<-hp1] at this
     exact this
    omega
  have p1R:p1≠R:=fun t=>new1 e (by omega) (by rw [t,hR]; exact rL)
  have p2R:p2≠R:=fun t=>new2.1 e (by omega) (by rw [t,hR]; exact rL)
  have nR:s.top.nd R=(s.nd R).take 3:=by rw [n3,if_neg (Ne.symm p2R),n2,if_neg (Ne.symm p1R),if_pos rfl]
  have nP1:s.top.nd p1=(s.nd R).drop 3:=by rw [n3,if_neg (Ne.symm new2.2),n2,if_pos rfl]
  have nP2:s.top.nd p2=[((s.nd R).key 0,(R:Int)),((s.nd R).key 3,(p1:Int))]:=by rw [n3,if_pos rfl]
  have nO:∀ j r,j<s.depth->r ∈ L j->r≠R->s.top.nd r=s.nd r:=fun j r hj hr hn=>by
   rw [n3,if_neg (fun t=>new2.1 j hj (by rw [<-t]; exact hr)),n2,if_neg (fun t=>new1 j hj (by rw [<-t]; exact hr)),if_neg hn]
  have dT:s.top.depth=s.depth+1:=by rw [ef]
  have rT:s.top.root=p2:=by rw [ef]; exact hp2.symm
  have cT:s.top.count=s.count:=by
   rw [ef]
   exact (Tab.take_same s.cutR _).2.2.trans (Tab.take_same (s.put s.root ((s.nd s.root).take 3)) _).2.2
  have fT:s.top.free=s.free.dropLast.dropLast:=by
   rw [ef,<-f2]
   exact Tab.take_free
  have lT:s.top.nds.length=(s.cutR.take [((s.nd s.root).key 0,(s.root:Int)),((s.nd s.root).key 3,(s.place:Int))]).nds.length:=by rw [ef]
  have lT1:s.cutR.nds.length<=s.top.nds.length:=by rw [lT]; exact (Tab.take_len (s:=s.cutR)).1
  have p1T:p1<s.top.nds.length:=by
   have:=Tab.place_lt (s:=s.put s.root ((s.nd s.root).take 3)) (zs:=(s.nd s.root).drop 3) (fun f hf=>by rw [l1]; exact fl f hf)
   rw [Tab.put_place,<-hp1] at this
   exact Nat.lt_of_lt_of_le this lT1
  have p2T:p2<s.top.nds.length:=by
   rw [lT,hp2]
   exact Tab.place_lt (s:=s.cutR) (fun f hf=>Nat.lt_of_lt_of_le (f2l f hf).1 len2)
  have sum:s.top.nds.length+s.top.free.length<=s.nds.length+s.free.length+2:=by
   have a1:=Tab.take_sum (s:=s.put s.root ((s.nd s.root).take 3)) (zs:=(s.nd s.root).drop 3)
   have a2:=Tab.take_sum (s:=s.cutR) (zs:=[((s.nd s.root).key 0,(s.root:Int)),((s.nd s.root).key 3,(s.place:Int))])
   rw [l1] at a1
   have a3:s.top.free=(s.cutR.take [((s.nd s.root).key 0,(s.root:Int)),((s.nd s.root).key 3,(s.place:Int))]).free:=by rw [ef]
   have a4:(s.put s.root ((s.nd s.root).take 3)).free=s.free:=rfl
   rw [a4] at a1
   unfold Tab.cutR at a2 lT a3
   rw [lT,a3]
   omega
  refine ⟨fun j=>if j=s.depth then [p2] else if j=e then [R,p1] else L j,?_,cT,sum,by omega⟩
  have Rn:∀ j r,j<s.depth->j≠e->r ∈ L j->r≠R:=fun j r hj hn hr t=>hn (m.lev j e r hj (by omega) hr (by rw [t,hR]; exact rL))
  refine ⟨by omega,?_,fun j hj=>?_,fun i j r hi hj h1 h3=>?_,fun j r hj hr=>?_,?_,fun f hf=>?_,fun j r hj hr _=>?_,fun j hj=>?_,?_⟩
  ·rw [dT,rT,show s.depth+1-1=s.depth by omega,if_pos rfl]
  ·show (if j=s.depth then [p2] else if j=e then [R,p1] else L j).Nodup
   by_cases a:j=s.depth
   ·rw [if_pos a]; simp
   ·rw [if_neg a]
    by_cases b:j=e
    ·rw [if_pos b]; simp; exact fun t=>p1R t.symm
    ·rw [if_neg b]; exact m.nodup j (by omega)
  ·rw [dT] at hi hj
   have key:∀ i,i<s.depth+1->r ∈ (if i=s.depth then [p2] else if i=e then [R,p1] else L i)->(i=s.depth∧r=p2)∨(i=e∧r=p1)∨(i<s.depth∧r ∈ L i):=fun i hi h=>by
    by_cases a:i=s.depth
    ·rw [if_pos a] at h; simp at h; exact .inl ⟨a,h⟩
    ·rw [if_neg a] at h
     by_cases b:i=e
     ·rw [if_pos b] at h
      simp at h
      rcases h with h | h
      ·exact .inr (.inr ⟨by omega,by rw [b,h,hR]; exact rL⟩)
      ·exact .inr (.inl ⟨b,h⟩)
     ·rw [if_neg b] at h; exact .inr (.inr ⟨by omega,h⟩)
   rcases key i hi h1 with ⟨a1,a2⟩ | ⟨a1,a2⟩ | ⟨a1,a2⟩<;>rcases key j hj h3 with ⟨b1,b2⟩ | ⟨b1,b2⟩ | ⟨b1,b2⟩
   ·omega
   ·exact absurd (a2.symm.trans b2) new2.2
   ·exact absurd (a2 ▸ b2) (new2.1 j b1)
   ·exact absurd (b2.symm.trans a2) new2.2
   ·omega
   ·exact absurd (a2 ▸ b2) (new1 j b1)
   ·exact absurd (b2 ▸ a2) (new2.1 i a1)
   ·exact absurd (b2 ▸ a2) (new1 i a1)
   ·exact m.lev i j r a1 b1 a2 b2
  ·rw [dT] at hj
   by_cases a:j=s.depth
   ·rw [if_pos a] at hr; simp at hr; rw [hr]; exact p2T
   ·rw [if_neg a] at hr
    by_cases b:j=e
    ·rw [if_pos b] at hr
     simp at hr
     rcases hr with hr | hr
     ·rw [hr,hR]; omega
     ·rw [hr]; exact p1T
    ·rw [if_neg b] at hr
     have:=m.lt j r (by omega) hr
     omega
  ·rw [fT]; exact (m.fnd.sublist (List.dropLast_sublist _)).sublist (List.dropLast_sublist _)
  ·rw [fT] at hf
   have hf1:=List.dropLast_subset _ hf
   have hf2:=List.dropLast_subset _ hf1
   obtain ⟨a1,a2⟩:=m.free f hf2
   refine ⟨by omega,fun j hj=>?_⟩
   rw [dT] at hj
   have fp1:f≠p1:=fun t=>by
    have po:=Tab.place_out (s:=s) (zs:=(s.nd s.root).drop 3) m.fnd
    rw [Tab.take_free,<-hp1,<-t] at po
    exact po hf1
   have fp2:f≠p2:=fun t=>by
    have po:=Tab.place_out (s:=s.cutR) (zs:=(s.nd s.root).drop 3) (by rw [f2]; exact m.fnd.sublist (List.dropLast_sublist _))
    rw [Tab.take_free,f2,<-hp2,<-t] at po
    exact po hf
   by_cases a:j=s.depth
   ·rw [if_pos a]; simp; exact fp2
   ·rw [if_neg a]
    by_cases b:j=e
    ·rw [if_pos b]; simp
     exact ⟨fun t=>a2 e (by omega) (by rw [t,hR]; exact rL),fp1⟩
    ·rw [if_neg b]; exact a2 j (by omega)
  ·rw [dT] at hj ⊢
   rw [if_neg (show ¬ s.depth+1=1 by have:=m.d1; omega)]
   by_cases a:j=s.depth
   ·rw [if_pos a] at hr; simp at hr; rw [hr,nP2]; exact ⟨by simp,by simp⟩
   ·rw [if_neg a] at hr
    by_cases b:j=e
    ·rw [if_pos b] at hr
     simp at hr
     rcases hr with hr | hr
     ·rw [hr,nR,List.length_take,hR]; omega
     ·rw [hr,nP1,List.length_drop,hR]; omega
    ·rw [if_neg b] at hr
     have:=m.size j r (by omega) hr (fun t=>b t.1)
     rw [if_neg (show ¬ s.depth=1 by omega)] at this
     rw [nO j r (by omega) hr (Rn j r (by omega) b hr)]
     exact this
  ·rw [dT] at hj
   have lks:∀ (W:List Nat),W.map (s.top.lk (decide (j=s.top.depth)) 0 ⟨#[]⟩)=W.map (fun r=>((s.top.nd r).key 0,(r:Int))):=fun W=>by
    apply List.map_congr_left
    intro r _
    unfold Tab.lk
    rw [if_neg (fun t=>by have:=t.1; simp at this; omega)]
   rw [lks]
   by_cases a:j+1=s.depth
   ·have je:j=e:=by omega
    rw [if_pos a,if_neg (show ¬ j=s.depth by omega),if_pos je]
    simp only [List.flatMap_cons,List.flatMap_nil,List.append_nil,List.map_cons,List.map_nil]
    rw [nP2,nR,nP1,KV.key0_take _ _ (by decide),KV.key0_drop]
   ·rw [if_neg a,if_neg (show ¬ j=s.depth by omega)]
    have key:(if j+1=e then [R,p1] else L (j+1)).flatMap s.top.nd=(L (j+1)).flatMap s.nd:=by
     by_cases b:j+1=e
     ·rw [if_pos b,b,Le]
      simp only [List.flatMap_cons,List.flatMap_nil,List.append_nil]
      rw [nR,nP1,List.take_append_drop,hR]
     ·rw [if_neg b]
      exact fm_congr fun r hr=>nO (j+1) r (by omega) hr (Rn (j+1) r (by omega) b hr)
    rw [key,if_neg (show ¬ j=e by omega),m.link j (by omega)]
    apply List.map_congr_left
    intro r hr
    unfold Tab.lk
    rw [if_neg (fun t=>by have:=t.1; simp at this; omega),nO j r (by omega) hr (Rn j r (by omega) (by omega) hr)]
  ·rw [if_neg (show ¬ 0=s.depth by have:=m.d1; omega),<-m.leaf]
   by_cases b:0=e
   ·rw [if_pos b,b,Le]
    simp only [List.flatMap_cons,List.flatMap_nil,List.append_nil]
    rw [nR,nP1,List.take_append_drop,hR]
   ·rw [if_neg b]
    exact fm_congr fun r hr=>nO 0 r m.d1 hr (Rn 0 r m.d1 b hr)
 ·have ef:s.top=s:=if_neg c
  rw [ef]
  exact ⟨L,m.clean (fun _ _=>⟨by split<;>omega,by omega⟩) (fun h=>by omega),rfl,by omega,by omega⟩
end

end Go.Proofs.YtoljhoabbaigdaaGreat

namespace Go.Proofs.YtoljhoabbaigdaaGreat
open Go.RowKit

section
variable {s:Tab} {L:Nat->List Nat} {l:KV} {e:Nat} {K:ByteArray}
theorem tput_new {l:KV} {k:ByteArray} {n:Int} (hn:l.has k=false):l.put k n=ins l (l.pos k) (k,n):=by
 unfold KV.put ins
 rw [if_neg (by rw [hn]; decide)]
theorem above_pos {l:KV} {k:ByteArray} (h0:RiseL l) (hn:l.has k=false) {j:Nat} (h:l.pos k<=j) (hj:j<l.length):ltB k (l.key j)=true:=by
 have hp:l.pos k<l.length:=by omega
 have st:=KV.pos_stop k l hp
 have lt:ltB k (l.key (l.pos k))=true:=by
  cases e:ltB k (l.key (l.pos k)) with
  | true=>rfl
  | false=>rw [(KV.has_iff l k).2 ⟨hp,(ltB_total e st).symm⟩] at hn; cases hn
 by_cases t:j=l.pos k
 ·rw [t]; exact lt
 ·exact ltB_trans lt (KV.rise_at h0 (by omega) hj)
theorem put_rise {l:KV} {k:ByteArray} {n:Int} (h0:RiseL l):RiseL (l.put k n):=by
 by_cases hn:l.has k=true
 ·have e:l.put k n=l.set (l.pos k) (k,n):=if_pos hn
  obtain ⟨hp,hk⟩:=(KV.has_iff l k).1 hn
  have em:(l.put k n).map Prod.fst=l.map Prod.fst:=by
   rw [e,List.map_set]
   show (l.map Prod.fst).set (l.pos k) k=_
   apply List.ext_getElem (by simp)
   intro i h1 h2
   rw [List.getElem_set]
   by_cases t:l.pos k=i
   ·rw [if_pos t]
    have hi:i<l.length:=by simpa using h2
    rw [List.getElem_map,KV.getE l i hi]
    show k=l.key i
    rw [<-t,hk]
   ·rw [if_neg t]
  have h1:(l.map Prod.fst).Pairwise (fun a b=>ltB a b=true):=List.pairwise_map.2 h0
  rw [<-em] at h1
  exact List.pairwise_map.1 h1
 ·have hn:l.has k=false:=by simpa using hn
  rw [tput_new hn]
  have pl:=KV.pos_le k l
  unfold ins RiseL
  rw [List.pairwise_append,List.pairwise_cons]
  refine ⟨h0.sublist (List.take_sublist _ _),⟨fun y hy=>?_,h0.sublist (List.drop_sublist _ _)⟩,fun x hx y hy=>?_⟩
  ·obtain ⟨i,hi,rfl⟩:=List.getElem_of_mem hy
   rw [List.length_drop] at hi
   rw [List.getElem_drop,KV.getE _ _ (by omega)]
   exact above_pos h0 hn (by omega) (by omega)
  ·obtain ⟨i,hi,rfl⟩:=List.getElem_of_mem hx
   rw [List.length_take] at hi
   rw [List.getElem_take,KV.getE _ _ (by omega)]
   have lx:=KV.pos_below k l i (by omega)
   rw [List.mem_cons] at hy
   rcases hy with rfl | hy
   ·exact lx
   ·obtain ⟨j,hj,rfl⟩:=List.getElem_of_mem hy
    rw [List.length_drop] at hj
    rw [List.getElem_drop,KV.getE _ _ (by omega)]
    exact ltB_trans lx (above_pos h0 hn (by omega) (by omega))
end

section
variable {s:Tab} {L:Nat->List Nat} {l:KV}
theorem Whole.way (m:Whole s L l) (h0:RiseL l) (k:ByteArray):∃ e P a A B,s.depth=e+1∧s.Walks k s.depth s.root∧Path s L k e s.root (s.down k s.depth s.root)∧(s.down k s.depth s.root).getD e (0,0)=(P,a)∧a=(s.nd P).pos k∧Found s L l k P A B∧P<s.nds.length∧1<=(s.nd P).length∧(s.nd P).length<=4∧(e≠0->2<=(s.nd P).length):=by
 obtain ⟨e,he⟩:∃ e,s.depth=e+1:=⟨s.depth-1,by have:=m.d1; omega⟩
 have hr:=Here.root m k
 rw [he,Nat.add_sub_cancel] at hr
 obtain ⟨w,p⟩:=m.path h0 k e s.root (by omega) hr
 rw [<-he] at w p
 obtain ⟨A,B,f⟩:=p.here.found m h0
 have pm:((s.down k s.depth s.root).getD e (0,0)).1 ∈ L 0:=by rw [f.cut]; simp
 have sz:=m.pos m.d1 pm
 refine ⟨e,_,_,A,B,he,w,p,rfl,p.last,f,m.lt 0 _ m.d1 pm,sz.1,sz.2,fun h=>?_⟩
 have:=m.size 0 _ m.d1 pm (fun t=>by have:=t.1; omega)
 rw [if_neg (by omega)] at this
 exact this.1
theorem Found.put {k:ByteArray} {P:Nat} {A B:List Nat} (f:Found s L l k P A B) (n:Int) (hn:l.has k=false):l.put k n=A.flatMap s.nd++ins (s.nd P) ((s.nd P).pos k) (k,n)++B.flatMap s.nd:=by
 have pl:=KV.pos_le k (s.nd P)
 rw [tput_new hn,f.pos]
 obtain ⟨U,hU⟩:=nmq (A.flatMap s.nd)
 have fa:=f.all
 rw [<-hU] at fa ⊢
 rw [fa]
 unfold ins
 rw [List.append_assoc,List.take_length_add_append,List.drop_length_add_append,List.take_append_of_le_length pl,List.drop_append_of_le_length pl]
 simp
theorem Found.put_old {k:ByteArray} {P:Nat} {A B:List Nat} (f:Found s L l k P A B) (n:Int) (hn:l.has k=true):l.put k n=A.flatMap s.nd++(s.nd P).set ((s.nd P).pos k) (k,n)++B.flatMap s.nd:=by
 have hp:(s.nd P).pos k<(s.nd P).length:=((KV.has_iff _ _).1 (f.has ▸ hn)).1
 have e:l.put k n=l.set (l.pos k) (k,n):=if_pos hn
 rw [e,f.pos]
 obtain ⟨U,hU⟩:=nmq (A.flatMap s.nd)
 have fa:=f.all
 rw [<-hU] at fa ⊢
 rw [fa,List.append_assoc,List.set_append_right _ _ (by omega),Nat.add_sub_cancel_left,List.set_append_left _ _ hp,List.append_assoc]
end

end Go.Proofs.YtoljhoabbaigdaaGreat

namespace Go.Proofs.YtoljhoabbaigdaaGreat
open Go.RowKit

section
variable {s:Tab} {L:Nat->List Nat} {l:KV}
theorem Path.root {s:Tab} {L:Nat->List Nat} {k:ByteArray} {h p:Nat} {ws:List (Nat × Nat)} (h1:Path s L k h p ws):(ws.getD 0 (0,0)).1=p:=h1.top
theorem Whole.putNew (m:Whole s L l) (h0:RiseL l) (k:ByteArray) (n:Int) (hn:l.has k=false) (hb:s.nds.length+s.free.length+s.depth+4<=850000) :
  ∃ e P a,s.depth=e+1∧s.Walks k s.depth s.root∧(s.down k s.depth s.root).length=e+1∧(s.down k s.depth s.root).getD e (0,0)=(P,a)∧P<s.nds.length∧a<=(s.nd P).length∧0<(s.nd P).length∧(s.nd P).length<=4∧a=(s.nd P).pos k∧(s.nd P).has k=false ∧
   FineUps (s.down k s.depth s.root) e (s.put P (ins (s.nd P) a (k,n)))∧FineTop (Tab.ups (s.down k s.depth s.root) e (s.put P (ins (s.nd P) a (k,n)))) ∧
   ∃ L',Whole (Tab.ups (s.down k s.depth s.root) e (s.put P (ins (s.nd P) a (k,n)))).top L' (l.put k n)∧(Tab.ups (s.down k s.depth s.root) e (s.put P (ins (s.nd P) a (k,n)))).top.count=s.count ∧
    (Tab.ups (s.down k s.depth s.root) e (s.put P (ins (s.nd P) a (k,n)))).top.nds.length+(Tab.ups (s.down k s.depth s.root) e (s.put P (ins (s.nd P) a (k,n)))).top.free.length<=s.nds.length+s.free.length+s.depth+2:=by
 obtain ⟨e,P,a,A,B,he,w,p,hl,ha,f,hP,h1,h4,h2⟩:=m.way h0 k
 have ap:a<=(s.nd P).length:=by rw [ha]; exact KV.pos_le k _
 have m1:=m.leafset f.cut (ins (s.nd P) a (k,n))
 rw [ha,<-f.put n hn,<-ha] at m1
 have n1:∀ r,(s.put P (ins (s.nd P) a (k,n))).nd r=if r=P then ins (s.nd P) a (k,n) else s.nd r:=fun r=>Tab.put_nd hP r
 have pm:P ∈ L 0:=by rw [f.cut]; simp
 have il:=ins_len (s.nd P) a (k,n) ap
 have lw:((s.down k s.depth s.root).getD e (0,0)).1=P:=by rw [hl]
 obtain ⟨u1,L2,K2,u2,u3,u4,u5,u6,u7,u8⟩:=ups_ok (ws:=s.down k s.depth s.root) (e:=e) (l:=l.put k n) e (Nat.le_refl _) (s.put P (ins (s.nd P) a (k,n))) L ((s.nd P).key 0) (by rw [Nat.sub_self,lw]; exact m1) (by show e+1=s.depth; omega) (fun j hj=>by
  obtain ⟨j1,j2⟩:=p.next j hj
  have jm:=p.mem j (by omega)
  have jn:((s.down k s.depth s.root).getD j (0,0)).1≠P:=fun t=>by
   have:=m.lev (e-j) 0 _ (by omega) m.d1 jm (by rw [t]; exact pm); omega
  rw [n1,if_neg jn]
  exact ⟨jm,j1,j2⟩) (by rw [lw,n1,if_pos rfl]; omega) (by rw [lw,n1,if_pos rfl]; omega) (by rw [Tab.put_len]; show s.nds.length+s.free.length+e<=_; omega)
 have sd:(s.put P (ins (s.nd P) a (k,n))).depth=s.depth:=rfl
 have sc:(s.put P (ins (s.nd P) a (k,n))).count=s.count:=rfl
 have sl:(s.put P (ins (s.nd P) a (k,n))).nds.length+(s.put P (ins (s.nd P) a (k,n))).free.length=s.nds.length+s.free.length:=by rw [Tab.put_len]; rfl
 have e0:((s.down k s.depth s.root).getD 0 (0,0)).1=(Tab.ups (s.down k s.depth s.root) e (s.put P (ins (s.nd P) a (k,n)))).root:=by rw [p.root,u6]; rfl
 rw [e0] at u2 u3 u4
 have hd:e+1=(Tab.ups (s.down k s.depth s.root) e (s.put P (ins (s.nd P) a (k,n)))).depth:=by rw [u5,sd,he]
 have ft:=u2.fineTop hd (by omega) u4 (by omega) (by omega)
 obtain ⟨L',t1,t2,t3,_⟩:=u2.top_ok hd u3 u4
 exact ⟨e,P,a,he,w,p.len,hl,hP,ap,h1,h4,ha,by rw [<-f.has]; exact hn,u1,ft,L',t1,by rw [t2,u7,sc],by omega⟩
theorem Whole.putOld (m:Whole s L l) (h0:RiseL l) (k:ByteArray) (n:Int) (hn:l.has k=true) :
  ∃ e P a,s.depth=e+1∧s.Walks k s.depth s.root∧(s.down k s.depth s.root).length=e+1∧(s.down k s.depth s.root).getD e (0,0)=(P,a)∧P<s.nds.length∧a<(s.nd P).length∧(s.nd P).key a=k∧(s.nd P).num a=l.num (l.pos k) ∧
   ∃ L',Whole (s.put P ((s.nd P).set a (k,n))) L' (l.put k n):=by
 obtain ⟨e,P,a,A,B,he,w,p,hl,ha,f,hP,h1,h4,h2⟩:=m.way h0 k
 have hs:(s.nd P).has k=true:=by rw [<-f.has]; exact hn
 obtain ⟨ap,ak⟩:=(KV.has_iff _ _).1 hs
 rw [<-ha] at ap ak
 have m1:=m.leafset f.cut ((s.nd P).set a (k,n))
 rw [ha,<-f.put_old n hn,<-ha] at m1
 refine ⟨e,P,a,he,w,p.len,hl,hP,ap,ak,?_,L,?_⟩
 ·rw [f.pos,<-ha]
  obtain ⟨U,hU⟩:=nmq (A.flatMap s.nd)
  have fa:=f.all
  rw [<-hU] at fa ⊢
  rw [fa]
  unfold KV.num
  rw [List.getD_eq_getElem?_getD,List.getD_eq_getElem?_getD,List.append_assoc,List.getElem?_append_right (by omega),Nat.add_sub_cancel_left,List.getElem?_append_left ap]
 ·refine m1.clean (fun _ _=>?_) (fun _=>?_)
  ·rw [Tab.put_nd hP,if_pos rfl,List.length_set]
   have pm:P ∈ L 0:=by rw [f.cut]; simp
   exact m.size 0 P m.d1 pm (fun t=>by have:=t.1; have:=m.d1; omega)
  ·rw [Tab.put_nd hP,if_pos rfl]
   by_cases c:a=0
   ·subst c
    unfold KV.key at ak ⊢
    rw [List.getD_eq_getElem?_getD] at ak ⊢
    rw [List.getD_eq_getElem?_getD,List.getElem?_set,if_pos rfl,if_pos ap,ak]; rfl
   ·unfold KV.key
    rw [List.getD_eq_getElem?_getD,List.getD_eq_getElem?_getD,List.getElem?_set,if_neg (fun t=>c t)]
theorem Whole.get (m:Whole s L l) (h0:RiseL l) (k:ByteArray) :
  ∃ e P a,s.depth=e+1∧s.Walks k s.depth s.root∧(s.down k s.depth s.root).length=e+1∧(s.down k s.depth s.root).getD e (0,0)=(P,a)∧P<s.nds.length∧(s.nd P).length<=4∧(l.has k=true->a<(s.nd P).length∧(s.nd P).key a=k∧(s.nd P).num a=l.num (l.pos k))∧(l.has k=false->¬ (a<(s.nd P).length∧(s.nd P).key a=k)):=by
 obtain ⟨e,P,a,A,B,he,w,p,hl,ha,f,hP,h1,h4,h2⟩:=m.way h0 k
 refine ⟨e,P,a,he,w,p.len,hl,hP,h4,fun h=>?_,fun h t=>?_⟩
 ·obtain ⟨e',P',a',he',_,_,hl',_,b1,b2,b3,_⟩:=m.putOld h0 k 0 h
  have:e=e':=by omega
  subst this
  rw [hl] at hl'
  injection hl' with q1 q2
  subst q1; subst q2
  exact ⟨b1,b2,b3⟩
 ·rw [f.has] at h
  have:=(KV.has_iff (s.nd P) k).2 (by rw [<-ha]; exact t)
  rw [h] at this; cases this
end

end Go.Proofs.YtoljhoabbaigdaaGreat
