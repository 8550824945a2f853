/- Proved parts: T9l T9k T9r T9p T9s T9v T9n T9f T8l T8u T8v T8f T8s T9e T9g T9q. Conditions: each theorem's own. -/
import Derived.Test.YtoljhoabbaigdaaGreatM31
import Derived.Test.YtoljhoabbaigdaaGreatM12
import Derived.BigQuiet
import Derived.Test.YtoljhoabbaigdaaGreatQ1
import Derived.Test.YtoljhoabbaigdaaGreatQ2
set_option maxRecDepth 100000
set_option maxHeartbeats 8000000
namespace Go.Proofs.YtoljhoabbaigdaaGreat
open Go.RowKit

abbrev Ptr (T:Nat):Value:=.pointer (some ⟨T,0,none⟩)
theorem xLeast (w:World) (T:Nat) (E:Nat->Prop) (s:Tab) (rv fv:Value) (vs:List Value) (p:Nat) (h:TabV w T E s rv fv vs) (hp:p<vs.length) (h0:0<(s.nd p).length) :
  Calls Tryz.prog 159 #[Ptr T,.int .i64 p] w fun x w'=>x=.returned (.string ((s.nd p).key 0))∧w'=w:=by
 obtain ⟨g,c,rfl,_,_,hc⟩:=h.rowAt (by omega)
 have c0:=h.row.cell 0
 simp only [List.getElem?_cons_zero] at c0
 have c1:=(hc p hp).1
 obtain ⟨A,cp,e,hi⟩:=(h.node p hp).form
 obtain ⟨b,o,rfl,c2,_⟩:=hi 0 h0
 rw [e] at c1
 rw [Nat.zero_mul,Nat.add_zero] at c2
 obtain ⟨n,hn⟩:=nmq (vs.length)
 obtain ⟨m,hm⟩:=nmq ((s.nd p).length)
 obtain ⟨K,hK⟩:=nmq ((s.nd p).key 0)
 rw [<-hn] at c0 hp
 rw [<-hm] at c1 h0
 rw [<-hK] at c2 ⊢
 clear hi hc h e hn hm hK
 go_enter Tryz.func159,Tryz.ntmps159
 go_wp2_with fail
 go_ret
 exact ⟨rfl,rfl⟩

theorem xLay (w:World) (T:Nat) (E:Nat->Prop) (s:Tab) (p i:Nat) (x:ByteArray × Int) (h:TabG w T E s) (hp:p<s.nds.length) (hi:i<=(s.nd p).length) (hne:0<(s.nd p).length) (hl:(s.nd p).length<=100000) :
  Calls Tryz.prog 158 #[Ptr T,.agg #[.int .i64 p,.int .i64 i],.agg #[.string x.1,.int .i64 x.2]] w fun r w'=>r=.returned (.tuple #[])∧LeftP w T E (s.put p (ins (s.nd p) i x)) w':=by
 obtain ⟨rv,fv,vs,h⟩:=h
 have hp':p<vs.length:=by rw [h.len]; exact hp
 obtain ⟨g,c,hrv,hg,gT,hc⟩:=h.rowAt (by omega)
 obtain ⟨b,o,cp,ev,hw⟩:∃ b o cp,tnv vs p=.slice (some ⟨b,o,none⟩) (s.nd p).length cp∧WinAt w b o cp (s.nd p):=by
  rcases h.node p hp' with ⟨_,e⟩ | h
  ·rw [e] at hne; exact absurd hne (by simp)
  ·exact h
 have bE:=h.eW p b o hp' ⟨o,_,cp,ev,Nat.le_refl _,by have:=hw.pos; omega⟩
 obtain ⟨q4,hq4⟩:=nmq (w.heap.size)
 have lT:=h.lt T h.eT
 have lg:=h.lt g hg
 have lb:=h.lt b bE.1
 obtain ⟨w1,hw1⟩:=nmq ((w.alloc (.cells #[.int .i64 p,.int .i64 i] 238)).alloc (.cells #[.string x.1,.int .i64 x.2] 221))
 have b1:Below w.heap.size w w1:=by rw [hw1]; exact ((Below.refl _ _).alloc (Nat.le_refl _) _).alloc (by simp) _
 have s1:w1.heap.size=q4+2:=by rw [hw1,hq4]; simp
 have r4:RowAt w1 q4 [.int .i64 p,.int .i64 i] 238:=by rw [hw1,hq4]; exact (RowAt.new w _ _).alloc _
 have r5:RowAt w1 (q4+1) [.string x.1,.int .i64 x.2] 221:=by
  rw [hw1,hq4]
  have:=RowAt.new (w.alloc (.cells #[.int .i64 p,.int .i64 i] 238)) [.string x.1,.int .i64 x.2] 221
  simpa using this
 have v1:=h.below b1
 have hW1:WinAt w1 b o cp (s.nd p):=by
  have:=(v1.node p hp')
  rw [ev] at this
  rcases this with ⟨e,_⟩ | ⟨b',o',c',e,q⟩
  ·cases e
  ·injection e with e1 e2 e3
   injection e1 with e1
   injection e1 with e1 e4 _
   subst e1; subst e4; subst e3; exact q
 obtain ⟨m,hm⟩:=nmq ((s.nd p).length)
 obtain ⟨n,hn⟩:=nmq (vs.length)
 have IC:Calls Tryz.prog 168 #[.slice (some ⟨b,o,none⟩) m cp,.int .i64 i,.slice (some ⟨q4+2,0,none⟩) 1 1] (w1.alloc (.cells #[.string x.1,.int .i64 x.2] 221)).drew (MvPost (w1.alloc (.cells #[.string x.1,.int .i64 x.2] 221)).drew (.slice (some ⟨b,o,none⟩) m cp) (ins (s.nd p) i x)):=by
  rw [hm,<-s1]
  have t:Turn (fun _ _=>False) w1 (w1.alloc (.cells #[.string x.1,.int .i64 x.2] 221)).drew:=Turn.of_below ((Below.refl _ _).alloc (Nat.le_refl _) _).drew
  exact xInsert _ b o cp w1.heap.size i (s.nd p) x (hW1.turn t fun _ _ _ e=>e) hi hl (heap_alloc_new w1 _) (by omega)
 have IC':=qh IC
 have HV1:=qh v1
 have HV:=qh h
 have B1:=qh b1
 have BE:=qh bE
 have HRV:=qh hrv
 have EV:=qh ev
 have HM:=qh hm
 have HN:=qh hn
 have S1:=qh s1
 have HQ:=qh hq4
 have HI:=qh hi
 have C1:=qh (show w1.cell? ⟨T,0,none⟩=some (.slice (some ⟨g,0,none⟩) n c)∧w1.cell? ⟨q4,0,none⟩=some (.int .i64 p)∧w1.cell? ⟨q4,1,none⟩=some (.int .i64 i)∧w1.cell? ⟨q4+1,0,none⟩=some (.string x.1)∧w1.cell? ⟨q4+1,1,none⟩=some (.int .i64 x.2) from
  ⟨by have:=v1.row.cell 0; rw [hrv,<-hn] at this; exact this,r4.cell 0,r4.cell 1,r5.cell 0,r5.cell 1⟩)
 have CG:=qh (show w1.cell? ⟨g,p,none⟩=some (.slice (some ⟨b,o,none⟩) m cp) from by
  have e:=(b1.cell (p:=⟨g,p,none⟩) lg).trans (hc p hp').1
  rw [ev,<-hm] at e; exact e)
 have LT:=qh (show T<q4∧g<q4∧b<q4 from ⟨by omega,by omega,by omega⟩)
 rw [<-hn] at hp'
 have R4:=qh r4
 have R5:=qh r5
 have HW1:=qh hw1
 clear hc h hw bE lT lg lb b1 s1 r4 r5 v1 hW1 hm hn IC hi hl hne hp ev
 go_enter Tryz.func158,Tryz.ntmps158
 go_wp2_with fail
 rw [<-HW1.out,<-HQ.out]
 clear hw1 hq4
 have g4:g≠q4:=by have:=LT.out; omega
 have g5:g≠q4+1:=by have:=LT.out; omega
 have c0:=C1.out.1
 have c1:=C1.out.2.1
 have c2:=C1.out.2.2.1
 have c3:=C1.out.2.2.2.1
 have c4:=C1.out.2.2.2.2
 have cg:=CG.out
 have ss:=S1.out
 refine wp_region_held_drew (S:=(fun w'=>w'.cell? ⟨T,0,none⟩=some (.slice (some ⟨g,0,none⟩) n c)∧w'.cell? ⟨q4,0,none⟩=some (.int .i64 p)∧w'.cell? ⟨q4,1,none⟩=some (.int .i64 i)∧w'.cell? ⟨q4+1,0,none⟩=some (.string x.1)∧w'.cell? ⟨q4+1,1,none⟩=some (.int .i64 x.2))) (by kernel_rfl) (C1.out) (fun gH=>?_)
 have keep2:∀ w2:World,Turn (InWin (.slice (some ⟨b,o,none⟩) m cp)) (w1.alloc (.cells #[.string x.1,.int .i64 x.2] 221)).drew w2->∀ k,k<q4+2->k≠b->w2.heap[k]?=w1.heap[k]?:=fun w2 t k hk hn =>
  (t.block k (by rw [heap_drew,World.size_alloc,S1.out]; omega) (fun j ⟨_,_,_,e,_⟩=>hn (by injection e with e _ _; injection e with e; injection e with e _ _; exact e.symm))).trans (Below.heap_alloc w1 _ k (by rw [S1.out]; exact hk))
 have bT:=BE.out.2.1
 have bg:b≠g:=fun e=>BE.out.2.2.1 (by rw [HRV.out,e]; rfl)
 have K2:=qh keep2
 have HS2:=qh (show ∀ w2:World,Turn (InWin (.slice (some ⟨b,o,none⟩) m cp)) (w1.alloc (.cells #[.string x.1,.int .i64 x.2] 221)).drew w2->w2.cell? ⟨T,0,none⟩=some (.slice (some ⟨g,0,none⟩) n c)∧w2.cell? ⟨q4,0,none⟩=some (.int .i64 p)∧w2.cell? ⟨q4,1,none⟩=some (.int .i64 i)∧w2.cell? ⟨q4+1,0,none⟩=some (.string x.1)∧w2.cell? ⟨q4+1,1,none⟩=some (.int .i64 x.2) from fun w2 t=>by
  have L:=LT.out
  exact ⟨(World.cell?_of_block (a:=⟨T,0,none⟩) (K2.out w2 t T (by omega) (fun e=>bT e.symm))).trans C1.out.1,(World.cell?_of_block (a:=⟨q4,0,none⟩) (K2.out w2 t q4 (by omega) (by omega))).trans C1.out.2.1,(World.cell?_of_block (a:=⟨q4,1,none⟩) (K2.out w2 t q4 (by omega) (by omega))).trans C1.out.2.2.1,
   (World.cell?_of_block (a:=⟨q4+1,0,none⟩) (K2.out w2 t (q4+1) (by omega) (by omega))).trans C1.out.2.2.2.1,(World.cell?_of_block (a:=⟨q4+1,1,none⟩) (K2.out w2 t (q4+1) (by omega) (by omega))).trans C1.out.2.2.2.2⟩)
 have HG2:=qh (show ∀ w2:World,Turn (InWin (.slice (some ⟨b,o,none⟩) m cp)) (w1.alloc (.cells #[.string x.1,.int .i64 x.2] 221)).drew w2->w2.cell? ⟨g,p,none⟩=some (.slice (some ⟨b,o,none⟩) m cp)∧w2.frozen? ⟨g,p,none⟩=false from fun w2 t=>by
  have L:=LT.out
  have e:=K2.out w2 t g (by omega) (fun e=>bg e.symm)
  refine ⟨(World.cell?_of_block (a:=⟨g,p,none⟩) e).trans CG.out,?_⟩
  rw [World.frozen?_of_block (a:=⟨g,p,none⟩) e]
  have HP:=HV1.out.rowAt (by rw [<-HN.out]; omega)
  obtain ⟨g',c',e1,_,_,hc⟩:=HP
  rw [HRV.out] at e1
  injection e1 with e1 _ _
  injection e1 with e1
  injection e1 with e1 _ _
  subst e1
  exact (hc p (by rw [<-HN.out]; exact hp')).2)
 have FIN:=qh (show ∀ (v':Value) (w2:World),Moved (w1.alloc (.cells #[.string x.1,.int .i64 x.2] 221)).drew (.slice (some ⟨b,o,none⟩) m cp) (ins (s.nd p) i x) v' w2->LeftP w T E (s.put p (ins (s.nd p) i x)) (w2.setCell ⟨g,p,none⟩ v') from fun v' w2 hm=>by
  obtain ⟨W,hW⟩:=nmq ((w1.alloc (.cells #[.string x.1,.int .i64 x.2] 221)).drew)
  rw [<-hW] at hm
  have bW:Below w.heap.size w W:=by rw [hW]; exact (B1.out.alloc B1.out.size _).drew
  have sW:W.heap.size=q4+3:=by rw [hW,heap_drew,World.size_alloc,S1.out]
  have ev:.slice (some ⟨b,o,none⟩) m cp=tnv vs p:=by rw [EV.out,HM.out]
  rw [ev] at hm
  obtain ⟨h1,h2,h3,_⟩:=hm
  have hp:p<vs.length:=by rw [<-HN.out]; exact hp'
  have q:=HQ.out
  refine ⟨fun k=>k<w2.heap.size∧(E k∨W.heap.size<=k),⟨_,_,_,(HV.out.below bW).moved hp HRV.out h1 h2 h3 (fun k e=>⟨?_,.inl e⟩) (fun k e f=>⟨f,.inr e⟩) (fun k e=>e.1)⟩,fun k e=>?_,?_⟩
  ·have:=HV.out.lt k e
   have:=h2.size
   omega
  ·rcases e.2 with f | f
   ·exact .inl f
   ·exact .inr (by omega)
  ·refine Chg.setCell ?_ (.inl ?_) _
   ·exact (Chg.of_below bW).then (h2.chg fun k j e=>(HV.out.eW p k j hp e).1)
   ·exact (HV.out.eN g (by rw [HRV.out]; rfl)).1)
 clear keep2
 refine rgT 0 (v:=?v1) ?y1 gH ?_
 case y1=>(intro v hSw; go_simp<;>rfl)
 refine rgT 1 (v:=?v2) ?y2 gH ?_
 case y2=>(intro v hSw; go_simp<;>rfl)
 refine rgT 2 (v:=?v3) ?y3 gH ?_
 case y3=>(intro v hSw; go_simp<;>rfl)
 try simp only [putS]
 refine rgT 3 (v:=?v4) ?y4 gH ?_
 case y4=>(intro v hSw; go_simp<;>rfl)
 refine rgT 4 (v:=?v5) ?y5 gH ?_
 case y5=>(intro v hSw; go_simp<;>rfl)
 refine rgT 5 (v:=?v6) ?y6 gH ?_
 case y6=>(intro v hSw; go_simp<;>rfl)
 try simp only [putS]
 refine rgT 6 (v:=?v7) ?y7 gH ?_
 case y7=>(intro v hSw; go_simp<;>rfl)
 refine rgT 7 (v:=?v8) ?y8 gH ?_
 case y8=>(intro v hSw; go_simp<;>rfl)
 refine rgT 8 (v:=?v9) ?y9 gH ?_
 case y9=>(intro v hSw; go_simp<;>rfl)
 try simp only [putS]
 refine rgT 9 (v:=?v10) ?y10 gH ?_
 case y10=>(intro v hSw; go_simp<;>rfl)
 refine rgT 10 (v:=?v11) ?y11 gH ?_
 case y11=>(intro v hSw; go_simp<;>rfl)
 refine rgT 11 (v:=?v12) ?y12 gH ?_
 case y12=>(intro v hSw; go_simp<;>rfl)
 try simp only [putS]
 refine rgT 12 (v:=?v13) ?y13 gH ?_
 case y13=>(intro v hSw; go_simp<;>rfl)
 refine rgT 14 (v:=?v14) ?y14 gH ?_
 case y14=>(intro v hSw; go_simp<;>rfl)
 refine rgT 15 (v:=?v15) ?y15 gH ?_
 case y15=>(intro v hSw; go_simp<;>rfl)
 try simp only [putS]
 refine rgT 16 (v:=?v16) ?y16 gH ?_
 case y16=>(intro v hSw; go_simp<;>rfl)
 try simp only [putS]
 have SA:=qh (show (w1.alloc (.cells #[.string x.1,.int .i64 x.2] 221)).drew.cell? ⟨T,0,none⟩=some (.slice (some ⟨g,0,none⟩) n c)∧(w1.alloc (.cells #[.string x.1,.int .i64 x.2] 221)).drew.cell? ⟨q4,0,none⟩=some (.int .i64 p)∧(w1.alloc (.cells #[.string x.1,.int .i64 x.2] 221)).drew.cell? ⟨q4,1,none⟩=some (.int .i64 i)∧(w1.alloc (.cells #[.string x.1,.int .i64 x.2] 221)).drew.cell? ⟨q4+1,0,none⟩=some (.string x.1)∧(w1.alloc (.cells #[.string x.1,.int .i64 x.2] 221)).drew.cell? ⟨q4+1,1,none⟩=some (.int .i64 x.2) from
  HS2.out _ (Turn.refl _ _))
 have HS3:=qh (show ∀ (w2:World) (v':Value),(w2.cell? ⟨T,0,none⟩=some (.slice (some ⟨g,0,none⟩) n c)∧w2.cell? ⟨q4,0,none⟩=some (.int .i64 p)∧w2.cell? ⟨q4,1,none⟩=some (.int .i64 i)∧w2.cell? ⟨q4+1,0,none⟩=some (.string x.1)∧w2.cell? ⟨q4+1,1,none⟩=some (.int .i64 x.2))->(w2.setCell ⟨g,p,none⟩ v').cell? ⟨T,0,none⟩=some (.slice (some ⟨g,0,none⟩) n c)∧(w2.setCell ⟨g,p,none⟩ v').cell? ⟨q4,0,none⟩=some (.int .i64 p)∧(w2.setCell ⟨g,p,none⟩ v').cell? ⟨q4,1,none⟩=some (.int .i64 i)∧(w2.setCell ⟨g,p,none⟩ v').cell? ⟨q4+1,0,none⟩=some (.string x.1)∧(w2.setCell ⟨g,p,none⟩ v').cell? ⟨q4+1,1,none⟩=some (.int .i64 x.2) from fun w2 v' h=>by
  have e:=fun k (hk:k≠g)=>Below.heap_setCell w2 ⟨g,p,none⟩ v' k hk
  exact ⟨(World.cell?_of_block (a:=⟨T,0,none⟩) (e T (Ne.symm gT))).trans h.1,(World.cell?_of_block (a:=⟨q4,0,none⟩) (e q4 (Ne.symm g4))).trans h.2.1,(World.cell?_of_block (a:=⟨q4,1,none⟩) (e q4 (Ne.symm g4))).trans h.2.2.1,(World.cell?_of_block (a:=⟨q4+1,0,none⟩) (e _ (Ne.symm g5))).trans h.2.2.2.1,(World.cell?_of_block (a:=⟨q4+1,1,none⟩) (e _ (Ne.symm g5))).trans h.2.2.2.2⟩)
 refine rgnTwo 13 17 rfl rfl (by kernel_rfl) (fun K hK=>?_) (fun K hK=>?_)
 ·go_simp
  refine hK.out _ _ (C1.out) (fun gH=>?_)
  clear hK K
  try simp only [putS]
  refine rgO 17 fun K hK=>?_
  go_simp
  refine hK.out _ _ (SA.out) (fun gH=>?_)
  clear hK K
  try simp only [putS]
  refine rgO 18 fun K hK=>?_
  go_simp
  refine IC'.out.mono ?_
  rintro r w2 ⟨v',rfl,hmv⟩
  obtain ⟨A2,c2,rfl,_⟩:=hmv.1.form
  have MV:=qh hmv
  clear hmv
  refine hK.out _ _ ((HS2.out w2 MV.out.2.1)) (fun gH=>?_)
  clear hK K
  refine rgT 19 (v:=?v17) ?y17 gH ?_
  case y17=>(intro v hSw; go_simp<;>rfl)
  try simp only [putS]
  have cg2:=(HG2.out w2 MV.out.2.1).1
  have fz2:=(HG2.out w2 MV.out.2.1).2
  refine rgO 20 fun K hK=>?_
  go_simp
  refine hK.out _ _ ((HS3.out w2 _ (HS2.out w2 MV.out.2.1))) (fun gH=>?_)
  clear hK K
  try simp only [putS]
  refine rgD ?_
  go_wp2_with fail
  exact bodyPost_end (results_none rfl _ _ _) rfl ⟨rfl,FIN.out _ w2 MV.out⟩
 ·go_simp
  refine hK.out _ _ (SA.out) (fun gH=>?_)
  clear hK K
  try simp only [putS]
  have cg1:(w1.alloc (.cells #[.string x.1,.int .i64 x.2] 221)).drew.cell? ⟨g,p,none⟩=some (.slice (some ⟨b,o,none⟩) m cp):=(HG2.out _ (Turn.refl _ _)).1
  refine rgO 13 fun K hK=>?_
  go_simp
  refine hK.out _ _ (SA.out) (fun gH=>?_)
  clear hK K
  try simp only [putS]
  clear cg1
  refine rgO 18 fun K hK=>?_
  go_simp
  refine IC'.out.mono ?_
  rintro r w2 ⟨v',rfl,hmv⟩
  obtain ⟨A2,c2,rfl,_⟩:=hmv.1.form
  have MV:=qh hmv
  clear hmv
  refine hK.out _ _ ((HS2.out w2 MV.out.2.1)) (fun gH=>?_)
  clear hK K
  refine rgT 19 (v:=?v18) ?y18 gH ?_
  case y18=>(intro v hSw; go_simp<;>rfl)
  try simp only [putS]
  have cg2:=(HG2.out w2 MV.out.2.1).1
  have fz2:=(HG2.out w2 MV.out.2.1).2
  refine rgO 20 fun K hK=>?_
  go_simp
  refine hK.out _ _ ((HS3.out w2 _ (HS2.out w2 MV.out.2.1))) (fun gH=>?_)
  clear hK K
  try simp only [putS]
  refine rgD ?_
  go_wp2_with fail
  exact bodyPost_end (results_none rfl _ _ _) rfl ⟨rfl,FIN.out _ w2 MV.out⟩

end Go.Proofs.YtoljhoabbaigdaaGreat

namespace Go.Proofs.YtoljhoabbaigdaaGreat
open Go.RowKit

theorem infoNd:(Tryz.prog.info? 236).map (fun i=>(i.zero,i.size,i.bytes))=some (some (.slice none 0 0),1,24):=by kernel_rfl
section
variable {w:World} {ops:Array Oper} {rest:List Oper} {o:Oper} {a:Act} {Q:Exit->Act->World->Prop}
theorem wp_putNd (hgd:o.guard=none) (s x:Operand)
  (ho:o.op=.call { callee:=.builtin .append,args:=#[s,x],argTypes:=#[222,222] })
  (v:Value) (xs:List Value) (hs:a.eval s=v) (hown:w.ownsRow 0 236 1 v xs.length xs) (g:Nat) (y:Value) (hy:y.oneCell'=true) (hx:a.eval x=.slice (some ⟨g,0,none⟩) 1 1)
  (hc:w.cell? ⟨g,0,none⟩=some y) (hl:xs.length+1<=1000000)
  (h:∀ g' c' w',w'.ownsRow 0 236 1 (.slice (some ⟨g',0,none⟩) (xs.length+1) c') (xs++[y]).length (xs++[y])->w.grownBy w' v.ownBlock->(v.ownBlock=some g'∨g'=w.heap.size)->wpList Tryz.prog ops Q rest (a.put o.dst (.slice (some ⟨g',0,none⟩) (xs.length+1) c')) w'):wpList Tryz.prog ops Q (o :: rest) a w:=by
 obtain ⟨i0,hi,hz0,hz1,hz2⟩:=info_parts infoNd
 refine wpList_append_own_at w hgd s x 222 ho 0 236 i0 _ 1 24 Tryz.underlying222 hi hz0 hz1 hz2 rfl (by decide) v xs.length _ hs hown ⟨g,0,none⟩ 1 1 [y] hx rfl ?_ ?_
  (by unfold maxLen; omega) (by omega) (Nat.zero_le _) ?_
 ·intro j u hj
  cases j with
  | zero=>simp at hj; subst hj; exact hc
  | succ j=>simp at hj
 ·intro u hu; simp at hu; subst hu; exact hy
 ·intro v' w' h1 h2 _ h3
  rcases h1.2 with ⟨_,e⟩ | ⟨g',cap,cur,rfl,hr⟩
  ·omega
  ·refine h g' cap w' ⟨by simp,.inr ⟨g',cap,cur,by simp,by simpa using hr⟩⟩ h2 ?_
   rcases h3 with e | e
   ·exact .inl e.symm
   ·injection e with e; exact .inr e
end
theorem OwnJ.cut {w:World} {g n c k:Nat} {zs:List Int} (h:OwnJ w 0 (.slice (some ⟨g,0,none⟩) n c) zs) (hk:k<=zs.length):OwnJ w 0 (.slice (some ⟨g,0,none⟩) k c) (zs.take k):=by
 rcases h.2 with ⟨e,_⟩ | ⟨g',cap,cur,e,hB,hg,hnc,hcm,hcs,ht⟩
 ·cases e
 ·injection e with e1 e2 e3
  injection e1 with e1
  injection e1 with e1 _ _
  subst e1; subst e3
  have hl:(zs.take k).length=k:=by rw [List.length_take]; omega
  refine ⟨by simp,.inr ⟨g,c,cur,by rw [hl],hB,hg,by omega,hcm,hcs,?_⟩⟩
  rw [hl,List.map_take,<-ht,List.take_take]
  congr 1
  omega

section
variable {w w':World} {T:Nat} {E:Nat->Prop} {s:Tab} {rv fv:Value} {vs:List Value}
theorem TabV.putV {i g c:Nat} {v:Value} {zs:KV} (h:TabV w T E s rv fv vs) (hi:i<vs.length) (hr:rv=.slice (some ⟨g,0,none⟩) vs.length c) (hm:NodeAt w v zs)
  (hl:∀ k q,InWin v k q->(E k∧k≠T∧rv.ownBlock≠some k∧fv.ownBlock≠some k)∧∀ j,j<vs.length->j≠i->¬ InWin (tnv vs j) k q) :
  TabV (w.setCell ⟨g,i,none⟩ v) T E (s.put i zs) rv fv (vs.set i v):=by
 have eg:=h.eN g (by rw [hr]; rfl)
 have k0:∀ k,k≠g->(w.setCell ⟨g,i,none⟩ v).heap[k]?=w.heap[k]?:=fun k q=>Below.heap_setCell _ _ _ _ q
 have gw:∀ k,rv.ownBlock≠some k->k≠g:=fun k e t=>e (by rw [hr,t]; rfl)
 refine ⟨h.row.other (fun e=>eg.2 e) _,?_,own_keep h.free fun k e=>k0 k (gw k (h.eF k e).2.2),by rw [List.length_set,h.len]; show _=(s.nds.set i zs).length; rw [List.length_set],fun j hj=>?_,fun j l k q hj hl' e1 e2=>?_,h.eT,h.eN,h.eF,fun j k q hj e=>?_,fun k e=>?_⟩
 ·rw [List.length_set]
  have rN:=h.nodes
  rw [hr] at rN ⊢
  exact (rN.stored i v).1
 ·rw [List.length_set] at hj
  rw [nv_set hi,Tab.put_nd (by rw [<-h.len]; exact hi)]
  by_cases e:j=i
  ·rw [if_pos e,if_pos e]
   exact hm.keep fun k q f=>k0 k (gw k (hl k q f).1.2.2.1)
  ·rw [if_neg e,if_neg e]
   exact (h.node j hj).keep fun k q f=>k0 k (gw k (h.eW j k q hj f).2.2.1)
 ·rw [List.length_set] at hj hl'
  rw [nv_set hi] at e1 e2
  by_cases c1:j=i
  ·by_cases c2:l=i
   ·omega
   ·rw [if_pos c1] at e1
    rw [if_neg c2] at e2
    exact absurd e2 ((hl k q e1).2 l hl' c2)
  ·by_cases c2:l=i
   ·rw [if_neg c1] at e1
    rw [if_pos c2] at e2
    exact absurd e1 ((hl k q e2).2 j hj c1)
   ·rw [if_neg c1] at e1
    rw [if_neg c2] at e2
    exact h.apart j l k q hj hl' e1 e2
 ·rw [List.length_set] at hj
  rw [nv_set hi] at e
  by_cases c1:j=i
  ·rw [if_pos c1] at e; exact (hl k q e).1
  ·rw [if_neg c1] at e; exact h.eW j k q hj e
 ·have:(w.setCell ⟨g,i,none⟩ v).heap.size=w.heap.size:=by simp [World.setCell]
  rw [this]; exact h.lt k e
theorem nv_push {vs:List Value} {v:Value} (j:Nat) (hj:j<(vs++[v]).length):tnv (vs++[v]) j=if j<vs.length then tnv vs j else v:=by
 unfold tnv
 rw [List.getD_eq_getElem?_getD,List.getD_eq_getElem?_getD]
 by_cases e:j<vs.length
 ·rw [if_pos e,List.getElem?_append_left e]
 ·have:j=vs.length:=by simp at hj; omega
  subst this
  rw [if_neg e]; simp
theorem TabV.pushed {E':Nat->Prop} {v rv':Value} {zs:KV} (h:TabV w T E s rv fv vs) (hm:NodeAt w v zs)
  (hl:∀ k q,InWin v k q->(E k∧k≠T∧rv.ownBlock≠some k∧fv.ownBlock≠some k)∧∀ j,j<vs.length->¬ InWin (tnv vs j) k q)
  (ho:w'.ownsRow 0 236 1 rv' (vs++[v]).length (vs++[v])) (hg:w.grownBy w' rv.ownBlock) (hb:rv'.ownBlock=rv.ownBlock∨rv'.ownBlock=some w.heap.size)
  (hE:∀ k,E k->E' k) (hE2:∀ k,w.heap.size<=k->k<w'.heap.size->E' k) (hlt:∀ k,E' k->k<w'.heap.size) :
  TabV (w'.setCell ⟨T,0,none⟩ rv') T E' { s with nds:=s.nds++[zs] } rv' fv (vs++[v]):=by
 have k1:∀ k,E k->rv.ownBlock≠some k->w'.heap[k]?=w.heap[k]?:=fun k e n=>hg.block k (h.lt k e) (fun q=>n q.symm)
 have k2:∀ k,k≠T->(w'.setCell ⟨T,0,none⟩ rv').heap[k]?=w'.heap[k]?:=fun k q=>Below.heap_setCell _ _ _ _ q
 have nb:∀ k,E k->rv.ownBlock≠some k->rv'.ownBlock≠some k:=fun k e n q=>by
  rcases hb with b | b
  ·exact n (b.symm.trans q)
  ·rw [b] at q
   injection q with q
   have:=h.lt k e; omega
 have rT:RowAt w' T _ _:=(k1 T h.eT (fun e=>(h.eN T e).2 rfl)).trans h.row
 have r:=rT.set 0 rv'
 have ln:=h.len
 have wk:∀ j k q,j<(vs++[v]).length->InWin (tnv (vs++[v]) j) k q->E k∧k≠T∧rv.ownBlock≠some k∧fv.ownBlock≠some k:=fun j k q hj e=>by
  rw [nv_push j hj] at e
  by_cases c:j<vs.length
  ·rw [if_pos c] at e; exact h.eW j k q c e
  ·rw [if_neg c] at e; exact (hl k q e).1
 have nT:rv'.ownBlock≠some T:=nb T h.eT (fun e=>(h.eN T e).2 rfl)
 refine ⟨r,own_keep ho fun k e=>k2 k (fun t=>nT (by rw [<-t]; exact e)),own_keep (own_keep h.free fun k e=>k1 k (h.eF k e).1 (h.eF k e).2.2) fun k e=>k2 k (h.eF k e).2.1,by simp [ln],fun j hj=>?_,fun j l k q hj hl' e1 e2=>?_,hE T h.eT,fun k e=>⟨?_,fun t=>nT (by rw [<-t]; exact e)⟩,fun k e=>⟨hE k (h.eF k e).1,(h.eF k e).2.1,nb k (h.eF k e).1 (h.eF k e).2.2⟩,fun j k q hj e=>?_,fun k e=>?_⟩
 ·have wj:=wk j
  rw [nv_push j hj] at wj ⊢
  unfold Tab.nd
  show NodeAt _ _ ((s.nds++[zs]).getD j [])
  rw [List.getD_eq_getElem?_getD]
  by_cases c:j<vs.length
  ·rw [if_pos c] at wj ⊢
   rw [List.getElem?_append_left (by omega)]
   have:=(h.node j c).keep fun k q f=>(k2 k (wj k q hj f).2.1).trans (k1 k (wj k q hj f).1 (wj k q hj f).2.2.1)
   rw [<-List.getD_eq_getElem?_getD]; exact this
  ·rw [if_neg c] at wj ⊢
   have:j=s.nds.length:=by simp at hj; omega
   subst this
   simp only [List.getElem?_concat_length,Option.getD_some]
   exact hm.keep fun k q f=>(k2 k (wj k q hj f).2.1).trans (k1 k (wj k q hj f).1 (wj k q hj f).2.2.1)
 ·rw [nv_push j hj] at e1
  rw [nv_push l hl'] at e2
  by_cases c1:j<vs.length
  ·rw [if_pos c1] at e1
   by_cases c2:l<vs.length
   ·rw [if_pos c2] at e2; exact h.apart j l k q c1 c2 e1 e2
   ·rw [if_neg c2] at e2; exact absurd e1 ((hl k q e2).2 j c1)
  ·rw [if_neg c1] at e1
   by_cases c2:l<vs.length
   ·rw [if_pos c2] at e2; exact absurd e2 ((hl k q e1).2 l c2)
   ·simp at hj hl'; omega
 ·rcases hb with b | b
  ·exact hE k (h.eN k (b.symm.trans e)).1
  ·have:=World.ownsRow.lt ho k e
   rw [b] at e
   injection e with e
   exact hE2 k (by omega) this.2
 ·have:=wk j k q hj e
  exact ⟨hE k this.1,this.2.1,nb k this.1 this.2.2.1,this.2.2.2⟩
 ·have:(w'.setCell ⟨T,0,none⟩ rv').heap.size=w'.heap.size:=by simp [World.setCell]
  rw [this]; exact hlt k e
theorem TabV.freed {E':Nat->Prop} {fv':Value} {l:List Nat} (h:TabV w T E s rv fv vs) (ho:OwnJ w' 0 fv' (frees l)) (hg:w.grownBy w' fv.ownBlock) (hb:fv'.ownBlock=fv.ownBlock∨fv'.ownBlock=some w.heap.size)
  (hE:∀ k,E k->E' k) (hE2:∀ k,w.heap.size<=k->k<w'.heap.size->E' k) (hlt:∀ k,E' k->k<w'.heap.size) :
  TabV (w'.setCell ⟨T,1,none⟩ fv') T E' { s with free:=l } rv fv' vs:=by
 have k1:∀ k,E k->fv.ownBlock≠some k->w'.heap[k]?=w.heap[k]?:=fun k e n=>hg.block k (h.lt k e) (fun q=>n q.symm)
 have k2:∀ k,k≠T->(w'.setCell ⟨T,1,none⟩ fv').heap[k]?=w'.heap[k]?:=fun k q=>Below.heap_setCell _ _ _ _ q
 have nb:∀ k,E k->fv.ownBlock≠some k->fv'.ownBlock≠some k:=fun k e n q=>by
  rcases hb with b | b
  ·exact n (b.symm.trans q)
  ·rw [b] at q
   injection q with q
   have:=h.lt k e; omega
 have nT:fv'.ownBlock≠some T:=nb T h.eT (fun e=>(h.eF T e).2.1 rfl)
 have rT:RowAt w' T _ _:=(k1 T h.eT (fun e=>(h.eF T e).2.1 rfl)).trans h.row
 have r:=rT.set 1 fv'
 have fN:∀ k,rv.ownBlock=some k->fv.ownBlock≠some k:=fun k e q=>(h.eF k q).2.2 e
 refine ⟨r,own_keep (own_keep h.nodes fun k e=>k1 k (h.eN k e).1 (fN k e)) fun k e=>k2 k (h.eN k e).2,own_keep ho fun k e=>k2 k (fun t=>nT (by rw [<-t]; exact e)),h.len,fun j hj=>(h.node j hj).keep fun k q f=>(k2 k (h.eW j k q hj f).2.1).trans (k1 k (h.eW j k q hj f).1 (h.eW j k q hj f).2.2.2),h.apart,hE T h.eT,
  fun k e=>⟨hE k (h.eN k e).1,(h.eN k e).2⟩,fun k e=>⟨?_,fun t=>nT (by rw [<-t]; exact e),fun q=>?_⟩,fun j k q hj e=>⟨hE k (h.eW j k q hj e).1,(h.eW j k q hj e).2.1,(h.eW j k q hj e).2.2.1,nb k (h.eW j k q hj e).1 (h.eW j k q hj e).2.2.2⟩,fun k e=>?_⟩
 ·rcases hb with b | b
  ·exact hE k (h.eF k (b.symm.trans e)).1
  ·have:=World.ownsRow.lt ho k e
   rw [b] at e
   injection e with e
   exact hE2 k (by omega) this.2
 ·exact nb k (h.eN k q).1 (fN k q) e
 ·have:(w'.setCell ⟨T,1,none⟩ fv').heap.size=w'.heap.size:=by simp [World.setCell]
  rw [this]; exact hlt k e
theorem TabV.grow {E':Nat->Prop} (h:TabV w T E s rv fv vs) (hE:∀ k,E k->E' k) (hlt:∀ k,E' k->k<w.heap.size):TabV w T E' s rv fv vs :=
 ⟨h.row,h.nodes,h.free,h.len,h.node,h.apart,hE T h.eT,fun k e=>⟨hE k (h.eN k e).1,(h.eN k e).2⟩,fun k e=>⟨hE k (h.eF k e).1,(h.eF k e).2⟩,fun i k q hi e=>⟨hE k (h.eW i k q hi e).1,(h.eW i k q hi e).2⟩,hlt⟩
end

def Tab.place (s:Tab):Nat:=match s.free.getLast? with
 | none=>s.nds.length
 | some p=>p
def Tab.take (s:Tab) (zs:KV):Tab:=match s.free.getLast? with
 | none=>{ s with nds:=s.nds++[zs] }
 | some p=>{ s with nds:=s.nds.set p zs,free:=s.free.dropLast }
def TookP (w:World) (T:Nat) (E:Nat->Prop) (s:Tab) (rv fv:Value) (zs:KV) (w':World):Prop :=
 LeftP w T E (s.take zs) w'∧∀ k,k<w.heap.size->k≠T->rv.ownBlock≠some k->fv.ownBlock≠some k->w'.heap[k]?=w.heap[k]?

theorem xTakeN (w:World) (T:Nat) (E:Nat->Prop) (s:Tab) (rv fv:Value) (vs:List Value) (A:Option Addr) (n c:Nat) (zs:KV) (h:TabV w T E s rv fv vs) (hm:NodeAt w (.slice A n c) zs)
  (hl:∀ k q,InWin (.slice A n c) k q->(E k∧k≠T∧rv.ownBlock≠some k∧fv.ownBlock≠some k)∧∀ j,j<vs.length->¬ InWin (tnv vs j) k q) (hf:s.free=[]) (hn:vs.length<=900000) :
  Calls Tryz.prog 157 #[Ptr T,.slice A n c] w fun x w'=>x=.returned (.int .i64 s.place)∧TookP w T E s rv fv zs w':=by
 have hp:s.place=vs.length:=by unfold Tab.place; rw [hf,h.len]; rfl
 have ht:s.take zs={ s with nds:=s.nds++[zs] }:=by unfold Tab.take; rw [hf]; rfl
 have c0:=h.row.cell 0
 have c1:=h.row.cell 1
 simp only [geS] at c0 c1
 have f0:=h.row.frozen 0
 obtain ⟨A1,cf,rfl,_⟩:=h.free.form
 rw [hf] at c1
 simp only [frees,List.map_nil,List.length_nil] at c1
 obtain ⟨A0,cn,hrv,_⟩:∃ A0 cn,rv=.slice A0 vs.length cn∧True:=by
  rcases h.nodes.2 with ⟨e,e0⟩ | ⟨g,cap,cur,e,_⟩
  ·exact ⟨none,0,by rw [e,e0],trivial⟩
  ·exact ⟨_,cap,e,trivial⟩
 subst hrv
 have H:=qh h
 have HM:=qh hm
 have HL:=qh hl
 have lT:=h.lt T h.eT
 unfold TookP
 rw [hp,ht]
 clear h hm hl hp ht hf
 obtain ⟨w1,hw1⟩:=nmq (w.alloc (.cells #[.slice A n c] 236))
 have B1:=qh (show Below w.heap.size w w1 by rw [hw1]; exact (Below.refl _ _).alloc (Nat.le_refl _) _)
 have S1:=qh (show w1.heap.size=w.heap.size+1 by rw [hw1]; simp)
 have CQ:=qh (show w1.cell? ⟨w.heap.size,0,none⟩=some (.slice A n c) by rw [hw1]; exact cell_new1 w _ _)
 have H1:=qh (H.out.below B1.out)
 have HM1:=qh (HM.out.keep (w':=w1) fun k q e=>B1.out.block k (InWin.lt HM.out e))
 have HW1:=qh hw1
 obtain ⟨m,hm⟩:=nmq (vs.length)
 have HMM:=qh hm
 rw [<-hm] at c0 hn ⊢
 have nT:Value.ownBlock (.slice A0 vs.length cn)≠some T:=fun e=>(H.out.eN T e).2 rfl
 have NT:=qh nT
 clear hw1 hm nT
 go_enter Tryz.func157,Tryz.ntmps157
 go_wp2_with (at_builtin; refine wp_putNd rfl (.tmp 19) (.tmp 21) rfl (.slice A0 vs.length cn) vs (by rw [<-HMM.out]; rfl) (by rw [<-HW1.out]; exact H1.out.nodes) w.heap.size (.slice A n c) rfl rfl (by rw [<-HW1.out]; exact CQ.out) (by rw [<-HMM.out]; omega) ?_; intro g' c' w2 ho hg hb; rw [<-HW1.out] at hg hb; have HO:=qh ho; have HG:=qh hg; have HB:=qh hb; have c0':w2.cell? ⟨T,0,none⟩=some (.slice A0 m cn):=(World.cell?_of_block (a:=⟨T,0,none⟩) (hg.block T (by rw [S1.out]; omega) (fun e=>NT.out e.symm))).trans ((World.cell?_of_block (a:=⟨T,0,none⟩) (B1.out.block T lT)).trans c0); have f0':w2.frozen? ⟨T,0,none⟩=false:=(World.frozen?_of_block (a:=⟨T,0,none⟩) (hg.block T (by rw [S1.out]; omega) (fun e=>NT.out e.symm))).trans ((World.frozen?_of_block (a:=⟨T,0,none⟩) (B1.out.block T lT)).trans f0); clear ho hg hb; rw [<-HMM.out])
 go_ret
 have hm:=HMM.out
 have sz:=HG.out.size
 have s1:=S1.out
 have hl:∀ k q,InWin (.slice A n c) k q->(E k∧k≠T∧Value.ownBlock (.slice A0 vs.length cn)≠some k∧Value.ownBlock (.slice A1 (frees s.free).length cf)≠some k)∧∀ j,j<vs.length->¬ InWin (tnv vs j) k q:=HL.out
 refine ⟨ret_int (by omega),⟨fun k=>k<w2.heap.size∧(E k∨w.heap.size<=k),⟨_,_,_,H1.out.pushed (w':=w2) (E':=fun k=>k<w2.heap.size∧(E k∨w.heap.size<=k)) HM1.out hl (by rw [hm]; exact HO.out) HG.out ?_ (fun k e=>⟨?_,.inl e⟩) (fun k e f=>⟨f,.inr (by omega)⟩) (fun k e=>e.1)⟩,fun k e=>e.2,?_⟩,fun k hk kT kr _=>?_⟩
 ·rcases HB.out with e | e
  ·exact .inl e.symm
  ·exact .inr (by show some g'=_; rw [e])
 ·have:=H.out.lt k e; omega
 ·refine Chg.setCell (Chg.grown (Chg.of_below B1.out) HG.out fun k e=>.inl (H.out.eN k e).1) (.inl H.out.eT) _
 ·exact ((Below.heap_setCell _ _ _ _ kT).trans (HG.out.block k (by omega) (fun e=>kr (by rw [hm]; exact e.symm)))).trans (B1.out.block k hk)

theorem xTakeF (w:World) (T:Nat) (E:Nat->Prop) (s:Tab) (rv fv:Value) (vs:List Value) (A:Option Addr) (n c:Nat) (zs:KV) (h:TabV w T E s rv fv vs) (hm:NodeAt w (.slice A n c) zs)
  (hl:∀ k q,InWin (.slice A n c) k q->(E k∧k≠T∧rv.ownBlock≠some k∧fv.ownBlock≠some k)∧∀ j,j<vs.length->¬ InWin (tnv vs j) k q) (p:Nat) (fr:List Nat) (hf:s.free=fr++[p]) (hp:p<vs.length) (hn:s.free.length<=900000) :
  Calls Tryz.prog 157 #[Ptr T,.slice A n c] w fun x w'=>x=.returned (.int .i64 s.place)∧TookP w T E s rv fv zs w':=by
 have hpl:s.place=p:=by unfold Tab.place; rw [hf,List.getLast?_concat]
 have ht:s.take zs={ s with nds:=s.nds.set p zs,free:=fr }:=by unfold Tab.take; rw [hf,List.getLast?_concat,List.dropLast_concat]
 have c0:=h.row.cell 0
 have c1:=h.row.cell 1
 simp only [geS] at c0 c1
 have f1:=h.row.frozen 1
 obtain ⟨g,cn,rfl,hg,gT,hc⟩:=h.rowAt (by omega)
 obtain ⟨cg,fg⟩:=hc p hp
 obtain ⟨m,hmm⟩:=nmq (fr.length)
 have lf:(frees s.free).length=m+1:=by rw [hf]; simp [frees,hmm]
 obtain ⟨g2,cf,rfl,hmc,cm⟩:∃ g2 cf,fv=.slice (some ⟨g2,0,none⟩) (m+1) cf∧m+1<=cf∧w.cell? ⟨g2,m,none⟩=some (.int .i64 p):=by
  have h2:=h.free
  rcases h2.2 with ⟨_,e⟩ | ⟨g2,cap,cur,e,_,_,hnc,_⟩
  ·omega
  ·refine ⟨g2,cap,by rw [e,lf],by omega,?_⟩
   have h3:=h2
   unfold OwnJ at h3
   rw [e] at h3
   rw [h3.cellAt m (by omega),hf]
   simp [frees,hmm]
 have bg2:=h.eF g2 rfl
 have H:=qh h
 have HM:=qh hm
 have HL:=qh hl
 unfold TookP
 have h1:OwnJ w 0 (.slice (some ⟨g2,0,none⟩) m cf) (frees fr):=by
  have h2:=(h.free).cut (k:=m) (by omega)
  have e:(frees s.free).take m=frees fr:=by rw [hf]; unfold frees; rw [List.map_append,List.take_append_of_le_length (by simp [hmm]),List.take_of_length_le (by simp [hmm])]
  rwa [e] at h2
 have v1:=qh (h.freed (w':=w) (E':=E) (fv':=.slice (some ⟨g2,0,none⟩) m cf) (l:=fr) h1 ⟨rfl,rfl,rfl,Nat.le_refl _,fun _ _ _=>rfl⟩ (.inl rfl) (fun _ e=>e) (fun k e f=>by omega) h.lt)
 have HNV:=qh (show w.cell? ⟨g,p,none⟩=some (tnv vs p) from cg)
 obtain ⟨N,hN⟩:=nmq (vs.length)
 have HN:=qh hN
 obtain ⟨pv,hpv⟩:=nmq (tnv vs p)
 have mi:(m:Int)+1-1=(m:Int):=by omega
 rw [<-hpv] at cg
 rw [hpl,ht]
 have HP:=qh hp
 rw [<-hN] at c0 hp
 have m0:¬ ((m:Int)<0):=by omega
 have mc:m<=cf:=by omega
 have HF:=qh hf
 have cfm:cf<=maxLen:=by
  rcases h.free.2 with ⟨e,_⟩ | ⟨_,_,_,e,_,_,_,q,_⟩
  ·cases e
  ·injection e with _ _ e; rw [e]; exact q
 unfold maxLen at cfm
 have ml:m+1<=900000:=by rw [<-lf]; unfold frees; rw [List.length_map]; exact hn
 have gT':=gT
 have g2T:=bg2.2.1
 clear h hm hl hc hpl ht lf h1 hN hpv hf hn hmm
 go_enter Tryz.func157,Tryz.ntmps157
 go_wp2_with fail
 go_ret
 have kT:∀ k,k≠T->(w.setCell ⟨T,1,none⟩ (.slice (some ⟨g2,0,none⟩) m cf)).heap[k]?=w.heap[k]?:=fun k q=>Below.heap_setCell _ _ _ _ q
 refine ⟨rfl,⟨E,⟨_,_,_,v1.out.putV (zs:=zs) HP.out rfl (HM.out.keep fun k q e=>kT k (HL.out k q e).1.2.1) (fun k q e=>⟨(HL.out k q e).1,fun j hj _=>(HL.out k q e).2 j hj⟩)⟩,fun k e=>.inl e,Chg.setCell (Chg.setCell (Chg.refl E w) (.inl H.out.eT) _) (.inl hg) _⟩,fun k _ k1 k2 _=>?_⟩
 exact (Below.heap_setCell _ _ _ _ (fun (t:k=g)=>k2 (by rw [t]; rfl))).trans (kT k k1)

theorem xTake (w:World) (T:Nat) (E:Nat->Prop) (s:Tab) (rv fv:Value) (vs:List Value) (A:Option Addr) (n c:Nat) (zs:KV) (h:TabV w T E s rv fv vs) (hm:NodeAt w (.slice A n c) zs)
  (hl:∀ k q,InWin (.slice A n c) k q->(E k∧k≠T∧rv.ownBlock≠some k∧fv.ownBlock≠some k)∧∀ j,j<vs.length->¬ InWin (tnv vs j) k q) (hf:∀ p,p ∈ s.free->p<s.nds.length) (hn:s.nds.length<=900000) (hn2:s.free.length<=900000) :
  Calls Tryz.prog 157 #[Ptr T,.slice A n c] w fun x w'=>x=.returned (.int .i64 s.place)∧TookP w T E s rv fv zs w':=by
 rcases List.eq_nil_or_concat s.free with e | ⟨fr,p,e⟩
 ·exact xTakeN w T E s rv fv vs A n c zs h hm hl e (by rw [h.len]; exact hn)
 ·rw [List.concat_eq_append] at e
  exact xTakeF w T E s rv fv vs A n c zs h hm hl p fr e (by rw [h.len]; exact hf p (by rw [e]; simp)) hn2

end Go.Proofs.YtoljhoabbaigdaaGreat

namespace Go.Proofs.YtoljhoabbaigdaaGreat
open Go.RowKit

def Tab.off (s:Tab) (p:Nat):Tab:={ s.put p [] with free:=s.free++[p] }
theorem TabV.win {w:World} {T:Nat} {E:Nat->Prop} {s:Tab} {rv fv:Value} {vs:List Value} (h:TabV w T E s rv fv vs) {p:Nat} (hp:p<vs.length) (h0:0<(s.nd p).length):∃ b o c,tnv vs p=.slice (some ⟨b,o,none⟩) (s.nd p).length c∧WinAt w b o c (s.nd p):=by
 rcases h.node p hp with ⟨_,e⟩ | h
 ·rw [e] at h0; exact absurd h0 (by simp)
 ·exact h

theorem xPart (w:World) (T:Nat) (E:Nat->Prop) (s:Tab) (p:Nat) (h:TabG w T E s) (hp:p<s.nds.length) (h3:3<(s.nd p).length) (hf:∀ q,q ∈ s.free->q<s.nds.length) (hn:s.nds.length<=900000) (hn2:s.free.length<=900000) :
  Calls Tryz.prog 160 #[Ptr T,.int .i64 p] w fun x w'=>x=.returned (.agg #[.string ((s.nd p).key 3),.int .i64 s.place])∧LeftP w T E ((s.put p ((s.nd p).take 3)).take ((s.nd p).drop 3)) w':=by
 obtain ⟨rv,fv,vs,h⟩:=h
 have hp':p<vs.length:=by rw [h.len]; exact hp
 obtain ⟨g,c,hrv,hg,gT,hc⟩:=h.rowAt (by omega)
 obtain ⟨b,o,cp,ev,hw⟩:=h.win hp' (by omega)
 have hW:=h.eW p b o hp' ⟨o,_,cp,ev,Nat.le_refl _,by have:=hw.pos; omega⟩
 have hfit:=hw.fit
 have hcm:=hw.cap
 unfold maxLen at hcm
 obtain ⟨q,hq⟩:=nmq (w.heap.size)
 obtain ⟨w1,hw1⟩:=nmq (w.alloc (.cells #[.string ⟨#[]⟩,.int .i64 0] 221))
 have B1:Below w.heap.size w w1:=by rw [hw1]; exact (Below.refl _ _).alloc (Nat.le_refl _) _
 have s1:w1.heap.size=q+1:=by rw [hw1,hq]; simp
 have r1:RowAt w1 q [.string ⟨#[]⟩,.int .i64 0] 221:=by rw [hw1,hq]; exact RowAt.new w _ _
 have v1:=h.below B1
 have cg1:w1.cell? ⟨g,p,none⟩=some (.slice (some ⟨b,o,none⟩) (s.nd p).length cp):=by
  have e:=(B1.cell (p:=⟨g,p,none⟩) (h.lt g hg)).trans (hc p hp').1
  rw [ev] at e; exact e
 have fg1:w1.frozen? ⟨g,p,none⟩=false:=(World.frozen?_of_block (a:=⟨g,p,none⟩) (B1.block g (h.lt g hg))).trans (hc p hp').2
 have c01:=v1.row.cell 0
 simp only [List.getElem?_cons_zero] at c01
 rw [hrv] at c01
 have bg:b≠g:=fun e=>hW.2.2.1 (by rw [hrv,e]; rfl)
 have c00:=h.row.cell 0
 simp only [List.getElem?_cons_zero] at c00
 rw [hrv] at c00
 have cg0:=(hc p hp').1
 rw [ev] at cg0
 have e3:((s.nd p).take 3).length=3:=by rw [List.length_take]; omega
 have n3:NodeAt w1 (.slice (some ⟨b,o,none⟩) 3 3) ((s.nd p).take 3):=by
  have hw1':NodeAt w1 _ _:=v1.node p hp'
  rw [ev] at hw1'
  rcases hw1' with ⟨e,_⟩ | ⟨b',o',c',e,k⟩
  ·cases e
  ·injection e with a1 a2 a3
   injection a1 with a1
   injection a1 with a1 a4 _
   subst a1; subst a4; subst a3
   refine .inr ⟨b,o,3,by rw [e3],by rw [e3]; exact Nat.le_refl _,by decide,by decide,(rangeAt_part k.row 3 (by omega)).1,fun j hj=>k.there j (by omega),k.plain⟩
 have n4:NodeAt w1 (.slice (some ⟨b,o+3 * 2,none⟩) ((s.nd p).length-3) (cp-3)) ((s.nd p).drop 3):=by
  have hw1':NodeAt w1 _ _:=v1.node p hp'
  rw [ev] at hw1'
  rcases hw1' with ⟨e,_⟩ | ⟨b',o',c',e,k⟩
  ·cases e
  ·injection e with a1 a2 a3
   injection a1 with a1
   injection a1 with a1 a4 _
   subst a1; subst a4; subst a3
   refine .inr ⟨b,o+3 * 2,cp-3,by rw [List.length_drop],by rw [List.length_drop]; omega,by unfold maxLen; omega,by omega,(rangeAt_part k.row 3 (by omega)).2,fun j hj=>?_,k.plain⟩
   have:=k.there (3 * 2+j) (by omega)
   rwa [<-Nat.add_assoc] at this
 have inw:∀ k j,InWin (.slice (some ⟨b,o,none⟩) 3 3) k j->InWin (tnv vs p) k j:=fun k j ⟨_,_,_,e,h1,h2⟩=>by
  injection e with a1 a2 a3
  injection a1 with a1
  injection a1 with a1 a4 _
  rw [ev,<-a1]; exact ⟨o,_,cp,rfl,by omega,by omega⟩
 have inw4:∀ k j,InWin (.slice (some ⟨b,o+3 * 2,none⟩) ((s.nd p).length-3) (cp-3)) k j->InWin (tnv vs p) k j∧¬ InWin (.slice (some ⟨b,o,none⟩) 3 3) k j:=fun k j ⟨_,_,_,e,h1,h2⟩=>by
  injection e with a1 a2 a3
  injection a1 with a1
  injection a1 with a1 a4 _
  rw [ev,<-a1]; refine ⟨⟨o,_,cp,rfl,by omega,by omega⟩,fun ⟨_,_,_,e,k1,k2⟩=>?_⟩
  injection e with c1 c2 c3
  injection c1 with c1
  injection c1 with c1 c4 _
  omega
 obtain ⟨w2,hw2⟩:=nmq ((w1.setCell ⟨g,p,none⟩ (.slice (some ⟨b,o,none⟩) 3 3)).drew.drew)
 have v2:TabV w2 T E (s.put p ((s.nd p).take 3)) rv fv (vs.set p (.slice (some ⟨b,o,none⟩) 3 3)):=by
  rw [hw2]
  refine TabV.below (w:=w1.setCell ⟨g,p,none⟩ (.slice (some ⟨b,o,none⟩) 3 3)) ?_ (Below.refl _ _).drew.drew
  exact v1.putV hp' hrv n3 fun k j e=>⟨h.eW p k j hp' (inw k j e),fun i hi hne f=>hne (h.apart i p k j hi hp' f (inw k j e))⟩
 have k2:∀ k,k≠g->w2.heap[k]?=w1.heap[k]?:=fun k hk=>by rw [hw2]; exact Below.heap_setCell w1 _ _ _ hk
 have s2:w2.heap.size=q+1:=by rw [hw2]; show (w1.setCell _ _).heap.size=_; simp [World.setCell,s1]
 have qg:q≠g:=by have:=h.lt g hg; omega
 have bq:b≠q:=by have:=h.lt b hW.1; omega
 have qT:q≠T:=by have:=h.lt T h.eT; omega
 have r2:RowAt w2 q [.string ⟨#[]⟩,.int .i64 0] 221:=(k2 q qg).trans r1
 obtain ⟨K,hK⟩:=nmq ((s.nd p).key 3)
 have ck:w2.cell? ⟨b,o+3 * 2,none⟩=some (.string K):=by
  rw [World.cell?_of_block (a:=⟨b,o+3 * 2,none⟩) (k2 b bg),World.cell?_of_block (a:=⟨b,o+3 * 2,none⟩) (B1.block b (h.lt b hW.1)),hK]
  exact (hw.cells 3 h3).1
 have TC:=qh (xTake w2 T E _ rv fv _ _ _ _ _ v2 (n4.keep (w':=w2) fun k j e=>k2 k (fun t=>(h.eW p k j hp' (inw4 k j e).1).2.2.1 (by rw [hrv,t]; rfl))) (fun k j e=>⟨h.eW p k j hp' (inw4 k j e).1,fun i hi f=>by
   rw [List.length_set] at hi
   rw [nv_set hp'] at f
   by_cases t:i=p
   ·rw [if_pos t] at f; exact (inw4 k j e).2 f
   ·rw [if_neg t] at f; exact t (h.apart i p k j hi hp' f (inw4 k j e).1)⟩) (fun q hq=>by show q<(s.nds.set p _).length; rw [List.length_set]; exact hf q hq) (by show (s.nds.set p _).length<=_; rw [List.length_set]; exact hn) hn2)
 have pl:(s.put p ((s.nd p).take 3)).place=s.place:=by
  have e:(s.put p ((s.nd p).take 3)).nds.length=s.nds.length:=List.length_set
  unfold Tab.place
  rw [e]; rfl
 rw [pl] at TC
 have FIN:=qh (show ∀ w3,TookP w2 T E (s.put p ((s.nd p).take 3)) rv fv ((s.nd p).drop 3) w3->∀ u1 u2,LeftP w T E ((s.put p ((s.nd p).take 3)).take ((s.nd p).drop 3)) ((w3.setCell ⟨q,0,none⟩ u1).setCell ⟨q,1,none⟩ u2) from fun w3 ⟨⟨E3,h3,a3,c3⟩,_⟩ u1 u2=>by
  have nq:∀ k,E3 k->k≠q:=fun k e t=>by
   rcases a3 k e with f | f
   ·have:=h.lt k f; omega
   ·omega
  refine ⟨E3,h3.keep (fun k e=>(Below.heap_setCell _ _ _ _ (by exact nq k e)).trans (Below.heap_setCell _ _ _ _ (by exact nq k e))) (by simp [World.setCell]),fun k e=>?_,?_⟩
  ·rcases a3 k e with f | f
   ·exact .inl f
   ·exact .inr (by omega)
  ·refine Chg.setCell (Chg.setCell (Chg.then ?_ c3) (.inr (by show w.heap.size<=q; omega)) _) (.inr (by show w.heap.size<=q; omega)) _
   rw [hw2]; exact (Chg.setCell (Chg.of_below B1) (.inl hg) _).drew.drew)
 have S2:=qh (show ∀ w3,TookP w2 T E (s.put p ((s.nd p).take 3)) rv fv ((s.nd p).drop 3) w3->w3.cell? ⟨b,o+3 * 2,none⟩=some (.string K)∧RowAt w3 q [.string ⟨#[]⟩,.int .i64 0] 221 from fun w3 h3=>by
  refine ⟨(World.cell?_of_block (a:=⟨b,o+3 * 2,none⟩) (h3.2 b (by rw [s2]; have:=h.lt b hW.1; omega) hW.2.1 hW.2.2.1 hW.2.2.2)).trans ck,(h3.2 q (by omega) qT (fun e=>?_) (fun e=>?_)).trans r2⟩
  ·have:=h.lt q (h.eN q e).1; omega
  ·have:=h.lt q (h.eF q e).1; omega)
 have c02:w2.cell? ⟨T,0,none⟩=some (.slice (some ⟨g,0,none⟩) vs.length c):=by
  have:=v2.row.cell 0
  simp only [List.getElem?_cons_zero] at this
  rw [hrv] at this; exact this
 obtain ⟨n,hn'⟩:=nmq (vs.length)
 obtain ⟨m,hm⟩:=nmq ((s.nd p).length)
 rw [<-hn'] at c00 c01 c02 hp'
 rw [<-hm] at cg0 cg1 TC h3 hfit
 rw [<-hK]
 have m3:3<=m:=by omega
 have c3:3<=cp:=by omega
 have c3z:(3:Int)<=(cp:Int):=by omega
 have m3z:(3:Int)<=(m:Int):=by omega
 have m3y:(3:Int)<(m:Int):=by omega
 have mcz:(m:Int)<=(cp:Int):=by omega
 have c3':¬ (cp=3):=by omega
 have C01:=qh c01
 have C02:=qh c02
 have HW1:=qh hw1
 have HW2:=qh hw2
 have HQ:=qh hq
 have R2:=qh r2
 have CK:=qh ck
 have CG1:=qh cg1
 rw [hw1] at c01 cg1
 clear hw1 hw2 hq
 clear v1 v2 h hw hc hW ev inw inw4 n3 n4 e3 k2 r1 B1 s1 hn' hm pl hK hn hn2 hf hp s2 r2
 have G3:((3:Int)).toNat=3:=rfl
 go_enter Tryz.func160,Tryz.ntmps160
 go_wp2_with fail
 rw [<-HW1.out]
 try rw [<-HQ.out]
 have c1:=C01.out
 have cg2:=CG1.out
 refine wp_region_held_drew (S:=(fun w'=>w'.cell? ⟨T,0,none⟩=some (.slice (some ⟨g,0,none⟩) n c))) (by kernel_rfl) (c1) (fun gH=>?_)
 have gH':=gH
 refine rgT 0 (v:=?v1) ?y1 gH ?_
 case y1=>(intro v hSw; go_simp<;>rfl)
 refine rgT 1 (v:=?v2) ?y2 gH ?_
 case y2=>(intro v hSw; go_simp<;>rfl)
 refine rgT 2 (v:=?v3) ?y3 gH ?_
 case y3=>(intro v hSw; go_simp<;>rfl)
 try simp only [putS]
 refine rgT 3 (v:=?v4) ?y4 gH ?_
 case y4=>(intro v hSw; go_simp<;>rfl)
 refine rgT 4 (v:=?v5) ?y5 gH ?_
 case y5=>(intro v hSw; go_simp<;>rfl)
 refine rgT 5 (v:=?v6) ?y6 gH ?_
 case y6=>(intro v hSw; go_simp<;>rfl)
 try simp only [putS]
 refine rgT 6 (v:=?v7) ?y7 gH ?_
 case y7=>(intro v hSw; go_simp<;>rfl)
 refine rgT 7 (v:=?v8) ?y8 gH ?_
 case y8=>(intro v hSw; go_simp<;>rfl)
 try simp only [putS]
 refine rgO 8 fun K hK=>?_
 go_simp
 refine hK.out _ _ ((by have:=C02.out; rw [HW2.out] at this; exact this)) (fun gH=>?_)
 clear hK K
 try simp only [putS]
 refine rgD ?_
 go_wp2_with fail
 have c3n:(if cp=3 then (some ⟨b,o,none⟩:Option Addr) else some ⟨b,o+3 * 2,none⟩)=some ⟨b,o+3 * 2,none⟩:=if_neg c3'
 have S0:(w1.setCell ⟨g,p,none⟩ (.slice (some ⟨b,o,none⟩) 3 3)).drew.cell? ⟨b,o+3 * 2,none⟩=some (.string K):=by have:=CK.out; rw [HW2.out] at this; exact this
 clear cg2 c1 cg1 cg0 c01 c00 fg1 gH'
 refine wp_region_held_drew (S:=(fun w'=>w'.cell? ⟨b,o+3 * 2,none⟩=some (.string K))) (by kernel_rfl) (S0) (fun gH=>?_)
 rw [<-HW2.out] at gH ⊢
 refine rgT 0 (v:=?v9) ?y9 gH ?_
 case y9=>(intro v hSw; go_simp<;>rfl)
 refine rgT 1 (v:=?v10) ?y10 gH ?_
 case y10=>(intro v hSw; go_simp<;>rfl)
 refine rgT 2 (v:=?v11) ?y11 gH ?_
 case y11=>(intro v hSw; go_simp<;>rfl)
 try simp only [putS]
 refine rgT 3 (v:=?v12) ?y12 gH ?_
 case y12=>(intro v hSw; go_simp<;>rfl)
 refine rgT 4 (v:=?v13) ?y13 gH ?_
 case y13=>(intro v hSw; go_simp<;>rfl)
 refine rgT 5 (v:=?v14) ?y14 gH ?_
 case y14=>(intro v hSw; go_simp<;>rfl)
 try simp only [putS]
 refine rgT 6 (v:=?v15) ?y15 gH ?_
 case y15=>(intro v hSw; go_simp<;>rfl)
 try simp only [putS]
 refine rgO 7 fun K hK=>?_
 go_simp
 refine TC.out.mono ?_
 rintro r w3 ⟨rfl,ht⟩
 have T3:=qh ht
 have R3:=qh (S2.out w3 ht).2
 clear ht
 refine hK.out _ _ ((S2.out w3 T3.out).1) (fun gH=>?_)
 clear hK K
 refine rgT 8 (v:=?v16) ?y16 gH ?_
 case y16=>(intro v hSw; go_simp<;>rfl)
 try simp only [putS]
 have q0:=R3.out.cell 0
 have q1:=R3.out.cell 1
 have z0:=R3.out.frozen 0
 have z1:=R3.out.frozen 1
 simp only [geS] at q0 q1
 have k3:∀ u1 u2,((w3.setCell ⟨q,0,none⟩ u1).setCell ⟨q,1,none⟩ u2).cell? ⟨b,o+3 * 2,none⟩=some (.string K):=fun u1 u2=>by
  rw [World.cell?_of_block (a:=⟨b,o+3 * 2,none⟩) (Below.heap_setCell _ _ _ _ (by exact bq)),World.cell?_of_block (a:=⟨b,o+3 * 2,none⟩) (Below.heap_setCell _ _ _ _ (by exact bq))]
  exact (S2.out w3 T3.out).1
 refine rgO 9 fun K hK=>?_
 go_simp
 refine hK.out _ _ ((k3 _ _)) (fun gH=>?_)
 clear hK K
 try simp only [putS]
 refine rgD ?_
 go_wp2_with fail
 have rr:RowAt ((w3.setCell ⟨q,0,none⟩ (.string K)).setCell ⟨q,1,none⟩ (.int .i64 s.place)) q [.string K,.int .i64 s.place] 221:=(R3.out.set 0 _).set 1 _
 (try simp only [Exit.inBlock,Exit.then])
 refine bodyPost_ret (results_cell_row rfl _ _ q _ _ _ _ rfl rr Tryz.underlying221 rfl (by kernel_rfl)) rfl ?_
 exact ⟨rfl,FIN.out w3 T3.out _ _⟩
end Go.Proofs.YtoljhoabbaigdaaGreat

namespace Go.Proofs.YtoljhoabbaigdaaGreat
open Go.RowKit

section
variable {w w':World} {T:Nat} {E:Nat->Prop} {s:Tab} {rv fv:Value} {vs:List Value}
theorem TabV.item {p i j b o c:Nat} {u:Value} (y:ByteArray × Int) (h:TabV w T E s rv fv vs) (hp:p<vs.length) (ev:tnv vs p=.slice (some ⟨b,o,none⟩) (s.nd p).length c) (hi:i<(s.nd p).length) (hj:j<2) (hy:(it2 (s.nd p)[i]).set j u=it2 y) :
  TabV (w.setCell ⟨b,o+(i * 2+j),none⟩ u) T E (s.put p ((s.nd p).set i y)) rv fv vs:=by
 have hw:WinAt w b o c (s.nd p):=by
  obtain ⟨b',o',c',e,k⟩:=h.win hp (by omega)
  rw [ev] at e
  injection e with e1 _ e3
  injection e1 with e1
  injection e1 with e1 e4 _
  subst e1; subst e4; subst e3; exact k
 have hfit:=hw.fit
 have iw:InWin (tnv vs p) b (o+(i * 2+j)):=by rw [ev]; exact ⟨o,_,c,rfl,by omega,by omega⟩
 have hW:=h.eW p b _ hp iw
 have t:Turn (fun k m=>k=b∧m=o+(i * 2+j)) w (w.setCell ⟨b,o+(i * 2+j),none⟩ u):=(Turn.setCells w b (o+(i * 2+j)) [u]).mono fun k m ⟨h1,h2,h3⟩=>⟨h1,by simp at h3; omega⟩
 have kb:∀ k,k≠b->(w.setCell ⟨b,o+(i * 2+j),none⟩ u).heap[k]?=w.heap[k]?:=fun k q=>Below.heap_setCell _ _ _ _ q
 have hwn:WinAt (w.setCell ⟨b,o+(i * 2+j),none⟩ u) b o c ((s.nd p).set i y):=by
  refine ⟨by rw [List.length_set]; exact hfit,hw.cap,hw.pos,?_,fun m hm=>t.there _ _ hw.plain.lt (hw.there m hm),hw.plain.setCell _ _⟩
  have e:itc ((s.nd p).set i y)=(itc (s.nd p)).set (i * 2+j) u:=(flat_set (f:=it2) (n:=2) (fun _=>rfl) (s.nd p) i j u y hi hj hy).symm
  rw [e]
  intro m v hm
  rw [List.getElem?_set] at hm
  by_cases q:i * 2+j=m
  ·subst q
   rw [if_pos rfl] at hm
   split at hm
   ·injection hm with hm
    subst hm
    exact World.cell?_setCell_same' _ _ _ (hw.there _ (by omega))
   ·cases hm
  ·rw [if_neg q] at hm
   rw [t.cell b (o+m) hw.plain.lt (fun ⟨_,e⟩=>q (by omega))]
   exact hw.row m v hm
 refine ⟨(kb T (Ne.symm hW.2.1)).trans h.row,own_keep h.nodes fun k e=>kb k (fun t=>hW.2.2.1 (by rw [<-t]; exact e)),own_keep h.free fun k e=>kb k (fun t=>hW.2.2.2 (by rw [<-t]; exact e)),by rw [h.len]; show _=(s.nds.set p _).length; rw [List.length_set],fun l hl=>?_,h.apart,h.eT,h.eN,h.eF,h.eW,fun k e=>?_⟩
 ·rw [Tab.put_nd (by rw [<-h.len]; exact hp)]
  by_cases q:l=p
  ·rw [if_pos q,q,ev]
   exact .inr ⟨b,o,c,by rw [List.length_set],hwn⟩
  ·rw [if_neg q]
   exact (h.node l hl).turn t fun k m f ⟨e1,e2⟩=>by
    subst e1; subst e2
    exact q (h.apart l p _ _ hl hp f iw)
 ·have:(w.setCell ⟨b,o+(i * 2+j),none⟩ u).heap.size=w.heap.size:=by simp [World.setCell]
  rw [this]; exact h.lt k e
end
theorem KV.getE (l:KV) (i:Nat) (hi:i<l.length):l[i]=(l.key i,l.num i):=by
 unfold KV.key KV.num
 rw [List.getD_eq_getElem?_getD,List.getElem?_eq_getElem hi]; rfl

def st2 (x:Nat × Nat):List Value:=[.int .i64 x.1,.int .i64 x.2]
def stc (l:List (Nat × Nat)):List Value:=l.flatMap st2
theorem infoSt:(Tryz.prog.info? 238).map (fun i=>(i.zero,i.size,i.bytes))=some (some (.agg #[.int .i64 0,.int .i64 0]),2,16):=by kernel_rfl
def SlW (w:World) (v:Value) (ws:List (Nat × Nat)):Prop:=∃ A c,v=.slice A ws.length c∧∀ j,j<ws.length->∃ g,A=some ⟨g,0,none⟩∧w.cell? ⟨g,j * 2,none⟩=some (.int .i64 (ws.getD j (0,0)).1)∧w.cell? ⟨g,j * 2+1,none⟩=some (.int .i64 (ws.getD j (0,0)).2)
def OwnW (w:World) (B:Nat) (v:Value) (ws:List (Nat × Nat)):Prop:=w.ownsRow B 238 2 v ws.length (stc ws)
theorem OwnW.sl {w:World} {B:Nat} {v:Value} {ws:List (Nat × Nat)} (h:OwnW w B v ws):SlW w v ws:=by
 have h1:=h
 rcases h.2 with ⟨rfl,h0⟩ | ⟨g,cap,cur,rfl,hB,hg,_⟩
 ·exact ⟨none,0,by rw [h0],fun j hj=>by omega⟩
 ·refine ⟨_,cap,rfl,fun j hj=>⟨g,rfl,?_,?_⟩⟩
  ·have:=flat_at (f:=st2) (n:=2) (fun _=>rfl) ws j 0 hj (by decide)
   unfold OwnW at h1
   rw [show j * 2=j * 2+0 from rfl,h1.cellAt (j * 2+0) (by omega),List.getD_eq_getElem?_getD,List.getElem?_eq_getElem hj]
   exact this
  ·have:=flat_at (f:=st2) (n:=2) (fun _=>rfl) ws j 1 hj (by decide)
   unfold OwnW at h1
   rw [h1.cellAt (j * 2+1) (by omega),List.getD_eq_getElem?_getD,List.getElem?_eq_getElem hj]
   exact this
theorem wp_putW {w:World} {B:Nat} {ops:Array Oper} {rest:List Oper} {o:Oper} {a:Act} {Q:Exit->Act->World->Prop} (hgd:o.guard=none) (s x:Operand)
  (ho:o.op=.call { callee:=.builtin .append,args:=#[s,x],argTypes:=#[216,216] })
  (v:Value) (zs:List (Nat × Nat)) (hs:a.eval s=v) (hown:OwnW w B v zs) (hB:B<=w.heap.size) (g:Nat) (y:Nat × Nat) (hx:a.eval x=.slice (some ⟨g,0,none⟩) 1 1)
  (hc:w.cell? ⟨g,0,none⟩=some (.int .i64 y.1)) (hc1:w.cell? ⟨g,1,none⟩=some (.int .i64 y.2)) (hl:zs.length<=1000000)
  (h:∀ A' c' w',OwnW w' B (.slice A' (zs.length+1) c') (zs++[y])->w.grownBy w' v.ownBlock->wpList Tryz.prog ops Q rest (a.put o.dst (.slice A' (zs.length+1) c')) w'):wpList Tryz.prog ops Q (o :: rest) a w:=by
 obtain ⟨i0,hi,hz0,hz1,hz2⟩:=info_parts infoSt
 refine wpList_append_own_at w hgd s x 216 ho B 238 i0 _ 2 16 Tryz.underlying216 hi hz0 hz1 hz2 rfl (by decide) v zs.length _ hs hown ⟨g,0,none⟩ 1 1 (st2 y) hx rfl ?_ ?_
  (by unfold maxLen; omega) (by omega) hB ?_
 ·intro j u hj
  match j,hj with
  | 0,hj=>injection hj with hj; subst hj; exact hc
  | 1,hj=>injection hj with hj; subst hj; exact hc1
 ·intro u hu
  unfold st2 at hu
  simp at hu
  rcases hu with rfl | rfl<;>rfl
 ·intro v' w' h1 h2 _ _
  have e:stc zs++st2 y=stc (zs++[y]):=by unfold stc; simp
  rw [e] at h1
  have e2:zs.length+1=(zs++[y]).length:=by simp
  rcases h1.2 with ⟨_,q⟩ | ⟨g',cap,cur,rfl,_⟩
  ·omega
  ·exact h _ cap w' (by unfold OwnW; rw [<-e2]; exact h1) h2
def Tab.down (s:Tab) (k:ByteArray):Nat->Nat->List (Nat × Nat)
 | 0,_=>[]
 | 1,p=>[(p,(s.nd p).pos k)]
 | d+2,p=>(p,(s.nd p).kid k) :: s.down k (d+1) ((s.nd p).num ((s.nd p).kid k)).toNat
def Tab.Walks (s:Tab) (k:ByteArray):Nat->Nat->Prop
 | 0,_=>True
 | 1,p=>p<s.nds.length∧(s.nd p).length<=100000
 | d+2,p=>p<s.nds.length∧(s.nd p).length<=100000∧(s.nd p).kid k<(s.nd p).length∧∃ q:Nat,(s.nd p).num ((s.nd p).kid k)=q∧s.Walks k (d+1) q

end Go.Proofs.YtoljhoabbaigdaaGreat

namespace Go.Proofs.YtoljhoabbaigdaaGreat
open Go.RowKit

theorem below_grown {B:Nat} {w w1 w2:World} {r:Option Nat} (h:Below B w w1) (g:w1.grownBy w2 r) (hr:∀ k,r=some k->B<=k) (hs:B<=w1.heap.size):Below B w w2 :=
 ⟨g.os.trans h.os,g.tape.trans h.tape,g.output.trans h.output,Nat.le_trans h.size g.size,fun k hk=>(g.block k (by omega) (fun e=>by have:=hr k e.symm; omega)).trans (h.block k hk)⟩
def slLen:Value->Nat
 | .slice _ n _=>n
 | _=>0
def FindR (vs:List Value) (s:Tab) (ws:List (Nat × Nat)) (k:ByteArray) (r:Value):Prop :=
 match ws.getLast? with
 | none=>r=.pointer none
 | some x=>if x.2<(s.nd x.1).length∧(s.nd x.1).key x.2=k then ∃ b o c,tnv vs x.1=.slice (some ⟨b,o,none⟩) (s.nd x.1).length c∧r=.pointer (some ⟨b,o+x.2 * 2,none⟩) else r=.pointer none

theorem xFind0 (w:World) (T:Nat) (v:Value) (k:ByteArray) (hv:SlW w v []) :
  Calls Tryz.prog 133 #[Ptr T,v,.string k] w fun x w'=>x=.returned (.pointer none)∧w'=w:=by
 obtain ⟨A,c,rfl,_⟩:=hv
 go_enter Tryz.func133,Tryz.ntmps133
 go_wp2_with fail
 go_ret
 exact ⟨rfl,rfl⟩

theorem xFind1 (w:World) (T:Nat) (E:Nat->Prop) (s:Tab) (rv fv:Value) (vs:List Value) (v:Value) (ws0:List (Nat × Nat)) (p a:Nat) (k:ByteArray) (h:TabV w T E s rv fv vs) (hp:p<vs.length) (hv:SlW w v (ws0++[(p,a)])) (hw:ws0.length<=100000) :
  Calls Tryz.prog 133 #[Ptr T,v,.string k] w fun x w'=>∃ r,x=.returned r∧FindR vs s (ws0++[(p,a)]) k r∧Below w.heap.size w w':=by
 have HF:∀ r,FindR vs s (ws0++[(p,a)]) k r↔(if a<(s.nd p).length∧(s.nd p).key a=k then ∃ b o c,tnv vs p=.slice (some ⟨b,o,none⟩) (s.nd p).length c∧r=.pointer (some ⟨b,o+a * 2,none⟩) else r=.pointer none):=fun r=>by
  unfold FindR
  rw [List.getLast?_concat]
 obtain ⟨g,c,rfl,_,_,hc⟩:=h.rowAt (by omega)
 have c0:=h.row.cell 0
 simp only [List.getElem?_cons_zero] at c0
 have c1:=(hc p hp).1
 obtain ⟨A,cp,e,hi⟩:=(h.node p hp).form
 rw [e] at c1
 obtain ⟨Aw,cw,rfl,hs⟩:=hv
 obtain ⟨gw,rfl,cw1,cw2⟩:=hs ws0.length (by simp)
 have eg:(ws0++[(p,a)]).getD ws0.length (0,0)=(p,a):=by rw [List.getD_eq_getElem?_getD,List.getElem?_concat_length]; rfl
 rw [eg] at cw1 cw2
 simp only at cw1 cw2
 obtain ⟨m,hm⟩:=nmq (ws0.length)
 have el:(ws0++[(p,a)]).length=m+1:=by simp [hm]
 rw [el]
 rw [<-hm] at cw1 cw2 hw
 obtain ⟨n,hn⟩:=nmq (vs.length)
 obtain ⟨z,hz⟩:=nmq ((s.nd p).length)
 obtain ⟨K,hK⟩:=nmq ((s.nd p).key a)
 have HI:a<z->∃ b o,A=some ⟨b,o,none⟩∧w.cell? ⟨b,o+a * 2,none⟩=some (.string K):=fun q=>by
  obtain ⟨b,o,e1,e2,_⟩:=hi a (by omega)
  exact ⟨b,o,e1,by rw [hK]; exact e2⟩
 rw [<-hn] at c0 hp
 rw [<-hz] at c1 e
 rw [<-hz,<-hK] at HF
 have HF':=qh HF
 have EV:=qh e
 have mi:(m:Int)+1-1=(m:Int):=by omega
 have m0:¬ ((m:Int)+1=0):=by omega
 have bw:Below w.heap.size w ((w.alloc (.cells #[.int .i64 p,.int .i64 a] 238))):=(Below.refl _ _).alloc (Nat.le_refl _) _
 obtain ⟨q7,hq7⟩:=nmq (w.heap.size)
 obtain ⟨w1,hw1⟩:=nmq (w.alloc (.cells #[.int .i64 p,.int .i64 a] 238))
 rw [<-hw1] at bw
 have r1:RowAt w1 q7 [.int .i64 p,.int .i64 a] 238:=by rw [hw1,hq7]; exact RowAt.new w _ _
 have C1:=qh (show ∀ nq,(w1.drewN nq).cell? ⟨T,0,none⟩=some (.slice (some ⟨g,0,none⟩) n c)∧(w1.drewN nq).cell? ⟨g,p,none⟩=some (.slice A z cp)∧(w1.drewN nq).cell? ⟨q7,0,none⟩=some (.int .i64 p)∧(w1.drewN nq).cell? ⟨q7,1,none⟩=some (.int .i64 a) from fun nq =>
  ⟨(bw.cell (p:=⟨T,0,none⟩) (block_lt_of_cell c0)).trans c0,(bw.cell (p:=⟨g,p,none⟩) (block_lt_of_cell c1)).trans c1,r1.cell 0,r1.cell 1⟩)
 have HI1:=qh (show a<z->∃ b o,A=some ⟨b,o,none⟩∧∀ nq,(w1.drewN nq).cell? ⟨b,o+a * 2,none⟩=some (.string K) from fun q=>by
  obtain ⟨b,o,e1,e2⟩:=HI q
  exact ⟨b,o,e1,fun nq=>(bw.cell (p:=⟨b,o+a * 2,none⟩) (block_lt_of_cell e2)).trans e2⟩)
 have BW:=qh bw
 have HW1:=qh hw1
 have HQ7:=qh hq7
 clear hi hc h hs eg el hn hm hz hK HF e bw HI hw1 hq7 r1
 go_enter Tryz.func133,Tryz.ntmps133
 go_wp2_with fail
 rw [<-HW1.out,<-HQ7.out]
 obtain ⟨d0,d1,d2,d3⟩:=C1.out 0
 simp only [World.cell?_drewN] at d0 d1 d2 d3
 clear c0 c1 cw1 cw2
 go_quiet (fail)
 obtain ⟨W,hW⟩:=nmq (w1.drewN nq)
 obtain ⟨e0,e1,e2,e3⟩:=C1.out nq
 rw [<-hW] at e0 e1 e2 e3 ⊢
 have BW2:=qh (show Below w.heap.size w W by rw [hW]; exact below_drewN BW.out nq)
 have HIW:=qh (show a<z->∃ b o,A=some ⟨b,o,none⟩∧W.cell? ⟨b,o+a * 2,none⟩=some (.string K) from fun q=>by
  obtain ⟨b,o,e1,e2⟩:=HI1.out q
  exact ⟨b,o,e1,by rw [hW]; exact e2 nq⟩)
 clear hW d0 d1 d2 d3
 by_cases q:a<z
 ·obtain ⟨b,o,rfl,cb⟩:=HIW.out q
  by_cases e:K=k
  ·have ek:(K.toList == k.toList)=true:=str_eq e
   have F:=qh ((HF'.out (.pointer (some ⟨b,o+a * 2,none⟩))).2 (by rw [if_pos ⟨q,e⟩]; exact ⟨b,o,cp,EV.out,rfl⟩))
   clear e
   go_wp2_with fail
   go_ret
   exact ⟨_,rfl,F.out,BW2.out⟩
  ·have ek:(K.toList == k.toList)=false:=str_ne e
   have F:=qh ((HF'.out (.pointer none)).2 (by rw [if_neg (fun t=>e t.2)]))
   clear e
   go_wp2_with fail
   go_ret
   exact ⟨_,rfl,F.out,BW2.out⟩
 ·have F:=qh ((HF'.out (.pointer none)).2 (by rw [if_neg (fun t=>q t.1)]))
  go_wp2_with fail
  go_ret
  exact ⟨_,rfl,F.out,BW2.out⟩

theorem OwnW.form {w:World} {B:Nat} {v:Value} {ws:List (Nat × Nat)} (h:OwnW w B v ws):∃ A c,v=.slice A ws.length c:=by obtain ⟨A,c,e,_⟩:=h.sl; exact ⟨A,c,e⟩
theorem OwnW.block {w:World} {B:Nat} {v:Value} {ws:List (Nat × Nat)} (h:OwnW w B v ws):∀ k,v.ownBlock=some k->B<=k:=fun k e=>(World.ownsRow.lt h k e).1
theorem xWay (w:World) (T:Nat) (E:Nat->Prop) (s:Tab) (k:ByteArray) (h:TabG w T E s) (hk:s.Walks k s.depth s.root) (hd:s.depth<=100000) :
  Calls Tryz.prog 132 #[Ptr T,.string k] w fun x w'=>∃ v,x=.returned v∧OwnW w' w.heap.size v (s.down k s.depth s.root)∧Below w.heap.size w w':=by
 obtain ⟨rv,fv,vs,h⟩:=h
 obtain ⟨D,hD⟩:=nmq (s.depth)
 obtain ⟨R,hR⟩:=nmq (s.root)
 obtain ⟨B,hB⟩:=nmq (w.heap.size)
 have H:=qh h
 have C:=qh (show ∀ w',Below w.heap.size w w'->w'.cell? ⟨T,3,none⟩=some (.int .i64 D)∧w'.cell? ⟨T,2,none⟩=some (.int .i64 R) from fun w' hb=>by
  have q:=(h.below hb).row
  rw [hD,hR]; exact ⟨q.cell 3,q.cell 2⟩)
 have NC:=qh (show ∀ p,p<s.nds.length->∃ N g c A cp,p<N∧∀ w',Below w.heap.size w w'->w'.cell? ⟨T,0,none⟩=some (.slice (some ⟨g,0,none⟩) N c)∧w'.cell? ⟨g,p,none⟩=some (.slice A (s.nd p).length cp)∧NodeAt w' (.slice A (s.nd p).length cp) (s.nd p)∧∀ j,j<(s.nd p).length->∃ b o,A=some ⟨b,o,none⟩∧w'.cell? ⟨b,o+j * 2+1,none⟩=some (.int .i64 ((s.nd p).num j)) from fun p hp=>by
  have hp':p<vs.length:=by rw [h.len]; exact hp
  obtain ⟨g,c,hrv,_,_,hc⟩:=h.rowAt (by omega)
  obtain ⟨A,cp,e,hi⟩:=(h.node p hp').form
  refine ⟨vs.length,g,c,A,cp,hp',fun w' hb=>?_⟩
  have h':=h.below hb
  refine ⟨?_,?_,?_,fun j hj=>?_⟩
  ·have:=h'.row.cell 0
   simp only [List.getElem?_cons_zero] at this
   rw [hrv] at this; exact this
  ·obtain ⟨g',c',e',_,_,hc'⟩:=h'.rowAt (by omega)
   rw [hrv] at e'
   injection e' with e1 _ _
   injection e1 with e1
   injection e1 with e1 _ _
   subst e1
   rw [<-e]; exact (hc' p hp').1
  ·rw [<-e]; exact h'.node p hp'
  ·obtain ⟨b,o,e1,_,e2⟩:=hi j hj
   exact ⟨b,o,e1,(hb.cell (p:=⟨b,o+j * 2+1,none⟩) (block_lt_of_cell e2)).trans e2⟩)
 have HK:=qh hk
 have B0:=qh (Below.refl w.heap.size w)
 have c3:=(C.out w B0.out).1
 have c2:=(C.out w B0.out).2
 rw [<-hD,<-hR] at HK
 rw [<-hD] at hd
 rw [<-hD,<-hR,<-hB]
 rw [<-hB] at C NC B0
 obtain ⟨WS,hWS⟩:=nmq (s.down k D R)
 have HWS:=qh hWS
 rw [<-hWS]
 have HB:=qh hB
 clear h hk hD hR hB hWS
 go_enter Tryz.func132,Tryz.ntmps132
 go_wp2_with fail
 go_loopw [5,6] (fun vw vp wr=>∃ (ws:List (Nat × Nat)) (p n:Nat) (A:Option Addr) (c:Nat),vp=.int .i64 p∧vw=.slice A n c∧Hid (n=ws.length)∧Hid (OwnW wr B (.slice A n c) ws)∧Hid (Below B w wr)∧Hid (ws++s.down k (D-n) p=WS)∧Hid (s.Walks k (D-n) p)∧n<=D∧(n+1<=D∨D=0)) (fun vw _ _=>D-slLen vw)
 case atStart=>exact ⟨[],R,0,none,0,rfl,rfl,qh rfl,qh (World.ownsRow_nil _ _ _ _),B0,HWS.symm,HK,by omega,by omega⟩
 case round =>
  obtain ⟨ws,p,n,A,c,rfl,rfl,HN,HO,HW,HS,HG,hnD,hn1⟩:=hrel
  have c3':=(C.out wr HW.out).1
  by_cases q:n+1<D
  ·obtain ⟨d,hd2⟩:∃ d,D-n=d+2:=⟨D-n-2,by omega⟩
   have hg:=HG.out
   rw [hd2] at hg
   obtain ⟨hp,hl,hkid,r,hr,hgo⟩:=hg
   obtain ⟨N,g,cg,A2,cp,hpN,hcc⟩:=NC.out p hp
   obtain ⟨e0,e1,e2,e3⟩:=hcc wr HW.out
   have KC:=qh (xKid wr _ _ k e2 (by omega))
   obtain ⟨b,o,rfl,_⟩:=e3 _ hkid
   obtain ⟨K,hK⟩:=nmq ((s.nd p).kid k)
   obtain ⟨Z,hZ⟩:=nmq ((s.nd p).length)
   have HCC:=qh (show ∀ w',Below B w w'->w'.cell? ⟨T,0,none⟩=some (.slice (some ⟨g,0,none⟩) N cg)∧w'.cell? ⟨g,p,none⟩=some (.slice (some ⟨b,o,none⟩) Z cp)∧w'.cell? ⟨b,o+K * 2+1,none⟩=some (.int .i64 r) from fun w' hb=>by
    obtain ⟨q0,q1,_,q3⟩:=hcc w' hb
    obtain ⟨b',o',e',q4⟩:=q3 _ hkid
    injection e' with e'
    injection e' with e1 e2 _
    subst e1; subst e2
    exact ⟨q0,by rw [hZ]; exact q1,by rw [hK,<-hr]; exact q4⟩)
   have KZ:K<Z:=by rw [hK,hZ]; exact hkid
   have DN:=qh (show (ws++[(p,K)])++s.down k (d+1) r=WS by
    rw [<-HS.out,hd2]
    have e:s.down k (d+2) p=(p,(s.nd p).kid k) :: s.down k (d+1) ((s.nd p).num ((s.nd p).kid k)).toNat:=rfl
    rw [e,hr,Int.toNat_natCast,List.append_assoc,hK]; rfl)
   have HGO:=qh hgo
   rw [<-hK] at KC
   rw [<-hZ] at KC e1
   have HD2:=qh hd2
   have OA:=qh (show OwnW (wr.alloc (.cells #[.int .i64 p,.int .i64 K] 238)) B (.slice A n c) ws from World.ownsRow.alloc HO.out _)
   have RA:=qh (RowAt.new wr [.int .i64 p,.int .i64 K] 238)
   have BA:=qh (show Below B w (wr.alloc (.cells #[.int .i64 p,.int .i64 K] 238)) from HW.out.alloc (by rw [HB.out]; exact HW.out.size) _)
   have SA:=qh (show B<=(wr.alloc (.cells #[.int .i64 p,.int .i64 K] 238)).heap.size by rw [HB.out]; exact BA.out.size)
   have zn:ws.length=n:=HN.out.symm
   have ZN:=qh zn
   clear hr hgo hkid hcc hK hZ hl e2 e3 hd2 hp zn
   go_wp2_with (first | (go_at_call 145; refine KC.out.mono ?_; rintro x w1 ⟨rfl,rfl⟩) | (at_builtin; refine wp_putW rfl (.tmp 29) (.tmp 33) rfl (.slice A n c) ws rfl OA.out SA.out _ (p,K) rfl (RA.out.cell 0) (RA.out.cell 1) (by rw [ZN.out]; omega) ?_; intro A' c' w3 ho hgr; rw [ZN.out]; have B3:=qh (below_grown BA.out hgr HO.out.block SA.out); have HO3:=qh ho; obtain ⟨e30,e31,e32⟩:=HCC.out w3 B3.out; clear ho hgr))
   go_roundw
   case rel=>exact ⟨ws++[(p,K)],r,n+1,A',c',rfl,by first | rfl | (rw [ZN.out]),qh (by rw [List.length_append,ZN.out]; rfl),qh (by have:=HO3.out; rw [ZN.out] at this; exact this),B3,qh (by rw [show D-(n+1)=d+1 by have:=HD2.out; omega]; exact DN.out),qh (by rw [show D-(n+1)=d+1 by have:=HD2.out; omega]; exact HGO.out),by omega,by omega⟩
   case measure=>simp [slLen]; omega
  ·by_cases d0:D=0
   ·have n0:n=0:=by omega
    have e:ws=WS:=by have:=HS.out; rw [show D-n=0 by omega] at this; rw [<-this]; exact (List.append_nil _).symm
    subst d0; subst n0
    have E:=qh e
    clear e
    go_wp2_with fail
    go_ret
    exact ⟨_,rfl,by rw [<-E.out]; exact HO.out,HW.out⟩
   ·have d1:D-n=1:=by omega
    have hg:=HG.out
    rw [d1] at hg
    obtain ⟨hp,hl⟩:=hg
    obtain ⟨N,g,cg,A2,cp,hpN,hcc⟩:=NC.out p hp
    obtain ⟨e0,e1,e2,_⟩:=hcc wr HW.out
    have KC:=qh (xBelow wr _ _ k e2 (by omega))
    obtain ⟨K,hK⟩:=nmq ((s.nd p).pos k)
    obtain ⟨Z,hZ⟩:=nmq ((s.nd p).length)
    have DN:=qh (show ws++[(p,K)]=WS by
     rw [<-HS.out,d1,hK]; rfl)
    rw [<-hK] at KC
    rw [<-hZ] at KC e1
    have OA:=qh (show OwnW (wr.alloc (.cells #[.int .i64 p,.int .i64 K] 238)) B (.slice A n c) ws from World.ownsRow.alloc HO.out _)
    have RA:=qh (RowAt.new wr [.int .i64 p,.int .i64 K] 238)
    have BA:=qh (show Below B w (wr.alloc (.cells #[.int .i64 p,.int .i64 K] 238)) from HW.out.alloc (by rw [HB.out]; exact HW.out.size) _)
    have SA:=qh (show B<=(wr.alloc (.cells #[.int .i64 p,.int .i64 K] 238)).heap.size by rw [HB.out]; exact BA.out.size)
    have zn:ws.length=n:=HN.out.symm
    have ZN:=qh zn
    have dp:0<D:=by omega
    have dq:(0:Int)<(D:Int):=by omega
    clear hcc hK hZ hl e2 hp zn d1
    go_wp2_with (first | (go_at_call 146; refine KC.out.mono ?_; rintro x w1 ⟨rfl,rfl⟩) | (at_builtin; refine wp_putW rfl (.tmp 51) (.tmp 63) rfl (.slice A n c) ws rfl OA.out SA.out _ (p,K) rfl (RA.out.cell 0) (RA.out.cell 1) (by rw [ZN.out]; omega) ?_; intro A' c' w3 ho hgr; rw [ZN.out]; have B3:=qh (below_grown BA.out hgr HO.out.block SA.out); have HO3:=qh ho; clear ho hgr))
    go_ret
    exact ⟨_,rfl,by have:=HO3.out; rw [ZN.out,DN.out] at this; exact this,B3.out⟩

end Go.Proofs.YtoljhoabbaigdaaGreat

namespace Go.Proofs.YtoljhoabbaigdaaGreat
open Go.RowKit

theorem Tab.put_len (s:Tab) (i:Nat) (zs:KV):(s.put i zs).nds.length=s.nds.length:=List.length_set
theorem Tab.put_place (s:Tab) (i:Nat) (zs:KV):(s.put i zs).place=s.place:=by
 have e:(s.put i zs).nds.length=s.nds.length:=List.length_set
 unfold Tab.place
 rw [e]; rfl
theorem Tab.take_nd {s:Tab} {zs:KV} (hf:∀ f,f ∈ s.free->f<s.nds.length) (i:Nat) (hi:i<s.nds.length) (hn:i ∉ s.free):(s.take zs).nd i=s.nd i:=by
 unfold Tab.take Tab.nd
 cases e:s.free.getLast? with
 | none=>simp only [List.getD_eq_getElem?_getD,List.getElem?_append_left hi]
 | some p =>
  have hp:p ∈ s.free:=List.mem_of_getLast? e
  have:=hf p hp
  simp only
  rw [Tab.nd_set this,if_neg (fun q=>hn (by rw [q]; exact hp))]
theorem Tab.take_len {s:Tab} {zs:KV}:s.nds.length<=(s.take zs).nds.length∧(s.take zs).nds.length<=s.nds.length+1∧s.place<(s.take zs).nds.length+(if s.free=[] then 0 else s.place+1)∧(s.free=[]->(s.take zs).nds.length=s.nds.length+1∧s.place=s.nds.length)∧(s.free≠[]->(s.take zs).nds.length=s.nds.length):=by
 unfold Tab.take Tab.place
 cases e:s.free.getLast? with
 | none =>
  have q:s.free=[]:=List.getLast?_eq_none_iff.1 e
  refine ⟨by simp,by simp,by simp [q],fun _=>⟨by simp,by simp⟩,fun h=>absurd q h⟩
 | some p =>
  have q:s.free≠[]:=fun t=>by rw [t] at e; cases e
  refine ⟨by simp,by simp,by simp [q]; omega,fun h=>absurd h q,fun _=>by simp⟩
theorem Tab.take_free {s:Tab} {zs:KV}:(s.take zs).free=s.free.dropLast:=by
 unfold Tab.take
 cases e:s.free.getLast? with
 | none=>rw [List.getLast?_eq_none_iff.1 e]; rfl
 | some p=>rfl

def Tab.split (s:Tab) (x:Nat × Nat) (p:Nat):Tab :=
 ((s.put p ((s.nd p).take 3)).take ((s.nd p).drop 3)).put x.1 (ins (((s.put p ((s.nd p).take 3)).take ((s.nd p).drop 3)).nd x.1) (x.2+1) ((s.nd p).key 3,s.place))
def Tab.tell (s:Tab) (x:Nat × Nat) (p:Nat):Tab:=s.put x.1 ((s.nd x.1).set x.2 ((s.nd p).key 0,(s.nd x.1).num x.2))
def Tab.up (s:Tab) (x:Nat × Nat) (p:Nat):Tab:=if 4<(s.nd p).length then (s.tell x p).split x p else s.tell x p
structure FineUp (s:Tab) (x:Nat × Nat) (p:Nat):Prop where
 iq:x.1<s.nds.length
 ia:x.2<(s.nd x.1).length
 ip:p<s.nds.length
 ne:p≠x.1
 l0:0<(s.nd p).length
 lp:(s.nd p).length<=10000
 lq:(s.nd x.1).length<=10000
 free:∀ f,f ∈ s.free->f<s.nds.length∧f≠x.1
 ln:s.nds.length<=850000
 lf:s.free.length<=850000
namespace FineUp
variable {s:Tab} {x:Nat × Nat} {p:Nat}
theorem nd (h:FineUp s x p):(s.tell x p).nd p=s.nd p:=by unfold Tab.tell; rw [Tab.put_nd h.iq,if_neg h.ne]
theorem ndq (h:FineUp s x p):(s.tell x p).nd x.1=(s.nd x.1).set x.2 ((s.nd p).key 0,(s.nd x.1).num x.2):=by unfold Tab.tell; rw [Tab.put_nd h.iq,if_pos rfl]
theorem tlen (_h:FineUp s x p):(s.tell x p).nds.length=s.nds.length:=Tab.put_len _ _ _
theorem lay (h:FineUp s x p):(((s.tell x p).put p ((s.nd p).take 3)).take ((s.nd p).drop 3)).nd x.1=(s.tell x p).nd x.1:=by
 have e:((s.tell x p).put p ((s.nd p).take 3)).nds.length=s.nds.length:=by rw [Tab.put_len,h.tlen]
 rw [Tab.take_nd (s:=(s.tell x p).put p ((s.nd p).take 3)) (fun f hf=>by rw [e]; exact (h.free f hf).1) _ (by rw [e]; exact h.iq) (fun hf=>(h.free _ hf).2 rfl),Tab.put_nd (by rw [h.tlen]; exact h.ip),if_neg (Ne.symm h.ne)]
theorem laylen (h:FineUp s x p):s.nds.length<=(((s.tell x p).put p ((s.nd p).take 3)).take ((s.nd p).drop 3)).nds.length:=by
 have e:((s.tell x p).put p ((s.nd p).take 3)).nds.length=s.nds.length:=by rw [Tab.put_len,h.tlen]
 have:=(Tab.take_len (s:=(s.tell x p).put p ((s.nd p).take 3)) (zs:=(s.nd p).drop 3)).1
 omega
end FineUp
def Tab.ups (ws:List (Nat × Nat)):Nat->Tab->Tab
 | 0,s=>s
 | i+1,s=>Tab.ups ws i (s.up (ws.getD i (0,0)) (ws.getD (i+1) (0,0)).1)
def FineUps (ws:List (Nat × Nat)):Nat->Tab->Prop
 | 0,_=>True
 | i+1,s=>FineUp s (ws.getD i (0,0)) (ws.getD (i+1) (0,0)).1∧FineUps ws i (s.up (ws.getD i (0,0)) (ws.getD (i+1) (0,0)).1)

end Go.Proofs.YtoljhoabbaigdaaGreat

namespace Go.Proofs.YtoljhoabbaigdaaGreat
open Go.RowKit

def Tab.kid (s:Tab) (q j:Nat):Nat:=((s.nd q).num j).toNat
def Tab.melt (s:Tab) (p o:Nat):Tab:=(s.put p (s.nd p++s.nd o)).off o
def Tab.fix (s:Tab) (x:Nat × Nat) (p:Nat):Tab:=if 4<(s.nd p).length then s.split x p else s
theorem Tab.off_len (s:Tab) (o:Nat):(s.off o).nds.length=s.nds.length:=Tab.put_len _ _ _
structure Pair (s:Tab) (q f p o:Nat):Prop where
 iq:q<s.nds.length
 ip:p<s.nds.length
 io:o<s.nds.length
 pq:p≠q
 oq:o≠q
 po:p≠o
 lf1:f+1<(s.nd q).length
namespace Pair
variable {s:Tab} {q f p o:Nat}
theorem len1 (_h:Pair s q f p o):(s.put p (s.nd p++s.nd o)).nds.length=s.nds.length:=Tab.put_len _ _ _
theorem len2 (h:Pair s q f p o):(s.melt p o).nds.length=s.nds.length:=by unfold Tab.melt; rw [Tab.off_len,h.len1]
end Pair
end Go.Proofs.YtoljhoabbaigdaaGreat

namespace Go.Proofs.YtoljhoabbaigdaaGreat
open Go.RowKit

def Tab.lk (s:Tab) (b:Bool) (p:Nat) (K:ByteArray) (r:Nat):ByteArray × Int:=(if b=true∧r=p then K else (s.nd r).key 0,(r:Int))
structure Mid (s:Tab) (L:Nat->List Nat) (l:KV) (h p:Nat) (K:ByteArray):Prop where
 d1:0<s.depth
 top:L (s.depth-1)=[s.root]
 nodup:∀ j,j<s.depth->(L j).Nodup
 lev:∀ i j r,i<s.depth->j<s.depth->r ∈ L i->r ∈ L j->i=j
 lt:∀ j r,j<s.depth->r ∈ L j->r<s.nds.length
 fnd:s.free.Nodup
 free:∀ f,f ∈ s.free->f<s.nds.length∧∀ j,j<s.depth->f ∉ L j
 size:∀ j r,j<s.depth->r ∈ L j->¬ (j=h∧r=p)->(if s.depth=1 then 1 else 2)<=(s.nd r).length∧(s.nd r).length<=4
 link:∀ j,j+1<s.depth->(L (j+1)).flatMap s.nd=(L j).map (s.lk (decide (j=h)) p K)
 leaf:(L 0).flatMap s.nd=l

theorem fm_congr {X:List Nat} {f g:Nat->KV} (h:∀ r,r ∈ X->f r=g r):X.flatMap f=X.flatMap g:=by
 induction X with
 | nil=>rfl
 | cons x X ih=>rw [List.flatMap_cons,List.flatMap_cons,h x (by simp),ih fun r hr=>h r (by simp [hr])]
theorem nodup_mid {A B:List Nat} {M:List Nat} (h:(A++M++B).Nodup):(∀ r,r ∈ A->r ∉ M∧r ∉ B)∧(∀ r,r ∈ M->r ∉ A∧r ∉ B)∧(∀ r,r ∈ B->r ∉ A∧r ∉ M)∧A.Nodup∧M.Nodup∧B.Nodup:=by
 rw [List.nodup_append] at h
 obtain ⟨h1,h2,h3⟩:=h
 rw [List.nodup_append] at h1
 obtain ⟨h4,h5,h6⟩:=h1
 refine ⟨fun r hr=>⟨fun q=>h6 r hr r q rfl,fun q=>h3 r (by simp [hr]) r q rfl⟩,fun r hr=>⟨fun q=>h6 r q r hr rfl,fun q=>h3 r (by simp [hr]) r q rfl⟩,fun r hr=>⟨fun q=>h3 r (by simp [q]) r hr rfl,fun q=>h3 r (by simp [q]) r hr rfl⟩,h4,h5,h2⟩

section
variable {s s':Tab} {L:Nat->List Nat} {l:KV} {h p:Nat} {K:ByteArray}
theorem Mid.relink (m:Mid s L l h p K) (hd:h+1<s.depth) {A B X M M' Y:List Nat} {Z1 Z2:KV} {q:Nat}
  (hA:L (h+1)=A++[q]++B) (hX:L h=X++M++Y) (e1:A.flatMap s.nd++Z1=X.map (s.lk true p K)) (e2:Z2++B.flatMap s.nd=Y.map (s.lk true p K)) (hp:p ∈ M)
  (sd:s'.depth=s.depth) (sr:s'.root=s.root)
  (nq:s'.nd q=Z1++M'.map (fun r=>((s'.nd r).key 0,(r:Int)))++Z2)
  (ot:∀ j r,j<s.depth->r ∈ L j->r≠q->r ∉ M->s'.nd r=s.nd r)
  (fm:M'.flatMap s'.nd=M.flatMap s.nd) (mnd:M'.Nodup)
  (mf:∀ r,r ∈ M'->r<s'.nds.length∧(r ∈ M∨∀ j,j<s.depth->r ∉ L j))
  (len:s.nds.length<=s'.nds.length) (fnd:s'.free.Nodup) (fr:∀ f,f ∈ s'.free->f<s'.nds.length∧f ∉ M'∧(f ∈ M∨∀ j,j<s.depth->f ∉ L j))
  (sz:∀ r,r ∈ M'->2<=(s'.nd r).length∧(s'.nd r).length<=4) :
  Mid s' (fun j=>if j=h then X++M'++Y else L j) l (h+1) q ((s.nd q).key 0):=by
 have qL:q ∈ L (h+1):=by rw [hA]; simp
 have nx:=nodup_mid (by rw [<-hX]; exact m.nodup h (by omega))
 have na:=nodup_mid (by rw [<-hA]; exact m.nodup (h+1) hd)
 have lh:∀ r,r ∈ L h->r≠q:=fun r hr e=>by
  have:=m.lev h (h+1) r (by omega) hd hr (by rw [e]; exact qL); omega
 have Ml:∀ r,r ∈ M->r ∈ L h:=fun r hr=>by rw [hX]; simp [hr]
 have XY:∀ r,r ∈ X∨r ∈ Y->r ∈ L h∧r ∉ M∧s'.nd r=s.nd r:=fun r hr=>by
  have hl:r ∈ L h:=by rw [hX]; rcases hr with e | e<;>simp [e]
  have hm:r ∉ M:=by
   rcases hr with e | e
   ·exact (nx.1 r e).1
   ·exact (nx.2.2.1 r e).2
  exact ⟨hl,hm,ot h r (by omega) hl (lh r hl) hm⟩
 have notM:∀ j r,j<s.depth->j≠h->r ∈ L j->r ∉ M:=fun j r hj hn hr hm=>hn (m.lev j h r hj (by omega) hr (Ml r hm))
 have other:∀ j r,j<s.depth->j≠h->r ∈ L j->r≠q->s'.nd r=s.nd r:=fun j r hj hn hr hq=>ot j r hj hr hq (notM j r hj hn hr)
 have mem:∀ j r,r ∈ (if j=h then X++M'++Y else L j)->j<s.depth->(r ∈ L j∧(j=h->r ∈ X∨r ∈ M'∨r ∈ Y))∨(j=h∧r ∈ M'∧∀ i,i<s.depth->r ∉ L i):=fun j r hr hj=>by
  by_cases e:j=h
  ·rw [if_pos e] at hr
   subst e
   rw [List.mem_append,List.mem_append] at hr
   rcases hr with (hr | hr) | hr
   ·exact .inl ⟨(XY r (.inl hr)).1,fun _=>.inl hr⟩
   ·rcases (mf r hr).2 with k | k
    ·exact .inl ⟨Ml r k,fun _=>.inr (.inl hr)⟩
    ·exact .inr ⟨rfl,hr,k⟩
   ·exact .inl ⟨(XY r (.inr hr)).1,fun _=>.inr (.inr hr)⟩
  ·rw [if_neg e] at hr
   exact .inl ⟨hr,fun t=>absurd t e⟩
 refine ⟨by rw [sd]; exact m.d1,?_,fun j hj=>?_,fun i j r hi hj h1 h2=>?_,fun j r hj hr=>?_,fnd,fun f hf=>⟨(fr f hf).1,fun j hj hm=>?_⟩,fun j r hj hr hn=>?_,fun j hj=>?_,?_⟩
 ·rw [sd,sr,if_neg (by omega)]; exact m.top
 ·rw [sd] at hj
  show (if j=h then X++M'++Y else L j).Nodup
  by_cases e:j=h
  ·rw [if_pos e]
   rw [List.nodup_append,List.nodup_append]
   have dis:∀ r,r ∈ M'->r ∉ X∧r ∉ Y:=fun r hr=>by
    rcases (mf r hr).2 with k | k
    ·exact nx.2.1 r k
    ·exact ⟨fun t=>k h (by omega) (XY r (.inl t)).1,fun t=>k h (by omega) (XY r (.inr t)).1⟩
   refine ⟨⟨nx.2.2.2.1,mnd,fun a ha b hb e=>(dis b hb).1 (e ▸ ha)⟩,nx.2.2.2.2.2,fun a ha b hb e=>?_⟩
   rw [List.mem_append] at ha
   rcases ha with ha | ha
   ·exact (nx.1 a ha).2 (e ▸ hb)
   ·exact (dis a ha).2 (e ▸ hb)
  ·rw [if_neg e]; exact m.nodup j hj
 ·rw [sd] at hi hj
  rcases mem i r h1 hi with ⟨a1,_⟩ | ⟨a1,_,a2⟩
  ·rcases mem j r h2 hj with ⟨b1,_⟩ | ⟨_,_,b2⟩
   ·exact m.lev i j r hi hj a1 b1
   ·exact absurd a1 (b2 i hi)
  ·rcases mem j r h2 hj with ⟨b1,_⟩ | ⟨b1,_,_⟩
   ·exact absurd b1 (a2 j hj)
   ·omega
 ·rw [sd] at hj
  rcases mem j r hr hj with ⟨a1,_⟩ | ⟨_,a1,_⟩
  ·exact Nat.lt_of_lt_of_le (m.lt j r hj a1) len
  ·exact (mf r a1).1
 ·rw [sd] at hj
  obtain ⟨_,f2,f3⟩:=fr f hf
  rcases mem j f hm hj with ⟨a1,a2⟩ | ⟨_,a1,_⟩
  ·rcases f3 with k | k
   ·have e:j=h:=m.lev j h f hj (by omega) a1 (Ml f k)
    rcases a2 e with t | t | t
    ·exact (nx.1 f t).1 k
    ·exact f2 t
    ·exact (nx.2.2.1 f t).2 k
   ·exact k j hj a1
  ·exact f2 a1
 ·rw [sd] at hj ⊢
  rw [if_neg (show ¬ s.depth=1 by omega)]
  by_cases e:j=h
  ·subst e
   rw [if_pos rfl,List.mem_append,List.mem_append] at hr
   have key:r ∈ X∨r ∈ Y->2<=(s'.nd r).length∧(s'.nd r).length<=4:=fun t=>by
    obtain ⟨k1,k2,k3⟩:=XY r t
    have:=m.size j r hj k1 (fun e=>k2 (by rw [e.2]; exact hp))
    rw [if_neg (show ¬ s.depth=1 by omega)] at this
    rw [k3]; exact this
   rcases hr with (hr | hr) | hr
   ·exact key (.inl hr)
   ·exact sz r hr
   ·exact key (.inr hr)
  ·rw [if_neg e] at hr
   have rq:r≠q:=fun t=>hn ⟨m.lev j (h+1) r hj hd hr (by rw [t]; exact qL),t⟩
   rw [other j r hj e hr rq]
   have:=m.size j r hj hr (fun t=>e t.1)
   rw [if_neg (show ¬ s.depth=1 by omega)] at this
   exact this
 ·rw [sd] at hj
  by_cases e:j=h
  ·subst e
   rw [if_neg (by omega),if_pos rfl,hA,List.flatMap_append,List.flatMap_append,List.map_append,List.map_append]
   have a1:A.flatMap s'.nd=A.flatMap s.nd:=fm_congr fun r hr=>other (j+1) r hd (by omega) (by rw [hA]; simp [hr]) (fun t=>(na.1 r hr).1 (by simp [t]))
   have a2:B.flatMap s'.nd=B.flatMap s.nd:=fm_congr fun r hr=>other (j+1) r hd (by omega) (by rw [hA]; simp [hr]) (fun t=>(na.2.2.1 r hr).2 (by simp [t]))
   have lkX:∀ W:List Nat,(∀ r,r ∈ W->r ∈ X∨r ∈ Y)->W.map (s'.lk (decide (j=j+1)) q ((s.nd q).key 0))=W.map (s.lk true p K):=fun W hW=>by
    apply List.map_congr_left
    intro r hr
    obtain ⟨k1,k2,k3⟩:=XY r (hW r hr)
    unfold Tab.lk
    rw [if_neg (fun t=>by have:=t.1; simp at this),if_neg (fun t=>k2 (by rw [t.2]; exact hp)),k3]
   rw [lkX X (fun r hr=>.inl hr),lkX Y (fun r hr=>.inr hr),<-e1,<-e2,a1,a2]
   have mm:M'.map (s'.lk (decide (j=j+1)) q ((s.nd q).key 0))=M'.map (fun r=>((s'.nd r).key 0,(r:Int))):=by
    apply List.map_congr_left
    intro r _
    unfold Tab.lk
    rw [if_neg (fun t=>by have:=t.1; simp at this)]
   rw [mm]
   simp only [List.flatMap_cons,List.flatMap_nil,List.append_nil]
   rw [nq]
   simp only [List.append_assoc]
  ·by_cases e':j+1=h
   ·-- the level above is h: its items stand as they stood
    rw [if_pos e',if_neg e]
    have e3:(X++M'++Y).flatMap s'.nd=(L h).flatMap s.nd:=by
     rw [hX]
     simp only [List.flatMap_append]
     rw [fm,fm_congr (X:=X) (f:=s'.nd) (g:=s.nd) (fun r hr=>(XY r (.inl hr)).2.2),fm_congr (X:=Y) (f:=s'.nd) (g:=s.nd) (fun r hr=>(XY r (.inr hr)).2.2)]
    rw [e3,<-e',m.link j (by omega)]
    apply List.map_congr_left
    intro r hr
    have rq:r≠q:=fun t=>by have:=m.lev j (h+1) r (by omega) hd hr (by rw [t]; exact qL); omega
    unfold Tab.lk
    rw [if_neg (fun t=>by have:=t.1; simp at this; omega),if_neg (fun t=>by have:=t.1; simp at this; omega),other j r (by omega) e hr rq]
   ·rw [if_neg e',if_neg e]
    by_cases e2':j=h+1
    ·subst e2'
     rw [fm_congr (X:=L (h+1+1)) (f:=s'.nd) (g:=s.nd) (fun r hr=>other _ r hj (by omega) hr (fun t=>by have:=m.lev _ (h+1) r hj hd hr (by rw [t]; exact qL); omega)),m.link _ hj]
     apply List.map_congr_left
     intro r hr
     unfold Tab.lk
     rw [if_neg (fun t=>by have:=t.1; simp at this)]
     by_cases rq:r=q
     ·rw [if_pos ⟨by simp,rq⟩,rq]
     ·rw [if_neg (fun t=>rq t.2),other _ r hd (by omega) hr rq]
    ·rw [fm_congr (X:=L (j+1)) (f:=s'.nd) (g:=s.nd) (fun r hr=>other _ r hj e' hr (fun t=>by have:=m.lev _ (h+1) r hj hd hr (by rw [t]; exact qL); omega)),m.link _ hj]
     apply List.map_congr_left
     intro r hr
     unfold Tab.lk
     rw [if_neg (fun t=>by have:=t.1; simp at this; omega),if_neg (fun t=>by have:=t.1; simp at this; omega),other _ r (by omega) e hr (fun t=>by have:=m.lev _ (h+1) r (by omega) hd hr (by rw [t]; exact qL); omega)]
 ·by_cases e:h=0
  ·subst e
   rw [if_pos rfl,<-m.leaf,hX]
   simp only [List.flatMap_append]
   rw [fm,fm_congr (X:=X) (f:=s'.nd) (g:=s.nd) (fun r hr=>(XY r (.inl hr)).2.2),fm_congr (X:=Y) (f:=s'.nd) (g:=s.nd) (fun r hr=>(XY r (.inr hr)).2.2)]
  ·rw [if_neg (Ne.symm e),<-m.leaf]
   exact fm_congr fun r hr=>other 0 r (by omega) (Ne.symm e) hr (fun t=>by have:=m.lev 0 (h+1) r (by omega) hd hr (by rw [t]; exact qL); omega)
end

end Go.Proofs.YtoljhoabbaigdaaGreat

namespace Go.Proofs.YtoljhoabbaigdaaGreat
open Go.RowKit

theorem Tab.take_nd' {s:Tab} {zs:KV} (hf:∀ f,f ∈ s.free->f<s.nds.length) (r:Nat):(s.take zs).nd r=if r=s.place then zs else s.nd r:=by
 unfold Tab.take Tab.nd Tab.place
 cases e:s.free.getLast? with
 | none =>
  simp only [List.getD_eq_getElem?_getD]
  by_cases q:r=s.nds.length
  ·subst q; simp
  ·rw [if_neg q]
   by_cases q2:r<s.nds.length
   ·rw [List.getElem?_append_left q2]
   ·rw [List.getElem?_eq_none (by simp; omega),List.getElem?_eq_none (by omega)]
 | some p =>
  have:=hf p (List.mem_of_getLast? e)
  simp only
  rw [Tab.nd_set this]
theorem Tab.place_new {s:Tab}:s.place ∈ s.free∨s.place=s.nds.length:=by
 unfold Tab.place
 cases e:s.free.getLast? with
 | none=>exact .inr rfl
 | some p=>exact .inl (List.mem_of_getLast? e)
theorem Tab.place_lt {s:Tab} {zs:KV} (hf:∀ f,f ∈ s.free->f<s.nds.length):s.place<(s.take zs).nds.length:=by
 unfold Tab.place Tab.take
 cases e:s.free.getLast? with
 | none=>simp
 | some p=>simp; exact hf p (List.mem_of_getLast? e)
theorem dropLast_last {l:List Nat} {p:Nat} (h:l.getLast?=some p) (hn:l.Nodup):p ∉ l.dropLast:=by
 have e:l=l.dropLast++[p]:=by
  rcases List.eq_nil_or_concat l with t | ⟨a,b,t⟩
  ·rw [t] at h; cases h
  ·rw [List.concat_eq_append] at t
   rw [t,List.getLast?_concat] at h
   injection h with h
   rw [t,List.dropLast_concat,h]
 rw [e,List.nodup_append] at hn
 exact fun t=>hn.2.2 p t p (by simp) rfl
theorem Tab.place_out {s:Tab} {zs:KV} (hn:s.free.Nodup):s.place ∉ (s.take zs).free:=by
 rw [Tab.take_free]
 unfold Tab.place
 cases e:s.free.getLast? with
 | none =>
  rw [List.getLast?_eq_none_iff.1 e]; simp
 | some p=>exact dropLast_last e hn
theorem Tab.take_sum {s:Tab} {zs:KV}:(s.take zs).nds.length+(s.take zs).free.length<=s.nds.length+s.free.length+1:=by
 unfold Tab.take
 cases e:s.free.getLast? with
 | none=>simp; omega
 | some p=>simp; omega

theorem kv_cut (z:KV) (a:Nat) (ha:a<z.length) (y:ByteArray × Int):z.set a y=z.take a++[y]++z.drop (a+1):=by
 rw [List.set_eq_take_append_cons_drop,if_pos ha]; simp

section
variable {s:Tab} {L:Nat->List Nat} {l:KV} {h p:Nat} {K:ByteArray}
theorem Mid.seg (m:Mid s L l h p K) (hd:h+1<s.depth) {q a n:Nat} (hq:q ∈ L (h+1)) :
  ∃ A B X M Y,L (h+1)=A++[q]++B∧L h=X++M++Y∧A.flatMap s.nd++(s.nd q).take a=X.map (s.lk true p K)∧((s.nd q).drop a).take n=M.map (s.lk true p K)∧((s.nd q).drop a).drop n++B.flatMap s.nd=Y.map (s.lk true p K):=by
 obtain ⟨A,B,e⟩:=List.append_of_mem hq
 have k:=m.link h hd
 rw [decide_eq_true rfl,e,List.flatMap_append,List.flatMap_cons] at k
 have e2:s.nd q=(s.nd q).take a++(((s.nd q).drop a).take n++((s.nd q).drop a).drop n):=by rw [List.take_append_drop,List.take_append_drop]
 have k2:(L h).map (s.lk true p K)=((A.flatMap s.nd++(s.nd q).take a)++((s.nd q).drop a).take n)++(((s.nd q).drop a).drop n++B.flatMap s.nd):=by
  rw [<-k]
  conv=>lhs; rw [e2]
  simp only [List.append_assoc]
 obtain ⟨W,Y,h1,h2,h3⟩:=List.map_eq_append_iff.1 k2
 obtain ⟨X,M,h4,h5,h6⟩:=List.map_eq_append_iff.1 h2
 exact ⟨A,B,X,M,Y,by rw [e]; simp,by rw [h1,h4],h5.symm,h6.symm,h3.symm⟩
theorem lk_num (b:Bool) (r:Nat):(s.lk b p K r).2=(r:Int):=rfl
theorem KV.num_of {z:KV} {a:Nat} (ha:a<z.length):(z[a]'ha).2=z.num a:=by rw [KV.getE z a ha]
theorem Mid.seg1 (m:Mid s L l h p K) (hd:h+1<s.depth) {q a r:Nat} (hq:q ∈ L (h+1)) (ha:a<(s.nd q).length) (hn:(s.nd q).num a=r) :
  ∃ A B X Y,L (h+1)=A++[q]++B∧L h=X++[r]++Y∧A.flatMap s.nd++(s.nd q).take a=X.map (s.lk true p K)∧(s.nd q).drop (a+1)++B.flatMap s.nd=Y.map (s.lk true p K):=by
 obtain ⟨A,B,X,M,Y,h1,h2,h3,h4,h5⟩:=m.seg hd (a:=a) (n:=1) hq
 have e:((s.nd q).drop a).take 1=[(s.nd q)[a]]:=by rw [List.drop_eq_getElem_cons ha]; rfl
 rw [e] at h4
 match M,h4 with
 | [t],h4 =>
  simp only [List.map_cons,List.map_nil,List.cons.injEq,and_true] at h4
  have h6:=congrArg Prod.snd h4
  rw [KV.num_of,hn,lk_num] at h6
  have h7:r=t:=Int.ofNat.inj h6
  subst h7
  refine ⟨A,B,X,Y,h1,h2,h3,?_⟩
  rw [List.drop_drop] at h5
  exact h5
 | [],h4=>cases h4
 | _ :: _ :: _,h4=>simp at h4
end

end Go.Proofs.YtoljhoabbaigdaaGreat

namespace Go.Proofs.YtoljhoabbaigdaaGreat
open Go.RowKit

theorem KV.key0_take (z:KV) (n:Nat) (hn:0<n):KV.key (z.take n) 0=z.key 0:=by
 unfold KV.key
 rw [List.getD_eq_getElem?_getD,List.getD_eq_getElem?_getD,List.getElem?_take,if_pos hn]
theorem KV.key0_drop (z:KV) (n:Nat):KV.key (z.drop n) 0=z.key n:=by
 unfold KV.key
 rw [List.getD_eq_getElem?_getD,List.getD_eq_getElem?_getD,List.getElem?_drop,Nat.add_zero]
theorem ins_mid (Z1 Z2:KV) (x y:ByteArray × Int):ins (Z1++[x]++Z2) (Z1.length+1) y=Z1++[x,y]++Z2:=by
 unfold ins
 have e:Z1.length+1=(Z1++[x]).length:=by simp
 rw [e,List.take_left,List.drop_left]; simp

section
variable {s t:Tab} {L:Nat->List Nat} {l:KV} {h p:Nat} {K:ByteArray}
structure Stepped (s s':Tab) (L:Nat->List Nat) (h q:Nat) (n k:Nat):Prop where
 depth:s'.depth=s.depth
 root:s'.root=s.root
 count:s'.count=s.count
 other:∀ j r,j<s.depth->j≠h->r ∈ L j->r≠q->s'.nd r=s.nd r
 size:n<=(s'.nd q).length∧(s'.nd q).length<=n+1
 sum:s'.nds.length+s'.free.length<=s.nds.length+s.free.length+k
theorem Tab.take_same (s:Tab) (zs:KV):(s.take zs).depth=s.depth∧(s.take zs).root=s.root∧(s.take zs).count=s.count:=by
 unfold Tab.take; cases s.free.getLast?<;>exact ⟨rfl,rfl,rfl⟩

theorem Mid.fixed (m:Mid s L l h p K) (hd:h+1<s.depth) {A B X M Y:List Nat} {Z1 Z2:KV} {q P k:Nat}
  (hA:L (h+1)=A++[q]++B) (hX:L h=X++M++Y) (e1:A.flatMap s.nd++Z1=X.map (s.lk true p K)) (e2:Z2++B.flatMap s.nd=Y.map (s.lk true p K)) (hp:p ∈ M) (hP:P ∈ M)
  (td:t.depth=s.depth) (tr:t.root=s.root) (tc:t.count=s.count) (tq:t.nd q=Z1++[((t.nd P).key 0,(P:Int))]++Z2) (tp:t.nd P=M.flatMap s.nd)
  (to:∀ j r,j<s.depth->r ∈ L j->r≠q->r ∉ M->t.nd r=s.nd r) (tl:t.nds.length=s.nds.length) (tf:t.free.Nodup)
  (tfr:∀ f,f ∈ t.free->f<s.nds.length∧f≠P∧(f ∈ M∨∀ j,j<s.depth->f ∉ L j)) (ts:t.nds.length+t.free.length<=s.nds.length+s.free.length+k) (z2:2<=(t.nd P).length) (z5:(t.nd P).length<=7) :
  ∃ M',Mid (t.fix (q,Z1.length) P) (fun j=>if j=h then X++M'++Y else L j) l (h+1) q ((s.nd q).key 0)∧Stepped s (t.fix (q,Z1.length) P) L h q (Z1.length+1+Z2.length) (k+1):=by
 have qL:q ∈ L (h+1):=by rw [hA]; simp
 have Ml:∀ r,r ∈ M->r ∈ L h:=fun r hr=>by rw [hX]; simp [hr]
 have notM:∀ j r,j<s.depth->j≠h->r ∈ L j->r ∉ M:=fun j r hj hn hr hm=>hn (m.lev j h r hj (by omega) hr (Ml r hm))
 have qM:q ∉ M:=notM (h+1) q hd (by omega) qL
 have Pq:P≠q:=fun e=>qM (e ▸ hP)
 have Pl:P<s.nds.length:=m.lt h P (by omega) (Ml P hP)
 have ql:q<s.nds.length:=m.lt (h+1) q hd qL
 by_cases c:4<(t.nd P).length
 ·have ef:t.fix (q,Z1.length) P=t.split (q,Z1.length) P:=if_pos c
  have fl:∀ f,f ∈ t.free->f<t.nds.length:=fun f hf=>by rw [tl]; exact (tfr f hf).1
  obtain ⟨pl,hpl⟩:=nmq (t.place)
  have plq:pl≠q:=fun e=>by
   rcases Tab.place_new (s:=t) with k | k
   ·rw [<-hpl,e] at k
    rcases (tfr q k).2.2 with u | u
    ·exact qM u
    ·exact u (h+1) hd qL
   ·rw [<-hpl,e,tl] at k; omega
  have plP:pl≠P:=fun e=>by
   rcases Tab.place_new (s:=t) with k | k
   ·rw [<-hpl,e] at k; exact (tfr P k).2.1 rfl
   ·rw [<-hpl,e,tl] at k; omega
  have plM:pl ∈ M∨∀ j,j<s.depth->pl ∉ L j:=by
   rcases Tab.place_new (s:=t) with k | k
   ·rw [<-hpl] at k; exact (tfr pl k).2.2
   ·refine .inr fun j hj hm=>?_
    have:=m.lt j pl hj hm
    rw [<-hpl,tl] at k; omega
  have l1:(t.put P ((t.nd P).take 3)).nds.length=t.nds.length:=Tab.put_len _ _ _
  have n2:∀ r,((t.put P ((t.nd P).take 3)).take ((t.nd P).drop 3)).nd r=if r=pl then (t.nd P).drop 3 else if r=P then (t.nd P).take 3 else t.nd r:=fun r=>by
   rw [Tab.take_nd' (s:=t.put P ((t.nd P).take 3)) (fun f hf=>by rw [l1]; exact fl f hf),Tab.put_place,<-hpl,Tab.put_nd (by rw [tl]; exact Pl)]
  have l2:=(Tab.take_len (s:=t.put P ((t.nd P).take 3)) (zs:=(t.nd P).drop 3)).1
  rw [l1] at l2
  have n3:∀ r,(t.split (q,Z1.length) P).nd r=if r=q then Z1++[((t.nd P).key 0,(P:Int)),((t.nd P).key 3,(pl:Int))]++Z2 else if r=pl then (t.nd P).drop 3 else if r=P then (t.nd P).take 3 else t.nd r:=fun r=>by
   unfold Tab.split
   simp only
   rw [Tab.put_nd (by omega),n2,n2,if_neg (Ne.symm plq),if_neg (Ne.symm Pq),tq,ins_mid,<-hpl]
  have l3:(t.split (q,Z1.length) P).nds.length=((t.put P ((t.nd P).take 3)).take ((t.nd P).drop 3)).nds.length:=Tab.put_len _ _ _
  have f3:(t.split (q,Z1.length) P).free=t.free.dropLast:=Tab.take_free
  have sm:=Tab.take_same (t.put P ((t.nd P).take 3)) ((t.nd P).drop 3)
  have d3:(t.split (q,Z1.length) P).depth=s.depth:=sm.1.trans td
  have r3:(t.split (q,Z1.length) P).root=s.root:=sm.2.1.trans tr
  have c3:(t.split (q,Z1.length) P).count=s.count:=sm.2.2.trans tc
  have pnl:pl<(t.split (q,Z1.length) P).nds.length:=by
   rw [l3,hpl,<-Tab.put_place t P ((t.nd P).take 3)]
   exact Tab.place_lt (s:=t.put P ((t.nd P).take 3)) (fun f hf=>by rw [l1]; exact fl f hf)
  have ps:=Tab.take_sum (s:=t.put P ((t.nd P).take 3)) (zs:=(t.nd P).drop 3)
  have pf:(t.put P ((t.nd P).take 3)).free=t.free:=rfl
  have po:=Tab.place_out (s:=t) (zs:=(t.nd P).drop 3) tf
  rw [Tab.take_free,<-hpl] at po
  refine ⟨[P,pl],?_,?_⟩
  ·rw [ef]
   refine m.relink hd hA hX e1 e2 hp d3 r3 ?_ (fun j r hj hr hq hm=>?_) ?_ ?_ (fun r hr=>?_) (by rw [l3]; omega) (by rw [f3]; exact tf.sublist (List.dropLast_sublist _)) (fun f hf=>?_) (fun r hr=>?_)
   ·rw [n3,if_pos rfl]
    simp only [List.map_cons,List.map_nil]
    rw [n3 P,n3 pl,if_neg Pq,if_neg plq,if_neg (Ne.symm plP),if_pos rfl,if_pos rfl,KV.key0_take _ _ (by decide),KV.key0_drop]
   ·have r1:r≠P:=fun e=>hm (e ▸ hP)
    have r2:r≠pl:=fun e=>by
     rcases plM with k | k
     ·exact hm (e ▸ k)
     ·exact k j hj (e ▸ hr)
    rw [n3,if_neg hq,if_neg r2,if_neg r1]
    exact to j r hj hr hq hm
   ·simp only [List.flatMap_cons,List.flatMap_nil,List.append_nil]
    rw [n3 P,n3 pl,if_neg Pq,if_neg plq,if_neg (Ne.symm plP),if_pos rfl,if_pos rfl,List.take_append_drop,tp]
   ·simp; exact fun e=>plP e.symm
   ·simp at hr
    rcases hr with rfl | rfl
    ·exact ⟨by rw [l3]; omega,.inl hP⟩
    ·exact ⟨pnl,plM⟩
   ·rw [f3] at hf
    have hf2:=List.dropLast_subset _ hf
    obtain ⟨a1,a2,a3⟩:=tfr f hf2
    refine ⟨by rw [l3]; omega,?_,a3⟩
    simp
    exact ⟨a2,fun e=>po (e ▸ hf)⟩
   ·simp at hr
    rcases hr with rfl | rfl
    ·rw [n3,if_neg Pq,if_neg (Ne.symm plP),if_pos rfl,List.length_take]; omega
    ·rw [n3,if_neg plq,if_pos rfl,List.length_drop]; omega
  ·rw [ef]
   refine ⟨d3,r3,c3,fun j r hj hn hr hq=>?_,?_,?_⟩
   ·have hm:=notM j r hj hn hr
    have r1:r≠P:=fun e=>hm (e ▸ hP)
    have r2:r≠pl:=fun e=>by
     rcases plM with k | k
     ·exact hm (e ▸ k)
     ·exact k j hj (e ▸ hr)
    rw [n3,if_neg hq,if_neg r2,if_neg r1]
    exact to j r hj hr hq hm
   ·rw [n3,if_pos rfl]; simp; omega
   ·have:(t.split (q,Z1.length) P).free=((t.put P ((t.nd P).take 3)).take ((t.nd P).drop 3)).free:=rfl
    rw [l3,this]
    rw [l1,pf] at ps
    omega
 ·have ef:t.fix (q,Z1.length) P=t:=if_neg c
  refine ⟨[P],?_,?_⟩
  ·rw [ef]
   refine m.relink hd hA hX e1 e2 hp td tr ?_ to ?_ (by simp) (fun r hr=>?_) (by rw [tl]; exact Nat.le_refl _) tf (fun f hf=>?_) (fun r hr=>?_)
   ·rw [tq]; rfl
   ·simp only [List.flatMap_cons,List.flatMap_nil,List.append_nil]; exact tp
   ·simp at hr; subst hr; exact ⟨by rw [tl]; exact Pl,.inl hP⟩
   ·obtain ⟨a1,a2,a3⟩:=tfr f hf
    exact ⟨by rw [tl]; exact a1,by simp; exact a2,a3⟩
   ·simp at hr; subst hr; exact ⟨z2,by omega⟩
  ·rw [ef]
   refine ⟨td,tr,tc,fun j r hj hn hr hq=>to j r hj hr hq (notM j r hj hn hr),?_,by omega⟩
   rw [tq]; simp; omega
end

end Go.Proofs.YtoljhoabbaigdaaGreat

namespace Go.Proofs.YtoljhoabbaigdaaGreat
open Go.RowKit

section
variable {s:Tab} {L:Nat->List Nat} {l:KV} {h p:Nat} {K:ByteArray}
theorem Mid.qsize (m:Mid s L l h p K) (hd:h+1<s.depth) {q:Nat} (hq:q ∈ L (h+1)):2<=(s.nd q).length∧(s.nd q).length<=4:=by
 have:=m.size (h+1) q hd hq (fun t=>by omega)
 rw [if_neg (show ¬ s.depth=1 by omega)] at this
 exact this
theorem Mid.kids (m:Mid s L l h p K) (hd:h+1<s.depth) {q:Nat} (hq:q ∈ L (h+1)) :
  ∃ M:List Nat,M.length=(s.nd q).length∧M.Nodup∧(∀ r,r ∈ M->r ∈ L h)∧∀ j (hj:j<M.length),(s.nd q).num j=(M[j]:Int)∧(s.nd q).key j=if M[j]=p then K else (s.nd M[j]).key 0:=by
 obtain ⟨A,B,X,M,Y,h1,h2,h3,h4,h5⟩:=m.seg hd (a:=0) (n:=(s.nd q).length) hq
 rw [List.drop_zero,List.take_length] at h4
 have hl:M.length=(s.nd q).length:=by rw [h4,List.length_map]
 have nx:=nodup_mid (by rw [<-h2]; exact m.nodup h (by omega))
 refine ⟨M,hl,nx.2.2.2.2.1,fun r hr=>by rw [h2]; simp [hr],fun j hj=>?_⟩
 have hj2:j<(s.nd q).length:=by omega
 have e:(s.nd q)[j]=s.lk true p K M[j]:=by simp only [h4,List.getElem_map]
 rw [KV.getE _ _ hj2] at e
 unfold Tab.lk at e
 injection e with e1 e2
 refine ⟨e2,?_⟩
 rw [e1]
 by_cases c:M[j]=p
 ·rw [if_pos ⟨rfl,c⟩,if_pos c]
 ·rw [if_neg (fun t=>c t.2),if_neg c]
theorem Mid.kid_mem (m:Mid s L l h p K) (hd:h+1<s.depth) {q a r:Nat} (hq:q ∈ L (h+1)) (ha:a<(s.nd q).length) (hn:(s.nd q).num a=r):r ∈ L h:=by
 obtain ⟨A,B,X,Y,_,h2,_⟩:=m.seg1 hd hq ha hn
 rw [h2]; simp
theorem Mid.fineUp (m:Mid s L l h p K) (hd:h+1<s.depth) {q a:Nat} (hq:q ∈ L (h+1)) (ha:a<(s.nd q).length) (hn:(s.nd q).num a=p) (h1:1<=(s.nd p).length) (h7:(s.nd p).length<=7) (ln:s.nds.length<=850000) (lf:s.free.length<=850000):FineUp s (q,a) p:=by
 have hp:=m.kid_mem hd hq ha hn
 have qs:=m.qsize hd hq
 refine ⟨m.lt _ _ hd hq,ha,m.lt _ _ (by omega) hp,fun e=>?_,h1,by omega,by show (s.nd q).length<=_; omega,fun f hf=>⟨(m.free f hf).1,fun e=>(m.free f hf).2 _ hd (by rw [e]; exact hq)⟩,ln,lf⟩
 have:=m.lev h (h+1) p (by omega) hd hp (by rw [e]; exact hq); omega
theorem Mid.up (m:Mid s L l h p K) (hd:h+1<s.depth) {q a:Nat} (hq:q ∈ L (h+1)) (ha:a<(s.nd q).length) (hn:(s.nd q).num a=p) (h2:2<=(s.nd p).length) (h7:(s.nd p).length<=7) :
  ∃ L',Mid (s.up (q,a) p) L' l (h+1) q ((s.nd q).key 0)∧(∀ j,j≠h->L' j=L j)∧Stepped s (s.up (q,a) p) L h q (s.nd q).length 1:=by
 obtain ⟨A,B,X,Y,e1,e2,e3,e4⟩:=m.seg1 hd hq ha hn
 have hp:=m.kid_mem hd hq ha hn
 have ql:=m.lt _ _ hd hq
 have pq:p≠q:=fun e=>by have:=m.lev h (h+1) p (by omega) hd hp (by rw [e]; exact hq); omega
 have tn:∀ r,(s.tell (q,a) p).nd r=if r=q then (s.nd q).set a ((s.nd p).key 0,(s.nd q).num a) else s.nd r:=fun r=>Tab.put_nd ql r
 have ln:((s.nd q).take a).length=a:=by rw [List.length_take]; omega
 have eu:s.up (q,a) p=(s.tell (q,a) p).fix (q,((s.nd q).take a).length) p:=by
  unfold Tab.up Tab.fix
  rw [tn p,if_neg pq,ln]
 obtain ⟨M',h3,h4⟩:=m.fixed (t:=s.tell (q,a) p) (P:=p) (k:=0) hd e1 e2 e3 e4 (by simp) (by simp) rfl rfl rfl
  (by rw [tn,if_pos rfl,kv_cut _ _ ha,tn p,if_neg pq,hn]) (by rw [tn,if_neg pq]; simp) (fun j r _ _ h3 _=>by rw [tn,if_neg h3]) (Tab.put_len _ _ _) m.fnd
  (fun f hf=>⟨(m.free f hf).1,fun e=>(m.free f hf).2 h (by omega) (by rw [e]; exact hp),.inr (m.free f hf).2⟩) (by show (s.put _ _).nds.length+s.free.length<=_; rw [Tab.put_len]; exact Nat.le_refl _) (by rw [tn,if_neg pq]; exact h2) (by rw [tn,if_neg pq]; exact h7)
 rw [eu]
 refine ⟨_,h3,fun j hj=>if_neg hj,?_⟩
 have e:((s.nd q).take a).length+1+((s.nd q).drop (a+1)).length=(s.nd q).length:=by rw [ln,List.length_drop]; omega
 rw [e] at h4
 exact h4
end

end Go.Proofs.YtoljhoabbaigdaaGreat

namespace Go.Proofs.YtoljhoabbaigdaaGreat
open Go.RowKit

abbrev Whole (s:Tab) (L:Nat->List Nat) (l:KV):Prop:=Mid s L l s.depth 0 ⟨#[]⟩
theorem Mid.clean {s:Tab} {L:Nat->List Nat} {l:KV} {h p:Nat} {K:ByteArray} (m:Mid s L l h p K) (sz:h<s.depth->p ∈ L h->(if s.depth=1 then 1 else 2)<=(s.nd p).length∧(s.nd p).length<=4) (hk:h+1<s.depth->K=(s.nd p).key 0):Whole s L l:=by
 refine ⟨m.d1,m.top,m.nodup,m.lev,m.lt,m.fnd,m.free,fun j r hj hr _=>?_,fun j hj=>?_,m.leaf⟩
 ·by_cases e:j=h∧r=p
  ·obtain ⟨rfl,rfl⟩:=e; exact sz hj hr
  ·exact m.size j r hj hr e
 ·rw [m.link j hj]
  apply List.map_congr_left
  intro r _
  unfold Tab.lk
  rw [if_neg (show ¬ (decide (j=s.depth)=true∧r=0) from fun t=>by have:=t.1; simp at this; omega)]
  by_cases e:j=h
  ·subst e
   by_cases c:r=p
   ·rw [if_pos ⟨by simp,c⟩,c,hk hj]
   ·rw [if_neg (fun t=>c t.2)]
  ·rw [if_neg (fun t=>e (by have:=t.1; simpa using this))]
section
variable {s:Tab} {L:Nat->List Nat} {l:KV}
theorem Whole.linkW (m:Whole s L l) {j:Nat} (hj:j+1<s.depth):(L (j+1)).flatMap s.nd=(L j).map (fun r=>((s.nd r).key 0,(r:Int))):=by
 rw [m.link j hj]
 apply List.map_congr_left
 intro r _
 unfold Tab.lk
 rw [if_neg (fun t=>by have:=t.1; simp at this; omega)]
theorem lk_self (b:Bool) (p r:Nat):s.lk b p ((s.nd p).key 0) r=((s.nd r).key 0,(r:Int)):=by
 unfold Tab.lk
 by_cases c:b=true∧r=p
 ·rw [if_pos c,c.2]
 ·rw [if_neg c]
theorem Whole.at (m:Whole s L l) (j p:Nat):Mid s L l j p ((s.nd p).key 0):=by
 refine ⟨m.d1,m.top,m.nodup,m.lev,m.lt,m.fnd,m.free,fun i r hi hr _=>m.size i r hi hr (fun t=>by omega),fun i hi=>?_,m.leaf⟩
 rw [m.linkW hi]
 apply List.map_congr_left
 intro r _
 rw [lk_self]
theorem Whole.pos (m:Whole s L l) {j r:Nat} (hj:j<s.depth) (hr:r ∈ L j):1<=(s.nd r).length∧(s.nd r).length<=4:=by
 have:=m.size j r hj hr (fun t=>by omega)
 by_cases c:s.depth=1
 ·rw [if_pos c] at this; exact this
 ·rw [if_neg c] at this; omega
abbrev RiseL (z:KV):Prop:=z.Pairwise fun x y=>ltB x.1 y.1=true
theorem KV.key_mem (z:KV) {i:Nat} (hi:i<z.length):∃ n,(z.key i,n) ∈ z:=⟨z.num i,by rw [<-KV.getE z i hi]; exact List.getElem_mem hi⟩
theorem KV.rise_at {z:KV} (h:RiseL z) {i j:Nat} (hi:i<j) (hj:j<z.length):ltB (z.key i) (z.key j)=true:=by
 unfold RiseL at h
 rw [List.pairwise_iff_getElem] at h
 have:=h i j (by omega) hj hi
 rw [KV.getE z i (by omega),KV.getE z j hj] at this
 exact this
theorem Whole.rise (m:Whole s L l) (h0:RiseL l):∀ j,j<s.depth->RiseL ((L j).flatMap s.nd)
 | 0,_=>by rw [m.leaf]; exact h0
 | j+1,hj=>by
  have ih:=Whole.rise m h0 j (by omega)
  rw [m.linkW hj]
  unfold RiseL at ih ⊢
  rw [List.pairwise_flatMap] at ih
  rw [List.pairwise_map]
  refine List.Pairwise.imp_of_mem ?_ ih.2
  intro a b ha hb hab
  obtain ⟨n1,k1⟩:=KV.key_mem (s.nd a) (i:=0) (by have:=m.pos (by omega) ha; omega)
  obtain ⟨n2,k2⟩:=KV.key_mem (s.nd b) (i:=0) (by have:=m.pos (by omega) hb; omega)
  exact hab (_,n1) k1 (_,n2) k2

structure Here (s:Tab) (L:Nat->List Nat) (k:ByteArray) (j p:Nat):Prop where
 mem:∃ A B,L j=A++[p]++B∧(∀ x,x ∈ B.flatMap s.nd->ltB k x.1=true)∧(A=[]∨ltB k ((s.nd p).key 0)=false)
theorem ltB_le_trans {a b c:ByteArray} (h:ltB a b=true) (k:ltB c b=false):ltB a c=true:=by
 cases e:ltB a c with
 | true=>rfl
 | false =>
  cases f:ltB c a with
  | true=>exact absurd (ltB_trans f h) (by rw [k]; decide)
  | false=>rw [ltB_total e f] at h; rw [h] at k; cases k
theorem kid_lt {z:KV} {k:ByteArray} (h:0<z.length):z.kid k<z.length:=by
 unfold KV.kid
 have:=KV.pos_le k z
 by_cases c:z.has k=true
 ·rw [if_pos c]; exact ((KV.has_iff z k).1 c).1
 ·rw [if_neg c]; omega
theorem kid_above {z:KV} {k:ByteArray} (hz:RiseL z) {i:Nat} (hi:z.kid k<i) (hl:i<z.length):ltB k (z.key i)=true:=by
 unfold KV.kid at hi
 by_cases c:z.has k=true
 ·rw [if_pos c] at hi
  have e:=((KV.has_iff z k).1 c).2
  have:=KV.rise_at hz hi hl
  rw [e] at this; exact this
 ·rw [if_neg c] at hi
  have hp:z.pos k<z.length:=by omega
  have st:=KV.pos_stop k z hp
  have lt:ltB k (z.key (z.pos k))=true:=by
   cases e:ltB k (z.key (z.pos k)) with
   | true=>rfl
   | false=>exact absurd ((KV.has_iff z k).2 ⟨hp,(ltB_total e st).symm⟩) c
  by_cases t:i=z.pos k
  ·rw [t]; exact lt
  ·exact ltB_trans lt (KV.rise_at hz (by omega) hl)
theorem kid_below {z:KV} {k:ByteArray} (h:z.kid k≠0∨ltB k (z.key 0)=false):ltB k (z.key (z.kid k))=false:=by
 by_cases z0:z.kid k=0
 ·rw [z0]
  exact h.resolve_left (fun t=>t z0)
 ·unfold KV.kid at z0 ⊢
  by_cases c:z.has k=true
  ·rw [if_pos c,((KV.has_iff z k).1 c).2]; exact ltB_irr k
  ·rw [if_neg c] at z0 ⊢
   exact ltB_asym (KV.pos_below k z _ (by omega))
theorem Here.root (m:Whole s L l) (k:ByteArray):Here s L k (s.depth-1) s.root:=⟨[],[],by rw [m.top]; rfl,fun x hx=>(by cases hx),.inl rfl⟩
theorem Here.down (m:Whole s L l) (h0:RiseL l) {k:ByteArray} {j p:Nat} (hj:j+1<s.depth) (hh:Here s L k (j+1) p) :
  (s.nd p).kid k<(s.nd p).length∧∃ q:Nat,(s.nd p).num ((s.nd p).kid k)=q∧Here s L k j q:=by
 obtain ⟨A,B,e,hB,hA⟩:=hh.mem
 have pm:p ∈ L (j+1):=by rw [e]; simp
 have sz:=m.pos hj pm
 have kl:=kid_lt (z:=s.nd p) (k:=k) (by omega)
 refine ⟨kl,?_⟩
 obtain ⟨M,hl,_,_,hk⟩:=(m.at j 0).kids hj pm
 have hq:=(hk _ (by rw [hl]; exact kl)).1
 refine ⟨_,hq,?_⟩
 obtain ⟨q,hqe⟩:=nmq (M[(s.nd p).kid k]'(by rw [hl]; exact kl))
 rw [<-hqe] at hq ⊢
 obtain ⟨A',B',X,Y,e1,e2,e3,e4⟩:=(m.at j 0).seg1 hj pm kl hq
 have nx:=nodup_mid (by rw [<-e]; exact m.nodup (j+1) hj)
 have cut:A'=A∧B'=B:=by
  have e5:A++p :: B=A'++p :: B':=by
   have:=e.symm.trans e1
   simpa using this
  have pA:p ∉ A:=(nx.2.1 p (by simp)).1
  have nx':=nodup_mid (by rw [<-e1]; exact m.nodup (j+1) hj)
  have pA':p ∉ A':=(nx'.2.1 p (by simp)).1
  rcases List.append_eq_append_iff.1 e5 with ⟨C,h1,h2⟩ | ⟨C,h1,h2⟩
  ·cases C with
   | nil=>simp at h1 h2; exact ⟨h1,h2.symm⟩
   | cons c C=>simp at h2; exact absurd (by rw [h1,<-h2.1]; simp) pA'
  ·cases C with
   | nil=>simp at h1 h2; exact ⟨h1.symm,h2⟩
   | cons c C=>simp at h2; exact absurd (by rw [h1,<-h2.1]; simp) pA
 obtain ⟨rfl,rfl⟩:=cut
 have rj:=m.rise h0 j (by omega)
 have rj1:=m.rise h0 (j+1) hj
 have rp:RiseL (s.nd p):=by
  unfold RiseL at rj1
  rw [List.pairwise_flatMap] at rj1
  exact rj1.1 p pm
 have lkf:∀ W:List Nat,W.map (s.lk true 0 ((s.nd 0).key 0))=W.map (fun r=>((s.nd r).key 0,(r:Int))):=fun W=>List.map_congr_left fun r _=>lk_self _ _ _
 rw [lkf] at e3 e4
 have qm:q ∈ L j:=by rw [e2]; simp
 have kq:(s.nd q).key 0=(s.nd p).key ((s.nd p).kid k):=by
  have k1:=(hk _ (show (s.nd p).kid k<M.length by rw [hl]; exact kl)).2
  rw [<-hqe] at k1
  rw [k1]
  by_cases c:q=0
  ·rw [if_pos c,c]
  ·rw [if_neg c]
 have head:∀ r,r ∈ L j->∀ x,x ∈ s.nd r->ltB x.1 ((s.nd r).key 0)=false:=fun r hr x hx=>by
  have rr:RiseL (s.nd r):=by
   unfold RiseL at rj
   rw [List.pairwise_flatMap] at rj
   exact rj.1 r hr
  obtain ⟨i,hi,rfl⟩:=List.getElem_of_mem hx
  rw [KV.getE _ _ hi]
  by_cases c:i=0
  ·rw [c]; exact ltB_irr _
  ·exact ltB_asym (KV.rise_at rr (by omega) hi)
 refine ⟨X,Y,e2,fun x hx=>?_,?_⟩
 ·rw [List.mem_flatMap] at hx
  obtain ⟨r,hr,hx⟩:=hx
  have rl:r ∈ L j:=by rw [e2]; simp [hr]
  have up:ltB k ((s.nd r).key 0)=true:=by
   have im:((s.nd r).key 0,(r:Int)) ∈ Y.map (fun r=>((s.nd r).key 0,(r:Int))):=List.mem_map.2 ⟨r,hr,rfl⟩
   rw [<-e4,List.mem_append] at im
   rcases im with im | im
   ·obtain ⟨i,hi,he⟩:=List.getElem_of_mem im
    rw [List.getElem_drop,KV.getE _ _ (by rw [List.length_drop] at hi; omega)] at he
    injection he with he _
    rw [<-he]
    exact kid_above rp (by omega) (by rw [List.length_drop] at hi; omega)
   ·exact hB (_,(r:Int)) im
  exact ltB_le_trans up (head r rl x hx)
 ·rw [kq]
  by_cases c:X=[]
  ·exact .inl c
  ·refine .inr (kid_below ?_)
   by_cases z:(s.nd p).kid k=0
   ·rw [z,List.take_zero,List.append_nil] at e3
    refine .inr (hA.resolve_left fun t=>c ?_)
    rw [t] at e3
    exact List.map_eq_nil_iff.1 e3.symm
   ·exact .inl z
theorem down_succ (s:Tab) (k:ByteArray) (h p:Nat):s.down k (h+2) p=(p,(s.nd p).kid k) :: s.down k (h+1) ((s.nd p).num ((s.nd p).kid k)).toNat:=rfl
structure Path (s:Tab) (L:Nat->List Nat) (k:ByteArray) (h p:Nat) (ws:List (Nat × Nat)):Prop where
 len:ws.length=h+1
 mem:∀ i,i<=h->(ws.getD i (0,0)).1 ∈ L (h-i)
 top:(ws.getD 0 (0,0)).1=p
 next:∀ i,i<h->(ws.getD i (0,0)).2<(s.nd (ws.getD i (0,0)).1).length∧(s.nd (ws.getD i (0,0)).1).num (ws.getD i (0,0)).2=((ws.getD (i+1) (0,0)).1:Int)
 last:(ws.getD h (0,0)).2=(s.nd (ws.getD h (0,0)).1).pos k
 here:Here s L k 0 (ws.getD h (0,0)).1
theorem Whole.path (m:Whole s L l) (h0:RiseL l) (k:ByteArray):∀ h p,h<s.depth->Here s L k h p->s.Walks k (h+1) p∧Path s L k h p (s.down k (h+1) p)
 | 0,p,hd,hh=>by
  obtain ⟨A,B,e,_⟩:=hh.mem
  have pm:p ∈ L 0:=by rw [e]; simp
  have:=m.pos hd pm
  refine ⟨⟨m.lt 0 p hd pm,by omega⟩,rfl,fun i hi=>?_,rfl,fun i hi=>absurd hi (by omega),rfl,hh⟩
  have:i=0:=by omega
  subst this; exact pm
 | h+1,p,hd,hh=>by
  obtain ⟨kl,q,hq,hd2⟩:=hh.down m h0 hd
  obtain ⟨A,B,e,_⟩:=hh.mem
  have pm:p ∈ L (h+1):=by rw [e]; simp
  have sz:=m.pos hd pm
  obtain ⟨w1,p1⟩:=Whole.path m h0 k h q (by omega) hd2
  have ed:s.down k (h+2) p=(p,(s.nd p).kid k) :: s.down k (h+1) q:=by rw [down_succ,hq,Int.toNat_natCast]
  refine ⟨⟨m.lt _ p hd pm,by omega,kl,q,hq,w1⟩,?_⟩
  rw [show h+1+1=h+2 from rfl,ed]
  refine ⟨by rw [List.length_cons,p1.len],fun i hi=>?_,rfl,fun i hi=>?_,?_,?_⟩
  ·cases i with
   | zero=>exact pm
   | succ i =>
    rw [show h+1-(i+1)=h-i by omega]
    exact p1.mem i (by omega)
  ·cases i with
   | zero=>exact ⟨kl,hq.trans (by rw [show ((p,(s.nd p).kid k) :: s.down k (h+1) q).getD (0+1) (0,0)=(s.down k (h+1) q).getD 0 (0,0) from rfl,p1.top])⟩
   | succ i=>exact p1.next i (by omega)
  ·exact p1.last
  ·exact p1.here
end

theorem KV.pos_app {k:ByteArray}:∀ {U V:KV},(∀ x,x ∈ U->ltB x.1 k=true)->KV.pos k (U++V)=U.length+KV.pos k V
 | [],V,_=>by simp
 | x :: U,V,h=>by
  have e:KV.pos k (x :: (U++V))=if ltB x.1 k then KV.pos k (U++V)+1 else 0:=rfl
  rw [List.cons_append,e,if_pos (h x (by simp)),KV.pos_app fun y hy=>h y (by simp [hy]),List.length_cons]; omega
theorem KV.pos_app_r {k:ByteArray}:∀ {V W:KV},(∀ x,x ∈ W->ltB x.1 k=false)->KV.pos k (V++W)=KV.pos k V
 | [],[],_=>rfl
 | [],x :: W,h=>by
  have e:KV.pos k (x :: W)=if ltB x.1 k then KV.pos k W+1 else 0:=rfl
  rw [List.nil_append,e,if_neg (by rw [h x (by simp)]; decide)]; rfl
 | x :: V,W,h=>by
  have e:KV.pos k (x :: (V++W))=if ltB x.1 k then KV.pos k (V++W)+1 else 0:=rfl
  have e2:KV.pos k (x :: V)=if ltB x.1 k then KV.pos k V+1 else 0:=rfl
  rw [List.cons_append,e,e2,KV.pos_app_r h]
structure Found (s:Tab) (L:Nat->List Nat) (l:KV) (k:ByteArray) (P:Nat) (A B:List Nat):Prop where
 cut:L 0=A++[P]++B
 all:l=A.flatMap s.nd++s.nd P++B.flatMap s.nd
 pos:l.pos k=(A.flatMap s.nd).length+(s.nd P).pos k
 has:l.has k=(s.nd P).has k
theorem KV.key_app_r {U V:KV} {i:Nat}:KV.key (U++V) (U.length+i)=KV.key V i:=by
 unfold KV.key
 rw [List.getD_eq_getElem?_getD,List.getD_eq_getElem?_getD,List.getElem?_append_right (by omega),Nat.add_sub_cancel_left]
theorem KV.key_app_l {U V:KV} {i:Nat} (h:i<U.length):KV.key (U++V) i=KV.key U i:=by
 unfold KV.key
 rw [List.getD_eq_getElem?_getD,List.getD_eq_getElem?_getD,List.getElem?_append_left h]
theorem Here.found {s:Tab} {L:Nat->List Nat} {l:KV} {k:ByteArray} {P:Nat} (m:Whole s L l) (h0:RiseL l) (hh:Here s L k 0 P):∃ A B,Found s L l k P A B:=by
 obtain ⟨A,B,e,hB,hA⟩:=hh.mem
 have al:l=A.flatMap s.nd++s.nd P++B.flatMap s.nd:=by
  rw [<-m.leaf,e]; simp
 have pm:P ∈ L 0:=by rw [e]; simp
 have sz:=m.pos m.d1 pm
 have rl:=h0
 rw [al] at rl
 unfold RiseL at rl
 rw [List.pairwise_append,List.pairwise_append] at rl
 obtain ⟨n0,k0⟩:=KV.key_mem (s.nd P) (i:=0) (by omega)
 have hU:∀ x,x ∈ A.flatMap s.nd->ltB x.1 k=true:=fun x hx=>by
  rcases hA with t | t
  ·rw [t] at hx; cases hx
  ·exact ltB_le_trans (rl.1.2.2 x hx _ k0) t
 have hW:∀ x,x ∈ B.flatMap s.nd->ltB x.1 k=false:=fun x hx=>ltB_asym (hB x hx)
 have ps:l.pos k=(A.flatMap s.nd).length+(s.nd P).pos k:=by
  rw [al,List.append_assoc,KV.pos_app hU,KV.pos_app_r hW]
 refine ⟨A,B,e,al,ps,?_⟩
 have pl:=KV.pos_le k (s.nd P)
 rw [Bool.eq_iff_iff,KV.has_iff,KV.has_iff,ps]
 by_cases c:(s.nd P).pos k<(s.nd P).length
 ·have e1:l.key ((A.flatMap s.nd).length+(s.nd P).pos k)=(s.nd P).key ((s.nd P).pos k):=by
   rw [al,List.append_assoc,KV.key_app_r,KV.key_app_l c]
  rw [e1]
  exact ⟨fun t=>⟨c,t.2⟩,fun t=>⟨by rw [al]; simp; omega,t.2⟩⟩
 ·refine ⟨fun t=>?_,fun t=>absurd t.1 c⟩
  have e2:(s.nd P).pos k=(s.nd P).length:=by omega
  have e1:l.key ((A.flatMap s.nd).length+(s.nd P).pos k)=KV.key (B.flatMap s.nd) 0:=by
   rw [al,List.append_assoc,KV.key_app_r,e2,show (s.nd P).length=(s.nd P).length+0 from rfl,KV.key_app_r]
  have hl:0<(B.flatMap s.nd).length:=by
   have:=t.1
   rw [al,e2] at this; simp only [List.length_append] at this; omega
  obtain ⟨n,hn⟩:=KV.key_mem (B.flatMap s.nd) hl
  have:=hB _ hn
  rw [<-e1,t.2,ltB_irr] at this
  cases this

end Go.Proofs.YtoljhoabbaigdaaGreat

namespace Go.Proofs.YtoljhoabbaigdaaGreat
open Go.RowKit

theorem xInsert0 (w:World) (T:Nat) (E:Nat->Prop) (s:Tab) (v:Value) (k:ByteArray) (n:Int) (h:TabG w T E s) (hv:SlW w v []) (hf:∀ p,p ∈ s.free->p<s.nds.length) (hn:s.nds.length<=900000) (hn2:s.free.length<=900000) :
  Calls Tryz.prog 144 #[Ptr T,v,.agg #[.string k,.int .i64 n]] w fun r w'=>r=.returned (.tuple #[])∧LeftP w T E { s.take [(k,n)] with root:=s.place,depth:=1 } w':=by
 obtain ⟨rv,fv,vs,h⟩:=h
 obtain ⟨A,c,rfl,_⟩:=hv
 obtain ⟨q,hq⟩:=nmq (w.heap.size)
 obtain ⟨w1,hw1⟩:=nmq ((w.alloc (.cells #[.string k,.int .i64 n] 221)).alloc (.cells #[.string k,.int .i64 n] 221))
 have B1:Below w.heap.size w w1:=by rw [hw1]; exact ((Below.refl _ _).alloc (Nat.le_refl _) _).alloc (by simp) _
 have s1:w1.heap.size=q+2:=by rw [hw1,hq]; simp
 have r1:RowAt w1 (q+1) [.string k,.int .i64 n] 221:=by
  rw [hw1,hq]
  have:=RowAt.new (w.alloc (.cells #[.string k,.int .i64 n] 221)) [.string k,.int .i64 n] 221
  simpa using this
 have v1:TabV w1 T (fun i=>E i∨i=q+1) s rv fv vs:=(h.below B1).grow (fun i e=>.inl e) (fun i e=>by
  rcases e with e | e
  ·have:=h.lt i e; omega
  ·omega)
 have wn:WinAt w1 (q+1) 0 1 [(k,n)]:=by
  refine ⟨Nat.le_refl _,by decide,by decide,fun j u hj=>?_,fun j hj=>?_,⟨_,r1⟩⟩
  ·rw [Nat.zero_add,r1.cell]; exact hj
  ·rw [Nat.zero_add,r1.cell,List.getElem?_eq_getElem hj]; rfl
 have TC:=qh (xTake w1 T (fun i=>E i∨i=q+1) s rv fv vs (some ⟨q+1,0,none⟩) 1 1 [(k,n)] v1 wn.node (fun i j ⟨_,_,_,e,_⟩=>by
  injection e with e _ _
  injection e with e
  injection e with e _ _
  have e:i=q+1:=e.symm
  refine ⟨⟨.inr e,fun t=>?_,fun t=>?_,fun t=>?_⟩,fun m hm f=>?_⟩
  ·have:=h.lt T h.eT; omega
  ·have:=h.lt i (h.eN i t).1; omega
  ·have:=h.lt i (h.eF i t).1; omega
  ·have:=h.lt i (h.eW m i j hm f).1; omega) hf hn hn2)
 have FIN:=qh (show ∀ w3,TookP w1 T (fun i=>E i∨i=q+1) s rv fv [(k,n)] w3->LeftP w T E { s.take [(k,n)] with root:=s.place,depth:=1 } ((w3.setCell ⟨T,2,none⟩ (.int .i64 s.place)).setCell ⟨T,3,none⟩ (.int .i64 1)) from fun w3 ⟨⟨E3,⟨rv3,fv3,vs3,h3⟩,a3,c3⟩,_⟩=>by
  have h4:=h3.field (s':={ s.take [(k,n)] with root:=s.place }) (u:=.int .i64 s.place) 2 rfl rfl rfl
  have h5:=h4.field (s':={ s.take [(k,n)] with root:=s.place,depth:=1 }) (u:=.int .i64 1) 3 rfl rfl rfl
  refine ⟨E3,⟨rv3,fv3,vs3,h5⟩,fun i e=>?_,?_⟩
  ·rcases a3 i e with (f | f) | f
   ·exact .inl f
   ·exact .inr (by omega)
   ·exact .inr (by omega)
  ·refine Chg.setCell (Chg.setCell ((Chg.of_below B1).trans c3 fun i e=>?_) (.inl h.eT) _) (.inl h.eT) _
   rcases e with e | e
   ·exact .inl e
   ·exact .inr (by omega))
 have ST:=qh (show ∀ w3,TookP w1 T (fun i=>E i∨i=q+1) s rv fv [(k,n)] w3->(∃ u,w3.cell? ⟨T,2,none⟩=some u)∧(∃ u,w3.cell? ⟨T,3,none⟩=some u)∧∀ j,w3.frozen? ⟨T,j,none⟩=false from fun w3 ⟨⟨E3,⟨rv3,fv3,vs3,h3⟩,_,_⟩,_⟩=>⟨⟨_,h3.row.cell 2⟩,⟨_,h3.row.cell 3⟩,fun j=>h3.row.frozen j⟩)
 have HW1:=qh hw1
 have HQ:=qh hq
 clear h v1 wn r1 s1 B1 hw1 hq hn hn2 hf
 go_enter Tryz.func144,Tryz.ntmps144
 go_wp2_with (go_at_call 157; rw [<-HW1.out,<-HQ.out]; refine TC.out.mono ?_; rintro r w3 ⟨rfl,ht⟩; obtain ⟨⟨u2,e2⟩,⟨u3,e3⟩,z⟩:=ST.out w3 ht; have z2:=z 2; have z3:=z 3; have T3:=qh ht; clear ht z)
 (try simp only [Exit.inBlock,Exit.then])
 refine bodyPost_ret (results_none rfl _ _ _) rfl ?_
 exact ⟨rfl,FIN.out w3 T3.out⟩

theorem TabV.eq_win {w:World} {T:Nat} {E:Nat->Prop} {s:Tab} {rv fv:Value} {vs:List Value} (h:TabV w T E s rv fv vs) {g c:Nat} (hr:rv=.slice (some ⟨g,0,none⟩) vs.length c) {p:Nat} (hp:p<vs.length):w.cell? ⟨g,p,none⟩=some (tnv vs p)∧w.frozen? ⟨g,p,none⟩=false:=by
 obtain ⟨g',c',e,_,_,hc⟩:=h.rowAt (by omega)
 rw [hr] at e
 injection e with e _ _
 injection e with e
 injection e with e _ _
 subst e
 exact hc p hp
def Tab.bare:Tab:=⟨[],[],0,0,0⟩
end Go.Proofs.YtoljhoabbaigdaaGreat
