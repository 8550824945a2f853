/- Proved parts: A0d A0e. Conditions: each theorem's own. -/
import Derived.Test.YtbfgpdgiaclphaaGreatM43
import Derived.Laws.Rows
import Derived.Shelf.SlSorted.Search
import Derived.Test.YtbfgpdgiaclphaaGreatQ2
set_option maxRecDepth 100000
set_option maxHeartbeats 8000000
namespace Go.Proofs.YtbfgpdgiaclphaaGreat
open Go.RowKit Go.Shelf

def searchRen0:Ren:={ f:=fun k=>if k=16 then 152 else k,t:=fun k=>if k=3 then 3 else if k=4 then 4 else if k=35 then 228 else if k=38 then 158 else k,g:=fun k=>k }
theorem searchLays0:SlLaysO.n16 Tryz.prog searchRen0 where
 mixed:=by kernel_rfl
 f16:=by kernel_rfl
 t3:=by kernel_rfl
 a3:=by intro w; rfl
 z3:=by intro w; rfl
 v3:=by intro w; rfl
 t4:=by kernel_rfl
 a4:=by intro w; rfl
 z4:=by intro w; rfl
 v4:=by intro w; rfl
 t35:=by kernel_rfl
 a35:=by intro w; rfl
 z35:=by intro w; rfl
 v35:=by intro w; rfl
 t38:=by kernel_rfl
 a38:=by intro w; rfl
 z38:=by intro w; rfl
 v38:=by intro w; rfl

theorem count_at (l:List Int) (x:Int):(List.range l.length).countP (fun i=>!decide (x<l.getD i 0))=l.countP fun y=>decide (y<=x):=by
 have e:l=(List.range l.length).map fun i=>l.getD i 0:=by
  apply List.ext_getElem
  ·simp
  ·intro i h1 h2
   rw [List.getElem_map,List.getElem_range,List.getD_eq_getElem?_getD,List.getElem?_eq_getElem h1]; rfl
 have k:(l.countP fun y=>decide (y<=x))=((List.range l.length).map fun i=>l.getD i 0).countP fun y=>decide (y<=x):=by rw [<-e]
 rw [k,List.countP_map]
 congr 1
 funext i
 show (!decide (x<l.getD i 0))=decide (l.getD i 0<=x)
 by_cases a:x<l.getD i 0
 ·rw [decide_eq_true a,decide_eq_false (by omega)]; rfl
 ·rw [decide_eq_false a,decide_eq_true (by omega)]; rfl
theorem kept_rise {r:Rg} (ok:r.Ok) {i j:Nat} (h:i<j) (hj:j<r.kept.length):r.kept.getD i 0<r.kept.getD j 0:=by
 have:=r.kept_len
 rw [Rg.kept_at,Rg.kept_at]
 exact ok.rise _ _ (by omega) (by omega)

theorem xBehind1 (ba bx b s o c n:Nat) (y x:Int) (i:Nat) (W:World) (hi:i<n) (ha:W.cell? ⟨ba,0,none⟩=some (PtrR b)) (hx:W.cell? ⟨bx,0,none⟩=some (.int .u64 x)) (hs:W.cell? ⟨b,3,none⟩=some (.slice (some ⟨s,o,none⟩) n c)) (hc:W.cell? ⟨s,o+i,none⟩=some (.int .u64 y)) :
  Calls Tryz.prog 153 (#[.int .i64 i]++#[.pointer (some ⟨ba,0,none⟩),.pointer (some ⟨bx,0,none⟩)]) W fun e w'=>e=.returned (.bool (decide (x<y)))∧∃ q,w'=W.drewN q:=by
 have i0:(0:Int)<=(i:Int):=by omega
 have i1:(i:Int)<(n:Int):=by omega
 go_enter Tryz.func153,Tryz.ntmps153
 go_wp2_with fail
 go_quiet (fail)
 go_wp2_with fail
 go_ret
 exact ⟨rfl,_,rfl⟩
theorem xBehind0 (b:Nat) (v:Value) (r:Rg) (x:Int) (w:World) (h:PrW w b v r.size r.beg r.seq r.kept) (ok:r.Ok) :
  Calls Tryz.prog 106 #[PtrR b,.int .u64 x] w fun e w'=>e=.returned (.int .i64 (r.back x:Nat))∧Below w.heap.size w w':=by
 obtain ⟨W0,hW0⟩:=nmq ((w.alloc (.cells #[PtrR b] 120)).alloc (.cells #[.int .u64 x] 26))
 have hB0:Below w.heap.size w W0:=by rw [hW0]; exact ((Below.refl _ w).alloc (Nat.le_refl _) _).alloc (by simp) _
 have ca:W0.cell? ⟨w.heap.size,0,none⟩=some (PtrR b):=by rw [hW0]; exact cell_alloc_sl _ (cell_new_sl w _ _)
 have cx:W0.cell? ⟨w.heap.size+1,0,none⟩=some (.int .u64 x):=by
  rw [hW0]
  have:=cell_new_sl (w.alloc (.cells #[PtrR b] 120)) (.int .u64 x) 26
  rwa [World.size_alloc] at this
 have h0:=h.below hB0
 obtain ⟨A,c,hv,hc,hsl,_,_⟩:=h0.own.form
 have c3:=h0.row.cell 3
 rw [hv] at c3
 simp only [geS] at c3
 have kl:=r.kept_len
 have s16:=ok.s16
 have eg:∀ args w,(callFunc 153 args).run Tryz.prog w=.ok (.enter 153 args) w:=enters_of Tryz.func153 (by kernel_rfl) rfl
 have hS:=Any.sort_Search searchLays0 153 #[.pointer (some ⟨w.heap.size,0,none⟩),.pointer (some ⟨w.heap.size+1,0,none⟩)] r.kept.length (fun i=>decide (x<r.kept.getD i 0)) W0 eg (by omega)
  (fun m os i hi=>by
   obtain ⟨s,o,rfl,_,cc⟩:=hsl.at_ hi
   have cc:=cc i hi
   exact (xBehind1 w.heap.size (w.heap.size+1) b s o c r.kept.length _ x i _ hi (cell_grown (block_lt_of_cell ca) ca m os) (cell_grown (block_lt_of_cell cx) cx m os) (cell_grown (block_lt_of_cell c3) c3 m os) (cell_grown (block_lt_of_cell cc) cc m os)).mono
    fun _ _ ⟨he,q,hq⟩=>⟨he,q,#[],by rw [hq,Sort.grow_empty]⟩)
  (fun a b hab hb h=>by
   by_cases e:a=b
   ·rw [<-e]; exact h
   ·have:=kept_rise ok (show a<b by omega) hb
    have h:=of_decide_eq_true h
    exact decide_eq_true (by omega))
 rw [count_at] at hS
 obtain ⟨K,hK⟩:=nmq (r.kept.countP fun y=>decide (y<=x))
 have kn:K<=r.kept.length:=by rw [hK]; exact List.countP_le_length
 obtain ⟨R,hR⟩:=nmq (r.back x)
 have eR:R=r.kept.length-K:=by rw [hR,hK]; rfl
 obtain ⟨n,hn⟩:=nmq (r.kept.length)
 rw [<-hR]
 rw [<-hK] at hS
 rw [<-hn] at hS c3 eR kn
 have hS:Calls Tryz.prog 152 #[.int .i64 n,.func (.func 153) #[] #[.pointer (some ⟨w.heap.size,0,none⟩),.pointer (some ⟨w.heap.size+1,0,none⟩)]] W0 _:=hS
 have HS:=qh hS
 have HW:=qh hW0
 have HB:=qh hB0
 have WR:=qh (show wrap64 ((n:Int)-(K:Int))=(R:Int) by unfold wrap64; omega)
 have ca:=qh ca
 have c3H:=qh c3
 have d3:=c3
 rw [hW0] at d3
 have cg:=fun q os=>cell_grown (block_lt_of_cell c3H.out) c3H.out q os
 have ag:=fun q os=>cell_grown (block_lt_of_cell ca.out) ca.out q os
 have CG:=qh cg
 have AG:=qh ag
 clear hS hW0 hB0 cx h0 eg h ok hsl hv hc kl s16 hK hR hn c3 cg ag kn eR
 go_enter Tryz.func106,Tryz.ntmps106
 go_wp2_with (go_at_call 152; rw [<-HW.out]; refine HS.out.mono ?_; rintro e w' ⟨rfl,q,os,rfl⟩; have cg:=CG.out q os; have ag:=AG.out q os)
 go_ret
 exact ⟨by show Ending.returned (.int .i64 (wrap64 ((n:Int)-(K:Int))))=_; rw [WR.out],HB.out.trans (below_grown_sl w.heap.size W0 q os HB.out.size)⟩

theorem xAsOf0 (b:Nat) (v:Value) (r:Rg) (x:Int) (w:World) (h:PrW w b v r.size r.beg r.seq r.kept) (ok:r.Ok) :
  Calls Tryz.prog 61 #[PtrR b,.int .u64 x] w fun e w'=>e=.returned (.tuple #[.int .i64 (r.asOf x:Nat),.int .i64 (r.asNo x)])∧Below w.heap.size w w':=by
 have CB:=qh (xBehind0 b v r x w h ok)
 have bl:=r.back_le x
 have EN:=Rg.as_no ok x
 have EO:=Rg.as_of ok x
 have sq:r.l.length<=r.seq:=by unfold Rg.seq; omega
 have s16:=ok.s16
 obtain ⟨K,hK⟩:=nmq (r.back x)
 obtain ⟨N,hN⟩:=nmq (r.asNo x)
 obtain ⟨O,hO⟩:=nmq (r.asOf x)
 rw [<-hK] at CB bl EN EO
 rw [<-hN] at EN
 rw [<-hO] at EO
 rw [<-hN,<-hO]
 obtain ⟨z,hz⟩:=nmq (r.size)
 obtain ⟨g,hg⟩:=nmq (r.beg)
 obtain ⟨s,hs⟩:=nmq (r.seq)
 rw [<-hz] at h EN EO
 rw [<-hg,<-hs] at h
 rw [<-hs] at EO sq
 have SQ:=qh (show s<=1073741824 by rw [hs]; exact ok.sq)
 have HR:=qh h
 clear h ok s16 hK hN hO hz hg hs
 by_cases p:z<=K
 ·rw [if_pos p] at EN EO
  subst EN; subst EO
  clear bl sq
  go_enter Tryz.func61,Tryz.ntmps61
  go_wp2_with fail
  refine CB.out.mono ?_
  rintro e w1 ⟨rfl,hb1⟩
  have c0:=(HR.out.below hb1).row.cell 0
  simp only [List.getElem?_cons_zero] at c0
  have B1:=qh hb1
  clear hb1
  go_wp2_with fail
  go_ret2
  exact ⟨rfl,B1.out⟩
 ·rw [if_neg p] at EN EO
  subst EN
  have WO:=qh (show wrap64 ((s:Int)-(K:Int))=(O:Int) by have:=SQ.out; unfold wrap64; omega)
  clear bl sq EO
  go_enter Tryz.func61,Tryz.ntmps61
  go_wp2_with fail
  refine CB.out.mono ?_
  rintro e w1 ⟨rfl,hb1⟩
  have c0:=(HR.out.below hb1).row.cell 0
  have c2:=(HR.out.below hb1).row.cell 2
  simp only [geS] at c0 c2
  have B1:=qh hb1
  clear hb1
  go_wp2_with fail
  go_ret2
  exact ⟨by show Ending.returned (.tuple #[.int .i64 (wrap64 ((s:Int)-(K:Int))),.int .i64 0])=_; rw [WO.out],B1.out⟩

end Go.Proofs.YtbfgpdgiaclphaaGreat

namespace Go.Proofs.YtbfgpdgiaclphaaGreat
open Go.RowKit

theorem xPush0 (b:Nat) (v:Value) (r:Rg) (x:Int) (w:World) (h:PrW w b v r.size r.beg r.seq r.kept) (ok:r.Ok) :
  Calls Tryz.prog 79 #[PtrR b,.int .u64 x] w fun e w'=>e=.returned (.tuple #[.int .i64 (r.told x:Nat),.int .i64 (r.no x)]) ∧
   ∃ v',PrW w' b v' (r.push x).size (r.push x).beg (r.push x).seq (r.push x).kept∧StepP b v w v' w':=by
 have CA:=qh (xAhead0 b v r w h ok)
 obtain ⟨L,hL⟩:=nmq (r.last)
 obtain ⟨T,hT⟩:=nmq (r.told x)
 obtain ⟨N,hN⟩:=nmq (r.no x)
 obtain ⟨s,hs⟩:=nmq (r.seq)
 obtain ⟨z,hz⟩:=nmq (r.size)
 obtain ⟨g,hg⟩:=nmq (r.beg)
 have eT:T=if N=0 then s+1 else 0:=by rw [hT,hN,hs]; rfl
 have eN:N=if x<=L then 1 else if 1073741824<=s then 17 else 0:=by rw [hN,hL,hs]; rfl
 have nopush:=qh (show N≠0->r.push x=r from fun q=>by unfold Rg.push; rw [if_neg (by rw [<-hN]; exact q)])
 have yespush:=qh (show N=0->r.push x=⟨r.size,r.beg,r.l++[x]⟩ from fun q=>by unfold Rg.push; rw [if_pos (by rw [<-hN]; exact q)])
 have HH:=qh h
 have TAIL:=qh (show N≠0->∀ m,∃ v',PrW (w.drewN m) b v' (r.push x).size (r.push x).beg (r.push x).seq (r.push x).kept∧StepP b v w v' (w.drewN m) from fun q m=>by
  rw [nopush.out q]
  exact ⟨v,h.drewN m,StepP.below (below_drewN (Below.refl _ _) m)⟩)
 rw [<-hT,<-hN]
 rw [<-hL] at CA
 rw [<-hz,<-hg,<-hs] at h
 have kl:=r.kept_len
 have s1:=ok.s1
 have s16:=ok.s16
 have sq:=ok.sq
 rw [<-hs] at sq
 have es:r.l.length+g=s:=by rw [hg,hs]; unfold Rg.seq; omega
 rw [<-hz] at kl s1 s16
 have HR:=qh h
 have OK:=qh ok
 have HS:=qh hs
 have HG:=qh hg
 have HZ:=qh hz
 have KL:=qh kl
 have S1:=qh s1
 have S16:=qh s16
 have SQ:=qh sq
 have ES:=qh es
 have ET:=qh eT
 have EN:=qh eN
 clear h ok hL hT hN hs hz hg kl s1 s16 sq es eT eN
 by_cases p1:x<=L
 ·have en:N=1:=by rw [EN.out,if_pos p1]
  have et:T=0:=by rw [ET.out,if_neg (by omega)]
  subst en; subst et
  clear ET EN yespush nopush
  go_enter Tryz.func79,Tryz.ntmps79
  go_wp2_with fail
  refine CA.out.mono ?_
  rintro e w1 ⟨rfl,m,hw⟩
  have TL:=qh (show ∃ v',PrW w1 b v' (r.push x).size (r.push x).beg (r.push x).seq (r.push x).kept∧StepP b v w v' w1 by rw [hw]; exact TAIL.out (by decide) m)
  clear TAIL hw
  go_wp2_with fail
  go_ret2
  exact ⟨rfl,TL.out⟩
 by_cases p2:1073741824<=s
 ·have d2:decide ((1073741824:Int)<=(s:Int))=true:=decide_eq_true (by omega)
  have en:N=17:=by rw [EN.out,if_neg p1,if_pos p2]
  have et:T=0:=by rw [ET.out,if_neg (by omega)]
  subst en; subst et
  clear ET EN yespush nopush p2
  go_enter Tryz.func79,Tryz.ntmps79
  go_wp2_with fail
  refine CA.out.mono ?_
  rintro e w1 ⟨rfl,m,hw⟩
  have c2:=(show PrW w1 b v z g s r.kept by rw [hw]; exact HR.out.drewN m).row.cell 2
  simp only [geS] at c2
  have TL:=qh (show ∃ v',PrW w1 b v' (r.push x).size (r.push x).beg (r.push x).seq (r.push x).kept∧StepP b v w v' w1 by rw [hw]; exact TAIL.out (by decide) m)
  clear TAIL hw
  go_wp2_with fail
  go_ret2
  exact ⟨rfl,TL.out⟩
 have d2:decide ((1073741824:Int)<=(s:Int))=false:=decide_eq_false (by omega)
 have en:N=0:=by rw [EN.out,if_neg p1,if_neg p2]
 have et:T=s+1:=by rw [ET.out,if_pos en]
 have ep:=qh (yespush.out en)
 obtain ⟨t,ht⟩:=nmq (s+1)
 have i1:(s:Int)+1=(t:Int):=by omega
 rw [<-ht] at et
 have tb:t<=1073741824:=by omega
 have HT:=qh ht
 have P2:=qh p2
 subst en; subst et
 clear ET EN yespush nopush TAIL p2 ht
 go_enter Tryz.func79,Tryz.ntmps79
 go_wp2_with fail
 refine CA.out.mono ?_
 rintro e w1 ⟨rfl,m,hw⟩
 have h1:PrW w1 b v z g s r.kept:=by rw [hw]; exact HR.out.drewN m
 have T1:=qh (show StepP b v w v w1 by rw [hw]; exact StepP.below (below_drewN (Below.refl _ _) m))
 clear hw CA
 obtain ⟨h2,t2⟩:=h1.seq T
 have c2:=h1.row.cell 2
 have c3:=h1.row.cell 3
 have f2:=h1.row.frozen 2
 obtain ⟨A,c,hv,hc,-,-⟩:=h1.own.form
 obtain ⟨n,hn⟩:=nmq (r.kept.length)
 rw [<-hn] at hv hc
 have nb:n<=16:=by rw [hn]; have:=KL.out; have:=S16.out; omega
 subst hv
 simp only [geS] at c2 c3
 have H2:=qh h2
 have T2:=qh (T1.out.trans t2)
 have HN:=qh hn
 clear h1 hn h2 t2 T1
 have OW:=qh (H2.out.own.alloc (.cells #[.int .u64 x] 26))
 have PL:=qh (show b+1<=((w1.setCell ⟨b,2,none⟩ (.int .i64 T)).alloc (.cells #[.int .u64 x] 26)).heap.size from by have:=H2.out.row.lt; simp at this ⊢; omega)
 have HX:=qh (show ((w1.setCell ⟨b,2,none⟩ (.int .i64 T)).alloc (.cells #[.int .u64 x] 26)).cell? ⟨w1.heap.size,0,none⟩=some (.int .u64 x) from by
  have:=cell_new_sl (w1.setCell ⟨b,2,none⟩ (.int .i64 T)) (.int .u64 x) 26
  rwa [show (w1.setCell ⟨b,2,none⟩ (.int .i64 T)).heap.size=w1.heap.size by simp [World.setCell]] at this)
 go_wp2_with (at_builtin; refine wp_put1g rfl (.tmp 28) (.tmp 30) rfl (b+1) _ r.kept rfl OW.out w1.heap.size x rfl HX.out (by rw [<-HN.out]; omega) PL.out ?_; intro v' w4 ho hgr hk; obtain ⟨A2,cc2,hv2,hc2,-⟩:=ho.form; obtain ⟨M,hM⟩:=nmq ((r.kept++[x]).length); rw [<-hM] at hv2 hc2; subst hv2; obtain ⟨r4,h4,t4⟩:=H2.out.row_new (((Chg.refl _ _).alloc _).grown hgr fun k e=>.inl e) ho (fun k e=>by rcases hk k e with q | q; exact .inl q; exact .inr (by rw [World.size_alloc] at q; omega)) (by simp); have f4:=r4.frozen 3; have e3:w4.cell? ⟨b,3,none⟩=some (.slice A n c):=r4.cell 3; have H4:=qh h4; have T4:=qh (T2.out.trans t4); have HM:=qh hM; clear ho hgr hk r4 h4 t4 hM)
 have H5:=qh H4.out
 have T5:=qh T4.out
 clear H4 T4 e3 f4 H2 T2 OW PL HX c2 c3 f2 HH HR
 generalize w4.setCell ⟨b,3,none⟩ (Value.slice A2 M cc2)=w5 at H5 T5 ⊢
 have e0:=H5.out.row.cell 0
 have e2:=H5.out.row.cell 2
 have e3:=H5.out.row.cell 3
 simp only [geS] at e0 e2 e3
 have mn:M=n+1:=by rw [HM.out,HN.out]; simp
 have FIN:=qh (show ∀ W v',PrW W b v' z g T (Rg.kept ⟨r.size,r.beg,r.l++[x]⟩)->PrW W b v' (r.push x).size (r.push x).beg (r.push x).seq (r.push x).kept from fun W v' h=>by
  have es:Rg.seq ⟨r.size,r.beg,r.l++[x]⟩=T:=by
   show r.beg+(r.l++[x]).length=T
   have e1:=ES.out
   have e2:=HG.out
   have e3:=HT.out
   simp; omega
  have e1:=HZ.out
  have e2:=HG.out
  rw [ep.out]
  show PrW W b v' r.size r.beg (Rg.seq ⟨r.size,r.beg,r.l++[x]⟩) (Rg.kept ⟨r.size,r.beg,r.l++[x]⟩)
  rw [es]
  rw [e1,e2] at h
  exact h)
 by_cases q:z<M
 ·have le:r.size<=r.l.length:=by have:=KL.out; have:=HN.out; have:=HZ.out; omega
  have K2:=qh (Rg.kept_full OK.out x le)
  have CD:=qh (fun W (h:PrW W b (.slice A2 M cc2) z g T (r.kept++[x]))=>show Calls Tryz.prog 116 #[.slice A2 M cc2,.int .i64 0,.int .i64 1] W _ from
   xDelU W (b+1) (.slice A2 M cc2) (r.kept++[x]) 0 h.own (by rw [<-HM.out]; have:=S1.out; omega) (by rw [<-HM.out]; omega))
  have mb:M<=17:=by omega
  clear mn le
  go_wp2_with fail
  go_quiet (fail)
  go_wp2_with fail
  refine (CD.out _ (H5.out.drewN _)).mono ?_
  rintro e w6 ⟨v3,rfl,ho,hob,hch⟩
  have ho:Own w6 (b+1) v3 ((r.kept++[x]).drop 1):=ho
  obtain ⟨A3,c3,hv3,hc3,-⟩:=ho.form
  obtain ⟨M3,hM3⟩:=nmq (((r.kept++[x]).drop 1).length)
  rw [<-hM3] at hv3 hc3
  subst hv3
  obtain ⟨r6,h6,t6⟩:=(H5.out.drewN nq).row_new hch ho (fun k e=>.inl (by rw [<-hob]; exact e)) (fun e=>by
   have e1:=congrArg List.length e
   rw [List.length_drop,<-HM.out] at e1
   have e2:=S1.out
   have e3:M-1=0:=e1
   omega)
  have f6:=r6.frozen 3
  have e6:w6.cell? ⟨b,3,none⟩=some (.slice A2 M cc2):=r6.cell 3
  have d6:=h6.row.cell 2
  simp only [geS] at d6
  have D6:=qh (show w6.cell? ⟨b,2,none⟩=some (.int .i64 T) from r6.cell 2)
  have H6:=qh h6
  have T6:=qh (T5.out.trans ((StepP.below (below_drewN (Below.refl _ _) nq)).trans t6))
  have d2:=D6.out
  clear ho hob hch r6 h6 t6 hM3 d6
  go_wp2_with fail
  go_ret2
  refine ⟨rfl,_,FIN.out _ _ ?_,T6.out⟩
  rw [K2.out]
  exact H6.out
 ·have lt:r.l.length<r.size:=by have:=KL.out; have:=HN.out; have:=HZ.out; omega
  have K2:=qh (Rg.kept_more (r:=r) x lt)
  have mb:M<=17:=by omega
  clear mn lt
  go_wp2_with fail
  go_quiet (fail)
  go_wp2_with fail
  go_ret2
  refine ⟨rfl,_,FIN.out _ _ ?_,T5.out.trans (StepP.below (below_drewN (Below.refl _ _) nq))⟩
  rw [K2.out]
  exact H5.out.drewN nq

def theR:RelR:=fun w b F r=>∃ v,F=rfoot b v∧PrW w b v r.size r.beg r.seq r.kept∧r.Ok
end Go.Proofs.YtbfgpdgiaclphaaGreat
