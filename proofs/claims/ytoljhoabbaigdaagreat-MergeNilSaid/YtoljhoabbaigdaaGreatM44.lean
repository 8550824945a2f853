/- Proved parts: A0e. Conditions: each theorem's own. -/
import Derived.Test.YtoljhoabbaigdaaGreatM43
import Derived.Laws.Rows
import Derived.Shelf.SlSorted.Search
import Derived.Test.YtoljhoabbaigdaaGreatQ2
set_option maxRecDepth 100000
set_option maxHeartbeats 8000000
namespace Go.Proofs.YtoljhoabbaigdaaGreat
open Go.RowKit

theorem xPush0 (b:Nat) (v:Value) (r:Rg) (x:Int) (w:World) (h:PrW w b v r.size r.beg r.seq r.kept) (ok:r.Ok) :
  Calls Tryz.prog 44 #[PtrR b,.int .u64 x] w fun e w'=>e=.returned (.tuple #[.int .i64 (r.told x:Nat),.int .i64 (r.no x)]) ∧
   ∃ v',PrW w' b v' (r.push x).size (r.push x).beg (r.push x).seq (r.push x).kept∧StepP b v w v' w':=by
 have CA:=qh (xAhead0 b v r w h ok)
 obtain ⟨L,hL⟩:=nmq (r.last)
 obtain ⟨T,hT⟩:=nmq (r.told x)
 obtain ⟨N,hN⟩:=nmq (r.no x)
 obtain ⟨s,hs⟩:=nmq (r.seq)
 obtain ⟨z,hz⟩:=nmq (r.size)
 obtain ⟨g,hg⟩:=nmq (r.beg)
 have eT:T=if N=0 then s+1 else 0:=by rw [hT,hN,hs]; rfl
 have eN:N=if x<=L then 1 else if 1073741824<=s then 17 else 0:=by rw [hN,hL,hs]; rfl
 have nopush:=qh (show N≠0->r.push x=r from fun q=>by unfold Rg.push; rw [if_neg (by rw [<-hN]; exact q)])
 have yespush:=qh (show N=0->r.push x=⟨r.size,r.beg,r.l++[x]⟩ from fun q=>by unfold Rg.push; rw [if_pos (by rw [<-hN]; exact q)])
 have HH:=qh h
 have TAIL:=qh (show N≠0->∀ m,∃ v',PrW (w.drewN m) b v' (r.push x).size (r.push x).beg (r.push x).seq (r.push x).kept∧StepP b v w v' (w.drewN m) from fun q m=>by
  rw [nopush.out q]
  exact ⟨v,h.drewN m,StepP.below (below_drewN (Below.refl _ _) m)⟩)
 rw [<-hT,<-hN]
 rw [<-hL] at CA
 rw [<-hz,<-hg,<-hs] at h
 have kl:=r.kept_len
 have s1:=ok.s1
 have s16:=ok.s16
 have sq:=ok.sq
 rw [<-hs] at sq
 have es:r.l.length+g=s:=by rw [hg,hs]; unfold Rg.seq; omega
 rw [<-hz] at kl s1 s16
 have HR:=qh h
 have OK:=qh ok
 have HS:=qh hs
 have HG:=qh hg
 have HZ:=qh hz
 have KL:=qh kl
 have S1:=qh s1
 have S16:=qh s16
 have SQ:=qh sq
 have ES:=qh es
 have ET:=qh eT
 have EN:=qh eN
 clear h ok hL hT hN hs hz hg kl s1 s16 sq es eT eN
 by_cases p1:x<=L
 ·have en:N=1:=by rw [EN.out,if_pos p1]
  have et:T=0:=by rw [ET.out,if_neg (by omega)]
  subst en; subst et
  clear ET EN yespush nopush
  go_enter Tryz.func44,Tryz.ntmps44
  go_wp2_with fail
  refine CA.out.mono ?_
  rintro e w1 ⟨rfl,m,hw⟩
  have TL:=qh (show ∃ v',PrW w1 b v' (r.push x).size (r.push x).beg (r.push x).seq (r.push x).kept∧StepP b v w v' w1 by rw [hw]; exact TAIL.out (by decide) m)
  clear TAIL hw
  go_wp2_with fail
  go_ret2
  exact ⟨rfl,TL.out⟩
 by_cases p2:1073741824<=s
 ·have d2:decide ((1073741824:Int)<=(s:Int))=true:=decide_eq_true (by omega)
  have en:N=17:=by rw [EN.out,if_neg p1,if_pos p2]
  have et:T=0:=by rw [ET.out,if_neg (by omega)]
  subst en; subst et
  clear ET EN yespush nopush p2
  go_enter Tryz.func44,Tryz.ntmps44
  go_wp2_with fail
  refine CA.out.mono ?_
  rintro e w1 ⟨rfl,m,hw⟩
  have c2:=(show PrW w1 b v z g s r.kept by rw [hw]; exact HR.out.drewN m).row.cell 2
  simp only [geS] at c2
  have TL:=qh (show ∃ v',PrW w1 b v' (r.push x).size (r.push x).beg (r.push x).seq (r.push x).kept∧StepP b v w v' w1 by rw [hw]; exact TAIL.out (by decide) m)
  clear TAIL hw
  go_wp2_with fail
  go_ret2
  exact ⟨rfl,TL.out⟩
 have d2:decide ((1073741824:Int)<=(s:Int))=false:=decide_eq_false (by omega)
 have en:N=0:=by rw [EN.out,if_neg p1,if_neg p2]
 have et:T=s+1:=by rw [ET.out,if_pos en]
 have ep:=qh (yespush.out en)
 obtain ⟨t,ht⟩:=nmq (s+1)
 have i1:(s:Int)+1=(t:Int):=by omega
 rw [<-ht] at et
 have tb:t<=1073741824:=by omega
 have HT:=qh ht
 have P2:=qh p2
 subst en; subst et
 clear ET EN yespush nopush TAIL p2 ht
 go_enter Tryz.func44,Tryz.ntmps44
 go_wp2_with fail
 refine CA.out.mono ?_
 rintro e w1 ⟨rfl,m,hw⟩
 have h1:PrW w1 b v z g s r.kept:=by rw [hw]; exact HR.out.drewN m
 have T1:=qh (show StepP b v w v w1 by rw [hw]; exact StepP.below (below_drewN (Below.refl _ _) m))
 clear hw CA
 obtain ⟨h2,t2⟩:=h1.seq T
 have c2:=h1.row.cell 2
 have c3:=h1.row.cell 3
 have f2:=h1.row.frozen 2
 obtain ⟨A,c,hv,hc,-,-⟩:=h1.own.form
 obtain ⟨n,hn⟩:=nmq (r.kept.length)
 rw [<-hn] at hv hc
 have nb:n<=16:=by rw [hn]; have:=KL.out; have:=S16.out; omega
 subst hv
 simp only [geS] at c2 c3
 have H2:=qh h2
 have T2:=qh (T1.out.trans t2)
 have HN:=qh hn
 clear h1 hn h2 t2 T1
 have OW:=qh (H2.out.own.alloc (.cells #[.int .u64 x] 57))
 have PL:=qh (show b+1<=((w1.setCell ⟨b,2,none⟩ (.int .i64 T)).alloc (.cells #[.int .u64 x] 57)).heap.size from by have:=H2.out.row.lt; simp at this ⊢; omega)
 have HX:=qh (show ((w1.setCell ⟨b,2,none⟩ (.int .i64 T)).alloc (.cells #[.int .u64 x] 57)).cell? ⟨w1.heap.size,0,none⟩=some (.int .u64 x) from by
  have:=cell_new_sl (w1.setCell ⟨b,2,none⟩ (.int .i64 T)) (.int .u64 x) 57
  rwa [show (w1.setCell ⟨b,2,none⟩ (.int .i64 T)).heap.size=w1.heap.size by simp [World.setCell]] at this)
 go_wp2_with (at_builtin; refine wp_put1g rfl (.tmp 28) (.tmp 30) rfl (b+1) _ r.kept rfl OW.out w1.heap.size x rfl HX.out (by rw [<-HN.out]; omega) PL.out ?_; intro v' w4 ho hgr hk; obtain ⟨A2,cc2,hv2,hc2,-⟩:=ho.form; obtain ⟨M,hM⟩:=nmq ((r.kept++[x]).length); rw [<-hM] at hv2 hc2; subst hv2; obtain ⟨r4,h4,t4⟩:=H2.out.row_new (((Chg.refl _ _).alloc _).grown hgr fun k e=>.inl e) ho (fun k e=>by rcases hk k e with q | q; exact .inl q; exact .inr (by rw [World.size_alloc] at q; omega)) (by simp); have f4:=r4.frozen 3; have e3:w4.cell? ⟨b,3,none⟩=some (.slice A n c):=r4.cell 3; have H4:=qh h4; have T4:=qh (T2.out.trans t4); have HM:=qh hM; clear ho hgr hk r4 h4 t4 hM)
 have H5:=qh H4.out
 have T5:=qh T4.out
 clear H4 T4 e3 f4 H2 T2 OW PL HX c2 c3 f2 HH HR
 generalize w4.setCell ⟨b,3,none⟩ (Value.slice A2 M cc2)=w5 at H5 T5 ⊢
 have e0:=H5.out.row.cell 0
 have e2:=H5.out.row.cell 2
 have e3:=H5.out.row.cell 3
 simp only [geS] at e0 e2 e3
 have mn:M=n+1:=by rw [HM.out,HN.out]; simp
 have FIN:=qh (show ∀ W v',PrW W b v' z g T (Rg.kept ⟨r.size,r.beg,r.l++[x]⟩)->PrW W b v' (r.push x).size (r.push x).beg (r.push x).seq (r.push x).kept from fun W v' h=>by
  have es:Rg.seq ⟨r.size,r.beg,r.l++[x]⟩=T:=by
   show r.beg+(r.l++[x]).length=T
   have e1:=ES.out
   have e2:=HG.out
   have e3:=HT.out
   simp; omega
  have e1:=HZ.out
  have e2:=HG.out
  rw [ep.out]
  show PrW W b v' r.size r.beg (Rg.seq ⟨r.size,r.beg,r.l++[x]⟩) (Rg.kept ⟨r.size,r.beg,r.l++[x]⟩)
  rw [es]
  rw [e1,e2] at h
  exact h)
 by_cases q:z<M
 ·have le:r.size<=r.l.length:=by have:=KL.out; have:=HN.out; have:=HZ.out; omega
  have K2:=qh (Rg.kept_full OK.out x le)
  have CD:=qh (fun W (h:PrW W b (.slice A2 M cc2) z g T (r.kept++[x]))=>show Calls Tryz.prog 71 #[.slice A2 M cc2,.int .i64 0,.int .i64 1] W _ from
   xDelU W (b+1) (.slice A2 M cc2) (r.kept++[x]) 0 h.own (by rw [<-HM.out]; have:=S1.out; omega) (by rw [<-HM.out]; omega))
  have mb:M<=17:=by omega
  clear mn le
  go_wp2_with fail
  go_quiet (fail)
  go_wp2_with fail
  refine (CD.out _ (H5.out.drewN _)).mono ?_
  rintro e w6 ⟨v3,rfl,ho,hob,hch⟩
  have ho:Own w6 (b+1) v3 ((r.kept++[x]).drop 1):=ho
  obtain ⟨A3,c3,hv3,hc3,-⟩:=ho.form
  obtain ⟨M3,hM3⟩:=nmq (((r.kept++[x]).drop 1).length)
  rw [<-hM3] at hv3 hc3
  subst hv3
  obtain ⟨r6,h6,t6⟩:=(H5.out.drewN nq).row_new hch ho (fun k e=>.inl (by rw [<-hob]; exact e)) (fun e=>by
   have e1:=congrArg List.length e
   rw [List.length_drop,<-HM.out] at e1
   have e2:=S1.out
   have e3:M-1=0:=e1
   omega)
  have f6:=r6.frozen 3
  have e6:w6.cell? ⟨b,3,none⟩=some (.slice A2 M cc2):=r6.cell 3
  have d6:=h6.row.cell 2
  simp only [geS] at d6
  have D6:=qh (show w6.cell? ⟨b,2,none⟩=some (.int .i64 T) from r6.cell 2)
  have H6:=qh h6
  have T6:=qh (T5.out.trans ((StepP.below (below_drewN (Below.refl _ _) nq)).trans t6))
  have d2:=D6.out
  clear ho hob hch r6 h6 t6 hM3 d6
  go_wp2_with fail
  go_ret2
  refine ⟨rfl,_,FIN.out _ _ ?_,T6.out⟩
  rw [K2.out]
  exact H6.out
 ·have lt:r.l.length<r.size:=by have:=KL.out; have:=HN.out; have:=HZ.out; omega
  have K2:=qh (Rg.kept_more (r:=r) x lt)
  have mb:M<=17:=by omega
  clear mn lt
  go_wp2_with fail
  go_quiet (fail)
  go_wp2_with fail
  go_ret2
  refine ⟨rfl,_,FIN.out _ _ ?_,T5.out.trans (StepP.below (below_drewN (Below.refl _ _) nq))⟩
  rw [K2.out]
  exact H5.out.drewN nq

def theR:RelR:=fun w b F r=>∃ v,F=rfoot b v∧PrW w b v r.size r.beg r.seq r.kept∧r.Ok
end Go.Proofs.YtoljhoabbaigdaaGreat
