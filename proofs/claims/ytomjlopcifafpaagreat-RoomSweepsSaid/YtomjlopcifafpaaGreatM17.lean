/- Proved parts: A0r A0u. Conditions: each theorem's own. -/
import Derived.Test.YtomjlopcifafpaaGreatM16
import Derived.BigQuiet
import Derived.Test.YtomjlopcifafpaaGreatQ2
set_option maxRecDepth 100000
set_option maxHeartbeats 8000000
namespace Go.Proofs.YtomjlopcifafpaaGreat
open Go.RowKit

theorem rSeq0 (p:Nat) (v:Value) (r:Rg) (w:World) (h:RefG w p v r) (ok:r.Ok) :
  Calls Tryz.prog 111 #[.pointer (some ⟨p,0,none⟩)] w fun e w'=>e=.returned (.int .i64 (r.seq:Nat))∧∃ n,w'=w.drewN n:=by
 obtain ⟨A,c,rfl,hc,_,_,_⟩:=h.own.form
 have c0:=h.row.cell 0
 have c1:=h.row.cell 1
 have c2:=h.row.cell 2
 simp only [geS] at c0 c1 c2
 obtain ⟨n,hn⟩:=nmq (r.l.length)
 obtain ⟨b,hb⟩:=nmq (r.beg)
 obtain ⟨s,hs⟩:=nmq (r.seq)
 have e:s=b+n:=by rw [hs,hb,hn]; rfl
 have l:=ok.sq
 rw [<-hs] at l ⊢
 rw [<-hn] at c2 hc
 rw [<-hb] at c1
 have E:=qh e
 have s1:(b:Int)+(n:Int)=(s:Int):=by omega
 clear h ok hn hb hs e
 go_enter Tryz.func111,Tryz.ntmps111
 go_wp2_with fail
 go_quiet (fail)
 go_wp2_with fail
 go_ret
 exact ⟨by first | rfl | (rw [E.out]; simp),_,rfl⟩

def LeftG (p:Nat) (v:Value) (w:World) (r:Rg) (w':World):Prop:=Chg (rfoot p v) w w'∧∃ v',RefG w' p v' r∧∀ k,rfoot p v' k->rfoot p v k∨w.heap.size<=k
theorem LeftG.same {p:Nat} {v:Value} {w w':World} {r:Rg} (h:RefG w p v r) (hb:Below w.heap.size w w'):LeftG p v w r w' :=
 ⟨Chg.of_below hb,v,h.below hb,fun _ e=>.inl e⟩

theorem RefG.drewN {p:Nat} {v:Value} {w:World} {r:Rg} (h:RefG w p v r) (m:Nat):RefG (w.drewN m) p v r:=⟨h.row,h.own⟩
theorem RefG.put {p:Nat} {v v':Value} {w w4:World} {r:Rg} {x:Int} {o:Obj} (h:RefG w p v r) (ho:Own w4 (p+1) v' (r.l++[x])) (hg:(w.alloc o).grownBy w4 v.ownBlock) (hk:∀ k,v'.ownBlock=some k->v.ownBlock=some k∨(w.alloc o).heap.size<=k) :
  RowAt w4 p [.int .i64 r.size,.int .i64 r.beg,v] 103∧RefG (w4.setCell ⟨p,2,none⟩ v') p v' ⟨r.size,r.beg,r.l++[x]⟩∧Chg (rfoot p v) w (w4.setCell ⟨p,2,none⟩ v')∧∀ k,rfoot p v' k->rfoot p v k∨w.heap.size<=k:=by
 have pl:=h.row.lt
 have sz:(w.alloc o).heap.size=w.heap.size+1:=by simp
 have r4:RowAt w4 p [.int .i64 r.size,.int .i64 r.beg,v] 103 :=
  (hg.block p (by omega) (fun e=>by have:=h.own.lt p e.symm; omega)).trans (h.row.alloc o)
 have c1:Chg (rfoot p v) w w4:=((Chg.refl _ w).alloc o).grown hg fun k e=>.inl (.inr e)
 refine ⟨r4,⟨r4.set 2 v',?_⟩,c1.setCell (.inl (.inl rfl)) v',fun k e=>?_⟩
 ·refine ⟨ho.1,?_⟩
  rcases ho.2 with hn | ⟨g,cap,cur,rfl,hB,hgg,q⟩
  ·exact .inl hn
  ·refine .inr ⟨g,cap,cur,rfl,hB,?_,q⟩
   exact (Below.heap_setCell _ _ _ _ (by show g≠p; omega)).trans hgg
 ·rcases e with e | e
  ·exact .inl (.inl e)
  ·rcases hk k e with q | q
   ·exact .inl (.inr q)
   ·exact .inr (by omega)

theorem rPush0 (p:Nat) (v:Value) (r:Rg) (x:Int) (w:World) (h:RefG w p v r) (ok:r.Ok) (hl:r.l.length<=1000) :
  Calls Tryz.prog 81 #[.pointer (some ⟨p,0,none⟩),.int .u64 x] w fun e w'=>e=.returned (.tuple #[.int .i64 (r.told x:Nat),.int .i64 (r.no x)])∧LeftG p v w (r.push x) w':=by
 have SQ:=qh (fun w h=>rSeq0 p v r w h ok)
 have HR:=qh h
 have HK:=qh ok
 obtain ⟨A,c,hv,hc,hsl,_,_⟩:=h.own.form
 have c0:=h.row.cell 0
 have c1:=h.row.cell 1
 have c2:=h.row.cell 2
 have f2:=h.row.frozen 2
 rw [hv] at c2
 simp only [geS] at c0 c1 c2
 obtain ⟨n,hn⟩:=nmq (r.l.length)
 obtain ⟨b,hb⟩:=nmq (r.beg)
 obtain ⟨T,hT⟩:=nmq (r.told x)
 obtain ⟨N,hN⟩:=nmq (r.no x)
 obtain ⟨L,hL⟩:=nmq (r.last)
 obtain ⟨s,hs⟩:=nmq (r.seq)
 have sl:=ok.sq
 have eT:T=if N=0 then s+1 else 0:=by rw [hT,hN,hs]; rfl
 have eN:N=if x<=L then 1 else if 1073741824<=s then 17 else 0:=by rw [hN,hL,hs]; rfl
 rw [<-hs] at sl
 have SLE:=qh sl
 simp only [<-hs] at SQ
 rw [<-hT,<-hN]
 rw [<-hn] at c2 hl hc
 rw [<-hb] at c1
 have HN:=qh hn
 have HNo:=qh hN
 have HL:=qh hL
 have HS:=qh hs
 have SL:=qh hsl
 have ET:=qh eT
 have EN:=qh eN
 have HV:=qh hv
 have TAIL:=qh (show N≠0->∀ m,LeftG p v w (r.push x) (w.drewN m) from fun q m=>by
  have e:r.push x=r:=by unfold Rg.push; rw [if_neg (by rw [<-hN]; exact q)]
  rw [e]
  exact LeftG.same h (below_drewN (Below.refl _ _) m))
 clear h ok hsl eT eN hv hT hN hs hb sl
 go_enter Tryz.func81,Tryz.ntmps81
 by_cases n0:n=0
 ·have eL:L=0:=by rw [hL]; unfold Rg.last; rw [if_pos (by omega)]
  have nz:¬ 0<n:=by omega
  subst eL
  clear hL hn n0
  by_cases q:x<=0
  ·have en:N=1:=by rw [EN.out,if_pos q]
   have et:T=0:=by rw [ET.out,if_neg (by omega)]
   subst en; subst et
   have TL:=qh (TAIL.out (by decide) 0)
   clear TAIL
   go_wp2_with fail
   go_ret2
   exact ⟨rfl,TL.out⟩
  ·have SQW:=qh (fun (_:Nat)=>SQ.out w HR.out)
   have QN:=qh q
   clear SQ
   go_wp2_with fail
   first | refine (SQW.out 0).mono ?_ | refine (SQW.out _).mono ?_
   rintro e w1 ⟨rfl,m,hw0⟩
   obtain ⟨k,hw⟩:∃ k,w1=w.drewN k:=by first | exact ⟨m,hw0⟩ | (rw [hw0,World.drewN_drewN]; exact ⟨_,rfl⟩)
   have g1:RefG w1 p v r:=by rw [hw]; exact HR.out.drewN k
   have G1:=qh g1
   have HW:=qh hw
   clear hw hw0 SQW c0 c1 c2 f2
   by_cases q2:1073741824<=s
   ·have d2:decide ((1073741824:Int)<=(s:Int))=true:=decide_eq_true (by omega)
    have en:N=17:=by rw [EN.out,if_neg (by have:=QN.out; omega),if_pos q2]
    have et:T=0:=by rw [ET.out,if_neg (by omega)]
    have TL:=qh (show LeftG p v w (r.push x) w1 by rw [HW.out]; exact TAIL.out (by omega) k)
    subst en; subst et
    clear TAIL g1 q2
    go_wp2_with fail
    go_ret2
    exact ⟨rfl,TL.out⟩
   ·have d2:decide ((1073741824:Int)<=(s:Int))=false:=decide_eq_false (by omega)
    have en:N=0:=by rw [EN.out,if_neg (by have:=QN.out; omega),if_neg q2]
    have et:T=s+1:=by rw [ET.out,if_pos en]
    have ep:=qh (show r.push x=⟨r.size,r.beg,r.l++[x]⟩ by unfold Rg.push; rw [if_pos (by rw [<-HNo.out]; exact en)])
    have c2:=g1.row.cell 2
    rw [HV.out] at c2
    simp only [geS] at c2
    have ow:=g1.own
    have PL:=qh (show p+1<=w1.heap.size from g1.row.lt)
    have OW:=qh (ow.alloc (.cells #[.int .u64 x] 34))
    rw [<-HN.out] at c2
    have hv2:=HV.out
    rw [<-HN.out] at hv2
    have HV2:=qh hv2
    subst en; subst et
    clear TAIL g1 ow q2 hv2
    go_wp2_with (at_builtin; refine wp_put1g rfl (.tmp 35) (.tmp 37) rfl (p+1) _ r.l rfl (by rw [<-HV2.out]; exact OW.out) w1.heap.size x rfl (by simp) (by rw [<-HN.out]; omega) (Nat.le_trans PL.out (by simp)) ?_; intro v' w4 ho hgr hk; obtain ⟨A',c',hv',_⟩:=ho.form; obtain ⟨N',hN'⟩:=nmq ((r.l++[x]).length); rw [<-hN'] at hv'; clear hN'; subst hv'; obtain ⟨r4,g4,ch4,ft4⟩:=G1.out.put ho (by rw [HV2.out]; exact hgr) (by rw [HV2.out]; exact hk); have d2:=r4.cell 2; have f4:=r4.frozen 2; simp only [geS] at d2; have G4:=qh g4; have C4:=qh ch4; have F4:=qh ft4; have CQ:=qh (rSeq0 p _ ⟨r.size,r.beg,r.l++[x]⟩ _ g4 (by rw [<-ep.out]; exact Rg.push_ok HK.out x)); clear ho hgr hk r4 g4 ch4 ft4)
    refine CQ.out.mono ?_
    rintro e w5 ⟨rfl,m5,hw5⟩
    have LG:=qh (show LeftG p v w (r.push x) w5 by
     rw [hw5,ep.out]
     have c:=C4.out
     rw [HW.out] at c
     exact ⟨⟨c.os,c.tape,c.output,c.size,c.block⟩,_,G4.out.drewN m5,fun k e=>by have:=F4.out k e; rw [HW.out] at this; exact this⟩)
    clear hw5
    have sq:(Rg.seq ⟨r.size,r.beg,r.l++[x]⟩:Nat)=s+1:=by rw [HS.out]; unfold Rg.seq; simp; omega
    rw [sq]
    clear sq
    go_wp2_with fail
    go_ret2
    exact ⟨rfl,LG.out⟩
 ·obtain ⟨i,hi⟩:=nmq (n-1)
  obtain ⟨bb,o,rfl,hbb,cc⟩:=SL.out.at_ (k:=i) (by omega)
  have cl:=cc i (by omega)
  have eL:L=r.l.getD i 0:=by rw [hL]; unfold Rg.last; rw [if_neg (by omega),hi,hn]
  rw [<-eL] at cl
  have i1:(n:Int)-1=(i:Int):=by omega
  have i2:(0:Int)<=(i:Int):=by omega
  have i3:(i:Int)<(n:Int):=by omega
  have n1:(0:Int)<(n:Int):=by omega
  clear hi hbb cc eL hL hn n0
  by_cases q:x<=L
  ·have en:N=1:=by rw [EN.out,if_pos q]
   have et:T=0:=by rw [ET.out,if_neg (by omega)]
   subst en; subst et
   have TL:=qh (fun m=>TAIL.out (by decide) m)
   clear TAIL
   go_wp2_with fail
   go_quiet (fail)
   go_wp2_with fail
   go_ret2
   exact ⟨rfl,TL.out _⟩
  ·have QN:=qh q
   go_wp2_with fail
   go_quiet (fail)
   have SQW:=qh (fun m=>SQ.out (w.drewN m) (HR.out.drewN m))
   clear SQ cl
   go_wp2_with fail
   first | refine (SQW.out 0).mono ?_ | refine (SQW.out _).mono ?_
   rintro e w1 ⟨rfl,m,hw0⟩
   obtain ⟨k,hw⟩:∃ k,w1=w.drewN k:=by first | exact ⟨m,hw0⟩ | (rw [hw0,World.drewN_drewN]; exact ⟨_,rfl⟩)
   have g1:RefG w1 p v r:=by rw [hw]; exact HR.out.drewN k
   have G1:=qh g1
   have HW:=qh hw
   clear hw hw0 SQW c0 c1 c2 f2
   by_cases q2:1073741824<=s
   ·have d2:decide ((1073741824:Int)<=(s:Int))=true:=decide_eq_true (by omega)
    have en:N=17:=by rw [EN.out,if_neg (by have:=QN.out; omega),if_pos q2]
    have et:T=0:=by rw [ET.out,if_neg (by omega)]
    have TL:=qh (show LeftG p v w (r.push x) w1 by rw [HW.out]; exact TAIL.out (by omega) k)
    subst en; subst et
    clear TAIL g1 q2
    go_wp2_with fail
    go_ret2
    exact ⟨rfl,TL.out⟩
   ·have d2:decide ((1073741824:Int)<=(s:Int))=false:=decide_eq_false (by omega)
    have en:N=0:=by rw [EN.out,if_neg (by have:=QN.out; omega),if_neg q2]
    have et:T=s+1:=by rw [ET.out,if_pos en]
    have ep:=qh (show r.push x=⟨r.size,r.beg,r.l++[x]⟩ by unfold Rg.push; rw [if_pos (by rw [<-HNo.out]; exact en)])
    have c2:=g1.row.cell 2
    rw [HV.out] at c2
    simp only [geS] at c2
    have ow:=g1.own
    have PL:=qh (show p+1<=w1.heap.size from g1.row.lt)
    have OW:=qh (ow.alloc (.cells #[.int .u64 x] 34))
    rw [<-HN.out] at c2
    have hv2:=HV.out
    rw [<-HN.out] at hv2
    have HV2:=qh hv2
    subst en; subst et
    clear TAIL g1 ow q2 hv2
    go_wp2_with (at_builtin; refine wp_put1g rfl (.tmp 35) (.tmp 37) rfl (p+1) _ r.l rfl (by rw [<-HV2.out]; exact OW.out) w1.heap.size x rfl (by simp) (by rw [<-HN.out]; omega) (Nat.le_trans PL.out (by simp)) ?_; intro v' w4 ho hgr hk; obtain ⟨A',c',hv',_⟩:=ho.form; obtain ⟨N',hN'⟩:=nmq ((r.l++[x]).length); rw [<-hN'] at hv'; clear hN'; subst hv'; obtain ⟨r4,g4,ch4,ft4⟩:=G1.out.put ho (by rw [HV2.out]; exact hgr) (by rw [HV2.out]; exact hk); have d2:=r4.cell 2; have f4:=r4.frozen 2; simp only [geS] at d2; have G4:=qh g4; have C4:=qh ch4; have F4:=qh ft4; have CQ:=qh (rSeq0 p _ ⟨r.size,r.beg,r.l++[x]⟩ _ g4 (by rw [<-ep.out]; exact Rg.push_ok HK.out x)); clear ho hgr hk r4 g4 ch4 ft4)
    refine CQ.out.mono ?_
    rintro e w5 ⟨rfl,m5,hw5⟩
    have LG:=qh (show LeftG p v w (r.push x) w5 by
     rw [hw5,ep.out]
     have c:=C4.out
     rw [HW.out] at c
     exact ⟨⟨c.os,c.tape,c.output,c.size,c.block⟩,_,G4.out.drewN m5,fun k e=>by have:=F4.out k e; rw [HW.out] at this; exact this⟩)
    clear hw5
    have sq:(Rg.seq ⟨r.size,r.beg,r.l++[x]⟩:Nat)=s+1:=by rw [HS.out]; unfold Rg.seq; simp; omega
    rw [sq]
    clear sq
    go_wp2_with fail
    go_ret2
    exact ⟨rfl,LG.out⟩

abbrev RelR:=World->Nat->(Nat->Prop)->Rg->Prop
abbrev PtrR (b:Nat):Value:=.pointer (some ⟨b,0,none⟩)
end Go.Proofs.YtomjlopcifafpaaGreat
