/- Proved parts: B5za B5zb B5zc B5ze. Conditions: each theorem's own. -/
import Derived.Test.YtbfgpdgiaclphaaGreatM47
import Derived.StillTailTactics
import Derived.Test.YtbfgpdgiaclphaaGreatM45
import Derived.Test.YtbfgpdgiaclphaaGreatM20
import Derived.Test.YtbfgpdgiaclphaaGreatM21
import Derived.Test.YtbfgpdgiaclphaaGreatQ1
import Derived.Test.YtbfgpdgiaclphaaGreatQ2
set_option maxRecDepth 100000
set_option maxHeartbeats 8000000
namespace Go.Proofs.YtbfgpdgiaclphaaGreat
open Go.RowKit

theorem xLoadR (A:Option Addr) (c:Nat) (zs:List Int) (g1 g2 g3 sq:Int) (l:List En) (A2:Option Addr) (c2:Nat) (w:World) (h:Sl w A zs) (hm:zs.length<=1000) (he:SlEn w A2 l) (hf:FitsE l) (hl:l.length<=3900) :
  Calls Tryz.prog 38 #[.agg #[.slice A zs.length c,.int .i64 g1,.int .i64 g2,.int .i64 g3],.int .i64 sq,.slice A2 l.length c2] w fun e w' =>
   ((ldE zs g1 g2 g3 sq l≠0∧Below w.heap.size w w'∧e=.returned (.tuple #[.pointer none,.int .i64 (ldE zs g1 g2 g3 sq l)])) ∨
    (ldE zs g1 g2 g3 sq l=0∧∃ (b:Nat) (s:Sh),e=.returned (.tuple #[PtrM b,.int .i64 0])∧Side w (fun k=>k<w.heap.size) w' (s.os b)∧s.At (loadL l) l.length∧s.zs=zs∧s.g1=g1∧s.g2=g2∧s.g3=g3∧s.r=Rg.new g1 sq)):=by
 obtain ⟨T,hT⟩:=nmq (ldE zs g1 g2 g3 sq l)
 obtain ⟨R,hR⟩:=nmq (stOk zs g1 g2 g3)
 obtain ⟨M,hM⟩:=nmq (mayE l sq)
 obtain ⟨V,hV⟩:=nmq ((loadL l).live)
 have eT:T=if (R && (decide (0<=sq) && decide (sq<=g3)))=false then 1 else if M=false then 1 else if g2<(V:Int) then 15 else 0:=by rw [hT,hR,hM,hV]; rfl
 have st1:R=true->1<=g1∧g1<=16∧g3<=1073741824:=fun q=>by
  rw [hR] at q
  unfold stOk at q
  simp only [Bool.and_eq_true,decide_eq_true_eq] at q
  exact ⟨q.2.1,q.2.2.1,q.2.2.2.2.2.2⟩
 have fit0:Rg.fits g1 sq=false->T=1:=fun q=>by
  rw [eT]
  cases r:R with
  | false=>rw [if_pos (by simp)]
  | true =>
   obtain ⟨a1,a2,a3⟩:=st1 r
   unfold Rg.fits at q
   rw [decide_eq_true a1,decide_eq_true a2] at q
   by_cases z1:0<=sq
   ·by_cases z2:sq<=g3
    ·rw [decide_eq_true z1,decide_eq_true (show sq<=1073741824 by omega)] at q; cases q
    ·rw [decide_eq_false z2]; simp
   ·rw [decide_eq_false z1]; simp
 have fit1:Rg.fits g1 sq=true->0<=sq∧sq<=1073741824:=fun q=>by
  unfold Rg.fits at q
  simp only [Bool.and_eq_true,decide_eq_true_eq] at q
  exact q.2.2
 have AK:=qh (fun (m:M=true) (s:sq<=1073741824) i (hi:i<l.length)=>load_asks (by rw [<-hM]; exact m) hf s hl hi)
 obtain ⟨w0,hw0⟩:=nmq (w.alloc (.cells #[.slice A zs.length c,.int .i64 g1,.int .i64 g2,.int .i64 g3] 24))
 have H0:=qh (show Side w (fun k=>k<w.heap.size) w0 [Ob.row w.heap.size [.slice A zs.length c,.int .i64 g1,.int .i64 g2,.int .i64 g3] 24] from by
  have:=(Side.nil w).rowNew [.slice A zs.length c,.int .i64 g1,.int .i64 g2,.int .i64 g3] 24
  rw [hw0]; exact this)
 have CN:=qh (ringNew g1 sq w0)
 have CR:=qh (fun W (hb:Below w.heap.size w W)=>xRightR A c zs g1 g2 g3 W (h.below hb) (Nat.le_trans hm (by decide)))
 have CM:=qh (fun W (hb:Below w.heap.size w W)=>xMayER l A2 c2 sq W (he.below' hb) hf (by omega))
 have CW:=qh (fun (m:M=true) W (hb:Below w.heap.size w W)=>xWeighR l A2 c2 sq W (he.below' hb) hf (by omega) (by rw [<-hM]; exact m))
 have CC:=qh (fun W (hb:Below w.heap.size w W)=>scloneA A c zs W (h.below hb) (by omega))
 have HZ:=qh (fun (lb:Value) (q:Nat)=>Sh.new_at lb g1 g2 g3 q (Rg.new g1 sq) zs)
 have BS:=qh (fun W os (hW:Side w (fun k=>k<w.heap.size) W os)=>show Below w.heap.size w W from hW.base (Nat.le_refl _) fun k e=>e)
 simp only [<-hR] at CR
 simp only [<-hM] at CM
 simp only [<-hV] at CW
 rw [<-hT]
 obtain ⟨m,hm2⟩:=nmq (zs.length)
 obtain ⟨n,hn⟩:=nmq (l.length)
 simp only [<-hm2] at hw0 H0 CR CC
 simp only [<-hn] at CM CW AK
 rw [<-hn,<-hm2]
 rw [<-hn] at hl
 have HN:=qh hn
 have HS:=qh he
 have ET:=qh eT
 have ST1:=qh st1
 have FT0:=qh fit0
 have FT1:=qh fit1
 have HW0:=qh hw0
 have HL:=qh hl
 clear h hm he hf hT hR hM hV hm2 hn eT st1 fit0 fit1 hw0 hl
 go_enter Tryz.func38,Tryz.ntmps38
 go_wp2_with fail
 rw [<-HW0.out]
 have c1:=(H0.out.rowAt (i:=0) rfl).cell 1
 simp only [geS] at c1
 go_wp2_with fail
 refine CN.out.mono ?_
 rintro e w1 ⟨hb1,⟨hfi,q,F,rfl,hr,hF⟩ | ⟨hfi,rfl⟩⟩
 case inr =>
  have B1:=qh (BS.out _ _ (H0.out.below hb1))
  have e:=FT0.out hfi
  subst e
  clear hb1 hfi c1
  go_wp2_with fail
  go_ret2
  exact .inl ⟨by decide,B1.out,rfl⟩
 have H1:=qh (H0.out.more hb1 (o:=oRing q (Rg.new g1 sq)) hr hF)
 have HFI:=qh (FT1.out hfi)
 clear hb1 hr hF hfi CN c1 FT0 FT1
 have c0:=(H1.out.rowAt (i:=0) rfl).cell 0
 have c1:=(H1.out.rowAt (i:=0) rfl).cell 1
 have c2':=(H1.out.rowAt (i:=0) rfl).cell 2
 have c3:=(H1.out.rowAt (i:=0) rfl).cell 3
 simp only [geS] at c0 c1 c2' c3
 have CR1:=qh (CR.out _ (BS.out _ _ H1.out))
 go_wp2_with fail
 refine CR1.out.mono ?_
 rintro e w2 ⟨rfl,hb2⟩
 have H2:=qh (H1.out.below hb2)
 have B2:=qh (BS.out _ _ H2.out)
 clear hb2 CR CR1 c0 c1 c2' c3
 have c0:=(H2.out.rowAt (i:=0) rfl).cell 0
 have c1:=(H2.out.rowAt (i:=0) rfl).cell 1
 have c2':=(H2.out.rowAt (i:=0) rfl).cell 2
 have c3:=(H2.out.rowAt (i:=0) rfl).cell 3
 simp only [geS] at c0 c1 c2' c3
 cases R with
 | false =>
  have e:=ET.out
  rw [if_pos (by simp)] at e
  subst e
  go_wp2_with fail
  go_ret2
  exact .inl ⟨by decide,B2.out,rfl⟩
 | true =>
 obtain ⟨s0,s1⟩:=HFI.out
 have p1':decide ((0:Int)<=sq)=true:=decide_eq_true s0
 by_cases p2:g3<sq
 ·have e:=ET.out
  rw [if_pos (by rw [decide_eq_false (show ¬ sq<=g3 by omega)]; simp)] at e
  subst e
  go_wp2_with fail
  go_ret2
  exact .inl ⟨by decide,B2.out,rfl⟩
 have ET2:=qh (show T=if M=false then 1 else if g2<(V:Int) then 15 else 0 from by have:=ET.out; rwa [if_neg (by rw [p1',decide_eq_true (show sq<=g3 by omega)]; simp)] at this)
 clear p1' ET
 have CM2:=qh (CM.out _ B2.out)
 clear CM
 go_wp2_with fail
 refine CM2.out.mono ?_
 rintro e w3 ⟨rfl,hb3⟩
 have H3:=qh (H2.out.below hb3)
 have B3:=qh (BS.out _ _ H3.out)
 clear hb3 CM2 c0 c1 c2' c3
 cases M with
 | false =>
  have e:=ET2.out
  rw [if_pos rfl] at e
  subst e
  go_wp2_with fail
  go_ret2
  exact .inl ⟨by decide,B3.out,rfl⟩
 | true =>
 have ET3:=qh (show T=if g2<(V:Int) then 15 else 0 from by have:=ET2.out; rwa [if_neg (by decide)] at this)
 clear ET2
 have c2':=(H3.out.rowAt (i:=0) rfl).cell 2
 simp only [geS] at c2'
 have CW3:=qh (CW.out rfl _ (B3.out.drew))
 clear CW
 have B3d:=qh (show Below w.heap.size w w3.drew from B3.out.drew)
 go_wp2_with fail
 refine wp_region_held_drew (S:=(fun w'=>w'.cell? ⟨w.heap.size,2,none⟩=some (.int .i64 g2))) (by kernel_rfl) (c2') (fun gH=>?_)
 refine rgT 0 (v:=?v1) ?y1 gH ?_
 case y1=>(intro v hSw; go_simp<;>rfl)
 refine rgT 2 (v:=?v2) ?y2 gH ?_
 case y2=>(intro v hSw; go_simp<;>rfl)
 refine rgT 3 (v:=?v3) ?y3 gH ?_
 case y3=>(intro v hSw; go_simp<;>rfl)
 try simp only [putS]
 refine rgO 1 fun K hK=>?_
 go_simp
 refine CW3.out.mono ?_
 rintro r W4 ⟨rfl,hb4⟩
 have H4:=qh ((H3.out.below (Below.refl _ _).drew).below hb4)
 clear hb4
 refine hK.out _ _ ((show W4.cell? ⟨w.heap.size,2,none⟩=some (.int .i64 g2) from (H4.out.rowAt (i:=0) rfl).cell 2)) (fun gH=>?_)
 clear hK K
 try simp only [putS]
 clear CW3
 by_cases z:g2<(V:Int)
 ·have e:=ET3.out
  rw [if_pos z] at e
  subst e
  have B4:=qh (BS.out _ _ H4.out)
  refine rgT 4 (v:=?v4) ?y4 gH ?_
  case y4=>(intro v hSw; go_simp<;>rfl)
  try simp only [putS]
  refine rgD ?_
  go_wp2_with fail
  go_ret2
  exact .inl ⟨by decide,B4.out,rfl⟩
 have e:=ET3.out
 rw [if_neg z] at e
 subst e
 refine rgT 4 (v:=?v5) ?y5 gH ?_
 case y5=>(intro v hSw; go_simp<;>rfl)
 try simp only [putS]
 refine rgD ?_
 have c0:=(H4.out.rowAt (i:=0) rfl).cell 0
 simp only [List.getElem?_cons_zero] at c0
 have CC4:=qh (CC.out _ (BS.out _ _ H4.out))
 clear CC c2' z
 go_wp2_with fail
 refine CC4.out.mono ?_
 rintro e w5 ⟨lb,rfl,hown,hb5⟩
 obtain ⟨A',c',elb,_⟩:=hown.form
 have ha:=hown.lab
 have hl2:=fun k e=>(World.ownsRow.lt hown k e).1
 obtain ⟨z,hz⟩:=nmq (zs.length)
 rw [<-hz] at elb
 subst elb
 have H5:=qh (H4.out.more hb5 (o:=oLab (.slice A' z c') zs) ha hl2)
 clear ha hl2 hz hown hb5 CC4 c0
 have f0:=(H5.out.rowAt (i:=0) rfl).frozen 0
 have H6:=qh (H5.out.rowSet (i:=0) rfl (cs':=[.slice A' z c',.int .i64 g1,.int .i64 g2,.int .i64 g3]) (w':=w5.setCell ⟨w.heap.size,0,none⟩ (.slice A' z c')) ((Chg.refl (fun k=>k=w.heap.size) w5).setCell (.inl rfl) _) ((H5.out.rowAt (i:=0) rfl).set 0 (.slice A' z c')))
 have c0:=(H5.out.rowAt (i:=0) rfl).cell 0
 have c1:=(H5.out.rowAt (i:=0) rfl).cell 1
 have c2':=(H5.out.rowAt (i:=0) rfl).cell 2
 have c3:=(H5.out.rowAt (i:=0) rfl).cell 3
 simp only [geS] at c0 c1 c2' c3
 have H7:=newSh g1 g2 g3 H6.out
 obtain ⟨b,hb⟩:=nmq (w5.heap.size)
 rw [World.size_setCell,<-hb] at H7
 have HB:=qh hb
 obtain ⟨w7,hw7⟩:=nmq ((w5.setCell ⟨w.heap.size,0,none⟩ (.slice A' z c')).alloc (.cells #[.slice A' z c',.int .i64 g1,.int .i64 g2,.int .i64 g3,.pointer (some ⟨q,0,none⟩),.slice none 0 0,.slice none 0 0,.slice none 0 0,.int .i64 0,.int .i64 0,.int .i64 0] 128))
 have HW7:=qh hw7
 have H7:=qh (show Side w (fun k=>k<w.heap.size) w7 ((Sh.new (.slice A' z c') g1 g2 g3 q (Rg.new g1 sq) zs).os b) from by rw [hw7]; exact H7)
 have A7:=qh (HZ.out (.slice A' z c') q)
 obtain ⟨S0,hS0⟩:=nmq (Sh.new (.slice A' z c') g1 g2 g3 q (Rg.new g1 sq) zs)
 have D7:=qh (show S0.zs=zs∧S0.g1=g1∧S0.g2=g2∧S0.g3=g3∧S0.r=Rg.new g1 sq from by rw [hS0]; exact ⟨rfl,rfl,rfl,rfl,rfl⟩)
 rw [<-hS0] at H7 A7
 clear hb hw7 hS0 H0 H1 H2 H3 H4 HZ HW0 ET3 ST1
 go_wp2_with fail
 rw [<-HW7.out,<-HB.out]
 have AK':=qh (AK.out (by simp) HFI.out.2)
 have N3:=HL.out
 clear HW7 HB AK HFI c0 c1 c2' c3 f0 H5 H6
 go_loopw [54] (fun vi wr=>∃ (i:Nat) (si:Sh),i<=n∧vi=.int .i64 i∧Hid (Side w (fun k=>k<w.heap.size) wr (si.os b))∧Hid (Sh.Hd S0 si)∧Hid (si.At (loadL (l.take i)) i)) (fun vi _=>n-(intOf vi).toNat)
 case atStart=>exact ⟨0,S0,Nat.zero_le _,rfl,H7,qh ⟨rfl,rfl,rfl,rfl,rfl,rfl,rfl⟩,A7⟩
 case round =>
  obtain ⟨i,si,hi,rfl,HI,HD,HAi⟩:=hrel
  by_cases z:i<n
  ·obtain ⟨bb,o,ea,hbl,d⟩:=HS.out.at (j:=i) (by rw [<-HN.out]; exact z)
   obtain ⟨c0,c1,c2,c3,c4⟩:=sw5 (BS.out _ _ HI.out) d
   obtain ⟨k1,k2,k3,k4,k5⟩:=AK'.out i z
   obtain ⟨y0,hy0⟩:=nmq (l.getD i En.Z)
   rw [<-hy0] at c0 c1 c2 c3 c4 k1 k2 k3 k5
   have KA:=qh (fun W (hW:Side w (fun k=>k<w.heap.size) W (si.os b))=>(xAddR (k:=y0.key) y0.ver hW HAi.out (by omega) (by omega) k1 k2 k3).mono (R':=fun e w'=>e=.returned (.tuple #[])∧∃ s',Side w (fun k=>k<w.heap.size) w' (s'.os b)∧Sh.Hd S0 s'∧s'.At (loadL (l.take (i+1))) (i+1)) fun e w' ⟨q1,s',q2,q3,q4⟩=>⟨q1,s',q2,HD.out.trans q3,by rw [<-k5]; exact q4⟩)
   obtain ⟨k,s,v⟩:=y0
   obtain ⟨nm,t,bt⟩:=v
   have KA:Hid (∀ W,Side w (fun k=>k<w.heap.size) W (si.os b)->Calls Tryz.prog 80 #[PtrS b,.string k,.agg #[.int .i64 s,.bool false,.bool nm,.string t,.int .u64 (bt:Int)]] W fun e w'=>e=.returned (.tuple #[])∧∃ s',Side w (fun k=>k<w.heap.size) w' (s'.os b)∧Sh.Hd S0 s'∧s'.At (loadL (l.take (i+1))) (i+1)):=KA
   subst ea
   have i0:(0:Int)<=(i:Int):=by omega
   have i1:(i:Int)<(n:Int):=by omega
   have c0:wr.cell? ⟨bb,o+i * 5,none⟩=some (.string k):=c0
   have c1:wr.cell? ⟨bb,o+i * 5+1,none⟩=some (.int .i64 s):=c1
   have c2:wr.cell? ⟨bb,o+i * 5+2,none⟩=some (.bool nm):=c2
   have c3:wr.cell? ⟨bb,o+i * 5+3,none⟩=some (.string t):=c3
   have c4:wr.cell? ⟨bb,o+i * 5+4,none⟩=some (.int .u64 (bt:Int)):=c4
   obtain ⟨X,hX⟩:=nmq (wr.heap.size)
   obtain ⟨r1,hr1⟩:=nmq (wr.alloc (.cells #[.string k,.int .i64 s,.bool nm,.string t,.int .u64 (bt:Int)] 67))
   have R1:=qh (show RowAt r1 X [.string k,.int .i64 s,.bool nm,.string t,.int .u64 (bt:Int)] 67 from by rw [hr1,hX]; exact RowAt.new wr _ _)
   have S1:=qh (show Side w (fun k=>k<w.heap.size) r1.drew (si.os b) from by rw [hr1]; exact (HI.out.below ((Below.refl _ _).alloc (Nat.le_refl _) _)).below (Below.refl _ _).drew)
   have HR1:=qh hr1
   have HX:=qh hX
   have KA1:=qh (KA.out _ S1.out)
   clear hy0 hbl k1 k2 k3 k4 k5 hr1 hX KA d
   go_wp2_with fail
   rw [<-HR1.out,<-HX.out]
   clear c0 c1 c2 c3 c4
   obtain ⟨c0,c1,c2,c3,c4⟩:=row5 (w:=r1.drew) R1.out
   go_still_tail 10,(by kernel_rfl)
   change wpList _ _ _ _ _ r1.drew
   go_wp2_with fail
   refine KA1.out.mono ?_
   rintro e w5 ⟨rfl,s5,h5,d5,a5⟩
   have H5:=qh h5
   have D5:=qh d5
   have A5:=qh a5
   clear h5 d5 a5 c0 c1 c2 c3 c4
   go_wp2_with fail
   go_roundw
   case rel=>exact ⟨i+1,s5,by omega,by go_num,H5,D5,A5⟩
   case measure=>simp [intOf]; omega
  ·obtain rfl:i=n:=by omega
   have a5:=HAi.out
   rw [show l.take i=l from by rw [HN.out,List.take_length]] at a5
   have D:=D7.out
   have E:=HD.out
   have FIN:=qh (show ∃ (s:Sh),Side w (fun k=>k<w.heap.size) wr (s.os b)∧s.At (loadL l) i∧s.zs=zs∧s.g1=g1∧s.g2=g2∧s.g3=g3∧s.r=Rg.new g1 sq from
    ⟨si,HI.out,a5,E.2.2.2.2.2.2.trans D.1,E.2.1.trans D.2.1,E.2.2.1.trans D.2.2.1,E.2.2.2.1.trans D.2.2.2.1,E.2.2.2.2.2.1.trans D.2.2.2.2⟩)
   clear a5 D E
   go_wp2_with fail
   go_ret2
   obtain ⟨s,f1,f2⟩:=FIN.out
   first | exact ⟨b,rfl,s,f1,f2⟩ | exact ⟨b,s,rfl,f1,f2⟩

end Go.Proofs.YtbfgpdgiaclphaaGreat

namespace Go.Proofs.YtbfgpdgiaclphaaGreat
open Go.RowKit

theorem ldE_new (zs:List Int) (g1 g2 g3:Int):ldE zs g1 g2 g3 0 []=if stOk zs g1 g2 g3=true then 0 else 1:=by
 have e:ldE zs g1 g2 g3 0 []=if (stOk zs g1 g2 g3 && (decide ((0:Int)<=0) && decide ((0:Int)<=g3)))=false then 1 else if mayE [] 0=false then 1 else if g2<((loadL []).live:Int) then 15 else 0:=rfl
 rw [e]
 cases r:stOk zs g1 g2 g3 with
 | false=>rw [if_pos (by simp),if_neg (by decide)]
 | true =>
  unfold stOk at r
  simp only [Bool.and_eq_true,decide_eq_true_eq] at r
  obtain ⟨-,-,-,a2,-,a3,-⟩:=r
  have v:((loadL []).live:Int)=0:=rfl
  rw [v,decide_eq_true (show (0:Int)<=g3 by omega),if_neg (by simp),if_neg (by decide),if_neg (by omega),if_pos rfl]
theorem xNewRm (A:Option Addr) (c:Nat) (zs:List Int) (g1 g2 g3:Int) (w:World) (h:Sl w A zs) (hm:zs.length<=1000) :
  Calls Tryz.prog 11 #[.agg #[.slice A zs.length c,.int .i64 g1,.int .i64 g2,.int .i64 g3]] w fun e w' =>
   ((stOk zs g1 g2 g3=false∧Below w.heap.size w w'∧e=.returned (.tuple #[.pointer none,.int .i64 1])) ∨
    (stOk zs g1 g2 g3=true∧∃ (b:Nat) (s:Sh),e=.returned (.tuple #[PtrM b,.int .i64 0])∧Side w (fun k=>k<w.heap.size) w' (s.os b)∧s.At [] 0∧s.zs=zs∧s.g1=g1∧s.g2=g2∧s.g3=g3∧s.r=Rg.new g1 0)):=by
 have b1:Below w.heap.size w (w.alloc (.cells #[.slice A zs.length c,.int .i64 g1,.int .i64 g2,.int .i64 g3] 24)):=(Below.refl _ _).alloc (Nat.le_refl _) _
 have LD:=xLoadR A c zs g1 g2 g3 0 [] none 0 _ (h.below b1) hm (fun hp=>by cases hp) (fun x hx=>by cases hx) (by decide)
 rw [ldE_new] at LD
 obtain ⟨T,hT⟩:=nmq (stOk zs g1 g2 g3)
 rw [<-hT] at LD ⊢
 have HL:=qh (LD.mono (R':=fun e w'=>(T=false∧Below w.heap.size w w'∧e=.returned (.tuple #[.pointer none,.int .i64 1])) ∨
    (T=true∧∃ (b:Nat),e=.returned (.tuple #[PtrM b,.int .i64 0])∧∃ (s:Sh),Side w (fun k=>k<w.heap.size) w' (s.os b)∧s.At [] 0∧s.zs=zs∧s.g1=g1∧s.g2=g2∧s.g3=g3∧s.r=Rg.new g1 0)) fun e w' q=>by
  rcases q with ⟨q1,q2,q3⟩ | ⟨q1,b,s,q2,q3⟩
  ·cases T with
   | true=>exact absurd (if_pos rfl) q1
   | false=>exact .inl ⟨rfl,below_then b1 q2,q3⟩
  ·cases T with
   | true=>exact .inr ⟨rfl,b,q2,s,q3.1.baseTo b1,q3.2⟩
   | false=>rw [if_neg (by decide)] at q1; cases q1)
 obtain ⟨m,hm2⟩:=nmq (zs.length)
 rw [<-hm2] at b1 ⊢
 simp only [<-hm2] at HL
 have HL:Hid (Calls Tryz.prog 38 #[.agg #[.slice A m c,.int .i64 g1,.int .i64 g2,.int .i64 g3],.int .i64 0,.slice none 0 0] (w.alloc (.cells #[.slice A m c,.int .i64 g1,.int .i64 g2,.int .i64 g3] 24)) fun e w'=>(T=false∧Below w.heap.size w w'∧e=.returned (.tuple #[.pointer none,.int .i64 1])) ∨
    (T=true∧∃ (b:Nat),e=.returned (.tuple #[PtrM b,.int .i64 0])∧∃ (s:Sh),Side w (fun k=>k<w.heap.size) w' (s.os b)∧s.At [] 0∧s.zs=zs∧s.g1=g1∧s.g2=g2∧s.g3=g3∧s.r=Rg.new g1 0)):=HL
 clear h hm LD hT hm2 b1
 go_enter Tryz.func11,Tryz.ntmps11
 go_wp2_with fail
 refine HL.out.mono ?_
 rintro e w1 (⟨rfl,hb,rfl⟩ | ⟨rfl,b,rfl,hs⟩)
 ·have HB:=qh hb
  clear hb HL
  go_wp2_with fail
  go_ret2
  first | exact .inl ⟨rfl,HB.out,rfl⟩ | exact ⟨HB.out,rfl⟩
 ·have HS:=qh hs
  clear hs HL
  go_wp2_with fail
  go_ret2
  obtain ⟨s,f⟩:=HS.out
  first | exact .inr ⟨rfl,b,s,rfl,f⟩ | exact ⟨b,s,rfl,f⟩ | exact ⟨b,rfl,s,f⟩

section
variable {w0 w:World} {N:Nat->Prop} {b:Nat} {s:Sh} {os2:List Ob}
theorem Sh.lab (h:Side w0 N w (s.os b++os2)):∃ A c,s.lb=.slice A s.zs.length c∧Sl w A s.zs:=by
 obtain ⟨F,⟨A,c,e,hs,_⟩,_⟩:=h.get (i:=7) (o:=oLab s.lb s.zs) rfl
 exact ⟨A,c,e,hs⟩
theorem xSettingR (h:Side w0 N w (s.os b++os2)) (hl:s.zs.length<=1024) :
  Calls Tryz.prog 24 #[PtrM b] w fun e w'=>(∃ A c,e=.returned (.agg #[.slice A s.zs.length c,.int .i64 s.g1,.int .i64 s.g2,.int .i64 s.g3])∧Sl w' A s.zs)∧Below w.heap.size w w':=by
 obtain ⟨A,c,el,hs⟩:=Sh.lab h
 obtain ⟨d0,d1,d2,d3,-⟩:=Sh.cells h
 rw [el] at d0
 have CC:=qh (fun W (hb:Below w.heap.size w W)=>scloneA A c s.zs W (hs.below hb) hl)
 have NB:=qh (show b<w.heap.size from (Sh.rowAt h).lt)
 obtain ⟨m,hm⟩:=nmq (s.zs.length)
 obtain ⟨zs,hz⟩:=nmq (s.zs)
 obtain ⟨g1,h1⟩:=nmq (s.g1)
 obtain ⟨g2,h2⟩:=nmq (s.g2)
 obtain ⟨g3,h3⟩:=nmq (s.g3)
 rw [<-hm] at d0
 simp only [<-hm] at CC
 simp only [<-hz] at CC
 rw [<-h1] at d1
 rw [<-h2] at d2
 rw [<-h3] at d3
 rw [<-hm,<-hz,<-h1,<-h2,<-h3]
 have HM:=qh (show m=zs.length by rw [hm,hz])
 obtain ⟨B,hB⟩:=nmq (w.heap.size)
 have CC:=qh (CC.out)
 have R1:=qh (RowAt.new w [.slice none 0 0,.int .i64 0,.int .i64 0,.int .i64 0] 24)
 have b1:Below w.heap.size w (w.alloc (.cells #[.slice none 0 0,.int .i64 0,.int .i64 0,.int .i64 0] 24)):=(Below.refl _ _).alloc (Nat.le_refl _) _
 replace d0:=(b1.cell (p:=⟨b,0,none⟩) NB.out).trans d0
 replace d1:=(b1.cell (p:=⟨b,1,none⟩) NB.out).trans d1
 replace d2:=(b1.cell (p:=⟨b,2,none⟩) NB.out).trans d2
 replace d3:=(b1.cell (p:=⟨b,3,none⟩) NB.out).trans d3
 have HB:=qh hB
 have B1:=qh b1
 clear h hl hs el hm hz h1 h2 h3 hB b1
 go_enter Tryz.func24,Tryz.ntmps24
 go_wp2_with fail
 obtain ⟨w2,hw2⟩:=nmq ((w.alloc (.cells #[.slice none 0 0,.int .i64 0,.int .i64 0,.int .i64 0] 24)).alloc (.cells #[.slice A m c,.int .i64 g1,.int .i64 g2,.int .i64 g3] 24))
 rw [<-hw2]
 obtain ⟨D,hD⟩:=nmq (w.heap.size+1)
 have R2:RowAt w2 D [.slice A m c,.int .i64 g1,.int .i64 g2,.int .i64 g3] 24:=by
  have:=RowAt.new (w.alloc (.cells #[.slice none 0 0,.int .i64 0,.int .i64 0,.int .i64 0] 24)) [.slice A m c,.int .i64 g1,.int .i64 g2,.int .i64 g3] 24
  rw [World.size_alloc,<-hD] at this
  rw [hw2]; exact this
 have R1':RowAt w2 B [.slice none 0 0,.int .i64 0,.int .i64 0,.int .i64 0] 24:=by
  rw [hw2,HB.out]; exact R1.out.alloc _
 have b2:Below w.heap.size w w2:=by rw [hw2]; exact B1.out.alloc B1.out.size _
 have hDB:B+1=D:=by rw [hD,HB.out]
 rw [<-HB.out,hDB]
 refine (CC.out _ b2).mono ?_
 rintro e w3 ⟨v,rfl,hown,hb3⟩
 obtain ⟨A',c',ev,_,hs',_⟩:=hown.form
 have hown':=qh hown
 have R13:=qh (R1'.below hb3)
 have R23:=qh (R2.below hb3)
 have B3:=qh (below_then b2 hb3)
 have LTB:=qh (show B<D∧D<w2.heap.size from ⟨by rw [hD,HB.out]; exact Nat.lt_succ_self _,R2.lt⟩)
 have HS':=qh hs'
 have EV:=qh ev
 obtain ⟨z,hz⟩:=nmq (zs.length)
 have HM2:m=z:=by rw [hz]; exact HM.out
 subst HM2
 rw [<-hz] at ev
 subst ev
 have f0:=R23.out.frozen 0
 have k0:=R13.out.frozen 0
 have k1:=R13.out.frozen 1
 have k2:=R13.out.frozen 2
 have k3:=R13.out.frozen 3
 have e0:=R23.out.cell 0
 have e1:=R23.out.cell 1
 have e2:=R23.out.cell 2
 have e3:=R23.out.cell 3
 have h0:=R13.out.cell 0
 have h1:=R13.out.cell 1
 have h2:=R13.out.cell 2
 have h3:=R13.out.cell 3
 simp only [geS] at e0 e1 e2 e3 h0 h1 h2 h3
 clear hown hb3 R1' R2 b2 d0 d1 d2 d3 hw2 hD hDB CC hz hs'
 have ne:B≠D:=by have:=LTB.out.1; omega
 have ne':D≠B:=fun e=>ne e.symm
 go_wp2_with fail
 have c1:Chg (fun k=>k=D) w3 (w3.setCell ⟨D,0,none⟩ (.slice A' m c')):=(Chg.refl (fun k=>k=D) w3).setCell (p:=⟨D,0,none⟩) (.inl rfl) _
 have R4:RowAt (w3.setCell ⟨D,0,none⟩ (.slice A' m c')) B [.slice none 0 0,.int .i64 0,.int .i64 0,.int .i64 0] 24:=(c1.block B R13.out.lt ne).trans R13.out
 have R5:=(((R4.set 0 (.slice A' m c')).set 1 (.int .i64 g1)).set 2 (.int .i64 g2)).set 3 (.int .i64 g3)
 have ch:Chg (fun k=>k=B∨k=D) w3 (((((w3.setCell ⟨D,0,none⟩ (.slice A' m c')).setCell ⟨B,0,none⟩ (.slice A' m c')).setCell ⟨B,1,none⟩ (.int .i64 g1)).setCell ⟨B,2,none⟩ (.int .i64 g2)).setCell ⟨B,3,none⟩ (.int .i64 g3)) :=
  (((((Chg.refl (fun k=>k=B∨k=D) w3).setCell (p:=⟨D,0,none⟩) (.inl (.inr rfl)) _).setCell (.inl (.inl rfl)) _).setCell (.inl (.inl rfl)) _).setCell (.inl (.inl rfl)) _).setCell (.inl (.inl rfl)) _
 have own:Own (((((w3.setCell ⟨D,0,none⟩ (.slice A' m c')).setCell ⟨B,0,none⟩ (.slice A' m c')).setCell ⟨B,1,none⟩ (.int .i64 g1)).setCell ⟨B,2,none⟩ (.int .i64 g2)).setCell ⟨B,3,none⟩ (.int .i64 g3)) w2.heap.size (.slice A' m c') zs :=
  ownsRow_keepk hown'.out fun k e=>by
   have q:=World.ownsRow.lt hown'.out k e
   have l:=LTB.out
   exact ch.block k q.2 (by rintro (z | z)<;>omega)
 obtain ⟨A2,c2,ev2,_,s2,_⟩:=own.form
 injection ev2 with i1 i2 i3
 subst i1
 refine bodyPost_ret (results_cell_one rfl _ _ B _ [.slice A' m c',.int .i64 g1,.int .i64 g2,.int .i64 g3] _ rfl R5 Tryz.underlying24 rfl (by kernel_rfl)) rfl ⟨⟨A',c',rfl,s2⟩,?_⟩
 have l:=LTB.out
 have hb:=HB.out
 exact B3.out.trans (ch.below (by rintro i (z | z)<;>omega) B3.out.size)
end

end Go.Proofs.YtbfgpdgiaclphaaGreat

namespace Go.Proofs.YtbfgpdgiaclphaaGreat
open Go.RowKit

structure Is11 (b:Nat) (m:Rm) (s:Sh) (P:Nat):Prop where
 at_:s.At m.L P
 few:P<=16 * m.r.l.length+3900
 zs:s.zs=m.zs
 g1:s.g1=(m.r.size:Int)
 g2:s.g2=m.quota
 g3:s.g3=m.most
 r:s.r=m.r
 ok:m.Ok
def theR11:RelM:=fun w b F m=>∃ s P,Allf w F (s.os b)∧Is11 b m s P
namespace R11
variable {w w':World} {b:Nat} {F:Nat->Prop} {m:Rm} {s:Sh} {P:Nat}
theorem keep (h:theR11 w b F m) (hk:∀ k,F k->w'.heap[k]?=w.heap[k]?) (hs:w.heap.size<=w'.heap.size):theR11 w' b F m:=by
 obtain ⟨s,P,h,i⟩:=h
 exact ⟨s,P,h.keep hk hs,i⟩
theorem lt (h:theR11 w b F m) {k:Nat} (e:F k):k<w.heap.size:=by
 obtain ⟨s,P,h,i⟩:=h
 exact h.lt e
theorem same (h:theR11 w b F m) (hb:Below w.heap.size w w'):LeftM theR11 b F w m w' :=
 ⟨Chg.of_below hb,F,keep h (fun k e=>hb.block k (lt h e)) hb.size,fun _ e=>.inl e⟩
theorem side (h:Allf w F (s.os b)):Side w (fun k=>k<w.heap.size∧¬ F k) w (s.os b++[]):=by rw [List.append_nil]; exact h.side
theorem reads {P:Program} {f:FuncId} {args:Array Value} {T:Ending->World->Prop} (h:theR11 w b F m) (hc:Calls P f args w fun e w'=>T e w'∧Below w.heap.size w w'):Calls P f args w fun e w'=>T e w'∧LeftM theR11 b F w m w' :=
 hc.mono fun _ _ ⟨t,hb⟩=>⟨t,same h hb⟩
theorem new (A:Option Addr) (c:Nat) (zs:List Int) (g1 g2 g3:Int) (w:World) (h:Sl w A zs) (hm:zs.length<=1000) (_:La.U64 zs) :
  Calls Tryz.prog 11 #[.agg #[.slice A zs.length c,.int .i64 g1,.int .i64 g2,.int .i64 g3]] w fun e w'=>Below w.heap.size w w' ∧
   ((stOk zs g1 g2 g3=true∧∃ b F,e=.returned (.tuple #[PtrM b,.int .i64 0])∧theR11 w' b F (Rm.new zs g1 g2 g3 0 [])∧∀ k,F k->w.heap.size<=k) ∨
    (stOk zs g1 g2 g3=false∧e=.returned (.tuple #[.pointer none,.int .i64 1]))) :=
 (xNewRm A c zs g1 g2 g3 w h hm).mono fun e w' q=>by
  rcases q with ⟨q1,q2,q3⟩ | ⟨q1,b,s,q2,q3,q4,q5,q6,q7,q8,q9⟩
  ·exact ⟨q2,.inr ⟨q1,q3⟩⟩
  ·obtain ⟨hb,F,hF,hk⟩:=q3.allNew
   have ok:=Rm.ok_new q1
   have st:=Rm.st_parts q1
   exact ⟨hb,.inl ⟨q1,b,F,q2,⟨s,0,hF,q4,Nat.zero_le _,q5,by rw [q6]; exact (Int.toNat_of_nonneg (by omega)).symm,q7,q8,q9,ok⟩,hk⟩⟩
theorem load (A:Option Addr) (c:Nat) (zs:List Int) (g1 g2 g3 sq:Int) (l:List En) (A2:Option Addr) (c2:Nat) (w:World) (h:Sl w A zs) (hm:zs.length<=1000) (_:La.U64 zs) (he:SlEn w A2 l) (hf:FitsE l) (hl:l.length<=3900) :
  Calls Tryz.prog 38 #[.agg #[.slice A zs.length c,.int .i64 g1,.int .i64 g2,.int .i64 g3],.int .i64 sq,.slice A2 l.length c2] w fun e w'=>Below w.heap.size w w' ∧
   ((ldE zs g1 g2 g3 sq l≠0∧e=.returned (.tuple #[.pointer none,.int .i64 (ldE zs g1 g2 g3 sq l)])) ∨
    (ldE zs g1 g2 g3 sq l=0∧∃ b F,e=.returned (.tuple #[PtrM b,.int .i64 0])∧theR11 w' b F (Rm.new zs g1 g2 g3 sq (loadL l))∧∀ k,F k->w.heap.size<=k)) :=
 (xLoadR A c zs g1 g2 g3 sq l A2 c2 w h hm he hf hl).mono fun e w' q=>by
  rcases q with ⟨q1,q2,q3⟩ | ⟨q1,b,s,q2,q3,q4,q5,q6,q7,q8,q9⟩
  ·exact ⟨q2,.inl ⟨q1,q3⟩⟩
  ·obtain ⟨hb,F,hF,hk⟩:=q3.allNew
   have ok:=(Rm.ok_load q1 hf).1
   have st:=Rm.st_parts (Rm.ld_parts q1).1
   exact ⟨hb,.inr ⟨q1,b,F,q2,⟨s,l.length,hF,q4,by omega,q5,by rw [q6]; exact (Int.toNat_of_nonneg (by omega)).symm,q7,q8,q9,ok⟩,hk⟩⟩
theorem setting (b:Nat) (F:Nat->Prop) (m:Rm) (w:World) (h:theR11 w b F m) :
  Calls Tryz.prog 24 #[PtrM b] w fun e w'=>(∃ A c,e=.returned (.agg #[.slice A m.zs.length c,.int .i64 (m.r.size:Nat),.int .i64 m.quota,.int .i64 m.most])∧Sl w' A m.zs)∧LeftM theR11 b F w m w':=by
 have hh:=h
 obtain ⟨s,P,h,i⟩:=h
 have c:=xSettingR (side h) (by
  rw [i.zs]
  have:=i.ok.st
  unfold stOk La.right at this
  simp only [Bool.and_eq_true,decide_eq_true_eq] at this
  omega)
 rw [i.zs,i.g1,i.g2,i.g3] at c
 exact reads hh c
theorem seq (b:Nat) (F:Nat->Prop) (m:Rm) (w:World) (h:theR11 w b F m):Calls Tryz.prog 27 #[PtrM b] w fun e w'=>e=.returned (.int .i64 m.seq)∧LeftM theR11 b F w m w':=by
 have hh:=h
 obtain ⟨s,P,h,i⟩:=h
 have c:=xSeqR (side h)
 rw [i.r] at c
 exact reads hh c
theorem floor (b:Nat) (F:Nat->Prop) (m:Rm) (w:World) (h:theR11 w b F m):Calls Tryz.prog 29 #[PtrM b] w fun e w'=>e=.returned (.int .i64 m.floor)∧LeftM theR11 b F w m w':=by
 have hh:=h
 obtain ⟨s,P,h,i⟩:=h
 have c:=xFloorR (side h)
 rw [i.r] at c
 exact reads hh c
theorem asOf (b:Nat) (F:Nat->Prop) (m:Rm) (x:Int) (w:World) (h:theR11 w b F m) (_:m.Few) (_:0<=x) (_:x<=18446744073709551615) :
  Calls Tryz.prog 16 #[PtrM b,.int .u64 x] w fun e w'=>e=.returned (.tuple #[.int .i64 (m.r.asOf x:Nat),.int .i64 (m.r.asNo x)])∧LeftM theR11 b F w m w':=by
 have hh:=h
 obtain ⟨s,P,h,i⟩:=h
 have c:=xAsOfR x (side h)
 rw [i.r] at c
 exact reads hh c
theorem get (b:Nat) (F:Nat->Prop) (m:Rm) (k:ByteArray) (q:Int) (w:World) (h:theR11 w b F m) (_:m.Few) (_:k.size<=1000) :
  Calls Tryz.prog 30 #[PtrM b,.string k,.int .i64 q] w fun e w'=>e=.returned (.tuple #[(atL (m.L.of k) q).val.v,.bool (atOk (m.L.of k) q)])∧LeftM theR11 b F w m w':=by
 have hh:=h
 obtain ⟨s,P,h,i⟩:=h
 exact reads hh (xGetR (side h) i.at_.f k q)
theorem live (b:Nat) (F:Nat->Prop) (m:Rm) (w:World) (h:theR11 w b F m) (_:m.Few):Calls Tryz.prog 33 #[PtrM b] w fun e w'=>e=.returned (.int .i64 (m.L.live:Nat))∧LeftM theR11 b F w m w':=by
 have hh:=h
 obtain ⟨s,P,h,i⟩:=h
 have c:=xLiveR (side h)
 rw [i.at_.x1] at c
 exact reads hh c
theorem keys (b:Nat) (F:Nat->Prop) (m:Rm) (w:World) (h:theR11 w b F m) (_:m.Few):Calls Tryz.prog 34 #[PtrM b] w fun e w'=>e=.returned (.int .i64 (m.ents.length:Nat))∧LeftM theR11 b F w m w':=by
 have hh:=h
 obtain ⟨s,P,h,i⟩:=h
 have c:=xKeysR (side h)
 rw [i.at_.x2,show m.L.alive=m.ents.length from (Ch.ents_alive i.ok.L.le).symm] at c
 exact reads hh c
theorem vers (b:Nat) (F:Nat->Prop) (m:Rm) (w:World) (h:theR11 w b F m) (_:m.Few):Calls Tryz.prog 35 #[PtrM b] w fun e w'=>e=.returned (.int .i64 (m.L.vers:Nat))∧LeftM theR11 b F w m w':=by
 have hh:=h
 obtain ⟨s,P,h,i⟩:=h
 have c:=xVersionsR (side h)
 rw [i.at_.x3] at c
 exact reads hh c
theorem check (b:Nat) (F:Nat->Prop) (m:Rm) (ws:List Wr) (A:Option Addr) (c:Nat) (q:Int) (w:World) (h:theR11 w b F m) (hf:m.Few) (g:GoodW w F A ws) :
  Calls Tryz.prog 32 #[PtrM b,.slice A ws.length c,.int .i64 q] w fun e w'=>e=.returned (.int .i64 (m.chk ws q))∧LeftM theR11 b F w m w':=by
 have hh:=h
 obtain ⟨s,P,h,i⟩:=h
 have gd:=Rm.goods i.ok hf g.2.1
 have cc:=xCheckR (side h) i.at_ ws A c q g.1 g.2.1 (fun x hx=>(g.2.2.2.2 x hx).2) g.2.2.1 (by rw [i.r,i.g3]; exact gd)
 rw [i.r,i.g2,i.g3] at cc
 exact reads hh cc
theorem may (ws:List Wr) (A:Option Addr) (c:Nat) (w:World) (g:GoodW w (fun _=>False) A ws):Calls Tryz.prog 18 #[.slice A ws.length c] w fun e w'=>e=.returned (.bool (mayW ws))∧Below w.heap.size w w' :=
 xMayR ws A c w g.1 g.2.1
theorem commit (b:Nat) (F:Nat->Prop) (m:Rm) (ws:List Wr) (A:Option Addr) (c:Nat) (x:Int) (w:World) (h:theR11 w b F m) (hf:m.Few) (g:GoodW w F A ws) (_:0<=x) (_:x<=18446744073709551615) :
  Calls Tryz.prog 26 #[PtrM b,.slice A ws.length c,.int .u64 x] w fun e w'=>e=.returned (.tuple #[.int .i64 (m.comN ws x),.int .i64 (m.comE ws x)])∧LeftM theR11 b F w (m.com ws x) w':=by
 obtain ⟨s,P,h,i⟩:=h
 have st:=Rm.st_parts i.ok.st
 have hl:=hf.2
 have fw:=i.few
 have cc:=xCommitR h.side i.at_ ws A c x g.1 (fun hp a e=>by
  refine ⟨?_,g.2.2.2.1 hp a e⟩
  obtain ⟨g',o,e2,hlt,_⟩:=g.1 hp
  rw [e2] at e; injection e with e; subst e; exact hlt) g.2.1 (fun x hx=>(g.2.2.2.2 x hx).2) (by rw [i.r]; exact i.ok.L) hf.1 (by rw [i.g3]; omega) (by omega)
 rw [i.r,i.g2,i.g3] at cc
 refine cc.mono fun e w' ⟨q1,s',q2,q3,q4⟩=>⟨q1,?_⟩
 obtain ⟨ch,F',hF,hk⟩:=q2.allf
 have ok:=(Rm.ok_com (x:=x) i.ok hf.1 g.2.1).1
 have sz:(comR m.r m.L ws x m.quota m.most).size=m.r.size∧(comE m.r m.L ws x m.quota m.most=0->(comR m.r m.L ws x m.quota m.most).l.length=m.r.l.length+1)∧m.r.l.length<=(comR m.r m.L ws x m.quota m.most).l.length:=by
  by_cases z:comE m.r m.L ws x m.quota m.most=0
  ·have n0:=(Rm.com_yes (m:=m) z).2.2.2.1
   unfold comR
   rw [if_pos z]
   unfold Rg.push
   rw [if_pos n0]
   exact ⟨rfl,fun _=>List.length_append,by rw [List.length_append]; omega⟩
  ·unfold comR
   rw [if_neg z]
   exact ⟨rfl,fun e=>absurd e z,Nat.le_refl _⟩
 refine ⟨ch,F',⟨s',_,hF,q4,?_,q3.2.2.2.2.2.2.trans i.zs,?_,q3.2.2.1.trans i.g2,q3.2.2.2.1.trans i.g3,q3.2.2.2.2.2.1,ok⟩,hk⟩
 ·show _<=16 * (comR m.r m.L ws x m.quota m.most).l.length+3900
  by_cases z:comE m.r m.L ws x m.quota m.most=0
  ·have:=sz.2.1 z
   rw [if_pos z]; omega
  ·have:=sz.2.2
   rw [if_neg z]; omega
 ·show _=((comR m.r m.L ws x m.quota m.most).size:Int)
  rw [sz.1]
  exact q3.2.1.trans i.g1
theorem ok {w:World} {b:Nat} {F:Nat->Prop} {m:Rm} (h:theR11 w b F m):m.Ok:=by
 obtain ⟨s,P,h,i⟩:=h
 exact i.ok
end R11
theorem theA11:RoomAw theR11 where
 keep:=R11.keep
 lt:=fun h e=>R11.lt h e
 new:=R11.new
 check:=R11.check
 nil_:=fun ws A c k s x w=>⟨nSettingR w,nSeqR w,nFloorR w,nAsOfR x w,nGetR k s w,nAfterR k s w,nSeekR k s w,nCheckR A ws.length c s w,nCommitR A ws.length c x w,nSweepR w,nLiveR w,nKeysR w,nVersionsR w,
  (nEntriesR w).mono fun _ _ ⟨h,hb⟩=>⟨⟨none,0,h⟩,hb⟩⟩

end Go.Proofs.YtbfgpdgiaclphaaGreat

namespace Go.Proofs.YtbfgpdgiaclphaaGreat
open Go.RowKit

namespace R11
theorem after (b:Nat) (F:Nat->Prop) (m:Rm) (k:ByteArray) (q:Int) (w:World) (h:theR11 w b F m) (_:m.Few) (_:k.size<=1000) :
  Calls Tryz.prog 31 #[PtrM b,.string k,.int .i64 q] w fun e w'=>e=.returned (.tuple #[.string (aftV m.L k true q).1,(aftV m.L k true q).2.1.v,.bool (aftV m.L k true q).2.2])∧LeftM theR11 b F w m w':=by
 have hh:=h
 obtain ⟨s,P,h,i⟩:=h
 exact reads hh (xAfterR (side h) i.at_.f k q)
theorem seek (b:Nat) (F:Nat->Prop) (m:Rm) (k:ByteArray) (q:Int) (w:World) (h:theR11 w b F m) (_:m.Few) (_:k.size<=1000) :
  Calls Tryz.prog 40 #[PtrM b,.string k,.int .i64 q] w fun e w'=>e=.returned (.tuple #[.string (aftV m.L k false q).1,(aftV m.L k false q).2.1.v,.bool (aftV m.L k false q).2.2])∧LeftM theR11 b F w m w':=by
 have hh:=h
 obtain ⟨s,P,h,i⟩:=h
 exact reads hh (xSeekR (side h) i.at_.f k q)
theorem right (A:Option Addr) (c:Nat) (zs:List Int) (g1 g2 g3:Int) (w:World) (h:Sl w A zs) (hm:zs.length<=1000) (_:La.U64 zs) :
  Calls Tryz.prog 12 #[.agg #[.slice A zs.length c,.int .i64 g1,.int .i64 g2,.int .i64 g3]] w fun e w'=>e=.returned (.bool (stOk zs g1 g2 g3))∧Below w.heap.size w w' :=
 xRightR A c zs g1 g2 g3 w h (Nat.le_trans hm (by decide))
end R11
theorem theX11_of
  (sweep:∀ (b:Nat) (F:Nat->Prop) (m:Rm) (w:World),theR11 w b F m->m.Few->Calls Tryz.prog 28 #[PtrM b] w fun e w'=>e=.returned (.int .i64 m.gone)∧LeftM theR11 b F w m.sw w')
  (entries:∀ (b:Nat) (F:Nat->Prop) (m:Rm) (w:World),theR11 w b F m->m.Few →
   Calls Tryz.prog 37 #[PtrM b] w fun e w'=>(∃ A c,e=.returned (.slice A m.ents.length c)∧SlEn w' A m.ents∧(0<m.ents.length->∃ g o,A=some ⟨g,o,none⟩∧w.heap.size<=g))∧Below w.heap.size w w'):RoomAt theR11 where
 keep:=R11.keep
 lt:=fun h e=>R11.lt h e
 ok:=R11.ok
 right:=R11.right
 may:=R11.may
 new:=R11.new
 load:=R11.load
 setting:=R11.setting
 seq:=R11.seq
 floor:=R11.floor
 asOf:=R11.asOf
 get:=R11.get
 after:=R11.after
 seek:=R11.seek
 check:=R11.check
 commit:=R11.commit
 sweep:=sweep
 live:=R11.live
 keys:=R11.keys
 vers:=R11.vers
 entries:=entries
 nil_:=theA11.nil_

end Go.Proofs.YtbfgpdgiaclphaaGreat
