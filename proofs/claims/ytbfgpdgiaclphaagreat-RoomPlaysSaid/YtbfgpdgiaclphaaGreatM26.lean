/- Proved parts: B4p. Conditions: each theorem's own. -/
import Derived.Test.YtbfgpdgiaclphaaGreatM21
import Derived.Test.YtbfgpdgiaclphaaGreatM20
import Derived.Test.YtbfgpdgiaclphaaGreatM24
import Derived.Test.YtbfgpdgiaclphaaGreatM25
import Derived.Test.YtbfgpdgiaclphaaGreatM19
import Derived.Deep.CutRange
import Derived.Test.YtbfgpdgiaclphaaGreatQ1
import Derived.Test.YtbfgpdgiaclphaaGreatQ2
set_option maxRecDepth 100000
set_option maxHeartbeats 8000000
namespace Go.Proofs.YtbfgpdgiaclphaaGreat.roomPlays
open Go.Proofs.YtbfgpdgiaclphaaGreat Go.Joins Go.ChangeShapes Go.WideShapes Go.ChangeAt Go.RowKit Go.Deep

theorem cmp_self (a:List Int):(La.cmp a a == 0)=true:=by
 have:La.lex a a=0:=by
  induction a with
  | nil=>rfl
  | cons x a ih=>unfold La.lex; rw [if_neg (by omega),if_neg (by omega),ih]
 unfold La.cmp
 rw [if_neg (by omega),if_neg (by omega),this]; rfl
theorem mRing {w0 w:World} {N:Nat->Prop} {os:List Ob} {i p:Nat} {m:Rm} (h:Side w0 N w os) (hi:os[i]?=some (obM p m)) (ok:m.Ok) (hb:m.Few) (x:Int):∃ q,w.cell? ⟨p,4,none⟩=some (.pointer (some ⟨q,0,none⟩)) ∧
  Calls Tryz.prog 17 #[.pointer (some ⟨q,0,none⟩),.int .u64 x] w fun e w'=>e=.returned (.tuple #[.int .i64 (m.r.asOf x:Nat),.int .i64 (m.r.asNo x)])∧Side w0 N w' os:=by
 obtain ⟨F,q,v,lb,G,A,c,hF,hr,sp⟩:=h.get hi
 refine ⟨q,hr.row.cell 4,?_⟩
 exact (rAsOf0 q v m.r x w hr.ring ok.r (Nat.le_trans hb.2 (by decide))).mono fun e w' ⟨he,n,hw⟩=>⟨he,by rw [hw]; exact h.below (below_drewN (Below.refl _ _) n)⟩
theorem walk {R:RelM} (X:RoomAt R) (A:Option Addr) (c:Nat) (zs:List Int) (g1 g2 g3:Int) (A3:Option Addr) (c3:Nat) (l:List AcM) (st:Int) (w:World)
  (sl:Sl w A zs) (hu:La.U64 zs) (hl:zs.length<=maxLen) (sa:SlAct w A3 l) (oa:∀ y,y ∈ l->y.Ok w) (la:l.length<=maxLen) (t0:0<=st) (t1:st<=18446744073709551615) :
  Calls Tryz.prog 3 #[.agg #[.slice A zs.length c,.int .i64 g1,.int .i64 g2,.int .i64 g3],.slice A3 l.length c3,.int .u64 st] w fun e w'=>e=.returned (.bool true)∧Below w.heap.size w w':=by
 obtain ⟨z,hz⟩:=nmq (zs.length)
 obtain ⟨n,hn⟩:=nmq (l.length)
 obtain ⟨w0,hw0⟩:=nmq (w.alloc (.cells #[.slice A z c,.int .i64 g1,.int .i64 g2,.int .i64 g3] 24))
 have r0:RowAt w0 w.heap.size [.slice A z c,.int .i64 g1,.int .i64 g2,.int .i64 g3] 24:=by rw [hw0]; exact RowAt.new _ _ _
 have b0:Below w.heap.size w w0:=by rw [hw0]; exact (Below.refl _ _).alloc (Nat.le_refl _) _
 have CB:=qh (fun W (bb:Below w0.heap.size w0 W)=>show W.cell? ⟨w.heap.size,0,none⟩=some (.slice A z c)∧W.cell? ⟨w.heap.size,1,none⟩=some (.int .i64 g1)∧W.cell? ⟨w.heap.size,2,none⟩=some (.int .i64 g2)∧W.cell? ⟨w.heap.size,3,none⟩=some (.int .i64 g3) from
  ⟨(r0.below bb).cell 0,(r0.below bb).cell 1,(r0.below bb).cell 2,(r0.below bb).cell 3⟩)
 have SLZ:=qh (fun W (bb:Below w.heap.size w W)=>sl.below bb)
 have HU:=qh hu
 have B0:=qh b0
 have HW:=qh hw0
 have AW:=qh (lAwake X.lo.a0 w0)
 have X':=qh X
 have SA:=qh sa
 have OA:=qh oa
 have HZ:=qh hz
 have HN:=qh hn
 have T0:=qh t0
 have T1:=qh t1
 unfold maxLen at hl la
 rw [<-hz] at hl ⊢
 rw [<-hn] at la ⊢
 clear sl hu sa oa r0 b0 hw0 hz hn X t0 t1
 go_enter Tryz.func3,Tryz.ntmps3
 go_wp2_with fail
 rw [<-HW.out]
 refine AW.out.mono ?_
 rintro e w1 ⟨rfl,hb1⟩
 obtain ⟨d0,d1,d2,d3⟩:=CB.out _ hb1
 have B1:=qh hb1
 have BW:=qh (below_then B0.out hb1)
 clear hb1 AW
 by_cases z60:60<z
 ·go_wp2_with fail
  go_ret
  exact ⟨rfl,BW.out⟩
 have KN:=qh (pNew X'.out.lo (Side.nil w1) A c zs g1 g2 g3 (SLZ.out _ BW.out) (by rw [<-HZ.out]; omega) HU.out)
 have KR:=qh (fun W (hb:Below w.heap.size w W)=>X'.out.right A c zs g1 g2 g3 W (SLZ.out _ hb) (by rw [<-HZ.out]; omega) HU.out)
 have KQ:=qh (fun W (hb:Below w.heap.size w W)=>rRight1 A c zs g1 g2 g3 W (SLZ.out _ hb) (by rw [<-HZ.out]; unfold maxLen; omega) HU.out)
 simp only [<-HZ.out] at KN KR KQ
 have BS:=qh (fun W os (h:Side w1 (fun k=>k<w1.heap.size) W os)=>show Below w1.heap.size w1 W from h.base (Nat.le_refl _) (fun _ e=>e))
 obtain ⟨E,hE⟩:=nmq (stOk zs g1 g2 g3)
 simp only [<-hE] at KN KR KQ
 have HE:=qh hE
 clear hE
 go_wp2_with fail
 refine KN.out.mono ?_
 rintro e w2 q
 have BQ:=qh (show Below w1.heap.size w1 w2 from by
  rcases q with ⟨_,_,h⟩ | ⟨_,b,_,h⟩
  ·exact BS.out _ _ h
  ·exact BS.out _ _ h)
 obtain ⟨d0,d1,d2,d3⟩:=CB.out _ (below_then B1.out BQ.out)
 clear KN
 rcases q with ⟨en,rfl,h2⟩ | ⟨ey,b,rfl,h2⟩
 ·subst en
  go_wp2_with fail
  refine wp_region_held_drew (S:=fun W:World=>W.cell? ⟨w.heap.size,0,none⟩=some (.slice A z c)∧W.cell? ⟨w.heap.size,1,none⟩=some (.int .i64 g1)∧W.cell? ⟨w.heap.size,2,none⟩=some (.int .i64 g2)∧W.cell? ⟨w.heap.size,3,none⟩=some (.int .i64 g3)) (by kernel_rfl) (CB.out _ (below_then B1.out BQ.out.drew)) (fun gH=>?_)
  refine rgT 0 (v:=?v1) ?y1 gH ?_
  case y1=>(intro v hSw; obtain ⟨d0,d1,d2,d3⟩:=(show v.cell? ⟨w.heap.size,0,none⟩=some (.slice A z c)∧v.cell? ⟨w.heap.size,1,none⟩=some (.int .i64 g1)∧v.cell? ⟨w.heap.size,2,none⟩=some (.int .i64 g2)∧v.cell? ⟨w.heap.size,3,none⟩=some (.int .i64 g3) from hSw);go_simp<;>rfl)
  refine rgT 2 (v:=?v2) ?y2 gH ?_
  case y2=>(intro v hSw; obtain ⟨d0,d1,d2,d3⟩:=(show v.cell? ⟨w.heap.size,0,none⟩=some (.slice A z c)∧v.cell? ⟨w.heap.size,1,none⟩=some (.int .i64 g1)∧v.cell? ⟨w.heap.size,2,none⟩=some (.int .i64 g2)∧v.cell? ⟨w.heap.size,3,none⟩=some (.int .i64 g3) from hSw);go_simp<;>rfl)
  try simp only [putS]
  refine rgO 1 fun K hK=>?_
  go_simp
  refine (KR.out _ (below_then BW.out BQ.out.drew)).mono ?_
  rintro e w3 ⟨rfl,hb3⟩
  have B3:=qh (below_then BQ.out.drew hb3)
  have B23:=qh hb3
  clear hb3
  refine hK.out _ _ (CB.out _ (below_then B1.out B3.out)) (fun gH=>?_)
  clear hK K
  try simp only [putS]
  refine rgO 3 fun K hK=>?_
  go_simp
  refine (KQ.out _ (below_then BW.out B3.out)).mono ?_
  rintro e w4 ⟨rfl,hb4⟩
  have B4:=qh (below_then B3.out hb4)
  have B24:=qh (show Below w2.heap.size w2 w4 from below_then ((Below.refl w2.heap.size w2).drew.trans B23.out) hb4)
  clear hb4
  refine hK.out _ _ (CB.out _ (below_then B1.out B4.out)) (fun gH=>?_)
  clear hK K
  refine rgT 4 (v:=?v3) ?y3 gH ?_
  case y3=>(intro v hSw; obtain ⟨d0,d1,d2,d3⟩:=(show v.cell? ⟨w.heap.size,0,none⟩=some (.slice A z c)∧v.cell? ⟨w.heap.size,1,none⟩=some (.int .i64 g1)∧v.cell? ⟨w.heap.size,2,none⟩=some (.int .i64 g2)∧v.cell? ⟨w.heap.size,3,none⟩=some (.int .i64 g3) from hSw);go_simp<;>rfl)
  try simp only [putS]
  refine rgD ?_
  have BW4:=qh (below_then BW.out B4.out)
  obtain ⟨d0,d1,d2,d3⟩:=CB.out _ (below_then B1.out B4.out)
  go_wp2_with fail
  refine (KQ.out _ BW4.out).mono ?_
  rintro e w5 ⟨rfl,hb5⟩
  have B5:=qh (below_then BW4.out hb5)
  clear hb5
  go_wp2_with fail
  go_ret
  exact ⟨rfl,B5.out⟩
 ·subst ey
  have H2:=qh h2
  clear h2
  go_wp2_with fail
  refine wp_region_held_drew (S:=fun W:World=>W.cell? ⟨w.heap.size,0,none⟩=some (.slice A z c)∧W.cell? ⟨w.heap.size,1,none⟩=some (.int .i64 g1)∧W.cell? ⟨w.heap.size,2,none⟩=some (.int .i64 g2)∧W.cell? ⟨w.heap.size,3,none⟩=some (.int .i64 g3)) (by kernel_rfl) (CB.out _ (below_then B1.out BQ.out.drew)) (fun gH=>?_)
  refine rgT 0 (v:=?v4) ?y4 gH ?_
  case y4=>(intro v hSw; obtain ⟨d0,d1,d2,d3⟩:=(show v.cell? ⟨w.heap.size,0,none⟩=some (.slice A z c)∧v.cell? ⟨w.heap.size,1,none⟩=some (.int .i64 g1)∧v.cell? ⟨w.heap.size,2,none⟩=some (.int .i64 g2)∧v.cell? ⟨w.heap.size,3,none⟩=some (.int .i64 g3) from hSw);go_simp<;>rfl)
  refine rgT 2 (v:=?v5) ?y5 gH ?_
  case y5=>(intro v hSw; obtain ⟨d0,d1,d2,d3⟩:=(show v.cell? ⟨w.heap.size,0,none⟩=some (.slice A z c)∧v.cell? ⟨w.heap.size,1,none⟩=some (.int .i64 g1)∧v.cell? ⟨w.heap.size,2,none⟩=some (.int .i64 g2)∧v.cell? ⟨w.heap.size,3,none⟩=some (.int .i64 g3) from hSw);go_simp<;>rfl)
  try simp only [putS]
  refine rgO 1 fun K hK=>?_
  go_simp
  refine (KR.out _ (below_then BW.out BQ.out.drew)).mono ?_
  rintro e w3 ⟨rfl,hb3⟩
  have B3:=qh (below_then BQ.out.drew hb3)
  have B23:=qh hb3
  clear hb3
  refine hK.out _ _ (CB.out _ (below_then B1.out B3.out)) (fun gH=>?_)
  clear hK K
  try simp only [putS]
  refine rgO 3 fun K hK=>?_
  go_simp
  refine (KQ.out _ (below_then BW.out B3.out)).mono ?_
  rintro e w4 ⟨rfl,hb4⟩
  have B4:=qh (below_then B3.out hb4)
  have B24:=qh (show Below w2.heap.size w2 w4 from below_then ((Below.refl w2.heap.size w2).drew.trans B23.out) hb4)
  clear hb4
  refine hK.out _ _ (CB.out _ (below_then B1.out B4.out)) (fun gH=>?_)
  clear hK K
  refine rgT 4 (v:=?v6) ?y6 gH ?_
  case y6=>(intro v hSw; obtain ⟨d0,d1,d2,d3⟩:=(show v.cell? ⟨w.heap.size,0,none⟩=some (.slice A z c)∧v.cell? ⟨w.heap.size,1,none⟩=some (.int .i64 g1)∧v.cell? ⟨w.heap.size,2,none⟩=some (.int .i64 g2)∧v.cell? ⟨w.heap.size,3,none⟩=some (.int .i64 g3) from hSw);go_simp<;>rfl)
  try simp only [putS]
  refine rgD ?_
  have BW4:=qh (below_then BW.out B4.out)
  obtain ⟨d0,d1,d2,d3⟩:=CB.out _ (below_then B1.out B4.out)
  have H4:=qh (H2.out.below B24.out)
  go_wp2_with fail
  refine (KQ.out _ BW4.out).mono ?_
  rintro e w5 ⟨rfl,hb5⟩
  have H5:=qh (H4.out.below hb5)
  clear hb5 H2 H4
  obtain ⟨d0,d1,d2,d3⟩:=CB.out _ (below_then B1.out (BS.out _ _ H5.out))
  have GS:=qh (Rm.st_parts HE.out.symm)
  have MN:=mNew H5.out (.slice A z c) zs g1.toNat 0 g2 g3
  rw [show ((g1.toNat:Nat):Int)=g1 by have:=GS.out.1; omega,show ((0:Nat):Int)=0 from rfl] at MN
  have MN:=qh MN
  go_wp2_with fail
  refine MN.out.mono ?_
  rintro e w6 ⟨p,rfl,h6⟩
  have H6:=qh (show Side w1 (fun k=>k<w1.heap.size) w6 [obP X'.out.lo b (Rm.new zs g1 g2 g3 0 []),obM p (Rm.new zs g1 g2 g3 0 [])] from h6)
  clear h6 MN d0 d1 d2 d3 BW4 B24 B4 B3 B23
  have AL:=qh (Along.new HE.out.symm)
  have OS:=qh (show (Rm.new zs g1 g2 g3 0 []).OfS zs g1 g2 g3 from Rm.OfS.new (by have:=GS.out.1; omega))
  obtain ⟨g,hg⟩:=nmq (w6.heap.size)
  have HR:=qh (show Side w1 (fun k=>k<w1.heap.size) (w6.alloc (.cells #[.int .u64 0] 26)) [obP X'.out.lo b (Rm.new zs g1 g2 g3 0 []),obM p (Rm.new zs g1 g2 g3 0 []),Ob.row g [.int .u64 0] 26] from by
   rw [hg]; exact H6.out.rowNew [.int .u64 0] 26)
  obtain ⟨M,hM⟩:=nmq (Rm.new zs g1 g2 g3 0 [])
  rw [<-hM] at AL OS HR
  clear hM H6 HE H5
  go_wp2_with fail
  rw [<-hg]
  go_loopw [11] (fun vi W=>∃ (i:Nat) (m:Rm) (x:Int),i<=n∧i<=120∧vi=.int .i64 i∧Hid (Along 0 i m x)∧Hid (m.OfS zs g1 g2 g3)∧Hid (Side w1 (fun k=>k<w1.heap.size) W [obP X'.out.lo b m,obM p m,Ob.row g [.int .u64 x] 26])) (fun vi _=>120-(intOf vi).toNat)
  case atStart=>exact ⟨0,M,0,Nat.zero_le _,Nat.zero_le _,rfl,AL,OS,HR⟩
  case round =>
   obtain ⟨i,m,x,hi,hi2,rfl,AL2,OS2,HI⟩:=hrel
   clear AL OS HR
   clear hg
   by_cases z1:i<n
   ·by_cases z2:i<120
    ·have bW:=below_then BW.out (BS.out _ _ HI.out)
     obtain ⟨ab,ao,ea,hab,hac⟩:=SA.out (by rw [<-HN.out]; omega)
     have hc:=fun j hj=>hac i (by rw [<-HN.out]; exact z1) j hj
     have hy:(l.getD i AcM.Z).Ok w:=OA.out _ (by rw [List.getD_eq_getElem?_getD,List.getElem?_eq_getElem (by rw [<-HN.out]; exact z1)]; exact List.getElem_mem _)
     obtain ⟨y,ey⟩:=nmq (l.getD i AcM.Z)
     rw [<-ey] at hy
     simp only [<-ey] at hc
     obtain ⟨⟨kd,ws,by_,sq2,key2⟩,A4,c4⟩:=y
     obtain ⟨y1,y2,y3,y4,y5,y6,_⟩:=hy
     obtain ⟨nw,hnw⟩:=nmq (ws.length)
     subst ea
     have k0:=(bW.cell (p:=⟨ab,ao+i * 5,none⟩) hab).trans (show w.cell? ⟨ab,ao+i * 5,none⟩=some (.int .i64 kd) from hc 0 (by decide))
     have k1:=(bW.cell (p:=⟨ab,ao+i * 5+1,none⟩) hab).trans (show w.cell? ⟨ab,ao+i * 5+1,none⟩=some (.slice A4 nw c4) from by rw [hnw]; exact hc 1 (by decide))
     have k2:=(bW.cell (p:=⟨ab,ao+i * 5+2,none⟩) hab).trans (show w.cell? ⟨ab,ao+i * 5+2,none⟩=some (.int .u8 by_) from hc 2 (by decide))
     have k3:=(bW.cell (p:=⟨ab,ao+i * 5+3,none⟩) hab).trans (show w.cell? ⟨ab,ao+i * 5+3,none⟩=some (.int .i64 sq2) from hc 3 (by decide))
     have k4:=(bW.cell (p:=⟨ab,ao+i * 5+4,none⟩) hab).trans (show w.cell? ⟨ab,ao+i * 5+4,none⟩=some (.string key2) from hc 4 (by decide))
     have i0:(0:Int)<=(i:Int):=by omega
     have i1:(i:Int)<(n:Int):=by omega
     have hr1:=HI.out.rowNew [.int .i64 kd,.slice A4 nw c4,.int .u8 by_,.int .i64 sq2,.string key2] 37
     have KF:=qh (fun W os (h:Side w1 (fun k=>k<w1.heap.size) W os)=>show Calls Tryz.prog 15 #[.slice A4 nw c4] W _ from by rw [hnw]; exact lFar ws A4 c4 W (y1.below (below_then BW.out (BS.out _ _ h))))
     have few:=AL2.out.few (by omega) (by omega)
     have ok:=AL2.out.ok
     obtain ⟨bx,hbx⟩:=nmq (wr.heap.size)
     have KD:=fun (hf:farW ws=false)=>qh (fun W (h:Side w1 (fun k=>k<w1.heap.size) W [obP X'.out.lo b m,obM p m,Ob.row g [.int .u64 x] 26,Ob.row bx [.int .i64 kd,.slice A4 nw c4,.int .u8 by_,.int .i64 sq2,.string key2] 37])=>show Calls Tryz.prog 20 #[PtrM b,PtrM p,.agg #[.int .i64 kd,.slice A4 nw c4,.int .u8 by_,.int .i64 sq2,.string key2],.pointer (some ⟨g,0,none⟩)] W fun e w'=>e=.returned (.bool true)∧Side w1 (fun k=>k<w1.heap.size) w' [obP X'.out.lo b (stepM m ⟨kd,ws,by_,sq2,key2⟩ x),obM p (stepM m ⟨kd,ws,by_,sq2,key2⟩ x),Ob.row g [.int .u64 (stepX m ⟨kd,ws,by_,sq2,key2⟩ x)] 26,Ob.row bx [.int .i64 kd,.slice A4 nw c4,.int .u8 by_,.int .i64 sq2,.string key2] 37] from by
      obtain ⟨FW,KW⟩:=y2.fits hf
      have nf:=(farW_no hf).1
      rw [hnw] at h ⊢
      exact lDoes X'.out.lo (i:=0) (j:=1) (l:=2) h rfl rfl rfl (by decide) (by decide) (by decide) few (AL2.out.many (by omega) (by omega)) ⟨kd,ws,by_,sq2,key2⟩ A4 c4 (fun _ e=>e) (y1.below BW.out) FW (by show ws.length<=1000; omega) KW (fun hp q e=>Nat.lt_of_lt_of_le (y4 hp q e) BW.out.size) AL2.out.x0 y5 y6 (AL2.out.stamp (by omega)))
     have GW:=fun (hf:farW ws=false)=>qh (fun W os (h:Side w1 (fun k=>k<w1.heap.size) W os)=>show GoodW W (fun _=>False) A4 ws from by
      obtain ⟨FW,KW⟩:=y2.fits hf
      have nf:=(farW_no hf).1
      exact ⟨y1.below (below_then BW.out (BS.out _ _ h)),FW,by omega,fun _ _ _ f=>f.elim,KW⟩)
     have AS:=fun (hf:farW ws=false)=>qh (AL2.out.step ⟨kd,ws,by_,sq2,key2⟩ (y2.fits hf).1 y5 y6)
     have OS3:=qh (OS2.out.step ⟨kd,ws,by_,sq2,key2⟩ x)
     have KA:=qh (fun W os (h:Side w1 (fun k=>k<w1.heap.size) W os) (hi:os[0]?=some (obP X'.out.lo b m))=>pAsk X'.out.lo (T:=fun e _=>e=.returned (.tuple #[.int .i64 (m.r.asOf st:Nat),.int .i64 (m.r.asNo st)])) h hi fun F hP _=>X'.out.asOf b F m st W hP few T0.out T1.out)
     have KG:=qh (fun W os (h:Side w1 (fun k=>k<w1.heap.size) W os) (hi:os[1]?=some (obM p m))=>mRing h hi ok few st)
     obtain ⟨an,han⟩:=nmq (m.r.asOf st)
     obtain ⟨ae,hae⟩:=nmq (m.r.asNo st)
     simp only [<-han,<-hae] at KA KG
     have HNW:=qh hnw
     rw [<-hbx] at hr1
     have HBX:=qh hbx
     have H1:=qh (show Side w1 (fun k=>k<w1.heap.size) (wr.alloc (.cells #[.int .i64 kd,.slice A4 nw c4,.int .u8 by_,.int .i64 sq2,.string key2] 37)) [obP X'.out.lo b m,obM p m,Ob.row g [.int .u64 x] 26,Ob.row bx [.int .i64 kd,.slice A4 nw c4,.int .u8 by_,.int .i64 sq2,.string key2] 37] from hr1)
     have a0:=(hr1.rowAt Side.last).cell 0
     have a1:=(hr1.rowAt Side.last).cell 1
     have a2:=(hr1.rowAt Side.last).cell 2
     have a3:=(hr1.rowAt Side.last).cell 3
     have a4:=(hr1.rowAt Side.last).cell 4
     simp only [geS] at a0 a1 a2 a3 a4
     obtain ⟨wa,hwa⟩:=nmq (wr.alloc (.cells #[.int .i64 kd,.slice A4 nw c4,.int .u8 by_,.int .i64 sq2,.string key2] 37))
     rw [<-hwa] at H1 a0 a1 a2 a3 a4
     have HWA:=qh hwa
     clear hr1 bW hc hac y1 y2 y3 y4 y5 y6 ey hnw hbx hwa han hae few ok
     go_upto_region 16 with fail
     rw [<-HBX.out,<-HWA.out]
     clear k0 k1 k2 k3 k4
     go_wp2_with fail
     refine (KF.out _ _ H1.out).mono ?_
     rintro e w4 ⟨rfl,hb⟩
     have H4:=qh (H1.out.below hb)
     clear hb
     obtain ⟨Fa,hFa⟩:=nmq (farW ws)
     rw [<-hFa] at KD AS GW ⊢
     clear hFa KF a0 a1 a2 a3 a4
     have q4:=(H4.out.rowAt (i:=3) rfl).cell 4
     simp only [geS] at q4
     by_cases hf:Fa=true
     ·subst hf
      have AL3:=qh AL2.out.more
      have H5:=qh (show Side w1 (fun k=>k<w1.heap.size) w4 [obP X'.out.lo b m,obM p m,Ob.row g [.int .u64 x] 26] from Side.drop (os2:=[_]) H4.out)
      clear q4
      go_wp2_with fail
      go_roundw
      case rel=>exact ⟨i+1,m,x,by omega,by omega,by go_num,AL3,OS2,H5⟩
      case measure=>simp [intOf]; omega
     ·have hf:Fa=false:=by simpa using hf
      subst hf
      by_cases k200:200<key2.size
      ·have AL3:=qh AL2.out.more
       have H5:=qh (show Side w1 (fun k=>k<w1.heap.size) w4 [obP X'.out.lo b m,obM p m,Ob.row g [.int .u64 x] 26] from Side.drop (os2:=[_]) H4.out)
       go_wp2_with fail
       go_roundw
       case rel=>exact ⟨i+1,m,x,by omega,by omega,by go_num,AL3,OS2,H5⟩
       case measure=>simp [intOf]; omega
      ·go_wp2_with fail
       refine (KA.out _ _ H4.out rfl).mono ?_
       rintro e w5 ⟨rfl,h5⟩
       have H5:=qh h5
       clear h5 q4
       obtain ⟨q,cq,AQ⟩:=KG.out _ _ H5.out rfl
       have AQ:=qh AQ
       go_wp2_with fail
       refine AQ.out.mono ?_
       rintro e w6 ⟨rfl,h6⟩
       have H6:=qh h6
       clear h6 AQ cq KA KG H5
       have KD2:=KD (by first | rfl | trivial)
       have GW2:=GW (by first | rfl | trivial)
       have AS2:=AS (by first | rfl | trivial)
       clear KD GW AS
       have CM:=qh (fun W os (h:Side w1 (fun k=>k<w1.heap.size) W os)=>show Calls Tryz.prog 18 #[.slice A4 nw c4] W fun e w'=>e=.returned (.bool (mayW ws))∧Side w1 (fun k=>k<w1.heap.size) w' os from by
        rw [HNW.out]; exact h.pure (X'.out.may ws A4 c4 W (GW2.out W os h)))
       have CN:=qh (fun W os (h:Side w1 (fun k=>k<w1.heap.size) W os)=>show Calls Tryz.prog 19 #[.slice A4 nw c4] W fun e w'=>e=.returned (.bool (mayW ws))∧Side w1 (fun k=>k<w1.heap.size) w' os from by
        have g:=GW2.out W os h
        rw [HNW.out]; exact h.pure (rMay1 ws A4 c4 W g.1 g.2.1))
       obtain ⟨m',hm'⟩:=nmq (stepM m ⟨kd,ws,by_,sq2,key2⟩ x)
       obtain ⟨x',hx'⟩:=nmq (stepX m ⟨kd,ws,by_,sq2,key2⟩ x)
       simp only [<-hm',<-hx'] at KD2 AS2 OS3
       have few:=AS2.out.few (by omega) (by omega)
       have ok':=AS2.out.ok
       have KTd:=qh (fun s W (h:Side w1 (fun k=>k<w1.heap.size) W [obP X'.out.lo b m',obM p m',Ob.row g [.int .u64 x'] 26,Ob.row bx [.int .i64 kd,.slice A4 nw c4,.int .u8 by_,.int .i64 sq2,.string key2] 37])=>lTold X'.out (i:=0) (j:=1) h rfl rfl few key2 (by omega) s)
       have KSq:=qh (fun W (h:Side w1 (fun k=>k<w1.heap.size) W [obP X'.out.lo b m',obM p m',Ob.row g [.int .u64 x'] 26,Ob.row bx [.int .i64 kd,.slice A4 nw c4,.int .u8 by_,.int .i64 sq2,.string key2] 37])=>mSeq (i:=1) h rfl ok')
       have KCn:=qh (fun W (h:Side w1 (fun k=>k<w1.heap.size) W [obP X'.out.lo b m',obM p m',Ob.row g [.int .u64 x'] 26,Ob.row bx [.int .i64 kd,.slice A4 nw c4,.int .u8 by_,.int .i64 sq2,.string key2] 37])=>lCounts X'.out.lo (i:=0) (j:=1) h rfl rfl few)
       obtain ⟨sv,hsv⟩:=nmq (m'.seq)
       obtain ⟨mw,hmw⟩:=nmq (mayW ws)
       simp only [<-hsv] at KSq
       simp only [<-hmw] at CM CN
       clear hm' hx' few ok' hsv hmw GW2
       have mo:(mw != mw)=false:=by simp
       go_wp2_with fail
       have HD:=qh (H6.out.below (Below.refl w6.heap.size w6).drew)
       refine wp_region_held_drew (S:=fun W:World=>RowAt W bx [.int .i64 kd,.slice A4 nw c4,.int .u8 by_,.int .i64 sq2,.string key2] 37) (by kernel_rfl) (HD.out.rowAt (i:=3) rfl) (fun gH=>?_)
       refine rgT 0 (v:=?v7) ?y7 gH ?_
       case y7=>(intro v hSw; have u0:=(show RowAt v bx _ _ from hSw).cell 0; have u1:=(show RowAt v bx _ _ from hSw).cell 1; have u2:=(show RowAt v bx _ _ from hSw).cell 2; have u3:=(show RowAt v bx _ _ from hSw).cell 3; have u4:=(show RowAt v bx _ _ from hSw).cell 4; simp only [geS] at u0 u1 u2 u3 u4;go_simp<;>rfl)
       refine rgT 1 (v:=?v8) ?y8 gH ?_
       case y8=>(intro v hSw; have u0:=(show RowAt v bx _ _ from hSw).cell 0; have u1:=(show RowAt v bx _ _ from hSw).cell 1; have u2:=(show RowAt v bx _ _ from hSw).cell 2; have u3:=(show RowAt v bx _ _ from hSw).cell 3; have u4:=(show RowAt v bx _ _ from hSw).cell 4; simp only [geS] at u0 u1 u2 u3 u4;go_simp<;>rfl)
       refine rgT 3 (v:=?v9) ?y9 gH ?_
       case y9=>(intro v hSw; have u0:=(show RowAt v bx _ _ from hSw).cell 0; have u1:=(show RowAt v bx _ _ from hSw).cell 1; have u2:=(show RowAt v bx _ _ from hSw).cell 2; have u3:=(show RowAt v bx _ _ from hSw).cell 3; have u4:=(show RowAt v bx _ _ from hSw).cell 4; simp only [geS] at u0 u1 u2 u3 u4;go_simp<;>rfl)
       try simp only [putS]
       refine rgT 4 (v:=?v10) ?y10 gH ?_
       case y10=>(intro v hSw; have u0:=(show RowAt v bx _ _ from hSw).cell 0; have u1:=(show RowAt v bx _ _ from hSw).cell 1; have u2:=(show RowAt v bx _ _ from hSw).cell 2; have u3:=(show RowAt v bx _ _ from hSw).cell 3; have u4:=(show RowAt v bx _ _ from hSw).cell 4; simp only [geS] at u0 u1 u2 u3 u4;go_simp<;>rfl)
       try simp only [putS]
       refine rgO 2 fun K hK=>?_
       go_simp
       refine (CM.out _ _ HD.out).mono ?_
       rintro e w7 ⟨rfl,h7⟩
       have H7:=qh h7
       clear h7
       refine hK.out _ _ (H7.out.rowAt (i:=3) rfl) (fun gH=>?_)
       clear hK K
       try simp only [putS]
       refine rgO 5 fun K hK=>?_
       go_simp
       refine (CN.out _ _ H7.out).mono ?_
       rintro e w8 ⟨rfl,h8⟩
       have H8:=qh h8
       clear h8
       refine hK.out _ _ (H8.out.rowAt (i:=3) rfl) (fun gH=>?_)
       clear hK K
       refine rgT 6 (v:=?v11) ?y11 gH ?_
       case y11=>(intro v hSw; have u0:=(show RowAt v bx _ _ from hSw).cell 0; have u1:=(show RowAt v bx _ _ from hSw).cell 1; have u2:=(show RowAt v bx _ _ from hSw).cell 2; have u3:=(show RowAt v bx _ _ from hSw).cell 3; have u4:=(show RowAt v bx _ _ from hSw).cell 4; simp only [geS] at u0 u1 u2 u3 u4;go_simp<;>rfl)
       refine rgT 7 (v:=?v12) ?y12 gH ?_
       case y12=>(intro v hSw; have u0:=(show RowAt v bx _ _ from hSw).cell 0; have u1:=(show RowAt v bx _ _ from hSw).cell 1; have u2:=(show RowAt v bx _ _ from hSw).cell 2; have u3:=(show RowAt v bx _ _ from hSw).cell 3; have u4:=(show RowAt v bx _ _ from hSw).cell 4; simp only [geS] at u0 u1 u2 u3 u4;go_simp<;>rfl)
       try simp only [putS]
       refine rgT 8 (v:=?v13) ?y13 gH ?_
       case y13=>(intro v hSw; have u0:=(show RowAt v bx _ _ from hSw).cell 0; have u1:=(show RowAt v bx _ _ from hSw).cell 1; have u2:=(show RowAt v bx _ _ from hSw).cell 2; have u3:=(show RowAt v bx _ _ from hSw).cell 3; have u4:=(show RowAt v bx _ _ from hSw).cell 4; simp only [geS] at u0 u1 u2 u3 u4;go_simp<;>rfl)
       refine rgT 9 (v:=?v14) ?y14 gH ?_
       case y14=>(intro v hSw; have u0:=(show RowAt v bx _ _ from hSw).cell 0; have u1:=(show RowAt v bx _ _ from hSw).cell 1; have u2:=(show RowAt v bx _ _ from hSw).cell 2; have u3:=(show RowAt v bx _ _ from hSw).cell 3; have u4:=(show RowAt v bx _ _ from hSw).cell 4; simp only [geS] at u0 u1 u2 u3 u4;go_simp<;>rfl)
       refine rgT 10 (v:=?v15) ?y15 gH ?_
       case y15=>(intro v hSw; have u0:=(show RowAt v bx _ _ from hSw).cell 0; have u1:=(show RowAt v bx _ _ from hSw).cell 1; have u2:=(show RowAt v bx _ _ from hSw).cell 2; have u3:=(show RowAt v bx _ _ from hSw).cell 3; have u4:=(show RowAt v bx _ _ from hSw).cell 4; simp only [geS] at u0 u1 u2 u3 u4;go_simp<;>rfl)
       try simp only [putS]
       refine rgO 11 fun K hK=>?_
       go_simp
       refine (KD2.out _ H8.out).mono ?_
       rintro e w9 ⟨rfl,h9⟩
       have H9:=qh h9
       clear h9
       refine hK.out _ _ (H9.out.rowAt (i:=3) rfl) (fun gH=>?_)
       clear hK K
       refine rgT 12 (v:=?v16) ?y16 gH ?_
       case y16=>(intro v hSw; have u0:=(show RowAt v bx _ _ from hSw).cell 0; have u1:=(show RowAt v bx _ _ from hSw).cell 1; have u2:=(show RowAt v bx _ _ from hSw).cell 2; have u3:=(show RowAt v bx _ _ from hSw).cell 3; have u4:=(show RowAt v bx _ _ from hSw).cell 4; simp only [geS] at u0 u1 u2 u3 u4;go_simp<;>rfl)
       refine rgT 13 (v:=?v17) ?y17 gH ?_
       case y17=>(intro v hSw; have u0:=(show RowAt v bx _ _ from hSw).cell 0; have u1:=(show RowAt v bx _ _ from hSw).cell 1; have u2:=(show RowAt v bx _ _ from hSw).cell 2; have u3:=(show RowAt v bx _ _ from hSw).cell 3; have u4:=(show RowAt v bx _ _ from hSw).cell 4; simp only [geS] at u0 u1 u2 u3 u4;go_simp<;>rfl)
       try simp only [putS]
       refine rgT 14 (v:=?v18) ?y18 gH ?_
       case y18=>(intro v hSw; have u0:=(show RowAt v bx _ _ from hSw).cell 0; have u1:=(show RowAt v bx _ _ from hSw).cell 1; have u2:=(show RowAt v bx _ _ from hSw).cell 2; have u3:=(show RowAt v bx _ _ from hSw).cell 3; have u4:=(show RowAt v bx _ _ from hSw).cell 4; simp only [geS] at u0 u1 u2 u3 u4;go_simp<;>rfl)
       refine rgT 15 (v:=?v19) ?y19 gH ?_
       case y19=>(intro v hSw; have u0:=(show RowAt v bx _ _ from hSw).cell 0; have u1:=(show RowAt v bx _ _ from hSw).cell 1; have u2:=(show RowAt v bx _ _ from hSw).cell 2; have u3:=(show RowAt v bx _ _ from hSw).cell 3; have u4:=(show RowAt v bx _ _ from hSw).cell 4; simp only [geS] at u0 u1 u2 u3 u4;go_simp<;>rfl)
       refine rgT 16 (v:=?v20) ?y20 gH ?_
       case y20=>(intro v hSw; have u0:=(show RowAt v bx _ _ from hSw).cell 0; have u1:=(show RowAt v bx _ _ from hSw).cell 1; have u2:=(show RowAt v bx _ _ from hSw).cell 2; have u3:=(show RowAt v bx _ _ from hSw).cell 3; have u4:=(show RowAt v bx _ _ from hSw).cell 4; simp only [geS] at u0 u1 u2 u3 u4;go_simp<;>rfl)
       try simp only [putS]
       refine rgT 17 (v:=?v21) ?y21 gH ?_
       case y21=>(intro v hSw; have u0:=(show RowAt v bx _ _ from hSw).cell 0; have u1:=(show RowAt v bx _ _ from hSw).cell 1; have u2:=(show RowAt v bx _ _ from hSw).cell 2; have u3:=(show RowAt v bx _ _ from hSw).cell 3; have u4:=(show RowAt v bx _ _ from hSw).cell 4; simp only [geS] at u0 u1 u2 u3 u4;go_simp<;>rfl)
       refine rgT 18 (v:=?v22) ?y22 gH ?_
       case y22=>(intro v hSw; have u0:=(show RowAt v bx _ _ from hSw).cell 0; have u1:=(show RowAt v bx _ _ from hSw).cell 1; have u2:=(show RowAt v bx _ _ from hSw).cell 2; have u3:=(show RowAt v bx _ _ from hSw).cell 3; have u4:=(show RowAt v bx _ _ from hSw).cell 4; simp only [geS] at u0 u1 u2 u3 u4;go_simp<;>rfl)
       refine rgT 19 (v:=?v23) ?y23 gH ?_
       case y23=>(intro v hSw; have u0:=(show RowAt v bx _ _ from hSw).cell 0; have u1:=(show RowAt v bx _ _ from hSw).cell 1; have u2:=(show RowAt v bx _ _ from hSw).cell 2; have u3:=(show RowAt v bx _ _ from hSw).cell 3; have u4:=(show RowAt v bx _ _ from hSw).cell 4; simp only [geS] at u0 u1 u2 u3 u4;go_simp<;>rfl)
       try simp only [putS]
       refine rgT 20 (v:=?v24) ?y24 gH ?_
       case y24=>(intro v hSw; have u0:=(show RowAt v bx _ _ from hSw).cell 0; have u1:=(show RowAt v bx _ _ from hSw).cell 1; have u2:=(show RowAt v bx _ _ from hSw).cell 2; have u3:=(show RowAt v bx _ _ from hSw).cell 3; have u4:=(show RowAt v bx _ _ from hSw).cell 4; simp only [geS] at u0 u1 u2 u3 u4;go_simp<;>rfl)
       refine rgT 21 (v:=?v25) ?y25 gH ?_
       case y25=>(intro v hSw; have u0:=(show RowAt v bx _ _ from hSw).cell 0; have u1:=(show RowAt v bx _ _ from hSw).cell 1; have u2:=(show RowAt v bx _ _ from hSw).cell 2; have u3:=(show RowAt v bx _ _ from hSw).cell 3; have u4:=(show RowAt v bx _ _ from hSw).cell 4; simp only [geS] at u0 u1 u2 u3 u4;go_simp<;>rfl)
       refine rgT 22 (v:=?v26) ?y26 gH ?_
       case y26=>(intro v hSw; have u0:=(show RowAt v bx _ _ from hSw).cell 0; have u1:=(show RowAt v bx _ _ from hSw).cell 1; have u2:=(show RowAt v bx _ _ from hSw).cell 2; have u3:=(show RowAt v bx _ _ from hSw).cell 3; have u4:=(show RowAt v bx _ _ from hSw).cell 4; simp only [geS] at u0 u1 u2 u3 u4;go_simp<;>rfl)
       try simp only [putS]
       refine rgT 23 (v:=?v27) ?y27 gH ?_
       case y27=>(intro v hSw; have u0:=(show RowAt v bx _ _ from hSw).cell 0; have u1:=(show RowAt v bx _ _ from hSw).cell 1; have u2:=(show RowAt v bx _ _ from hSw).cell 2; have u3:=(show RowAt v bx _ _ from hSw).cell 3; have u4:=(show RowAt v bx _ _ from hSw).cell 4; simp only [geS] at u0 u1 u2 u3 u4;go_simp<;>rfl)
       refine rgT 24 (v:=?v28) ?y28 gH ?_
       case y28=>(intro v hSw; have u0:=(show RowAt v bx _ _ from hSw).cell 0; have u1:=(show RowAt v bx _ _ from hSw).cell 1; have u2:=(show RowAt v bx _ _ from hSw).cell 2; have u3:=(show RowAt v bx _ _ from hSw).cell 3; have u4:=(show RowAt v bx _ _ from hSw).cell 4; simp only [geS] at u0 u1 u2 u3 u4;go_simp<;>rfl)
       refine rgT 25 (v:=?v29) ?y29 gH ?_
       case y29=>(intro v hSw; have u0:=(show RowAt v bx _ _ from hSw).cell 0; have u1:=(show RowAt v bx _ _ from hSw).cell 1; have u2:=(show RowAt v bx _ _ from hSw).cell 2; have u3:=(show RowAt v bx _ _ from hSw).cell 3; have u4:=(show RowAt v bx _ _ from hSw).cell 4; simp only [geS] at u0 u1 u2 u3 u4;go_simp<;>rfl)
       try simp only [putS]
       refine rgT 26 (v:=?v30) ?y30 gH ?_
       case y30=>(intro v hSw; have u0:=(show RowAt v bx _ _ from hSw).cell 0; have u1:=(show RowAt v bx _ _ from hSw).cell 1; have u2:=(show RowAt v bx _ _ from hSw).cell 2; have u3:=(show RowAt v bx _ _ from hSw).cell 3; have u4:=(show RowAt v bx _ _ from hSw).cell 4; simp only [geS] at u0 u1 u2 u3 u4;go_simp<;>rfl)
       refine rgT 27 (v:=?v31) ?y31 gH ?_
       case y31=>(intro v hSw; have u0:=(show RowAt v bx _ _ from hSw).cell 0; have u1:=(show RowAt v bx _ _ from hSw).cell 1; have u2:=(show RowAt v bx _ _ from hSw).cell 2; have u3:=(show RowAt v bx _ _ from hSw).cell 3; have u4:=(show RowAt v bx _ _ from hSw).cell 4; simp only [geS] at u0 u1 u2 u3 u4;go_simp<;>rfl)
       refine rgT 28 (v:=?v32) ?y32 gH ?_
       case y32=>(intro v hSw; have u0:=(show RowAt v bx _ _ from hSw).cell 0; have u1:=(show RowAt v bx _ _ from hSw).cell 1; have u2:=(show RowAt v bx _ _ from hSw).cell 2; have u3:=(show RowAt v bx _ _ from hSw).cell 3; have u4:=(show RowAt v bx _ _ from hSw).cell 4; simp only [geS] at u0 u1 u2 u3 u4;go_simp<;>rfl)
       try simp only [putS]
       refine rgT 29 (v:=?v33) ?y33 gH ?_
       case y33=>(intro v hSw; have u0:=(show RowAt v bx _ _ from hSw).cell 0; have u1:=(show RowAt v bx _ _ from hSw).cell 1; have u2:=(show RowAt v bx _ _ from hSw).cell 2; have u3:=(show RowAt v bx _ _ from hSw).cell 3; have u4:=(show RowAt v bx _ _ from hSw).cell 4; simp only [geS] at u0 u1 u2 u3 u4;go_simp<;>rfl)
       refine rgT 30 (v:=?v34) ?y34 gH ?_
       case y34=>(intro v hSw; have u0:=(show RowAt v bx _ _ from hSw).cell 0; have u1:=(show RowAt v bx _ _ from hSw).cell 1; have u2:=(show RowAt v bx _ _ from hSw).cell 2; have u3:=(show RowAt v bx _ _ from hSw).cell 3; have u4:=(show RowAt v bx _ _ from hSw).cell 4; simp only [geS] at u0 u1 u2 u3 u4;go_simp<;>rfl)
       try simp only [putS]
       refine rgO 31 fun K hK=>?_
       go_simp
       refine (KTd.out sq2 _ H9.out).mono ?_
       rintro e w10 ⟨rfl,h10⟩
       have H10:=qh h10
       clear h10
       refine hK.out _ _ (H10.out.rowAt (i:=3) rfl) (fun gH=>?_)
       clear hK K
       refine rgT 32 (v:=?v35) ?y35 gH ?_
       case y35=>(intro v hSw; have u0:=(show RowAt v bx _ _ from hSw).cell 0; have u1:=(show RowAt v bx _ _ from hSw).cell 1; have u2:=(show RowAt v bx _ _ from hSw).cell 2; have u3:=(show RowAt v bx _ _ from hSw).cell 3; have u4:=(show RowAt v bx _ _ from hSw).cell 4; simp only [geS] at u0 u1 u2 u3 u4;go_simp<;>rfl)
       refine rgT 33 (v:=?v36) ?y36 gH ?_
       case y36=>(intro v hSw; have u0:=(show RowAt v bx _ _ from hSw).cell 0; have u1:=(show RowAt v bx _ _ from hSw).cell 1; have u2:=(show RowAt v bx _ _ from hSw).cell 2; have u3:=(show RowAt v bx _ _ from hSw).cell 3; have u4:=(show RowAt v bx _ _ from hSw).cell 4; simp only [geS] at u0 u1 u2 u3 u4;go_simp<;>rfl)
       try simp only [putS]
       refine rgT 34 (v:=?v37) ?y37 gH ?_
       case y37=>(intro v hSw; have u0:=(show RowAt v bx _ _ from hSw).cell 0; have u1:=(show RowAt v bx _ _ from hSw).cell 1; have u2:=(show RowAt v bx _ _ from hSw).cell 2; have u3:=(show RowAt v bx _ _ from hSw).cell 3; have u4:=(show RowAt v bx _ _ from hSw).cell 4; simp only [geS] at u0 u1 u2 u3 u4;go_simp<;>rfl)
       refine rgT 35 (v:=?v38) ?y38 gH ?_
       case y38=>(intro v hSw; have u0:=(show RowAt v bx _ _ from hSw).cell 0; have u1:=(show RowAt v bx _ _ from hSw).cell 1; have u2:=(show RowAt v bx _ _ from hSw).cell 2; have u3:=(show RowAt v bx _ _ from hSw).cell 3; have u4:=(show RowAt v bx _ _ from hSw).cell 4; simp only [geS] at u0 u1 u2 u3 u4;go_simp<;>rfl)
       refine rgT 36 (v:=?v39) ?y39 gH ?_
       case y39=>(intro v hSw; have u0:=(show RowAt v bx _ _ from hSw).cell 0; have u1:=(show RowAt v bx _ _ from hSw).cell 1; have u2:=(show RowAt v bx _ _ from hSw).cell 2; have u3:=(show RowAt v bx _ _ from hSw).cell 3; have u4:=(show RowAt v bx _ _ from hSw).cell 4; simp only [geS] at u0 u1 u2 u3 u4;go_simp<;>rfl)
       try simp only [putS]
       refine rgT 37 (v:=?v40) ?y40 gH ?_
       case y40=>(intro v hSw; have u0:=(show RowAt v bx _ _ from hSw).cell 0; have u1:=(show RowAt v bx _ _ from hSw).cell 1; have u2:=(show RowAt v bx _ _ from hSw).cell 2; have u3:=(show RowAt v bx _ _ from hSw).cell 3; have u4:=(show RowAt v bx _ _ from hSw).cell 4; simp only [geS] at u0 u1 u2 u3 u4;go_simp<;>rfl)
       refine rgT 38 (v:=?v41) ?y41 gH ?_
       case y41=>(intro v hSw; have u0:=(show RowAt v bx _ _ from hSw).cell 0; have u1:=(show RowAt v bx _ _ from hSw).cell 1; have u2:=(show RowAt v bx _ _ from hSw).cell 2; have u3:=(show RowAt v bx _ _ from hSw).cell 3; have u4:=(show RowAt v bx _ _ from hSw).cell 4; simp only [geS] at u0 u1 u2 u3 u4;go_simp<;>rfl)
       refine rgT 39 (v:=?v42) ?y42 gH ?_
       case y42=>(intro v hSw; have u0:=(show RowAt v bx _ _ from hSw).cell 0; have u1:=(show RowAt v bx _ _ from hSw).cell 1; have u2:=(show RowAt v bx _ _ from hSw).cell 2; have u3:=(show RowAt v bx _ _ from hSw).cell 3; have u4:=(show RowAt v bx _ _ from hSw).cell 4; simp only [geS] at u0 u1 u2 u3 u4;go_simp<;>rfl)
       try simp only [putS]
       refine rgO 40 fun K hK=>?_
       go_simp
       refine (KSq.out _ H10.out).mono ?_
       rintro e w11 ⟨rfl,h11⟩
       have H11:=qh h11
       clear h11
       refine hK.out _ _ (H11.out.rowAt (i:=3) rfl) (fun gH=>?_)
       clear hK K
       try simp only [putS]
       refine rgO 41 fun K hK=>?_
       go_simp
       refine (KTd.out sv _ H11.out).mono ?_
       rintro e w12 ⟨rfl,h12⟩
       have H12:=qh h12
       clear h12
       refine hK.out _ _ (H12.out.rowAt (i:=3) rfl) (fun gH=>?_)
       clear hK K
       refine rgT 42 (v:=?v43) ?y43 gH ?_
       case y43=>(intro v hSw; have u0:=(show RowAt v bx _ _ from hSw).cell 0; have u1:=(show RowAt v bx _ _ from hSw).cell 1; have u2:=(show RowAt v bx _ _ from hSw).cell 2; have u3:=(show RowAt v bx _ _ from hSw).cell 3; have u4:=(show RowAt v bx _ _ from hSw).cell 4; simp only [geS] at u0 u1 u2 u3 u4;go_simp<;>rfl)
       refine rgT 43 (v:=?v44) ?y44 gH ?_
       case y44=>(intro v hSw; have u0:=(show RowAt v bx _ _ from hSw).cell 0; have u1:=(show RowAt v bx _ _ from hSw).cell 1; have u2:=(show RowAt v bx _ _ from hSw).cell 2; have u3:=(show RowAt v bx _ _ from hSw).cell 3; have u4:=(show RowAt v bx _ _ from hSw).cell 4; simp only [geS] at u0 u1 u2 u3 u4;go_simp<;>rfl)
       try simp only [putS]
       refine rgT 44 (v:=?v45) ?y45 gH ?_
       case y45=>(intro v hSw; have u0:=(show RowAt v bx _ _ from hSw).cell 0; have u1:=(show RowAt v bx _ _ from hSw).cell 1; have u2:=(show RowAt v bx _ _ from hSw).cell 2; have u3:=(show RowAt v bx _ _ from hSw).cell 3; have u4:=(show RowAt v bx _ _ from hSw).cell 4; simp only [geS] at u0 u1 u2 u3 u4;go_simp<;>rfl)
       refine rgT 45 (v:=?v46) ?y46 gH ?_
       case y46=>(intro v hSw; have u0:=(show RowAt v bx _ _ from hSw).cell 0; have u1:=(show RowAt v bx _ _ from hSw).cell 1; have u2:=(show RowAt v bx _ _ from hSw).cell 2; have u3:=(show RowAt v bx _ _ from hSw).cell 3; have u4:=(show RowAt v bx _ _ from hSw).cell 4; simp only [geS] at u0 u1 u2 u3 u4;go_simp<;>rfl)
       refine rgT 46 (v:=?v47) ?y47 gH ?_
       case y47=>(intro v hSw; have u0:=(show RowAt v bx _ _ from hSw).cell 0; have u1:=(show RowAt v bx _ _ from hSw).cell 1; have u2:=(show RowAt v bx _ _ from hSw).cell 2; have u3:=(show RowAt v bx _ _ from hSw).cell 3; have u4:=(show RowAt v bx _ _ from hSw).cell 4; simp only [geS] at u0 u1 u2 u3 u4;go_simp<;>rfl)
       try simp only [putS]
       refine rgO 47 fun K hK=>?_
       go_simp
       refine (KCn.out _ H12.out).mono ?_
       rintro e w13 ⟨rfl,h13⟩
       have H13:=qh h13
       clear h13
       refine hK.out _ _ (H13.out.rowAt (i:=3) rfl) (fun gH=>?_)
       clear hK K
       refine rgT 48 (v:=?v48) ?y48 gH ?_
       case y48=>(intro v hSw; have u0:=(show RowAt v bx _ _ from hSw).cell 0; have u1:=(show RowAt v bx _ _ from hSw).cell 1; have u2:=(show RowAt v bx _ _ from hSw).cell 2; have u3:=(show RowAt v bx _ _ from hSw).cell 3; have u4:=(show RowAt v bx _ _ from hSw).cell 4; simp only [geS] at u0 u1 u2 u3 u4;go_simp<;>rfl)
       refine rgT 49 (v:=?v49) ?y49 gH ?_
       case y49=>(intro v hSw; have u0:=(show RowAt v bx _ _ from hSw).cell 0; have u1:=(show RowAt v bx _ _ from hSw).cell 1; have u2:=(show RowAt v bx _ _ from hSw).cell 2; have u3:=(show RowAt v bx _ _ from hSw).cell 3; have u4:=(show RowAt v bx _ _ from hSw).cell 4; simp only [geS] at u0 u1 u2 u3 u4;go_simp<;>rfl)
       try simp only [putS]
       refine rgD ?_
       have H14:=qh (show Side w1 (fun k=>k<w1.heap.size) w13 [obP X'.out.lo b m',obM p m',Ob.row g [.int .u64 x'] 26] from Side.drop (os2:=[_]) H13.out)
       clear H7 H8 H9 H10 H11 H12 H13 KD2 CM CN KTd KSq KCn H6 HD
       go_wp2_with fail
       go_roundw
       case rel=>exact ⟨i+1,m',x',by omega,by omega,by go_num,AS2,OS3,H14⟩
       case measure=>simp [intOf]; omega
    ·obtain rfl:i=120:=by omega
     have mf:=AL2.out.few (by omega) (by omega)
     obtain ⟨o1,o2,o3,o4⟩:=OS2.out
     have KSt:=qh (fun W os (h:Side w1 (fun k=>k<w1.heap.size) W os) (hi:os[0]?=some (obP X'.out.lo b m))=>pAsk X'.out.lo (T:=fun e w'=>∃ A c,e=.returned (.agg #[.slice A m.zs.length c,.int .i64 (m.r.size:Nat),.int .i64 m.quota,.int .i64 m.most])∧Sl w' A m.zs) h hi fun F hP _=>X'.out.setting b F m W hP)
     simp only [o1,o2,o3,o4,<-HZ.out] at KSt
     clear mf o1 o2 o3 o4
     go_wp2_with fail
     refine (KSt.out _ _ HI.out rfl).mono ?_
     rintro e w20 ⟨⟨A9,c9,rfl,s9⟩,h20⟩
     have B20:=qh (below_then BW.out (BS.out _ _ h20))
     have BZ:=qh (BS.out _ _ h20)
     obtain ⟨d0,d1,d2,d3⟩:=CB.out _ (below_then B1.out BZ.out)
     have SM:=qh (fun W (hb:Below w20.heap.size w20 W)=>rsame A9 A c9 c zs zs W (s9.below hb) (SLZ.out _ (below_then B20.out hb)) (by rw [<-HZ.out]; unfold maxLen; omega))
     simp only [cmp_self,<-HZ.out] at SM
     have r9:=RowAt.new w20 [.slice A9 z c9,.int .i64 g1,.int .i64 g2,.int .i64 g3] 24
     have bb9:Below w20.heap.size w20 (w20.alloc (.cells #[.slice A9 z c9,.int .i64 g1,.int .i64 g2,.int .i64 g3] 24)):=(Below.refl _ _).alloc (Nat.le_refl _) _
     obtain ⟨wb,hwb⟩:=nmq (w20.alloc (.cells #[.slice A9 z c9,.int .i64 g1,.int .i64 g2,.int .i64 g3] 24))
     rw [<-hwb] at r9 bb9
     have HWB:=qh hwb
     clear hwb s9 h20 d0 d1 d2 d3
     go_upto_region 22 with fail
     rw [<-HWB.out]
     have e0:=r9.cell 0
     simp only [List.getElem?_cons_zero] at e0
     obtain ⟨d0,d1,d2,d3⟩:=CB.out _ (below_then B1.out (below_then BZ.out bb9))
     have R9:=qh r9
     have BB9:=qh bb9
     clear r9 bb9
     go_wp2_with fail
     refine (SM.out wb BB9.out).mono ?_
     rintro e wc ⟨rfl,m9,hwc⟩
     have bc:Below wb.heap.size wb wc:=by rw [hwc]; exact below_drewN (Below.refl _ _) m9
     clear hwc e0 d0 d1 d2 d3
     have r9:=R9.out.below bc
     have e1:=r9.cell 1
     have e2:=r9.cell 2
     have e3:=r9.cell 3
     simp only [geS] at e1 e2 e3
     obtain ⟨-,d1,d2,d3⟩:=CB.out _ (below_then B1.out (below_then BZ.out (below_then BB9.out bc)))
     have BF:=qh (below_then B20.out (below_then BB9.out bc))
     clear r9 bc
     go_wp2_with fail
     go_ret
     exact ⟨rfl,BF.out⟩
   ·obtain rfl:i=n:=by omega
    have mf:=AL2.out.few (by omega) (by omega)
    obtain ⟨o1,o2,o3,o4⟩:=OS2.out
    have KSt:=qh (fun W os (h:Side w1 (fun k=>k<w1.heap.size) W os) (hi:os[0]?=some (obP X'.out.lo b m))=>pAsk X'.out.lo (T:=fun e w'=>∃ A c,e=.returned (.agg #[.slice A m.zs.length c,.int .i64 (m.r.size:Nat),.int .i64 m.quota,.int .i64 m.most])∧Sl w' A m.zs) h hi fun F hP _=>X'.out.setting b F m W hP)
    simp only [o1,o2,o3,o4,<-HZ.out] at KSt
    clear mf o1 o2 o3 o4
    go_wp2_with fail
    refine (KSt.out _ _ HI.out rfl).mono ?_
    rintro e w20 ⟨⟨A9,c9,rfl,s9⟩,h20⟩
    have B20:=qh (below_then BW.out (BS.out _ _ h20))
    have BZ:=qh (BS.out _ _ h20)
    obtain ⟨d0,d1,d2,d3⟩:=CB.out _ (below_then B1.out BZ.out)
    have SM:=qh (fun W (hb:Below w20.heap.size w20 W)=>rsame A9 A c9 c zs zs W (s9.below hb) (SLZ.out _ (below_then B20.out hb)) (by rw [<-HZ.out]; unfold maxLen; omega))
    simp only [cmp_self,<-HZ.out] at SM
    have r9:=RowAt.new w20 [.slice A9 z c9,.int .i64 g1,.int .i64 g2,.int .i64 g3] 24
    have bb9:Below w20.heap.size w20 (w20.alloc (.cells #[.slice A9 z c9,.int .i64 g1,.int .i64 g2,.int .i64 g3] 24)):=(Below.refl _ _).alloc (Nat.le_refl _) _
    obtain ⟨wb,hwb⟩:=nmq (w20.alloc (.cells #[.slice A9 z c9,.int .i64 g1,.int .i64 g2,.int .i64 g3] 24))
    rw [<-hwb] at r9 bb9
    have HWB:=qh hwb
    clear hwb s9 h20 d0 d1 d2 d3
    go_upto_region 22 with fail
    rw [<-HWB.out]
    have e0:=r9.cell 0
    simp only [List.getElem?_cons_zero] at e0
    obtain ⟨d0,d1,d2,d3⟩:=CB.out _ (below_then B1.out (below_then BZ.out bb9))
    have R9:=qh r9
    have BB9:=qh bb9
    clear r9 bb9
    go_wp2_with fail
    refine (SM.out wb BB9.out).mono ?_
    rintro e wc ⟨rfl,m9,hwc⟩
    have bc:Below wb.heap.size wb wc:=by rw [hwc]; exact below_drewN (Below.refl _ _) m9
    clear hwc e0 d0 d1 d2 d3
    have r9:=R9.out.below bc
    have e1:=r9.cell 1
    have e2:=r9.cell 2
    have e3:=r9.cell 3
    simp only [geS] at e1 e2 e3
    obtain ⟨-,d1,d2,d3⟩:=CB.out _ (below_then B1.out (below_then BZ.out (below_then BB9.out bc)))
    have BF:=qh (below_then B20.out (below_then BB9.out bc))
    clear r9 bc
    go_wp2_with fail
    go_ret
    exact ⟨rfl,BF.out⟩

end Go.Proofs.YtbfgpdgiaclphaaGreat.roomPlays
