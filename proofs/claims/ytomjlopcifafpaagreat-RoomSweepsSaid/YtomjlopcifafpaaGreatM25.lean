/- Proved parts: B4s. Conditions: each theorem's own. -/
import Derived.Test.YtomjlopcifafpaaGreatM20
import Derived.Test.YtomjlopcifafpaaGreatM23
import Derived.Test.YtomjlopcifafpaaGreatM24
import Derived.Deep.CutRange
import Derived.Test.YtomjlopcifafpaaGreatQ1
import Derived.Test.YtomjlopcifafpaaGreatQ2
set_option maxRecDepth 100000
set_option maxHeartbeats 8000000
namespace Go.Proofs.YtomjlopcifafpaaGreat.roomSweeps
open Go.Proofs.YtomjlopcifafpaaGreat Go.Joins Go.ChangeShapes Go.WideShapes Go.ChangeAt Go.RowKit Go.Deep

theorem rNewAny (lb:Value) (g1 s0 g2 g3:Int) (w:World) :
  Calls Tryz.prog 9 #[.agg #[lb,.int .i64 g1,.int .i64 g2,.int .i64 g3],.int .i64 s0] w fun e w'=>∃ x,e=.returned (.pointer (some ⟨x,0,none⟩))∧Below w.heap.size w w':=by
 go_enter Tryz.func9,Tryz.ntmps9
 go_wp2_with fail
 go_ret
 exact ⟨_,rfl,((((Below.refl _ _).alloc (Nat.le_refl _) _).alloc (by simp) _).alloc (by simp; omega) _)⟩
theorem wrapS1 (a:Int) (h0:0<=a) (h1:a<=1073741824):wrap64 (a+1)=a+1∧IntKind.i64.wrap (a+1)=a+1 :=
 ⟨by unfold wrap64; omega,by rw [IntKind.wrap_i64]; omega⟩
theorem wrapU (x:Int) (h0:0<=x) (h1:x<=2000000):IntKind.u64.wrap x=x:=by rw [IntKind.wrap_u64]; omega
theorem cells3 {W:World} {g:Nat} {a b c:Value} {T:TypeId} (h:RowAt W g [a,b,c] T):W.cell? ⟨g,0,none⟩=some a∧W.cell? ⟨g,1,none⟩=some b∧W.cell? ⟨g,2,none⟩=some c:=⟨h.cell 0,h.cell 1,h.cell 2⟩
theorem pAskB {P:Program} {f:FuncId} {args:Array Value} {R:RelM} {X:RoomLo R} {w0 w:World} {N:Nat->Prop} {os:List Ob} {i b:Nat} {m:Rm} {T:Ending->World->Prop} (h:Side w0 N w os) (hi:os[i]?=some (obP X b m)) (hc:∀ F,R w b F m->Calls P f args w fun e w'=>T e w'∧Below w.heap.size w w'):Calls P f args w fun e w'=>T e w'∧Side w0 N w' os∧Below w.heap.size w w':=by
 obtain ⟨F,hP⟩:=h.get hi
 exact (hc F hP).mono fun e w' ⟨t,hb⟩=>⟨t,h.below hb,hb⟩
theorem slEn_below {w w':World} {A:Option Addr} {l:List En} (h:SlEn w A l) (hb:Below w.heap.size w w'):SlEn w' A l:=fun hp=>by
 obtain ⟨b,o,rfl,hlt,hc⟩:=h hp
 refine ⟨b,o,rfl,Nat.lt_of_lt_of_le hlt hb.size,fun j hj=>?_⟩
 obtain ⟨c0,c1,c2,c3,c4⟩:=hc j hj
 exact ⟨(hb.cell (p:=⟨b,o+j * 5,none⟩) hlt).trans c0,(hb.cell (p:=⟨b,o+j * 5+1,none⟩) hlt).trans c1,(hb.cell (p:=⟨b,o+j * 5+2,none⟩) hlt).trans c2,(hb.cell (p:=⟨b,o+j * 5+3,none⟩) hlt).trans c3,(hb.cell (p:=⟨b,o+j * 5+4,none⟩) hlt).trans c4⟩
theorem walk {R:RelM} (X:RoomSw R) (A:Option Addr) (c:Nat) (zs:List Int) (g1 g2 g3:Int) (A3:Option Addr) (c3:Nat) (l:List AcM) (A7:Option Addr) (c7 n7:Nat) (BL:Nat->Bool) (w:World)
  (sl:Sl w A zs) (hu:La.U64 zs) (hl:zs.length<=maxLen) (sa:SlAct w A3 l) (oa:∀ y,y ∈ l->y.Ok w) (la:l.length<=maxLen) (st:SlT w A7 n7 BL) (l7:n7<=maxLen) :
  Calls Tryz.prog 3 #[.agg #[.slice A zs.length c,.int .i64 g1,.int .i64 g2,.int .i64 g3],.slice A3 l.length c3,.slice A7 n7 c7] w fun e w'=>e=.returned (.bool true)∧Below w.heap.size w w':=by
 obtain ⟨z,hz⟩:=nmq (zs.length)
 obtain ⟨n,hn⟩:=nmq (l.length)
 obtain ⟨w0,hw0⟩:=nmq (w.alloc (.cells #[.slice A z c,.int .i64 g1,.int .i64 g2,.int .i64 g3] 24))
 have r0:RowAt w0 w.heap.size [.slice A z c,.int .i64 g1,.int .i64 g2,.int .i64 g3] 24:=by rw [hw0]; exact RowAt.new _ _ _
 have b0:Below w.heap.size w w0:=by rw [hw0]; exact (Below.refl _ _).alloc (Nat.le_refl _) _
 have CB:=qh (fun W (bb:Below w0.heap.size w0 W)=>show W.cell? ⟨w.heap.size,0,none⟩=some (.slice A z c)∧W.cell? ⟨w.heap.size,1,none⟩=some (.int .i64 g1)∧W.cell? ⟨w.heap.size,2,none⟩=some (.int .i64 g2)∧W.cell? ⟨w.heap.size,3,none⟩=some (.int .i64 g3) from
  ⟨(r0.below bb).cell 0,(r0.below bb).cell 1,(r0.below bb).cell 2,(r0.below bb).cell 3⟩)
 have SLZ:=qh (fun W (bb:Below w.heap.size w W)=>sl.below bb)
 have STB:=qh (fun W (bb:Below w.heap.size w W)=>st.below bb)
 have HU:=qh hu
 have B0:=qh b0
 have HW:=qh hw0
 have AW:=qh (lAwake X.toRoomLo.a0 w0)
 have X':=qh X
 have XL:=qh X.toRoomLo
 have SA:=qh sa
 have OA:=qh oa
 have HZ:=qh hz
 have HN:=qh hn
 unfold maxLen at hl la l7
 rw [<-hz] at hl ⊢
 rw [<-hn] at la ⊢
 clear sl hu sa oa r0 b0 hw0 hz hn X st
 go_enter Tryz.func3,Tryz.ntmps3
 go_wp2_with fail
 rw [<-HW.out]
 refine AW.out.mono ?_
 rintro e w1 ⟨rfl,hb1⟩
 obtain ⟨d0,d1,d2,d3⟩:=CB.out _ hb1
 have B1:=qh hb1
 have BW:=qh (below_then B0.out hb1)
 clear hb1 AW
 by_cases z60:60<z
 ·go_wp2_with fail
  go_ret
  exact ⟨rfl,BW.out⟩
 have BS:=qh (fun W os (h:Side w1 (fun k=>k<w1.heap.size) W os)=>show Below w1.heap.size w1 W from h.base (Nat.le_refl _) (fun _ e=>e))
 have KN:=qh (fun W os (h:Side w1 (fun k=>k<w1.heap.size) W os)=>pNew XL.out h A c zs g1 g2 g3 (SLZ.out _ (below_then BW.out (BS.out _ _ h))) (by rw [<-HZ.out]; omega) HU.out)
 simp only [<-HZ.out] at KN
 have N0:=qh (Side.nil w1)
 obtain ⟨E,hE⟩:=nmq (stOk zs g1 g2 g3)
 simp only [<-hE] at KN
 have HE:=qh hE
 clear hE
 go_wp2_with fail
 refine (KN.out _ _ N0.out).mono ?_
 rintro e w2 (⟨en,rfl,h2⟩ | ⟨ey,ba,rfl,h2⟩)
 ·subst en
  have H2:=qh h2
  obtain ⟨d0,d1,d2,d3⟩:=CB.out _ (below_then B1.out (BS.out _ _ h2))
  clear h2
  go_wp2_with fail
  refine (KN.out _ _ H2.out).mono ?_
  rintro e w3 (⟨-,rfl,h3⟩ | ⟨ey,_⟩)
  case inr=>cases ey
  have H3:=qh h3
  obtain ⟨d0,d1,d2,d3⟩:=CB.out _ (below_then B1.out (BS.out _ _ h3))
  clear h3
  have RN:=qh (rNewAny (.slice A z c) g1 0 g2 g3 w3)
  go_wp2_with fail
  refine RN.out.mono ?_
  rintro e w4 ⟨p,rfl,hb4⟩
  have B4:=qh (below_then BW.out (below_then (BS.out _ _ H3.out) hb4))
  clear hb4 d0 d1 d2 d3
  go_wp2_with fail
  go_ret
  exact ⟨rfl,B4.out⟩
 subst ey
 have H2:=qh h2
 obtain ⟨d0,d1,d2,d3⟩:=CB.out _ (below_then B1.out (BS.out _ _ h2))
 clear h2
 go_wp2_with fail
 refine (KN.out _ _ H2.out).mono ?_
 rintro e w3 (⟨en,_⟩ | ⟨-,bb,rfl,h3⟩)
 case inl=>cases en
 have H3:=qh h3
 obtain ⟨d0,d1,d2,d3⟩:=CB.out _ (below_then B1.out (BS.out _ _ h3))
 clear h3
 have GS:=qh (Rm.st_parts HE.out.symm)
 have MN:=mNew H3.out (.slice A z c) zs g1.toNat 0 g2 g3
 rw [show ((g1.toNat:Nat):Int)=g1 by have:=GS.out.1; omega,show ((0:Nat):Int)=0 from rfl] at MN
 have MN:=qh MN
 go_wp2_with fail
 refine MN.out.mono ?_
 rintro e w6 ⟨p,rfl,h6⟩
 obtain ⟨M,hM⟩:=nmq (Rm.new zs g1 g2 g3 0 [])
 have AL:=qh (show Along 0 0 M 0 by rw [hM]; exact Along.new HE.out.symm)
 have TW:=qh (show Tw M M by rw [hM]; exact Tw.new HE.out.symm)
 rw [<-hM] at h6
 obtain ⟨g,hg⟩:=nmq (w6.heap.size)
 have HR0:=(show Side w1 (fun k=>k<w1.heap.size) w6 [obP XL.out ba M,obP XL.out bb M,obM p M] from h6).rowNew [.int .u64 0] 34
 have HR:=qh (show Side w1 (fun k=>k<w1.heap.size) (w6.alloc (.cells #[.int .u64 0] 34)) [obP XL.out ba M,obP XL.out bb M,obM p M,Ob.row g [.int .u64 0] 34] from by
  rw [hg]; exact HR0)
 clear h6 HR0 hM MN d0 d1 d2 d3 HE H2 H3 N0 KN
 go_wp2_with fail
 rw [<-hg]
 clear hg
 go_loopw [13,14,15] (fun vy vz vi W=>∃ (i zn:Nat) (m n2:Rm) (x:Int),i<=n∧i<=120∧zn<=i∧vy=.int .u64 x∧vz=.int .u64 zn∧vi=.int .i64 i∧Hid (Along 0 i m x)∧Hid (Along 0 i n2 x)∧Hid (Tw m n2)∧Hid (Side w1 (fun k=>k<w1.heap.size) W [obP XL.out ba m,obP XL.out bb n2,obM p m,Ob.row g [.int .u64 x] 34])) (fun _ _ vi=>fun _=>120-(intOf vi).toNat)
 case atStart=>exact ⟨0,0,M,M,0,Nat.zero_le _,Nat.zero_le _,Nat.zero_le _,rfl,rfl,rfl,AL,AL,TW,HR⟩
 case round =>
  obtain ⟨i,zn,m,n2,x,hi,hi2,hz2,rfl,rfl,rfl,AL2,AN2,TW2,HI⟩:=hrel
  clear AL TW HR
  by_cases z1:i<n
  ·by_cases z2:i<120
   ·have bW:=below_then BW.out (BS.out _ _ HI.out)
    obtain ⟨ab,ao,ea,hab,hac⟩:=SA.out (by rw [<-HN.out]; omega)
    have hc:=fun j hj=>hac i (by rw [<-HN.out]; exact z1) j hj
    have hy:(l.getD i AcM.Z).Ok w:=OA.out _ (by rw [List.getD_eq_getElem?_getD,List.getElem?_eq_getElem (by rw [<-HN.out]; exact z1)]; exact List.getElem_mem _)
    obtain ⟨y,ey⟩:=nmq (l.getD i AcM.Z)
    rw [<-ey] at hy
    simp only [<-ey] at hc
    obtain ⟨⟨kd,ws,by_,sq2,key2⟩,A4,c4⟩:=y
    obtain ⟨y1,y2,y3,y4,y5,y6,_⟩:=hy
    obtain ⟨nw,hnw⟩:=nmq (ws.length)
    subst ea
    have k0:=(bW.cell (p:=⟨ab,ao+i * 5,none⟩) hab).trans (show w.cell? ⟨ab,ao+i * 5,none⟩=some (.int .i64 kd) from hc 0 (by decide))
    have k1:=(bW.cell (p:=⟨ab,ao+i * 5+1,none⟩) hab).trans (show w.cell? ⟨ab,ao+i * 5+1,none⟩=some (.slice A4 nw c4) from by rw [hnw]; exact hc 1 (by decide))
    have k2:=(bW.cell (p:=⟨ab,ao+i * 5+2,none⟩) hab).trans (show w.cell? ⟨ab,ao+i * 5+2,none⟩=some (.int .u8 by_) from hc 2 (by decide))
    have k3:=(bW.cell (p:=⟨ab,ao+i * 5+3,none⟩) hab).trans (show w.cell? ⟨ab,ao+i * 5+3,none⟩=some (.int .i64 sq2) from hc 3 (by decide))
    have k4:=(bW.cell (p:=⟨ab,ao+i * 5+4,none⟩) hab).trans (show w.cell? ⟨ab,ao+i * 5+4,none⟩=some (.string key2) from hc 4 (by decide))
    have i0:(0:Int)<=(i:Int):=by omega
    have i1:(i:Int)<(n:Int):=by omega
    have hr1:=HI.out.rowNew [.int .i64 kd,.slice A4 nw c4,.int .u8 by_,.int .i64 sq2,.string key2] 37
    have KF:=qh (fun W os (h:Side w1 (fun k=>k<w1.heap.size) W os)=>show Calls Tryz.prog 10 #[.slice A4 nw c4] W _ from by rw [hnw]; exact lFar ws A4 c4 W (y1.below (below_then BW.out (BS.out _ _ h))))
    have few:=AL2.out.few (by omega) (by omega)
    have fewn:=AN2.out.few (by omega) (by omega)
    have ok:=AL2.out.ok
    obtain ⟨bx,hbx⟩:=nmq (wr.heap.size)
    have KD:=fun (hf:farW ws=false)=>qh (fun W (h:Side w1 (fun k=>k<w1.heap.size) W [obP XL.out ba m,obP XL.out bb n2,obM p m,Ob.row g [.int .u64 x] 34,Ob.row bx [.int .i64 kd,.slice A4 nw c4,.int .u8 by_,.int .i64 sq2,.string key2] 37])=>show Calls Tryz.prog 11 #[PtrM ba,PtrM p,.agg #[.int .i64 kd,.slice A4 nw c4,.int .u8 by_,.int .i64 sq2,.string key2],.pointer (some ⟨g,0,none⟩)] W fun e w'=>e=.returned (.bool true)∧Side w1 (fun k=>k<w1.heap.size) w' [obP XL.out ba (stepM m ⟨kd,ws,by_,sq2,key2⟩ x),obP XL.out bb n2,obM p (stepM m ⟨kd,ws,by_,sq2,key2⟩ x),Ob.row g [.int .u64 (stepX m ⟨kd,ws,by_,sq2,key2⟩ x)] 34,Ob.row bx [.int .i64 kd,.slice A4 nw c4,.int .u8 by_,.int .i64 sq2,.string key2] 37] from by
     obtain ⟨FW,KW⟩:=y2.fits hf
     have nf:=(farW_no hf).1
     rw [hnw] at h ⊢
     exact lDoes XL.out (i:=0) (j:=2) (l:=3) h rfl rfl rfl (by decide) (by decide) (by decide) few (AL2.out.many (by omega) (by omega)) ⟨kd,ws,by_,sq2,key2⟩ A4 c4 (fun _ e=>e) (y1.below BW.out) FW (by show ws.length<=1000; omega) KW (fun hp q e=>Nat.lt_of_lt_of_le (y4 hp q e) BW.out.size) AL2.out.x0 y5 y6 (AL2.out.stamp (by omega)))
    have GW:=fun (hf:farW ws=false)=>qh (fun W os (h:Side w1 (fun k=>k<w1.heap.size) W os) (F:Nat->Prop) (hn':∀ k,F k->¬ k<w1.heap.size)=>show GoodW W F A4 ws from by
     obtain ⟨FW,KW⟩:=y2.fits hf
     have nf:=(farW_no hf).1
     exact ⟨y1.below (below_then BW.out (BS.out _ _ h)),FW,by omega,fun hp q e f=>hn' _ f (Nat.lt_of_lt_of_le (y4 hp q e) BW.out.size),KW⟩)
    have AS:=fun (hf:farW ws=false)=>qh (AL2.out.step ⟨kd,ws,by_,sq2,key2⟩ (y2.fits hf).1 y5 y6)
    have HNW:=qh hnw
    rw [<-hbx] at hr1
    have HBX:=qh hbx
    have H1:=qh (show Side w1 (fun k=>k<w1.heap.size) (wr.alloc (.cells #[.int .i64 kd,.slice A4 nw c4,.int .u8 by_,.int .i64 sq2,.string key2] 37)) [obP XL.out ba m,obP XL.out bb n2,obM p m,Ob.row g [.int .u64 x] 34,Ob.row bx [.int .i64 kd,.slice A4 nw c4,.int .u8 by_,.int .i64 sq2,.string key2] 37] from hr1)
    have a0:=(hr1.rowAt Side.last).cell 0
    have a1:=(hr1.rowAt Side.last).cell 1
    have a2:=(hr1.rowAt Side.last).cell 2
    have a3:=(hr1.rowAt Side.last).cell 3
    have a4:=(hr1.rowAt Side.last).cell 4
    simp only [geS] at a0 a1 a2 a3 a4
    obtain ⟨wa,hwa⟩:=nmq (wr.alloc (.cells #[.int .i64 kd,.slice A4 nw c4,.int .u8 by_,.int .i64 sq2,.string key2] 37))
    rw [<-hwa] at H1 a0 a1 a2 a3 a4
    have HWA:=qh hwa
    have YC:=qh (And.intro y5 y6)
    have IW:=qh y2
    clear hr1 bW hc hac y1 y2 y3 y4 y5 y6 ey hnw hbx hwa few fewn ok
    go_upto_region 16 with fail
    rw [<-HBX.out,<-HWA.out]
    clear k0 k1 k2 k3 k4
    go_wp2_with fail
    refine (KF.out _ _ H1.out).mono ?_
    rintro e w4 ⟨rfl,hb⟩
    have H4:=qh (H1.out.below hb)
    clear hb
    obtain ⟨Fa,hFa⟩:=nmq (farW ws)
    have FF:=qh hFa.symm
    rw [<-hFa] at KD AS GW ⊢
    clear hFa KF a0 a1 a2 a3 a4
    have q0:=(H4.out.rowAt (i:=4) rfl).cell 0
    have q1:=(H4.out.rowAt (i:=4) rfl).cell 1
    have q2:=(H4.out.rowAt (i:=4) rfl).cell 2
    have q3:=(H4.out.rowAt (i:=4) rfl).cell 3
    have q4:=(H4.out.rowAt (i:=4) rfl).cell 4
    simp only [geS] at q0 q1 q2 q3 q4
    have H5:=qh (show Side w1 (fun k=>k<w1.heap.size) w4 [obP XL.out ba m,obP XL.out bb n2,obM p m,Ob.row g [.int .u64 x] 34] from Side.drop (os2:=[_]) H4.out)
    have AL3:=qh AL2.out.more
    have AN3:=qh AN2.out.more
    by_cases hf:Fa=true
    ·subst hf
     go_wp2_with fail
     go_roundw
     case rel=>exact ⟨i+1,zn,m,n2,x,by omega,by omega,by omega,rfl,rfl,by go_num,AL3,AN3,TW2,H5⟩
     case measure=>simp [intOf]; omega
    ·have hf:Fa=false:=by simpa using hf
     subst hf
     by_cases k200:200<key2.size
     ·go_wp2_with fail
      go_roundw
      case rel=>exact ⟨i+1,zn,m,n2,x,by omega,by omega,by omega,rfl,rfl,by go_num,AL3,AN3,TW2,H5⟩
      case measure=>simp [intOf]; omega
     ·by_cases kd2:kd=2
      ·subst kd2
       go_wp2_with fail
       go_roundw
       case rel=>exact ⟨i+1,zn,m,n2,x,by omega,by omega,by omega,rfl,rfl,by go_num,AL3,AN3,TW2,H5⟩
       case measure=>simp [intOf]; omega
      ·have kd2b:(kd == 2)=false:=by simp [kd2]
       have kd2d:decide (kd=2)=false:=decide_eq_false kd2
       clear H5 AL3 AN3
       have KD2:=KD (by first | rfl | trivial)
       have GW2:=GW (by first | rfl | trivial)
       have AS2:=AS (by first | rfl | trivial)
       clear KD GW AS
       obtain ⟨m',hm'⟩:=nmq (stepM m ⟨kd,ws,by_,sq2,key2⟩ x)
       obtain ⟨x',hx'⟩:=nmq (stepX m ⟨kd,ws,by_,sq2,key2⟩ x)
       simp only [<-hm',<-hx'] at KD2 AS2
       have HM':=qh hm'
       have HX':=qh hx'
       clear hm' hx'
       go_wp2_with fail
       refine (KD2.out _ H4.out).mono ?_
       rintro e w5 ⟨rfl,h5⟩
       have H5:=qh (show Side w1 (fun k=>k<w1.heap.size) w5 [obP XL.out ba m',obP XL.out bb n2,obM p m',Ob.row g [.int .u64 x'] 34,Ob.row bx [.int .i64 kd,.slice A4 nw c4,.int .u8 by_,.int .i64 sq2,.string key2] 37] from h5)
       clear h5 q0 q1 q2 q3 q4 KD2 H4
       have q0:=(H5.out.rowAt (i:=4) rfl).cell 0
       have q1:=(H5.out.rowAt (i:=4) rfl).cell 1
       have q2:=(H5.out.rowAt (i:=4) rfl).cell 2
       simp only [geS] at q0 q1 q2
       go_upto_if 92 with fail
       go_cut [13,17,18] from 93 to 124 (fun vy _ _ wx=>∃ nn:Rm,vy=.int .u64 x'∧Hid (Along 0 (i+1) nn x')∧Hid (Tw m' nn)∧Hid (Side w1 (fun k=>k<w1.heap.size) wx [obP XL.out ba m',obP XL.out bb nn,obM p m',Ob.row g [.int .u64 x'] 34,Ob.row bx [.int .i64 kd,.slice A4 nw c4,.int .u8 by_,.int .i64 sq2,.string key2] 37]))
       case first =>
        as_aux_lemma =>
         obtain ⟨FW,KW⟩:=IW.out.fits FF.out
         have bm:=AL2.out.bnd
         have bn:=AN2.out.bnd
         have x0:=AL2.out.x0
         have x1:=AL2.out.x1
         obtain ⟨y0,y1⟩:=YC.out
         by_cases k1:kd=1
         ·subst k1
          obtain ⟨s,hs⟩:=nmq (x+by_)
          have s0:0<=s:=by omega
          have s1:s<=256 * (i+1):=by omega
          have few:=AN2.out.few (by omega) (by omega)
          have em:m'=m.com ws s:=by rw [HM'.out,stepM_1 _ _ _ rfl,hs]
          have ex:x'=if m.comE ws s=0 then s else x:=by rw [HX'.out]; unfold stepX; rw [if_pos rfl,hs]
          have TC:=TW2.out.com bm bn FW s
          have EE:=TW2.out.comE (x:=s) bm bn FW
          have EN:=TW2.out.comN (x:=s) bm bn FW
          rw [<-em] at TC
          have QC:=qh (fun W (h:Side w1 (fun k=>k<w1.heap.size) W [obP XL.out ba m',obP XL.out bb n2,obM p m',Ob.row g [.int .u64 x'] 34,Ob.row bx [.int .i64 1,.slice A4 nw c4,.int .u8 by_,.int .i64 sq2,.string key2] 37])=>show Calls Tryz.prog 12 #[PtrM bb,.slice A4 nw c4,.int .u64 s] W fun e w'=>e=.returned (.tuple #[.int .i64 (n2.comN ws s),.int .i64 (n2.comE ws s)])∧Side w1 (fun k=>k<w1.heap.size) w' [obP XL.out ba m',obP XL.out bb (n2.com ws s),obM p m',Ob.row g [.int .u64 x'] 34,Ob.row bx [.int .i64 1,.slice A4 nw c4,.int .u8 by_,.int .i64 sq2,.string key2] 37] from by
           rw [HNW.out] at h ⊢
           exact pCall XL.out (T:=fun e _=>e=.returned (.tuple #[.int .i64 (n2.comN ws s),.int .i64 (n2.comE ws s)])) (i:=1) h rfl fun F hP hn'=>XL.out.commit bb F n2 ws A4 c4 s W hP few (GW2.out W _ h F hn') s0 (by omega))
          have KQ:=qh (fun W os (h:Side w1 (fun k=>k<w1.heap.size) W os) (hi:os[0]?=some (obP XL.out ba m'))=>pAsk XL.out (T:=fun e _=>e=.returned (.int .i64 m'.seq)) h hi fun F hP _=>XL.out.seq ba F m' W hP)
          have u1:IntKind.u64.wrap by_=by_:=wrapU _ y0 (by omega)
          have u3:IntKind.u64.wrap (x+by_)=s:=by rw [<-hs]; exact wrapU _ s0 (by omega)
          have AC:x'=s∨x'=x:=by rw [ex]; split<;>simp
          have AN:=qh (AN2.out.com FW s (x':=x') (by rcases AC with e | e<;>omega) (by rcases AC with e | e<;>omega))
          have cy:=fun e=>(Rm.com_yes (m:=m) (ws:=ws) (x:=s) e)
          have cn:=fun e=>(Rm.com_no (m:=m) (ws:=ws) (x:=s) e)
          obtain ⟨Nn,hNn⟩:=nmq (n2.comN ws s)
          obtain ⟨E,hE⟩:=nmq (n2.comE ws s)
          obtain ⟨nc,hnc⟩:=nmq (n2.com ws s)
          obtain ⟨sv,hsv⟩:=nmq (m'.seq)
          simp only [<-hNn,<-hE,<-hnc] at QC
          simp only [<-hsv] at KQ
          rw [<-hnc] at TC AN
          rw [<-hE] at EE
          rw [<-hNn] at EN
          have TC:=qh TC
          have HS:=qh hs
          by_cases e0:E=0
          ·have e1:x'=s:=by rw [ex,if_pos (EE.symm.trans e0)]
           have e2:Nn=sv:=by
            obtain ⟨_,_,_,h4,h5,h6⟩:=cy (EE.symm.trans e0)
            rw [EN,hsv,em,h5,h6]
            show (m.r.seq:Int)+1=(((m.r.push s).seq:Nat):Int)
            rw [Rm.push_seq h4]; omega
           have e3:sv≠0:=by
            rw [<-e2,EN]
            obtain ⟨_,_,_,h4,h5,h6⟩:=cy (EE.symm.trans e0)
            rw [h6]; omega
           subst e0
           subst e2
           clear em ex EE EN bm bn few x0 x1 y0 y1 AC cy cn hNn hE hnc hsv hs FW KW k200 kd2 kd2b kd2d GW2 IW YC FF HM' HX' s0 s1
           go_wp2_with fail
           refine (QC.out _ H5.out).mono ?_
           rintro e w6 ⟨rfl,h6⟩
           have H6:=qh h6
           clear h6 q0 q1 q2 QC
           have q1:=(H6.out.rowAt (i:=4) rfl).cell 1
           have q2:=(H6.out.rowAt (i:=4) rfl).cell 2
           have q3:=(H6.out.rowAt (i:=3) rfl).cell 0
           simp only [geS] at q1 q2 q3
           go_wp2_with fail
           refine (KQ.out _ _ H6.out rfl).mono ?_
           rintro e w7 ⟨rfl,h7⟩
           have H7:=qh h7
           clear h7 q1 q2 q3 KQ
           have q3:=(H7.out.rowAt (i:=3) rfl).cell 0
           simp only [List.getElem?_cons_zero] at q3
           rw [e1] at q3
           go_wp2_with fail
           go_meet
           exact ⟨nc,by rw [e1],AN,TC,H7⟩
          ·have e1:x'=x:=by rw [ex,if_neg (fun h=>e0 (EE.trans h))]
           have e2:Nn=0:=by rw [EN,(cn (fun h=>e0 (EE.trans h))).2]
           subst e2
           clear em ex EE EN bm bn few x0 x1 y0 y1 AC cy cn hNn hE hnc hsv hs FW KW k200 kd2 kd2b kd2d GW2 IW YC FF HM' HX' s0 s1
           go_wp2_with fail
           refine (QC.out _ H5.out).mono ?_
           rintro e w6 ⟨rfl,h6⟩
           have H6:=qh h6
           clear h6 q0 q1 q2 QC KQ
           have q3:=(H6.out.rowAt (i:=3) rfl).cell 0
           simp only [List.getElem?_cons_zero] at q3
           rw [e1] at q3
           go_wp2_with fail
           go_meet
           exact ⟨nc,by rw [e1],AN,TC,H6⟩
         ·have em:m'=m:=by rw [HM'.out,stepM_0 _ _ _ k1 kd2]
          have ex:x'=x:=by rw [HX'.out,stepX_0 _ _ _ k1]
          have k1b:(kd == 1)=false:=by simp [k1]
          have AN:=qh AN2.out.more
          subst em
          subst ex
          clear FW KW bm bn x0 x1 y0 y1
          go_wp2_with fail
          go_meet
          exact ⟨n2,rfl,AN,TW2,H5⟩
       case rest =>
        obtain ⟨nn,rfl,ANn,TWn,H6⟩:=hcut
        clear q0 q1 q2 H5 HM' HX' YC
        have bW:=below_then BW.out (BS.out _ _ H6.out)
        go_upto_region 25 with fail
        go_cut [134] from 125 to 134 (fun vc wy=>∃ t:Bool,vc=.bool t∧Hid (Side w1 (fun k=>k<w1.heap.size) wy [obP XL.out ba m',obP XL.out bb nn,obM p m',Ob.row g [.int .u64 x'] 34,Ob.row bx [.int .i64 kd,.slice A4 nw c4,.int .u8 by_,.int .i64 sq2,.string key2] 37]))
        case first =>
         as_aux_lemma =>
          by_cases z7:i<n7
          ·obtain ⟨b7,o7,rfl,_,hc7⟩:=STB.out _ bW (by omega)
           have c7:=hc7 i z7
           have i7:(i:Int)<(n7:Int):=by omega
           have i0:(0:Int)<=(i:Int):=by omega
           obtain ⟨t7,ht7⟩:=nmq (BL i)
           rw [<-ht7] at c7
           clear hc7 ht7 bW
           go_wp2_with fail
           go_meet
           exact ⟨t7,rfl,H6⟩
          ·clear bW
           go_wp2_with fail
           go_meet
           exact ⟨false,rfl,H6⟩
        case rest =>
         clear bW H6
         obtain ⟨t,rfl,H6⟩:=hcut
         go_upto_if 134 with fail
         go_cut [] from 135 to 139 (fun wy=>∃ n3:Rm,Hid (Along 0 (i+1) n3 x')∧Hid (Tw m' n3)∧Hid (Side w1 (fun k=>k<w1.heap.size) wy [obP XL.out ba m',obP XL.out bb n3,obM p m',Ob.row g [.int .u64 x'] 34,Ob.row bx [.int .i64 kd,.slice A4 nw c4,.int .u8 by_,.int .i64 sq2,.string key2] 37]))
         case first =>
          as_aux_lemma =>
           cases t with
           | false =>
            go_wp2_with fail
            go_meet
            exact ⟨nn,ANn,TWn,H6⟩
           | true =>
            have few:=ANn.out.few (by omega) (by omega)
            have A2:=ANn.out.swept
            have few2:=A2.few (by omega) (by omega)
            have A3:=qh A2.swept
            have T3:=qh ((TWn.out.sw ANn.out.bnd).sw A2.bnd)
            have G2:=Rm.gone_twice TWn.out.okn
            have KS:=qh (fun W os (h:Side w1 (fun k=>k<w1.heap.size) W os) (hi:os[1]?=some (obP XL.out bb nn))=>pCall XL.out (T:=fun e _=>e=.returned (.int .i64 nn.gone)) (m':=nn.sw) h hi fun F hP _=>XL.out.sweep bb F nn W hP few)
            have KT:=qh (fun W os (h:Side w1 (fun k=>k<w1.heap.size) W os) (hi:os[1]?=some (obP XL.out bb nn.sw))=>pCall XL.out (T:=fun e _=>e=.returned (.int .i64 nn.sw.gone)) (m':=nn.sw.sw) h hi fun F hP _=>XL.out.sweep bb F nn.sw W hP few2)
            simp only [G2] at KT
            obtain ⟨s1,hs1⟩:=nmq (nn.sw)
            simp only [<-hs1] at KS KT T3 A3
            obtain ⟨s2,hs2⟩:=nmq (s1.sw)
            simp only [<-hs2] at KT T3 A3
            obtain ⟨gn,hgn⟩:=nmq (nn.gone)
            simp only [<-hgn] at KS
            clear few A2 few2 G2 hs1 hs2 hgn
            go_wp2_with fail
            refine (KS.out _ _ H6.out rfl).mono ?_
            rintro e w7 ⟨rfl,h7⟩
            have H7:=qh h7
            clear h7
            go_wp2_with fail
            refine (KT.out _ _ H7.out rfl).mono ?_
            rintro e w8 ⟨rfl,h8⟩
            have H8:=qh (show Side w1 (fun k=>k<w1.heap.size) w8 [obP XL.out ba m',obP XL.out bb s2,obM p m',Ob.row g [.int .u64 x'] 34,Ob.row bx [.int .i64 kd,.slice A4 nw c4,.int .u8 by_,.int .i64 sq2,.string key2] 37] from h8)
            clear h8
            go_wp2_with fail
            go_meet
            exact ⟨s2,A3,T3,H8⟩
         case rest =>
          as_aux_lemma =>
           obtain ⟨n3,AN3,TW3,H7⟩:=hcut
           clear ANn TWn H6
           have fm:=AS2.out.few (by omega) (by omega)
           have fn:=AN3.out.few (by omega) (by omega)
           have uz:IntKind.u64.wrap ((zn:Int)+1)=((zn+1:Nat):Int):=(wrapU _ (by omega) (by omega)).trans (by omega)
           have KF:=qh (fun W os (h:Side w1 (fun k=>k<w1.heap.size) W os) (hi:os[0]?=some (obP XL.out ba m'))=>pAsk XL.out (T:=fun e _=>e=.returned (.int .i64 m'.floor)) h hi fun F hP _=>XL.out.floor ba F m' W hP)
           have KQ:=qh (fun W os (h:Side w1 (fun k=>k<w1.heap.size) W os) (hi:os[0]?=some (obP XL.out ba m'))=>pAsk XL.out (T:=fun e _=>e=.returned (.int .i64 m'.seq)) h hi fun F hP _=>XL.out.seq ba F m' W hP)
           have KQb:=qh (fun W os (h:Side w1 (fun k=>k<w1.heap.size) W os) (hi:os[1]?=some (obP XL.out bb n3))=>show Calls Tryz.prog 13 #[PtrM bb] W fun e w'=>e=.returned (.int .i64 m'.seq)∧Side w1 (fun k=>k<w1.heap.size) w' os from TW3.out.seq ▸ pAsk XL.out (T:=fun e _=>e=.returned (.int .i64 n3.seq)) h hi fun F hP _=>XL.out.seq bb F n3 W hP)
           have KLa:=qh (fun W os (h:Side w1 (fun k=>k<w1.heap.size) W os) (hi:os[0]?=some (obP XL.out ba m'))=>pAsk XL.out (T:=fun e _=>e=.returned (.int .i64 (m'.L.live:Nat))) h hi fun F hP _=>XL.out.live ba F m' W hP fm)
           have KLb:=qh (fun W os (h:Side w1 (fun k=>k<w1.heap.size) W os) (hi:os[1]?=some (obP XL.out bb n3))=>show Calls Tryz.prog 19 #[PtrM bb] W fun e w'=>e=.returned (.int .i64 (m'.L.live:Nat))∧Side w1 (fun k=>k<w1.heap.size) w' os from TW3.out.live ▸ pAsk XL.out (T:=fun e _=>e=.returned (.int .i64 (n3.L.live:Nat))) h hi fun F hP _=>XL.out.live bb F n3 W hP fn)
           have KKa:=qh (fun W os (h:Side w1 (fun k=>k<w1.heap.size) W os) (hi:os[0]?=some (obP XL.out ba m'))=>pAsk XL.out (T:=fun e _=>e=.returned (.int .i64 (m'.ents.length:Nat))) h hi fun F hP _=>XL.out.keys ba F m' W hP fm)
           have KKb:=qh (fun W os (h:Side w1 (fun k=>k<w1.heap.size) W os) (hi:os[1]?=some (obP XL.out bb n3))=>show Calls Tryz.prog 20 #[PtrM bb] W fun e w'=>e=.returned (.int .i64 (m'.ents.length:Nat))∧Side w1 (fun k=>k<w1.heap.size) w' os from TW3.out.ents ▸ pAsk XL.out (T:=fun e _=>e=.returned (.int .i64 (n3.ents.length:Nat))) h hi fun F hP _=>XL.out.keys bb F n3 W hP fn)
           have KVa:=qh (fun W os (h:Side w1 (fun k=>k<w1.heap.size) W os) (hi:os[0]?=some (obP XL.out ba m'))=>pAsk XL.out (T:=fun e _=>e=.returned (.int .i64 (m'.L.vers:Nat))) h hi fun F hP _=>XL.out.vers ba F m' W hP fm)
           have KVb:=qh (fun W os (h:Side w1 (fun k=>k<w1.heap.size) W os) (hi:os[1]?=some (obP XL.out bb n3))=>pAsk XL.out (T:=fun e _=>e=.returned (.int .i64 (n3.L.vers:Nat))) h hi fun F hP _=>XL.out.vers bb F n3 W hP fn)
           have KEa:=qh (fun W os (h:Side w1 (fun k=>k<w1.heap.size) W os) (hi:os[0]?=some (obP XL.out ba m'))=>pAskB (T:=fun e w'=>∃ A c,e=.returned (.slice A m'.ents.length c)∧SlEn w' A m'.ents∧(0<m'.ents.length->∃ g o,A=some ⟨g,o,none⟩∧W.heap.size<=g)) h hi fun F hP=>XL.out.entries ba F m' W hP fm)
           have KEb:=qh (fun W os (h:Side w1 (fun k=>k<w1.heap.size) W os) (hi:os[1]?=some (obP XL.out bb n3))=>show Calls Tryz.prog 23 #[PtrM bb] W fun e w'=>(∃ A c,e=.returned (.slice A m'.ents.length c)∧SlEn w' A m'.ents∧(0<m'.ents.length->∃ g o,A=some ⟨g,o,none⟩∧W.heap.size<=g))∧Side w1 (fun k=>k<w1.heap.size) w' os∧Below W.heap.size W w' from TW3.out.ents ▸ pAskB (T:=fun e w'=>∃ A c,e=.returned (.slice A n3.ents.length c)∧SlEn w' A n3.ents∧(0<n3.ents.length->∃ g o,A=some ⟨g,o,none⟩∧W.heap.size<=g)) h hi fun F hP=>XL.out.entries bb F n3 W hP fn)
           have el:m'.ents.length<=10000:=Nat.le_trans (ents_len m'.L m'.seq) (Nat.le_trans fm.1.1 (by decide))
           have KSm:=qh (fun W A8 c8 A9 c9 (h8:SlEn W A8 m'.ents) (h9:SlEn W A9 m'.ents)=>rSame1 m'.ents m'.ents A8 A9 c8 c9 W h8 h9 el el)
           simp only [decide_true] at KSm
           have KGa:=qh (fun at_ W os (h:Side w1 (fun k=>k<w1.heap.size) W os) (hi:os[0]?=some (obP XL.out ba m'))=>pAsk XL.out (T:=fun e _=>e=.returned (.tuple #[(atL (m'.L.of key2) at_).val.v,.bool (atOk (m'.L.of key2) at_)])) h hi fun F hP _=>XL.out.get ba F m' key2 at_ W hP fm (by omega))
           have KGb:=qh (fun at_ (ha:m'.floor<=at_) W os (h:Side w1 (fun k=>k<w1.heap.size) W os) (hi:os[1]?=some (obP XL.out bb n3))=>show Calls Tryz.prog 16 #[PtrM bb,.string key2,.int .i64 at_] W fun e w'=>e=.returned (.tuple #[(atL (m'.L.of key2) at_).val.v,.bool (atOk (m'.L.of key2) at_)])∧Side w1 (fun k=>k<w1.heap.size) w' os from by
            have q:=TW3.out.at_ ha key2
            have:=pAsk XL.out (T:=fun e _=>e=.returned (.tuple #[(atL (n3.L.of key2) at_).val.v,.bool (atOk (n3.L.of key2) at_)])) h hi fun F hP _=>XL.out.get bb F n3 key2 at_ W hP fn (by omega)
            rw [q.1,q.2] at this
            exact this)
           have KAa:=qh (fun at_ W os (h:Side w1 (fun k=>k<w1.heap.size) W os) (hi:os[0]?=some (obP XL.out ba m'))=>pAsk XL.out (T:=fun e _=>e=.returned (.tuple #[.string (aftV m'.L key2 true at_).1,(aftV m'.L key2 true at_).2.1.v,.bool (aftV m'.L key2 true at_).2.2])) h hi fun F hP _=>X'.out.after ba F m' key2 at_ W hP fm (by omega))
           have KAb:=qh (fun at_ (ha:m'.floor<=at_) W os (h:Side w1 (fun k=>k<w1.heap.size) W os) (hi:os[1]?=some (obP XL.out bb n3))=>show Calls Tryz.prog 17 #[PtrM bb,.string key2,.int .i64 at_] W fun e w'=>e=.returned (.tuple #[.string (aftV m'.L key2 true at_).1,(aftV m'.L key2 true at_).2.1.v,.bool (aftV m'.L key2 true at_).2.2])∧Side w1 (fun k=>k<w1.heap.size) w' os from by
            have q:=TW3.out.aft ha key2 true
            have:=pAsk XL.out (T:=fun e _=>e=.returned (.tuple #[.string (aftV n3.L key2 true at_).1,(aftV n3.L key2 true at_).2.1.v,.bool (aftV n3.L key2 true at_).2.2])) h hi fun F hP _=>X'.out.after bb F n3 key2 at_ W hP fn (by omega)
            rw [q] at this
            exact this)
           have FW:=(IW.out.fits FF.out).1
           have KCa:=qh (fun at_ W os (h:Side w1 (fun k=>k<w1.heap.size) W os) (hi:os[0]?=some (obP XL.out ba m'))=>show Calls Tryz.prog 18 #[PtrM ba,.slice A4 nw c4,.int .i64 at_] W fun e w'=>e=.returned (.int .i64 (m'.chk ws at_))∧Side w1 (fun k=>k<w1.heap.size) w' os from by
            rw [HNW.out]
            exact pAsk XL.out (T:=fun e _=>e=.returned (.int .i64 (m'.chk ws at_))) h hi fun F hP hn'=>XL.out.check ba F m' ws A4 c4 at_ W hP fm (GW2.out W _ h F hn'))
           have KCb:=qh (fun at_ W os (h:Side w1 (fun k=>k<w1.heap.size) W os) (hi:os[1]?=some (obP XL.out bb n3))=>show Calls Tryz.prog 18 #[PtrM bb,.slice A4 nw c4,.int .i64 at_] W fun e w'=>e=.returned (.int .i64 (m'.chk ws at_))∧Side w1 (fun k=>k<w1.heap.size) w' os from by
            rw [HNW.out,<-TW3.out.chk AS2.out.bnd AN3.out.bnd FW]
            exact pAsk XL.out (T:=fun e _=>e=.returned (.int .i64 (n3.chk ws at_))) h hi fun F hP hn'=>XL.out.check bb F n3 ws A4 c4 at_ W hP fn (GW2.out W _ h F hn'))
           have sfl:=Rm.floor_seq AS2.out.ok.r
           have sq0:0<=m'.floor:=by unfold Rm.floor; omega
           have sq1:=AS2.out.ok.seq_le
           have vle:=TW3.out.vers
           obtain ⟨fl,hfl⟩:=nmq (m'.floor)
           obtain ⟨sv,hsv⟩:=nmq (m'.seq)
           obtain ⟨lv,hlv⟩:=nmq (m'.L.live)
           obtain ⟨ne,hne⟩:=nmq (m'.ents.length)
           obtain ⟨va,hva⟩:=nmq (m'.L.vers)
           obtain ⟨vb,hvb⟩:=nmq (n3.L.vers)
           simp only [<-hfl,<-hsv] at KF KQ KQb KGb KAb sfl sq0 sq1
           simp only [<-hlv] at KLa KLb
           simp only [<-hne] at KKa KKb KEa KEb KSm
           simp only [<-hva] at KVa vle
           simp only [<-hvb] at KVb vle
           have vle:¬ (va:Int)<(vb:Int):=by omega
           clear fm fn el hfl hsv hlv hne hva hvb FW
           go_wp2_with fail
           refine (KF.out _ _ H7.out rfl).mono ?_
           rintro e w8 ⟨rfl,h8⟩
           have H8:=qh h8
           clear h8 KF H7
           go_wp2_with fail
           go_loopw [19] (fun va W=>∃ at_:Int,va=.int .i64 at_∧fl<=at_∧at_<=sv+1∧Hid (Side w1 (fun k=>k<w1.heap.size) W [obP XL.out ba m',obP XL.out bb n3,obM p m',Ob.row g [.int .u64 x'] 34,Ob.row bx [.int .i64 kd,.slice A4 nw c4,.int .u8 by_,.int .i64 sq2,.string key2] 37])) (fun va _=>(sv+1-intOf va).toNat)
           case atStart=>exact ⟨fl,rfl,Int.le_refl _,by omega,H8⟩
           case round =>
            obtain ⟨at_,rfl,ha1,ha2,HJ⟩:=hrel
            clear H8
            by_cases zs:at_<=sv
            ·as_aux_lemma =>
              have KG1:=qh (KGa.out at_)
              have KG2:=qh (KGb.out at_ ha1)
              have KA1:=qh (KAa.out at_)
              have KA2:=qh (KAb.out at_ ha1)
              have KC1:=qh (KCa.out at_)
              have KC2:=qh (KCb.out at_)
              obtain ⟨V,hV⟩:=nmq ((atL (m'.L.of key2) at_).val)
              obtain ⟨T,hT⟩:=nmq (atOk (m'.L.of key2) at_)
              obtain ⟨U,hU⟩:=nmq (aftV m'.L key2 true at_)
              obtain ⟨ck,hck⟩:=nmq (m'.chk ws at_)
              simp only [<-hV,<-hT] at KG1 KG2
              simp only [<-hU] at KA1 KA2
              simp only [<-hck] at KC1 KC2
              clear hV hT hU hck
              obtain ⟨vn,vt,vb2⟩:=V
              obtain ⟨uk,⟨un,ut,ub⟩,uo⟩:=U
              simp only [Val.v] at KG1 KG2 KA1 KA2
              have NV:∀ w,(binOp .neq 45 (.agg #[.bool vn,.string vt,.int .u64 (vb2:Int)]) (.agg #[.bool vn,.string vt,.int .u64 (vb2:Int)])).run Tryz.prog w=.ok (.bool false) w:=neq_selfV ⟨vn,vt,vb2⟩
              have NU:∀ w,(binOp .neq 45 (.agg #[.bool un,.string ut,.int .u64 (ub:Int)]) (.agg #[.bool un,.string ut,.int .u64 (ub:Int)])).run Tryz.prog w=.ok (.bool false) w:=neq_selfV ⟨un,ut,ub⟩
              clear KGa KGb KAa KAb KCa KCb KLa KLb KKa KKb KVa KVb KEa KEb KSm KQb
              go_wp2_with fail
              refine (KQ.out _ _ HJ.out rfl).mono ?_
              rintro e w9 ⟨rfl,h9⟩
              have H9:=qh h9
              clear h9 KQ
              have q4:=(H9.out.rowAt (i:=4) rfl).cell 4
              simp only [geS] at q4
              go_wp2_with fail
              refine (KG1.out _ _ H9.out rfl).mono ?_
              rintro e w10 ⟨rfl,h10⟩
              have R10:=qh (h10.rowNew [.bool vn,.string vt,.int .u64 (vb2:Int)] 45)
              clear h10 q4 H9 KG1
              have q4:=(R10.out.rowAt (i:=4) rfl).cell 4
              simp only [geS] at q4
              go_wp2_with fail
              obtain ⟨s1,hs1⟩:=nmq (w10.heap.size)
              rw [<-hs1] at R10 ⊢
              clear hs1
              refine (KG2.out _ _ R10.out rfl).mono ?_
              rintro e w11 ⟨rfl,h11⟩
              have R11:=qh (h11.rowNew [.bool vn,.string vt,.int .u64 (vb2:Int)] 45)
              clear h11 q4 R10 KG2
              have q4:=(R11.out.rowAt (i:=4) rfl).cell 4
              simp only [geS] at q4
              go_wp2_with fail
              obtain ⟨s2,hs2⟩:=nmq (w11.heap.size)
              rw [<-hs2] at R11 ⊢
              clear hs2
              refine (KA1.out _ _ R11.out rfl).mono ?_
              rintro e w12 ⟨rfl,h12⟩
              have R12:=qh (h12.rowNew [.bool un,.string ut,.int .u64 (ub:Int)] 45)
              clear h12 q4 R11 KA1
              have q4:=(R12.out.rowAt (i:=4) rfl).cell 4
              simp only [geS] at q4
              go_wp2_with fail
              obtain ⟨s3,hs3⟩:=nmq (w12.heap.size)
              rw [<-hs3] at R12 ⊢
              clear hs3
              refine (KA2.out _ _ R12.out rfl).mono ?_
              rintro e w13 ⟨rfl,h13⟩
              have R13:=qh (h13.rowNew [.bool un,.string ut,.int .u64 (ub:Int)] 45)
              clear h13 q4 R12 KA2
              go_wp2_with fail
              obtain ⟨s4,hs4⟩:=nmq (w13.heap.size)
              rw [<-hs4] at R13 ⊢
              clear hs4
              obtain ⟨wd,hwd⟩:=nmq (w13.alloc (.cells #[.bool un,.string ut,.int .u64 (ub:Int)] 45))
              rw [<-hwd] at R13 ⊢
              clear hwd
              have SH:=qh (fun W (h:Side w1 (fun k=>k<w1.heap.size) W [obP XL.out ba m',obP XL.out bb n3,obM p m',Ob.row g [.int .u64 x'] 34,Ob.row bx [.int .i64 kd,.slice A4 nw c4,.int .u8 by_,.int .i64 sq2,.string key2] 37,Ob.row s1 [.bool vn,.string vt,.int .u64 (vb2:Int)] 45,Ob.row s2 [.bool vn,.string vt,.int .u64 (vb2:Int)] 45,Ob.row s3 [.bool un,.string ut,.int .u64 (ub:Int)] 45,Ob.row s4 [.bool un,.string ut,.int .u64 (ub:Int)] 45]) =>
               show RowAt W bx [.int .i64 kd,.slice A4 nw c4,.int .u8 by_,.int .i64 sq2,.string key2] 37∧RowAt W s1 [.bool vn,.string vt,.int .u64 (vb2:Int)] 45∧RowAt W s2 [.bool vn,.string vt,.int .u64 (vb2:Int)] 45∧RowAt W s3 [.bool un,.string ut,.int .u64 (ub:Int)] 45∧RowAt W s4 [.bool un,.string ut,.int .u64 (ub:Int)] 45 from
               ⟨h.rowAt (i:=4) rfl,h.rowAt (i:=5) rfl,h.rowAt (i:=6) rfl,h.rowAt (i:=7) rfl,h.rowAt (i:=8) rfl⟩)
              have HD:=qh (R13.out.below (Below.refl wd.heap.size wd).drew)
              refine wp_region_held_drew (S:=fun W:World=>RowAt W bx [.int .i64 kd,.slice A4 nw c4,.int .u8 by_,.int .i64 sq2,.string key2] 37∧RowAt W s1 [.bool vn,.string vt,.int .u64 (vb2:Int)] 45∧RowAt W s2 [.bool vn,.string vt,.int .u64 (vb2:Int)] 45∧RowAt W s3 [.bool un,.string ut,.int .u64 (ub:Int)] 45∧RowAt W s4 [.bool un,.string ut,.int .u64 (ub:Int)] 45) (by kernel_rfl) (SH.out _ HD.out) (fun gH=>?_)
              refine rgT 0 (v:=?v1) ?y1 gH ?_
              case y1=>(intro v hSw; obtain ⟨x0,x1,x2⟩:=cells3 (show RowAt v bx _ _∧RowAt v s1 _ _∧RowAt v s2 _ _∧RowAt v s3 _ _∧RowAt v s4 _ _ from hSw).2.1;go_simp<;>rfl)
              refine rgT 1 (v:=?v2) ?y2 gH ?_
              case y2=>(intro v hSw; obtain ⟨x0,x1,x2⟩:=cells3 (show RowAt v bx _ _∧RowAt v s1 _ _∧RowAt v s2 _ _∧RowAt v s3 _ _∧RowAt v s4 _ _ from hSw).2.2.1;go_simp<;>rfl)
              refine rgT 2 (v:=?v3) ?y3 gH ?_
              case y3=>(intro v hSw; go_simp<;>rfl)
              try simp only [putS]
              refine rgT 3 (v:=?v4) ?y4 gH ?_
              case y4=>(intro v hSw; go_simp<;>rfl)
              refine rgT 4 (v:=?v5) ?y5 gH ?_
              case y5=>(intro v hSw; go_simp<;>rfl)
              refine rgT 5 (v:=?v6) ?y6 gH ?_
              case y6=>(intro v hSw; go_simp<;>rfl)
              try simp only [putS]
              refine rgT 6 (v:=?v7) ?y7 gH ?_
              case y7=>(intro v hSw; go_simp<;>rfl)
              refine rgT 7 (v:=?v8) ?y8 gH ?_
              case y8=>(intro v hSw; go_simp<;>rfl)
              refine rgT 8 (v:=?v9) ?y9 gH ?_
              case y9=>(intro v hSw; go_simp<;>rfl)
              try simp only [putS]
              refine rgT 9 (v:=?v10) ?y10 gH ?_
              case y10=>(intro v hSw; go_simp<;>rfl)
              refine rgT 10 (v:=?v11) ?y11 gH ?_
              case y11=>(intro v hSw; go_simp<;>rfl)
              refine rgT 11 (v:=?v12) ?y12 gH ?_
              case y12=>(intro v hSw; go_simp<;>rfl)
              try simp only [putS]
              refine rgT 12 (v:=?v13) ?y13 gH ?_
              case y13=>(intro v hSw; go_simp<;>rfl)
              refine rgT 13 (v:=?v14) ?y14 gH ?_
              case y14=>(intro v hSw; go_simp<;>rfl)
              refine rgT 14 (v:=?v15) ?y15 gH ?_
              case y15=>(intro v hSw; obtain ⟨x0,x1,x2⟩:=cells3 (show RowAt v bx _ _∧RowAt v s1 _ _∧RowAt v s2 _ _∧RowAt v s3 _ _∧RowAt v s4 _ _ from hSw).2.2.2.1;go_simp<;>rfl)
              try simp only [putS]
              refine rgT 15 (v:=?v16) ?y16 gH ?_
              case y16=>(intro v hSw; obtain ⟨x0,x1,x2⟩:=cells3 (show RowAt v bx _ _∧RowAt v s1 _ _∧RowAt v s2 _ _∧RowAt v s3 _ _∧RowAt v s4 _ _ from hSw).2.2.2.2;go_simp<;>rfl)
              refine rgT 16 (v:=?v17) ?y17 gH ?_
              case y17=>(intro v hSw; go_simp<;>rfl)
              refine rgT 17 (v:=?v18) ?y18 gH ?_
              case y18=>(intro v hSw; go_simp<;>rfl)
              try simp only [putS]
              refine rgT 18 (v:=?v19) ?y19 gH ?_
              case y19=>(intro v hSw; go_simp<;>rfl)
              refine rgT 19 (v:=?v20) ?y20 gH ?_
              case y20=>(intro v hSw; go_simp<;>rfl)
              refine rgT 20 (v:=?v21) ?y21 gH ?_
              case y21=>(intro v hSw; go_simp<;>rfl)
              try simp only [putS]
              refine rgT 21 (v:=?v22) ?y22 gH ?_
              case y22=>(intro v hSw; go_simp<;>rfl)
              refine rgT 22 (v:=?v23) ?y23 gH ?_
              case y23=>(intro v hSw; go_simp<;>rfl)
              refine rgT 23 (v:=?v24) ?y24 gH ?_
              case y24=>(intro v hSw; go_simp<;>rfl)
              try simp only [putS]
              refine rgT 24 (v:=?v25) ?y25 gH ?_
              case y25=>(intro v hSw; go_simp<;>rfl)
              refine rgT 25 (v:=?v26) ?y26 gH ?_
              case y26=>(intro v hSw; go_simp<;>rfl)
              refine rgT 26 (v:=?v27) ?y27 gH ?_
              case y27=>(intro v hSw; have e1:=(show RowAt v bx _ _∧RowAt v s1 _ _∧RowAt v s2 _ _∧RowAt v s3 _ _∧RowAt v s4 _ _ from hSw).1.cell 1; simp only [geS] at e1;go_simp<;>rfl)
              try simp only [putS]
              refine rgT 27 (v:=?v28) ?y28 gH ?_
              case y28=>(intro v hSw; go_simp<;>rfl)
              refine rgT 29 (v:=?v29) ?y29 gH ?_
              case y29=>(intro v hSw; go_simp<;>rfl)
              refine rgT 30 (v:=?v30) ?y30 gH ?_
              case y30=>(intro v hSw; go_simp<;>rfl)
              try simp only [putS]
              refine rgT 31 (v:=?v31) ?y31 gH ?_
              case y31=>(intro v hSw; have e1:=(show RowAt v bx _ _∧RowAt v s1 _ _∧RowAt v s2 _ _∧RowAt v s3 _ _∧RowAt v s4 _ _ from hSw).1.cell 1; simp only [geS] at e1;go_simp<;>rfl)
              refine rgT 32 (v:=?v32) ?y32 gH ?_
              case y32=>(intro v hSw; go_simp<;>rfl)
              try simp only [putS]
              refine rgO 28 fun K hK=>?_
              go_simp
              refine (KC1.out _ _ HD.out rfl).mono ?_
              rintro e w14 ⟨rfl,h14⟩
              have H14:=qh h14
              clear h14
              refine hK.out _ _ (SH.out _ H14.out) (fun gH=>?_)
              clear hK K
              try simp only [putS]
              refine rgO 33 fun K hK=>?_
              go_simp
              refine (KC2.out _ _ H14.out rfl).mono ?_
              rintro e w15 ⟨rfl,h15⟩
              have H15:=qh h15
              clear h15
              refine hK.out _ _ (SH.out _ H15.out) (fun gH=>?_)
              clear hK K
              refine rgT 34 (v:=?v33) ?y33 gH ?_
              case y33=>(intro v hSw; go_simp<;>rfl)
              refine rgT 35 (v:=?v34) ?y34 gH ?_
              case y34=>(intro v hSw; go_simp<;>rfl)
              try simp only [putS]
              refine rgD ?_
              have H16:=qh (show Side w1 (fun k=>k<w1.heap.size) w15 [obP XL.out ba m',obP XL.out bb n3,obM p m',Ob.row g [.int .u64 x'] 34,Ob.row bx [.int .i64 kd,.slice A4 nw c4,.int .u8 by_,.int .i64 sq2,.string key2] 37] from Side.drop (os2:=[_,_,_,_]) H15.out)
              clear H14 H15 HD SH R13 NV NU KC1 KC2
              have b1:fl<=at_+1:=by omega
              have b2:at_+1<=sv+1:=by omega
              have b3:(sv+1-(at_+1)).toNat<(sv+1-at_).toNat:=by omega
              obtain ⟨ww,wi⟩:=wrapS1 at_ (by omega) (by omega)
              have B1:=qh (And.intro b1 (And.intro b2 b3))
              clear b1 b2 b3
              go_wp2_with fail
              clear ww wi
              go_roundw
              case rel=>exact ⟨at_+1,by first | rfl | go_num,B1.out.1,B1.out.2.1,H16⟩
              case measure=>exact B1.out.2.2
            ·as_aux_lemma =>
              clear KGa KGb KAa KAb KCa KCb
              go_wp2_with fail
              refine (KQ.out _ _ HJ.out rfl).mono ?_
              rintro e w9 ⟨rfl,h9⟩
              have H9:=qh h9
              clear h9
              go_wp2_with fail
              refine (KLa.out _ _ H9.out rfl).mono ?_
              rintro e u10 ⟨rfl,h10⟩
              have H10:=qh h10
              clear h10 H9 KLa
              go_wp2_with fail
              refine (KLb.out _ _ H10.out rfl).mono ?_
              rintro e u11 ⟨rfl,h11⟩
              have H11:=qh h11
              clear h11 H10 KLb
              go_wp2_with fail
              refine (KKa.out _ _ H11.out rfl).mono ?_
              rintro e u12 ⟨rfl,h12⟩
              have H12:=qh h12
              clear h12 H11 KKa
              go_wp2_with fail
              refine (KKb.out _ _ H12.out rfl).mono ?_
              rintro e u13 ⟨rfl,h13⟩
              have H13:=qh h13
              clear h13 H12 KKb
              go_wp2_with fail
              refine (KQ.out _ _ H13.out rfl).mono ?_
              rintro e u14 ⟨rfl,h14⟩
              have H14:=qh h14
              clear h14 H13 KQ
              go_wp2_with fail
              refine (KQb.out _ _ H14.out rfl).mono ?_
              rintro e u15 ⟨rfl,h15⟩
              have H15:=qh h15
              clear h15 H14 KQb
              go_wp2_with fail
              refine (KVb.out _ _ H15.out rfl).mono ?_
              rintro e u16 ⟨rfl,h16⟩
              have H16:=qh h16
              clear h16 H15 KVb
              go_wp2_with fail
              refine (KVa.out _ _ H16.out rfl).mono ?_
              rintro e u17 ⟨rfl,hz9⟩
              have HZ9:=qh hz9
              clear hz9 H16 KVa
              go_wp2_with fail
              refine (KEa.out _ _ HZ9.out rfl).mono ?_
              rintro e w17 ⟨⟨A8,c8,rfl,se8,_⟩,h17,hb17⟩
              have H17:=qh h17
              have S8:=qh se8
              clear h17 se8 hb17
              go_wp2_with fail
              refine (KEb.out _ _ H17.out rfl).mono ?_
              rintro e w18 ⟨⟨A9,c9,rfl,se9,_⟩,h18,hb18⟩
              have S9:=qh se9
              have S8:=qh (slEn_below S8.out hb18)
              have H18:=qh h18
              clear h18 se9 hb18 H17
              go_wp2_with fail
              refine (KSm.out w18 A8 c8 A9 c9 S8.out S9.out).mono ?_
              rintro e w19 ⟨rfl,m19,hw19⟩
              have H19:=qh (show Side w1 (fun k=>k<w1.heap.size) w19 [obP XL.out ba m',obP XL.out bb n3,obM p m',Ob.row g [.int .u64 x'] 34] from Side.drop (os2:=[_]) (H18.out.below (by rw [hw19]; exact below_drewN (Below.refl _ _) m19)))
              clear hw19 H18
              go_wp2_with fail
              go_roundw
              case rel=>exact ⟨i+1,zn+1,m',n3,x',by omega,by omega,by omega,rfl,by first | rfl | go_num,by go_num,AS2,AN3,TW3,H19⟩
              case measure=>simp [intOf]; omega
   ·obtain rfl:i=120:=by omega
    have zc:(zn:Int)<=120:=by omega
    have BF:=qh (below_then BW.out (BS.out _ _ HI.out))
    go_wp2_with fail
    go_ret
    exact ⟨rfl,BF.out⟩
  ·obtain rfl:i=n:=by omega
   have zc:(zn:Int)<=120:=by omega
   have BF:=qh (below_then BW.out (BS.out _ _ HI.out))
   go_wp2_with fail
   go_ret
   exact ⟨rfl,BF.out⟩

end Go.Proofs.YtomjlopcifafpaaGreat.roomSweeps
