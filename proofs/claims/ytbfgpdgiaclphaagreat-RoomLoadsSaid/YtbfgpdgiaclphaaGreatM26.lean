/- Proved parts: B4d. Conditions: each theorem's own. -/
import Derived.Test.YtbfgpdgiaclphaaGreatM21
import Derived.Test.YtbfgpdgiaclphaaGreatM24
import Derived.Test.YtbfgpdgiaclphaaGreatM25
import Derived.Test.YtbfgpdgiaclphaaGreatQ1
import Derived.Test.YtbfgpdgiaclphaaGreatQ2
set_option maxRecDepth 100000
set_option maxHeartbeats 8000000
namespace Go.Proofs.YtbfgpdgiaclphaaGreat.roomLoads
open Go.Proofs.YtbfgpdgiaclphaaGreat Go.Joins Go.ChangeShapes Go.WideShapes Go.ChangeAt Go.RowKit Go.Deep

theorem pAskB {P:Program} {f:FuncId} {args:Array Value} {R:RelM} {X:RoomLo R} {w0 w:World} {N:Nat->Prop} {os:List Ob} {i b:Nat} {m:Rm} {T:Ending->World->Prop} (h:Side w0 N w os) (hi:os[i]?=some (obP X b m)) (hc:∀ F,R w b F m->Calls P f args w fun e w'=>T e w'∧Below w.heap.size w w'):Calls P f args w fun e w'=>T e w'∧Side w0 N w' os:=by
 obtain ⟨F,hP⟩:=h.get hi
 exact (hc F hP).mono fun e w' ⟨t,hb⟩=>⟨t,h.below hb⟩
theorem eql_selfV (x:Val) (w:World):(binOp .eql 56 x.v x.v).run Tryz.prog w=.ok (.bool true) w:=by
 unfold Val.v
 rw [run_eql_struct,eqIn_val 9998]
 simp
theorem slEn_below {w w':World} {A:Option Addr} {l:List En} (h:SlEn w A l) (hb:Below w.heap.size w w'):SlEn w' A l:=fun hp=>by
 obtain ⟨b,o,rfl,hlt,hc⟩:=h hp
 refine ⟨b,o,rfl,Nat.lt_of_lt_of_le hlt hb.size,fun j hj=>?_⟩
 obtain ⟨c0,c1,c2,c3,c4⟩:=hc j hj
 exact ⟨(hb.cell (p:=⟨b,o+j * 5,none⟩) hlt).trans c0,(hb.cell (p:=⟨b,o+j * 5+1,none⟩) hlt).trans c1,(hb.cell (p:=⟨b,o+j * 5+2,none⟩) hlt).trans c2,(hb.cell (p:=⟨b,o+j * 5+3,none⟩) hlt).trans c3,(hb.cell (p:=⟨b,o+j * 5+4,none⟩) hlt).trans c4⟩
theorem walk {R:RelM} (X:RoomLo R) (A:Option Addr) (c:Nat) (zs:List Int) (g1 g2 g3:Int) (sq:Int) (A2:Option Addr) (c2:Nat) (le:List En) (A3:Option Addr) (c3:Nat) (l:List AcM) (key:ByteArray) (w:World)
  (sl:Sl w A zs) (hu:La.U64 zs) (hl:zs.length<=maxLen) (se:SlEn w A2 le) (oe:∀ y,y ∈ le->y.key.size<=maxLen∧y.val.Fits) (ll:le.length<=maxLen) (sa:SlAct w A3 l) (oa:∀ y,y ∈ l->y.Ok w) (la:l.length<=maxLen) :
  Calls Tryz.prog 5 #[.agg #[.slice A zs.length c,.int .i64 g1,.int .i64 g2,.int .i64 g3],.int .i64 sq,.slice A2 le.length c2,.slice A3 l.length c3,.string key] w fun e w'=>e=.returned (.bool true)∧Below w.heap.size w w':=by
 obtain ⟨z,hz⟩:=nmq (zs.length)
 obtain ⟨n,hn⟩:=nmq (l.length)
 obtain ⟨k,hk⟩:=nmq (le.length)
 obtain ⟨w0,hw0⟩:=nmq (w.alloc (.cells #[.slice A z c,.int .i64 g1,.int .i64 g2,.int .i64 g3] 24))
 have r0:RowAt w0 w.heap.size [.slice A z c,.int .i64 g1,.int .i64 g2,.int .i64 g3] 24:=by rw [hw0]; exact RowAt.new _ _ _
 have b0:Below w.heap.size w w0:=by rw [hw0]; exact (Below.refl _ _).alloc (Nat.le_refl _) _
 have CB:=qh (fun W (bb:Below w0.heap.size w0 W)=>show W.cell? ⟨w.heap.size,0,none⟩=some (.slice A z c)∧W.cell? ⟨w.heap.size,1,none⟩=some (.int .i64 g1)∧W.cell? ⟨w.heap.size,2,none⟩=some (.int .i64 g2)∧W.cell? ⟨w.heap.size,3,none⟩=some (.int .i64 g3) from
  ⟨(r0.below bb).cell 0,(r0.below bb).cell 1,(r0.below bb).cell 2,(r0.below bb).cell 3⟩)
 have SLZ:=qh (fun W (bb:Below w.heap.size w W)=>sl.below bb)
 have SE:=qh (fun W (bb:Below w.heap.size w W)=>slEn_below se bb)
 have HU:=qh hu
 have OE:=qh oe
 have B0:=qh b0
 have HW:=qh hw0
 have AW:=qh (lAwake X.a0 w0)
 have X':=qh X
 have SA:=qh sa
 have OA:=qh oa
 have HZ:=qh hz
 have HN:=qh hn
 have HK:=qh hk
 unfold maxLen at hl la ll
 rw [<-hz] at hl ⊢
 rw [<-hn] at la ⊢
 rw [<-hk] at ll ⊢
 clear sl hu sa oa r0 b0 hw0 hz hn hk se oe X
 go_enter Tryz.func5,Tryz.ntmps5
 go_wp2_with fail
 rw [<-HW.out]
 refine AW.out.mono ?_
 rintro e w1 ⟨rfl,hb1⟩
 obtain ⟨d0,d1,d2,d3⟩:=CB.out _ hb1
 have B1:=qh hb1
 have BW:=qh (below_then B0.out hb1)
 clear hb1 AW
 by_cases z60:60<z
 ·go_wp2_with fail
  go_ret
  exact ⟨rfl,BW.out⟩
 by_cases z100:100<k
 ·go_wp2_with fail
  go_ret
  exact ⟨rfl,BW.out⟩
 by_cases z200:200<key.size
 ·go_wp2_with fail
  go_ret
  exact ⟨rfl,BW.out⟩
 go_wp2_with fail
 go_loopw [11] (fun vi W=>∃ i:Nat,i<=k∧vi=.int .i64 i∧Hid (∀ j,j<i->(le.getD j En.Z).key.size<=200∧(le.getD j En.Z).val.txt.size<=200)∧W=w1) (fun vi _=>k-(intOf vi).toNat)
 case atStart=>exact ⟨0,Nat.zero_le _,rfl,qh (fun j hj=>by cases hj),rfl⟩
 case round =>
  obtain ⟨i,hi,rfl,HM,hW⟩:=hrel
  have hW:=hW.symm
  subst hW
  by_cases q:i<k
  ·obtain ⟨bb,o,rfl,hb,c0,-,-,c3,-⟩:=(SE.out _ BW.out).at (j:=i) (by rw [<-HK.out]; exact q)
   have i0:(0:Int)<=(i:Int):=by omega
   have i1:(i:Int)<(k:Int):=by omega
   have ST:=qh (fun (h:(le.getD i En.Z).key.size<=200∧(le.getD i En.Z).val.txt.size<=200)=>show ∀ j,j<i+1->(le.getD j En.Z).key.size<=200∧(le.getD j En.Z).val.txt.size<=200 from fun j hj=>by
    by_cases e:j=i
    ·rw [e]; exact h
    ·exact HM.out j (by omega))
   obtain ⟨ky,hky⟩:=nmq ((le.getD i En.Z).key)
   obtain ⟨tx,htx⟩:=nmq ((le.getD i En.Z).val.txt)
   rw [<-hky] at c0 ST
   rw [<-htx] at c3 ST
   clear hky htx hb
   by_cases z1:200<ky.size
   ·go_wp2_with fail
    go_ret
    exact ⟨rfl,BW.out⟩
   ·by_cases z2:200<tx.size
    ·go_wp2_with fail
     go_ret
     exact ⟨rfl,BW.out⟩
    ·have SS:=qh (ST.out ⟨by omega,by omega⟩)
     go_wp2_with fail
     go_roundw
     case rel=>exact ⟨i+1,by omega,by go_num,SS,trivial⟩
     case measure=>simp [intOf]; omega
  ·have ik:k=i:=by omega
   subst ik
   have FE:FitsE le:=fun y hy=>by
    obtain ⟨j,hj,rfl⟩:=List.mem_iff_getElem.1 hy
    have:=HM.out j (by rw [HK.out]; exact hj)
    rw [List.getD_eq_getElem?_getD,List.getElem?_eq_getElem hj] at this
    have h1:(le[j]).key.size<=200:=this.1
    have h2:(le[j]).val.txt.size<=200:=this.2
    exact ⟨(OE.out _ hy).2,by omega,by omega⟩
   have KP:=qh (pLoad X'.out (Side.nil w1) A c zs g1 g2 g3 sq le A2 c2 (SLZ.out _ BW.out) (by rw [<-HZ.out]; omega) HU.out (SE.out _ BW.out) FE (by rw [<-HK.out]; omega))
   have KM:=qh (fun W os (h:Side w1 (fun k=>k<w1.heap.size) W os)=>mLoad h A c zs g1 g2 g3 sq le A2 c2 (SLZ.out _ (below_then BW.out (h.base (Nat.le_refl _) fun _ e=>e))) (by rw [<-HZ.out]; unfold maxLen; omega) HU.out (SE.out _ (below_then BW.out (h.base (Nat.le_refl _) fun _ e=>e))) FE (by rw [<-HK.out]; omega))
   have BS:=qh (fun W os (h:Side w1 (fun k=>k<w1.heap.size) W os)=>show Below w1.heap.size w1 W from h.base (Nat.le_refl _) (fun _ e=>e))
   simp only [<-HZ.out,<-HK.out] at KP KM
   obtain ⟨E,hE⟩:=nmq (ldE zs g1 g2 g3 sq le)
   simp only [<-hE] at KP KM
   have HE:=qh hE
   have FE:=qh FE
   clear hE
   go_wp2_with fail
   refine KP.out.mono ?_
   rintro e w2 (⟨ne,rfl,h2⟩ | ⟨ye,b,rfl,h2⟩)
   ·have H2:=qh h2
    obtain ⟨d0,d1,d2,d3⟩:=CB.out _ (below_then B1.out (BS.out _ _ h2))
    clear h2
    go_wp2_with fail
    refine (KM.out _ _ H2.out).mono ?_
    rintro e w3 (⟨_,rfl,h3⟩ | ⟨ye,_⟩)
    case inr=>exact absurd ye ne
    have B3:=qh (below_then BW.out (BS.out _ _ h3))
    clear h3 d0 d1 d2 d3
    go_wp2_with fail
    go_ret
    exact ⟨rfl,B3.out⟩
   ·subst ye
    have H2:=qh h2
    obtain ⟨d0,d1,d2,d3⟩:=CB.out _ (below_then B1.out (BS.out _ _ h2))
    clear h2
    go_wp2_with fail
    refine (KM.out _ _ H2.out).mono ?_
    rintro e w3 (⟨ne,_⟩ | ⟨_,p,rfl,h3⟩)
    case inl=>exact absurd rfl ne
    have H3:=qh h3
    clear h3 d0 d1 d2 d3
    have AL:=qh (Along.load HE.out.symm FE.out)
    have OS:=qh (show (Rm.new zs g1 g2 g3 sq (loadL le)).OfS zs g1 g2 g3 from Rm.OfS.new (by
     have:=(Rm.st_parts (Rm.ld_parts HE.out.symm).1).1; omega))
    rw [<-HK.out] at AL
    obtain ⟨g,hg⟩:=nmq (w3.heap.size)
    have HR:=qh (show Side w1 (fun k=>k<w1.heap.size) (w3.alloc (.cells #[.int .u64 0] 26)) [obP X'.out b (Rm.new zs g1 g2 g3 sq (loadL le)),obM p (Rm.new zs g1 g2 g3 sq (loadL le)),Ob.row g [.int .u64 0] 26] from by
     rw [hg]; exact H3.out.rowNew [.int .u64 0] 26)
    obtain ⟨M,hM⟩:=nmq (Rm.new zs g1 g2 g3 sq (loadL le))
    rw [<-hM] at AL OS HR
    clear hM KP KM HE FE HM H2 H3
    go_wp2_with fail
    rw [<-hg]
    go_loopw [17] (fun vi W=>∃ (i:Nat) (m:Rm) (x:Int),i<=n∧i<=120∧vi=.int .i64 i∧Hid (Along k i m x)∧Hid (m.OfS zs g1 g2 g3)∧Hid (Side w1 (fun k=>k<w1.heap.size) W [obP X'.out b m,obM p m,Ob.row g [.int .u64 x] 26])) (fun vi _=>120-(intOf vi).toNat)
    case atStart=>exact ⟨0,M,0,Nat.zero_le _,Nat.zero_le _,rfl,AL,OS,HR⟩
    case round =>
     obtain ⟨i,m,x,hi,hi2,rfl,AL2,OS2,HI⟩:=hrel
     clear AL OS HR
     clear hg
     by_cases z1:i<n
     ·by_cases z2:i<120
      ·have bW:=below_then BW.out (BS.out _ _ HI.out)
       obtain ⟨ab,ao,ea,hab,hac⟩:=SA.out (by rw [<-HN.out]; omega)
       have hc:=fun j hj=>hac i (by rw [<-HN.out]; exact z1) j hj
       have hy:(l.getD i AcM.Z).Ok w:=OA.out _ (by rw [List.getD_eq_getElem?_getD,List.getElem?_eq_getElem (by rw [<-HN.out]; exact z1)]; exact List.getElem_mem _)
       obtain ⟨y,ey⟩:=nmq (l.getD i AcM.Z)
       rw [<-ey] at hy
       simp only [<-ey] at hc
       obtain ⟨⟨kd,ws,by_,sq2,key2⟩,A4,c4⟩:=y
       obtain ⟨y1,y2,y3,y4,y5,y6,_⟩:=hy
       obtain ⟨nw,hnw⟩:=nmq (ws.length)
       subst ea
       have CC:=qh (fun W (bW:Below w.heap.size w W)=>show W.cell? ⟨ab,ao+i * 5,none⟩=some (.int .i64 kd)∧W.cell? ⟨ab,ao+i * 5+1,none⟩=some (.slice A4 nw c4)∧W.cell? ⟨ab,ao+i * 5+2,none⟩=some (.int .u8 by_)∧W.cell? ⟨ab,ao+i * 5+3,none⟩=some (.int .i64 sq2)∧W.cell? ⟨ab,ao+i * 5+4,none⟩=some (.string key2) from
        ⟨(bW.cell (p:=⟨ab,ao+i * 5,none⟩) hab).trans (hc 0 (by decide)),(bW.cell (p:=⟨ab,ao+i * 5+1,none⟩) hab).trans (by rw [hnw]; exact hc 1 (by decide)),(bW.cell (p:=⟨ab,ao+i * 5+2,none⟩) hab).trans (hc 2 (by decide)),(bW.cell (p:=⟨ab,ao+i * 5+3,none⟩) hab).trans (hc 3 (by decide)),(bW.cell (p:=⟨ab,ao+i * 5+4,none⟩) hab).trans (hc 4 (by decide))⟩)
       have i0:(0:Int)<=(i:Int):=by omega
       have i1:(i:Int)<(n:Int):=by omega
       have KF:=qh (fun W os (h:Side w1 (fun k=>k<w1.heap.size) W os)=>show Calls Tryz.prog 15 #[.slice A4 nw c4] W _ from by rw [hnw]; exact lFar ws A4 c4 W (y1.below (below_then BW.out (BS.out _ _ h))))
       have KD:=fun (hf:farW ws=false)=>qh (fun W (h:Side w1 (fun k=>k<w1.heap.size) W [obP X'.out b m,obM p m,Ob.row g [.int .u64 x] 26])=>show Calls Tryz.prog 20 #[PtrM b,PtrM p,.agg #[.int .i64 kd,.slice A4 nw c4,.int .u8 by_,.int .i64 sq2,.string key2],.pointer (some ⟨g,0,none⟩)] W fun e w'=>e=.returned (.bool true)∧Side w1 (fun k=>k<w1.heap.size) w' [obP X'.out b (stepM m ⟨kd,ws,by_,sq2,key2⟩ x),obM p (stepM m ⟨kd,ws,by_,sq2,key2⟩ x),Ob.row g [.int .u64 (stepX m ⟨kd,ws,by_,sq2,key2⟩ x)] 26] from by
        obtain ⟨FW,KW⟩:=y2.fits hf
        have nf:=(farW_no hf).1
        rw [hnw]
        exact lDoes X'.out (i:=0) (j:=1) (l:=2) h rfl rfl rfl (by decide) (by decide) (by decide) (AL2.out.few (by omega) (by omega)) (AL2.out.many (by omega) (by omega)) ⟨kd,ws,by_,sq2,key2⟩ A4 c4 (fun _ e=>e) (y1.below BW.out) FW (by show ws.length<=1000; omega) KW (fun hp q e=>Nat.lt_of_lt_of_le (y4 hp q e) BW.out.size) AL2.out.x0 y5 y6 (AL2.out.stamp (by omega)))
       have AS:=fun (hf:farW ws=false)=>qh (AL2.out.step ⟨kd,ws,by_,sq2,key2⟩ (y2.fits hf).1 y5 y6)
       have OS3:=qh (OS2.out.step ⟨kd,ws,by_,sq2,key2⟩ x)
       obtain ⟨k0,k1,k2,k3,k4⟩:=CC.out _ bW
       clear hc hac y1 y2 y3 y4 y5 y6 ey hnw hab bW
       obtain ⟨Fa,hFa⟩:=nmq (farW ws)
       rw [<-hFa] at KF KD AS
       clear hFa
       go_wp2_with fail
       refine (KF.out _ _ HI.out).mono ?_
       rintro e w4 ⟨rfl,hb⟩
       have H4:=qh (HI.out.below hb)
       clear hb k0 k1 k2 k3 k4 KF
       by_cases hf:Fa=true
       ·subst hf
        have AL3:=qh AL2.out.more
        go_wp2_with fail
        go_roundw
        case rel=>exact ⟨i+1,m,x,by omega,by omega,by go_num,AL3,OS2,H4⟩
        case measure=>simp [intOf]; omega
       ·have hf:Fa=false:=by simpa using hf
        subst hf
        have KD2:=KD rfl
        have AS2:=AS rfl
        clear KD AS
        obtain ⟨k0,k1,k2,k3,k4⟩:=CC.out _ (below_then BW.out (BS.out _ _ H4.out))
        obtain ⟨m',hm'⟩:=nmq (stepM m ⟨kd,ws,by_,sq2,key2⟩ x)
        obtain ⟨x',hx'⟩:=nmq (stepX m ⟨kd,ws,by_,sq2,key2⟩ x)
        simp only [<-hm',<-hx'] at KD2 AS2 OS3
        have KN:=qh (fun W (h:Side w1 (fun k=>k<w1.heap.size) W [obP X'.out b m',obM p m',Ob.row g [.int .u64 x'] 26])=>lCounts X'.out (i:=0) (j:=1) h rfl rfl (AS2.out.few (by omega) (by omega)))
        clear hm' hx'
        go_wp2_with fail
        refine (KD2.out _ H4.out).mono ?_
        rintro e w5 ⟨rfl,h5⟩
        have H5:=qh h5
        clear h5 k0 k1 k2 k3 k4
        go_wp2_with fail
        refine (KN.out _ H5.out).mono ?_
        rintro e w6 ⟨rfl,h6⟩
        have H6:=qh h6
        clear h6
        go_wp2_with fail
        go_roundw
        case rel=>exact ⟨i+1,m',x',by omega,by omega,by go_num,AS2,OS3,H6⟩
        case measure=>simp [intOf]; omega
      ·obtain rfl:i=120:=by omega
       obtain ⟨e0,fe,el⟩:=OS2.out.again AL2.out.ok
       obtain ⟨q1,q2,q3,q4,q5⟩:=Rm.back (zs:=zs) (g1:=g1) (g2:=g2) (g3:=g3) AL2.out.ok
       have q5:=q5 key
       have mf:=AL2.out.few (by omega) (by omega)
       have ml:m.L.length<=3900:=mf.1.1
       have m2f:(Rm.new zs g1 g2 g3 m.seq (loadL m.ents)).Few:=⟨(Rm.ok_load e0 fe).2.mono (by omega) (by decide),Nat.zero_le _⟩
       have KSr:=qh (fun W os (h:Side w1 (fun k=>k<w1.heap.size) W os) (hi:os[0]?=some (obP X'.out b m))=>pAsk X'.out (T:=fun e _=>e=.returned (.int .i64 m.seq)) h hi fun F hP _=>X'.out.seq b F m W hP)
       have KLr:=qh (fun W os (h:Side w1 (fun k=>k<w1.heap.size) W os) (hi:os[0]?=some (obP X'.out b m))=>pAsk X'.out (T:=fun e _=>e=.returned (.int .i64 (m.L.live:Nat))) h hi fun F hP _=>X'.out.live b F m W hP mf)
       have KKr:=qh (fun W os (h:Side w1 (fun k=>k<w1.heap.size) W os) (hi:os[0]?=some (obP X'.out b m))=>pAsk X'.out (T:=fun e _=>e=.returned (.int .i64 (m.ents.length:Nat))) h hi fun F hP _=>X'.out.keys b F m W hP mf)
       have KGr:=qh (fun W os (h:Side w1 (fun k=>k<w1.heap.size) W os) (hi:os[0]?=some (obP X'.out b m))=>pAsk X'.out (T:=fun e _=>e=.returned (.tuple #[(atL (m.L.of key) m.seq).val.v,.bool (atOk (m.L.of key) m.seq)])) h hi fun F hP _=>X'.out.get b F m key m.seq W hP mf (by omega))
       have KEr:=qh (fun W os (h:Side w1 (fun k=>k<w1.heap.size) W os) (hi:os[0]?=some (obP X'.out b m))=>pAskB (T:=fun e w'=>∃ A c,e=.returned (.slice A m.ents.length c)∧SlEn w' A m.ents∧(0<m.ents.length->∃ g o,A=some ⟨g,o,none⟩∧W.heap.size<=g)) h hi fun F hP=>X'.out.entries b F m W hP mf)
       have KSx:=qh (fun b2 W os (h:Side w1 (fun k=>k<w1.heap.size) W os) (hi:os[3]?=some (obP X'.out b2 (Rm.new zs g1 g2 g3 m.seq (loadL m.ents))))=>pAsk X'.out (T:=fun e _=>e=.returned (.int .i64 m.seq)) h hi fun F hP _=>q1 ▸ X'.out.seq b2 F _ W hP)
       have KLx:=qh (fun b2 W os (h:Side w1 (fun k=>k<w1.heap.size) W os) (hi:os[3]?=some (obP X'.out b2 (Rm.new zs g1 g2 g3 m.seq (loadL m.ents))))=>pAsk X'.out (T:=fun e _=>e=.returned (.int .i64 (m.L.live:Nat))) h hi fun F hP _=>by have:=X'.out.live b2 F _ W hP m2f; rw [q2] at this; exact this)
       have KKx:=qh (fun b2 W os (h:Side w1 (fun k=>k<w1.heap.size) W os) (hi:os[3]?=some (obP X'.out b2 (Rm.new zs g1 g2 g3 m.seq (loadL m.ents))))=>pAsk X'.out (T:=fun e _=>e=.returned (.int .i64 (m.ents.length:Nat))) h hi fun F hP _=>by have:=X'.out.keys b2 F _ W hP m2f; rw [q3] at this; exact this)
       have KVx:=qh (fun b2 W os (h:Side w1 (fun k=>k<w1.heap.size) W os) (hi:os[3]?=some (obP X'.out b2 (Rm.new zs g1 g2 g3 m.seq (loadL m.ents))))=>pAsk X'.out (T:=fun e _=>e=.returned (.int .i64 (m.ents.length:Nat))) h hi fun F hP _=>by have:=X'.out.vers b2 F _ W hP m2f; rw [q4] at this; exact this)
       have KGx:=qh (fun b2 W os (h:Side w1 (fun k=>k<w1.heap.size) W os) (hi:os[3]?=some (obP X'.out b2 (Rm.new zs g1 g2 g3 m.seq (loadL m.ents))))=>pAsk X'.out (T:=fun e _=>e=.returned (.tuple #[(atL (m.L.of key) m.seq).val.v,.bool (atOk (m.L.of key) m.seq)])) h hi fun F hP _=>by have:=X'.out.get b2 F _ key m.seq W hP m2f (by omega); rw [q5.1,q5.2] at this; exact this)
       have KEy:=qh (fun b2 W os (h:Side w1 (fun k=>k<w1.heap.size) W os) (hi:os[3]?=some (obP X'.out b2 (Rm.new zs g1 g2 g3 m.seq (loadL m.ents))))=>show Calls Tryz.prog 37 #[PtrM b2] W fun e w'=>∃ A c,e=.returned (.slice A m.ents.length c)∧SlEn w' A m.ents∧Side w1 (fun k=>k<w1.heap.size) w' os∧Below W.heap.size W w' from by
        obtain ⟨F,hP⟩:=h.get hi
        have:=X'.out.entries b2 F _ W hP m2f
        rw [q3] at this
        exact this.mono fun e w' ⟨⟨A,c,u1,u2,_⟩,hb⟩=>⟨A,c,u1,u2,h.below hb,hb⟩)
       have KLd:=qh (fun W (h:Side w1 (fun k=>k<w1.heap.size) W [obP X'.out b m,obM p m,Ob.row g [.int .u64 x] 26]) A8 c8 (he:SlEn W A8 m.ents)=>pLoad X'.out h A c zs g1 g2 g3 m.seq m.ents A8 c8 (SLZ.out _ (below_then BW.out (BS.out _ _ h))) (by rw [<-HZ.out]; omega) HU.out he fe (by omega))
       have KSm:=qh (fun W A8 c8 A9 c9 (h8:SlEn W A8 m.ents) (h9:SlEn W A9 m.ents)=>rSame1 m.ents m.ents A8 A9 c8 c9 W h8 h9 (by omega) (by omega))
       simp only [e0,<-HZ.out,decide_true] at KLd KSm
       clear q1 q2 q3 q4 q5 mf ml m2f e0 fe el
       obtain ⟨m2,hm2⟩:=nmq (Rm.new zs g1 g2 g3 m.seq (loadL m.ents))
       simp only [<-hm2] at KSx KLx KKx KVx KGx KEy KLd
       obtain ⟨V,hV⟩:=nmq ((atL (m.L.of key) m.seq).val)
       obtain ⟨T,hT⟩:=nmq (atOk (m.L.of key) m.seq)
       simp only [<-hV,<-hT] at KGr KGx
       obtain ⟨sv,hsv⟩:=nmq (m.seq)
       obtain ⟨lv,hlv⟩:=nmq (m.L.live)
       obtain ⟨EE,hEE⟩:=nmq (m.ents)
       simp only [<-hsv,<-hlv,<-hEE] at KSr KLr KKr KGr KEr KSx KLx KKx KVx KGx KEy KLd KSm
       obtain ⟨nv,hnv⟩:=nmq (EE.length)
       simp only [<-hnv] at KKr KEr KKx KVx KEy KLd KSm
       clear hV hT hsv hlv hEE hnv hm2
       obtain ⟨nm,tx,bt⟩:=V
       obtain ⟨d0,d1,d2,d3⟩:=CB.out _ (below_then B1.out (BS.out _ _ HI.out))
       go_wp2_with fail
       have HD:=qh (HI.out.below (Below.refl wr.heap.size wr).drew)
       simp only [Val.v] at KGr KGx
       have EQ:∀ w,(binOp .eql 56 (.agg #[.bool nm,.string tx,.int .u64 (bt:Int)]) (.agg #[.bool nm,.string tx,.int .u64 (bt:Int)])).run Tryz.prog w=.ok (.bool true) w:=eql_selfV ⟨nm,tx,bt⟩
       refine wp_region_held_drew (S:=fun W:World=>W.cell? ⟨w.heap.size,0,none⟩=some (.slice A z c)∧W.cell? ⟨w.heap.size,1,none⟩=some (.int .i64 g1)∧W.cell? ⟨w.heap.size,2,none⟩=some (.int .i64 g2)∧W.cell? ⟨w.heap.size,3,none⟩=some (.int .i64 g3)) (by kernel_rfl) (CB.out _ (below_then B1.out (BS.out _ _ HD.out))) (fun gH=>?_)
       refine rgT 0 (v:=?v1) ?y1 gH ?_
       case y1=>(intro v hSw; obtain ⟨d0,d1,d2,d3⟩:=(show v.cell? ⟨w.heap.size,0,none⟩=some (.slice A z c)∧v.cell? ⟨w.heap.size,1,none⟩=some (.int .i64 g1)∧v.cell? ⟨w.heap.size,2,none⟩=some (.int .i64 g2)∧v.cell? ⟨w.heap.size,3,none⟩=some (.int .i64 g3) from hSw);go_simp<;>rfl)
       refine rgT 1 (v:=?v2) ?y2 gH ?_
       case y2=>(intro v hSw; obtain ⟨d0,d1,d2,d3⟩:=(show v.cell? ⟨w.heap.size,0,none⟩=some (.slice A z c)∧v.cell? ⟨w.heap.size,1,none⟩=some (.int .i64 g1)∧v.cell? ⟨w.heap.size,2,none⟩=some (.int .i64 g2)∧v.cell? ⟨w.heap.size,3,none⟩=some (.int .i64 g3) from hSw);go_simp<;>rfl)
       refine rgT 3 (v:=?v3) ?y3 gH ?_
       case y3=>(intro v hSw; obtain ⟨d0,d1,d2,d3⟩:=(show v.cell? ⟨w.heap.size,0,none⟩=some (.slice A z c)∧v.cell? ⟨w.heap.size,1,none⟩=some (.int .i64 g1)∧v.cell? ⟨w.heap.size,2,none⟩=some (.int .i64 g2)∧v.cell? ⟨w.heap.size,3,none⟩=some (.int .i64 g3) from hSw);go_simp<;>rfl)
       try simp only [putS]
       refine rgO 2 fun K hK=>?_
       go_simp
       refine (KSr.out _ _ HD.out rfl).mono ?_
       rintro e w7 ⟨rfl,h7⟩
       have H7:=qh h7
       clear h7
       refine hK.out _ _ (CB.out _ (below_then B1.out (BS.out _ _ H7.out))) (fun gH=>?_)
       clear hK K
       try simp only [putS]
       refine rgO 4 fun K hK=>?_
       go_simp
       refine (KEr.out _ _ H7.out rfl).mono ?_
       rintro e w8 ⟨⟨A8,c8,rfl,se8,_⟩,h8⟩
       have H8:=qh h8
       have SE8:=qh se8
       clear h8 se8
       refine hK.out _ _ (CB.out _ (below_then B1.out (BS.out _ _ H8.out))) (fun gH=>?_)
       clear hK K
       try simp only [putS]
       refine rgO 5 fun K hK=>?_
       go_simp
       refine (KLd.out _ H8.out A8 c8 SE8.out).mono ?_
       rintro e w9 (⟨ne,_⟩ | ⟨_,b2,rfl,h9⟩)
       case inl=>exact absurd rfl ne
       have H9:=qh h9
       clear h9
       refine hK.out _ _ (CB.out _ (below_then B1.out (BS.out _ _ H9.out))) (fun gH=>?_)
       clear hK K
       refine rgT 6 (v:=?v4) ?y4 gH ?_
       case y4=>(intro v hSw; obtain ⟨d0,d1,d2,d3⟩:=(show v.cell? ⟨w.heap.size,0,none⟩=some (.slice A z c)∧v.cell? ⟨w.heap.size,1,none⟩=some (.int .i64 g1)∧v.cell? ⟨w.heap.size,2,none⟩=some (.int .i64 g2)∧v.cell? ⟨w.heap.size,3,none⟩=some (.int .i64 g3) from hSw);go_simp<;>rfl)
       refine rgT 7 (v:=?v5) ?y5 gH ?_
       case y5=>(intro v hSw; obtain ⟨d0,d1,d2,d3⟩:=(show v.cell? ⟨w.heap.size,0,none⟩=some (.slice A z c)∧v.cell? ⟨w.heap.size,1,none⟩=some (.int .i64 g1)∧v.cell? ⟨w.heap.size,2,none⟩=some (.int .i64 g2)∧v.cell? ⟨w.heap.size,3,none⟩=some (.int .i64 g3) from hSw);go_simp<;>rfl)
       try simp only [putS]
       refine rgT 8 (v:=?v6) ?y6 gH ?_
       case y6=>(intro v hSw; obtain ⟨d0,d1,d2,d3⟩:=(show v.cell? ⟨w.heap.size,0,none⟩=some (.slice A z c)∧v.cell? ⟨w.heap.size,1,none⟩=some (.int .i64 g1)∧v.cell? ⟨w.heap.size,2,none⟩=some (.int .i64 g2)∧v.cell? ⟨w.heap.size,3,none⟩=some (.int .i64 g3) from hSw);go_simp<;>rfl)
       refine rgT 9 (v:=?v7) ?y7 gH ?_
       case y7=>(intro v hSw; obtain ⟨d0,d1,d2,d3⟩:=(show v.cell? ⟨w.heap.size,0,none⟩=some (.slice A z c)∧v.cell? ⟨w.heap.size,1,none⟩=some (.int .i64 g1)∧v.cell? ⟨w.heap.size,2,none⟩=some (.int .i64 g2)∧v.cell? ⟨w.heap.size,3,none⟩=some (.int .i64 g3) from hSw);go_simp<;>rfl)
       refine rgT 10 (v:=?v8) ?y8 gH ?_
       case y8=>(intro v hSw; obtain ⟨d0,d1,d2,d3⟩:=(show v.cell? ⟨w.heap.size,0,none⟩=some (.slice A z c)∧v.cell? ⟨w.heap.size,1,none⟩=some (.int .i64 g1)∧v.cell? ⟨w.heap.size,2,none⟩=some (.int .i64 g2)∧v.cell? ⟨w.heap.size,3,none⟩=some (.int .i64 g3) from hSw);go_simp<;>rfl)
       try simp only [putS]
       refine rgD ?_
       clear d0 d1 d2 d3
       go_wp2_with fail
       refine (KLx.out b2 _ _ H9.out rfl).mono ?_
       rintro e w10 ⟨rfl,h10⟩
       have H10:=qh h10
       clear h10 H9
       go_wp2_with fail
       refine (KLr.out _ _ H10.out rfl).mono ?_
       rintro e w11 ⟨rfl,h11⟩
       have H11:=qh h11
       clear h11 H10
       go_wp2_with fail
       refine (KKx.out b2 _ _ H11.out rfl).mono ?_
       rintro e w12 ⟨rfl,h12⟩
       have H12:=qh h12
       clear h12 H11
       go_wp2_with fail
       refine (KKr.out _ _ H12.out rfl).mono ?_
       rintro e w13 ⟨rfl,h13⟩
       have H13:=qh h13
       clear h13 H12
       go_wp2_with fail
       refine (KVx.out b2 _ _ H13.out rfl).mono ?_
       rintro e w14 ⟨rfl,h14⟩
       have H14:=qh h14
       clear h14 H13
       go_wp2_with fail
       refine (KKr.out _ _ H14.out rfl).mono ?_
       rintro e w15 ⟨rfl,h15⟩
       have H15:=qh h15
       clear h15 H14
       go_wp2_with fail
       refine (KSx.out b2 _ _ H15.out rfl).mono ?_
       rintro e w16 ⟨rfl,h16⟩
       have H16:=qh h16
       clear h16 H15
       go_wp2_with fail
       refine (KSr.out _ _ H16.out rfl).mono ?_
       rintro e w17 ⟨rfl,h17⟩
       have H17:=qh h17
       clear h17 H16
       go_wp2_with fail
       refine (KSr.out _ _ H17.out rfl).mono ?_
       rintro e w18 ⟨rfl,h18⟩
       have H18:=qh h18
       clear h18 H17
       go_wp2_with fail
       refine (KGr.out _ _ H18.out rfl).mono ?_
       rintro e w19 ⟨rfl,h19⟩
       have H19:=qh h19
       clear h19 H18
       go_wp2_with fail
       have R1:=qh (H19.out.rowNew [.bool nm,.string tx,.int .u64 (bt:Int)] 56)
       obtain ⟨G1,hG1⟩:=nmq (w19.heap.size)
       rw [<-hG1] at R1 ⊢
       clear hG1
       refine (KSx.out b2 _ _ R1.out rfl).mono ?_
       rintro e w20 ⟨rfl,h20⟩
       have H20:=qh h20
       clear h20 R1 H19
       go_wp2_with fail
       refine (KGx.out b2 _ _ H20.out rfl).mono ?_
       rintro e w21 ⟨rfl,h21⟩
       have R2:=qh (h21.rowNew [.bool nm,.string tx,.int .u64 (bt:Int)] 56)
       clear h21 H20
       have v0:=(R2.out.rowAt (i:=4) rfl).cell 0
       have v1:=(R2.out.rowAt (i:=4) rfl).cell 1
       have v2:=(R2.out.rowAt (i:=4) rfl).cell 2
       simp only [geS] at v0 v1 v2
       go_wp2_with fail
       refine (KEr.out _ _ R2.out rfl).mono ?_
       rintro e w22 ⟨⟨A8,c8,rfl,se8,_⟩,h22⟩
       have H22:=qh h22
       have S8:=qh se8
       clear h22 se8 R2 v0 v1 v2
       go_wp2_with fail
       refine (KEy.out b2 _ _ H22.out rfl).mono ?_
       rintro e w23 ⟨A9,c9,rfl,se9,h23,hb23⟩
       have S9:=qh se9
       have S8:=qh (slEn_below S8.out hb23)
       have B23:=qh (below_then BW.out (BS.out _ _ h23))
       clear h23 se9 hb23 H22
       go_wp2_with fail
       refine (KSm.out w23 A8 c8 A9 c9 S8.out S9.out).mono ?_
       rintro e w24 ⟨rfl,m24,rfl⟩
       have B24:=qh (show Below w.heap.size w (w23.drewN m24) from ⟨B23.out.os,B23.out.tape,B23.out.output,B23.out.size,B23.out.block⟩)
       go_wp2_with fail
       go_ret
       exact ⟨rfl,B24.out⟩
     ·obtain rfl:i=n:=by omega
      obtain ⟨e0,fe,el⟩:=OS2.out.again AL2.out.ok
      obtain ⟨q1,q2,q3,q4,q5⟩:=Rm.back (zs:=zs) (g1:=g1) (g2:=g2) (g3:=g3) AL2.out.ok
      have q5:=q5 key
      have mf:=AL2.out.few (by omega) (by omega)
      have ml:m.L.length<=3900:=mf.1.1
      have m2f:(Rm.new zs g1 g2 g3 m.seq (loadL m.ents)).Few:=⟨(Rm.ok_load e0 fe).2.mono (by omega) (by decide),Nat.zero_le _⟩
      have KSr:=qh (fun W os (h:Side w1 (fun k=>k<w1.heap.size) W os) (hi:os[0]?=some (obP X'.out b m))=>pAsk X'.out (T:=fun e _=>e=.returned (.int .i64 m.seq)) h hi fun F hP _=>X'.out.seq b F m W hP)
      have KLr:=qh (fun W os (h:Side w1 (fun k=>k<w1.heap.size) W os) (hi:os[0]?=some (obP X'.out b m))=>pAsk X'.out (T:=fun e _=>e=.returned (.int .i64 (m.L.live:Nat))) h hi fun F hP _=>X'.out.live b F m W hP mf)
      have KKr:=qh (fun W os (h:Side w1 (fun k=>k<w1.heap.size) W os) (hi:os[0]?=some (obP X'.out b m))=>pAsk X'.out (T:=fun e _=>e=.returned (.int .i64 (m.ents.length:Nat))) h hi fun F hP _=>X'.out.keys b F m W hP mf)
      have KGr:=qh (fun W os (h:Side w1 (fun k=>k<w1.heap.size) W os) (hi:os[0]?=some (obP X'.out b m))=>pAsk X'.out (T:=fun e _=>e=.returned (.tuple #[(atL (m.L.of key) m.seq).val.v,.bool (atOk (m.L.of key) m.seq)])) h hi fun F hP _=>X'.out.get b F m key m.seq W hP mf (by omega))
      have KEr:=qh (fun W os (h:Side w1 (fun k=>k<w1.heap.size) W os) (hi:os[0]?=some (obP X'.out b m))=>pAskB (T:=fun e w'=>∃ A c,e=.returned (.slice A m.ents.length c)∧SlEn w' A m.ents∧(0<m.ents.length->∃ g o,A=some ⟨g,o,none⟩∧W.heap.size<=g)) h hi fun F hP=>X'.out.entries b F m W hP mf)
      have KSx:=qh (fun b2 W os (h:Side w1 (fun k=>k<w1.heap.size) W os) (hi:os[3]?=some (obP X'.out b2 (Rm.new zs g1 g2 g3 m.seq (loadL m.ents))))=>pAsk X'.out (T:=fun e _=>e=.returned (.int .i64 m.seq)) h hi fun F hP _=>q1 ▸ X'.out.seq b2 F _ W hP)
      have KLx:=qh (fun b2 W os (h:Side w1 (fun k=>k<w1.heap.size) W os) (hi:os[3]?=some (obP X'.out b2 (Rm.new zs g1 g2 g3 m.seq (loadL m.ents))))=>pAsk X'.out (T:=fun e _=>e=.returned (.int .i64 (m.L.live:Nat))) h hi fun F hP _=>by have:=X'.out.live b2 F _ W hP m2f; rw [q2] at this; exact this)
      have KKx:=qh (fun b2 W os (h:Side w1 (fun k=>k<w1.heap.size) W os) (hi:os[3]?=some (obP X'.out b2 (Rm.new zs g1 g2 g3 m.seq (loadL m.ents))))=>pAsk X'.out (T:=fun e _=>e=.returned (.int .i64 (m.ents.length:Nat))) h hi fun F hP _=>by have:=X'.out.keys b2 F _ W hP m2f; rw [q3] at this; exact this)
      have KVx:=qh (fun b2 W os (h:Side w1 (fun k=>k<w1.heap.size) W os) (hi:os[3]?=some (obP X'.out b2 (Rm.new zs g1 g2 g3 m.seq (loadL m.ents))))=>pAsk X'.out (T:=fun e _=>e=.returned (.int .i64 (m.ents.length:Nat))) h hi fun F hP _=>by have:=X'.out.vers b2 F _ W hP m2f; rw [q4] at this; exact this)
      have KGx:=qh (fun b2 W os (h:Side w1 (fun k=>k<w1.heap.size) W os) (hi:os[3]?=some (obP X'.out b2 (Rm.new zs g1 g2 g3 m.seq (loadL m.ents))))=>pAsk X'.out (T:=fun e _=>e=.returned (.tuple #[(atL (m.L.of key) m.seq).val.v,.bool (atOk (m.L.of key) m.seq)])) h hi fun F hP _=>by have:=X'.out.get b2 F _ key m.seq W hP m2f (by omega); rw [q5.1,q5.2] at this; exact this)
      have KEy:=qh (fun b2 W os (h:Side w1 (fun k=>k<w1.heap.size) W os) (hi:os[3]?=some (obP X'.out b2 (Rm.new zs g1 g2 g3 m.seq (loadL m.ents))))=>show Calls Tryz.prog 37 #[PtrM b2] W fun e w'=>∃ A c,e=.returned (.slice A m.ents.length c)∧SlEn w' A m.ents∧Side w1 (fun k=>k<w1.heap.size) w' os∧Below W.heap.size W w' from by
       obtain ⟨F,hP⟩:=h.get hi
       have:=X'.out.entries b2 F _ W hP m2f
       rw [q3] at this
       exact this.mono fun e w' ⟨⟨A,c,u1,u2,_⟩,hb⟩=>⟨A,c,u1,u2,h.below hb,hb⟩)
      have KLd:=qh (fun W (h:Side w1 (fun k=>k<w1.heap.size) W [obP X'.out b m,obM p m,Ob.row g [.int .u64 x] 26]) A8 c8 (he:SlEn W A8 m.ents)=>pLoad X'.out h A c zs g1 g2 g3 m.seq m.ents A8 c8 (SLZ.out _ (below_then BW.out (BS.out _ _ h))) (by rw [<-HZ.out]; omega) HU.out he fe (by omega))
      have KSm:=qh (fun W A8 c8 A9 c9 (h8:SlEn W A8 m.ents) (h9:SlEn W A9 m.ents)=>rSame1 m.ents m.ents A8 A9 c8 c9 W h8 h9 (by omega) (by omega))
      simp only [e0,<-HZ.out,decide_true] at KLd KSm
      clear q1 q2 q3 q4 q5 mf ml m2f e0 fe el
      obtain ⟨m2,hm2⟩:=nmq (Rm.new zs g1 g2 g3 m.seq (loadL m.ents))
      simp only [<-hm2] at KSx KLx KKx KVx KGx KEy KLd
      obtain ⟨V,hV⟩:=nmq ((atL (m.L.of key) m.seq).val)
      obtain ⟨T,hT⟩:=nmq (atOk (m.L.of key) m.seq)
      simp only [<-hV,<-hT] at KGr KGx
      obtain ⟨sv,hsv⟩:=nmq (m.seq)
      obtain ⟨lv,hlv⟩:=nmq (m.L.live)
      obtain ⟨EE,hEE⟩:=nmq (m.ents)
      simp only [<-hsv,<-hlv,<-hEE] at KSr KLr KKr KGr KEr KSx KLx KKx KVx KGx KEy KLd KSm
      obtain ⟨nv,hnv⟩:=nmq (EE.length)
      simp only [<-hnv] at KKr KEr KKx KVx KEy KLd KSm
      clear hV hT hsv hlv hEE hnv hm2
      obtain ⟨nm,tx,bt⟩:=V
      obtain ⟨d0,d1,d2,d3⟩:=CB.out _ (below_then B1.out (BS.out _ _ HI.out))
      go_wp2_with fail
      have HD:=qh (HI.out.below (Below.refl wr.heap.size wr).drew)
      simp only [Val.v] at KGr KGx
      have EQ:∀ w,(binOp .eql 56 (.agg #[.bool nm,.string tx,.int .u64 (bt:Int)]) (.agg #[.bool nm,.string tx,.int .u64 (bt:Int)])).run Tryz.prog w=.ok (.bool true) w:=eql_selfV ⟨nm,tx,bt⟩
      refine wp_region_held_drew (S:=fun W:World=>W.cell? ⟨w.heap.size,0,none⟩=some (.slice A z c)∧W.cell? ⟨w.heap.size,1,none⟩=some (.int .i64 g1)∧W.cell? ⟨w.heap.size,2,none⟩=some (.int .i64 g2)∧W.cell? ⟨w.heap.size,3,none⟩=some (.int .i64 g3)) (by kernel_rfl) (CB.out _ (below_then B1.out (BS.out _ _ HD.out))) (fun gH=>?_)
      refine rgT 0 (v:=?v9) ?y9 gH ?_
      case y9=>(intro v hSw; obtain ⟨d0,d1,d2,d3⟩:=(show v.cell? ⟨w.heap.size,0,none⟩=some (.slice A z c)∧v.cell? ⟨w.heap.size,1,none⟩=some (.int .i64 g1)∧v.cell? ⟨w.heap.size,2,none⟩=some (.int .i64 g2)∧v.cell? ⟨w.heap.size,3,none⟩=some (.int .i64 g3) from hSw);go_simp<;>rfl)
      refine rgT 1 (v:=?v10) ?y10 gH ?_
      case y10=>(intro v hSw; obtain ⟨d0,d1,d2,d3⟩:=(show v.cell? ⟨w.heap.size,0,none⟩=some (.slice A z c)∧v.cell? ⟨w.heap.size,1,none⟩=some (.int .i64 g1)∧v.cell? ⟨w.heap.size,2,none⟩=some (.int .i64 g2)∧v.cell? ⟨w.heap.size,3,none⟩=some (.int .i64 g3) from hSw);go_simp<;>rfl)
      refine rgT 3 (v:=?v11) ?y11 gH ?_
      case y11=>(intro v hSw; obtain ⟨d0,d1,d2,d3⟩:=(show v.cell? ⟨w.heap.size,0,none⟩=some (.slice A z c)∧v.cell? ⟨w.heap.size,1,none⟩=some (.int .i64 g1)∧v.cell? ⟨w.heap.size,2,none⟩=some (.int .i64 g2)∧v.cell? ⟨w.heap.size,3,none⟩=some (.int .i64 g3) from hSw);go_simp<;>rfl)
      try simp only [putS]
      refine rgO 2 fun K hK=>?_
      go_simp
      refine (KSr.out _ _ HD.out rfl).mono ?_
      rintro e w7 ⟨rfl,h7⟩
      have H7:=qh h7
      clear h7
      refine hK.out _ _ (CB.out _ (below_then B1.out (BS.out _ _ H7.out))) (fun gH=>?_)
      clear hK K
      try simp only [putS]
      refine rgO 4 fun K hK=>?_
      go_simp
      refine (KEr.out _ _ H7.out rfl).mono ?_
      rintro e w8 ⟨⟨A8,c8,rfl,se8,_⟩,h8⟩
      have H8:=qh h8
      have SE8:=qh se8
      clear h8 se8
      refine hK.out _ _ (CB.out _ (below_then B1.out (BS.out _ _ H8.out))) (fun gH=>?_)
      clear hK K
      try simp only [putS]
      refine rgO 5 fun K hK=>?_
      go_simp
      refine (KLd.out _ H8.out A8 c8 SE8.out).mono ?_
      rintro e w9 (⟨ne,_⟩ | ⟨_,b2,rfl,h9⟩)
      case inl=>exact absurd rfl ne
      have H9:=qh h9
      clear h9
      refine hK.out _ _ (CB.out _ (below_then B1.out (BS.out _ _ H9.out))) (fun gH=>?_)
      clear hK K
      refine rgT 6 (v:=?v12) ?y12 gH ?_
      case y12=>(intro v hSw; obtain ⟨d0,d1,d2,d3⟩:=(show v.cell? ⟨w.heap.size,0,none⟩=some (.slice A z c)∧v.cell? ⟨w.heap.size,1,none⟩=some (.int .i64 g1)∧v.cell? ⟨w.heap.size,2,none⟩=some (.int .i64 g2)∧v.cell? ⟨w.heap.size,3,none⟩=some (.int .i64 g3) from hSw);go_simp<;>rfl)
      refine rgT 7 (v:=?v13) ?y13 gH ?_
      case y13=>(intro v hSw; obtain ⟨d0,d1,d2,d3⟩:=(show v.cell? ⟨w.heap.size,0,none⟩=some (.slice A z c)∧v.cell? ⟨w.heap.size,1,none⟩=some (.int .i64 g1)∧v.cell? ⟨w.heap.size,2,none⟩=some (.int .i64 g2)∧v.cell? ⟨w.heap.size,3,none⟩=some (.int .i64 g3) from hSw);go_simp<;>rfl)
      try simp only [putS]
      refine rgT 8 (v:=?v14) ?y14 gH ?_
      case y14=>(intro v hSw; obtain ⟨d0,d1,d2,d3⟩:=(show v.cell? ⟨w.heap.size,0,none⟩=some (.slice A z c)∧v.cell? ⟨w.heap.size,1,none⟩=some (.int .i64 g1)∧v.cell? ⟨w.heap.size,2,none⟩=some (.int .i64 g2)∧v.cell? ⟨w.heap.size,3,none⟩=some (.int .i64 g3) from hSw);go_simp<;>rfl)
      refine rgT 9 (v:=?v15) ?y15 gH ?_
      case y15=>(intro v hSw; obtain ⟨d0,d1,d2,d3⟩:=(show v.cell? ⟨w.heap.size,0,none⟩=some (.slice A z c)∧v.cell? ⟨w.heap.size,1,none⟩=some (.int .i64 g1)∧v.cell? ⟨w.heap.size,2,none⟩=some (.int .i64 g2)∧v.cell? ⟨w.heap.size,3,none⟩=some (.int .i64 g3) from hSw);go_simp<;>rfl)
      refine rgT 10 (v:=?v16) ?y16 gH ?_
      case y16=>(intro v hSw; obtain ⟨d0,d1,d2,d3⟩:=(show v.cell? ⟨w.heap.size,0,none⟩=some (.slice A z c)∧v.cell? ⟨w.heap.size,1,none⟩=some (.int .i64 g1)∧v.cell? ⟨w.heap.size,2,none⟩=some (.int .i64 g2)∧v.cell? ⟨w.heap.size,3,none⟩=some (.int .i64 g3) from hSw);go_simp<;>rfl)
      try simp only [putS]
      refine rgD ?_
      clear d0 d1 d2 d3
      go_wp2_with fail
      refine (KLx.out b2 _ _ H9.out rfl).mono ?_
      rintro e w10 ⟨rfl,h10⟩
      have H10:=qh h10
      clear h10 H9
      go_wp2_with fail
      refine (KLr.out _ _ H10.out rfl).mono ?_
      rintro e w11 ⟨rfl,h11⟩
      have H11:=qh h11
      clear h11 H10
      go_wp2_with fail
      refine (KKx.out b2 _ _ H11.out rfl).mono ?_
      rintro e w12 ⟨rfl,h12⟩
      have H12:=qh h12
      clear h12 H11
      go_wp2_with fail
      refine (KKr.out _ _ H12.out rfl).mono ?_
      rintro e w13 ⟨rfl,h13⟩
      have H13:=qh h13
      clear h13 H12
      go_wp2_with fail
      refine (KVx.out b2 _ _ H13.out rfl).mono ?_
      rintro e w14 ⟨rfl,h14⟩
      have H14:=qh h14
      clear h14 H13
      go_wp2_with fail
      refine (KKr.out _ _ H14.out rfl).mono ?_
      rintro e w15 ⟨rfl,h15⟩
      have H15:=qh h15
      clear h15 H14
      go_wp2_with fail
      refine (KSx.out b2 _ _ H15.out rfl).mono ?_
      rintro e w16 ⟨rfl,h16⟩
      have H16:=qh h16
      clear h16 H15
      go_wp2_with fail
      refine (KSr.out _ _ H16.out rfl).mono ?_
      rintro e w17 ⟨rfl,h17⟩
      have H17:=qh h17
      clear h17 H16
      go_wp2_with fail
      refine (KSr.out _ _ H17.out rfl).mono ?_
      rintro e w18 ⟨rfl,h18⟩
      have H18:=qh h18
      clear h18 H17
      go_wp2_with fail
      refine (KGr.out _ _ H18.out rfl).mono ?_
      rintro e w19 ⟨rfl,h19⟩
      have H19:=qh h19
      clear h19 H18
      go_wp2_with fail
      have R1:=qh (H19.out.rowNew [.bool nm,.string tx,.int .u64 (bt:Int)] 56)
      obtain ⟨G1,hG1⟩:=nmq (w19.heap.size)
      rw [<-hG1] at R1 ⊢
      clear hG1
      refine (KSx.out b2 _ _ R1.out rfl).mono ?_
      rintro e w20 ⟨rfl,h20⟩
      have H20:=qh h20
      clear h20 R1 H19
      go_wp2_with fail
      refine (KGx.out b2 _ _ H20.out rfl).mono ?_
      rintro e w21 ⟨rfl,h21⟩
      have R2:=qh (h21.rowNew [.bool nm,.string tx,.int .u64 (bt:Int)] 56)
      clear h21 H20
      have v0:=(R2.out.rowAt (i:=4) rfl).cell 0
      have v1:=(R2.out.rowAt (i:=4) rfl).cell 1
      have v2:=(R2.out.rowAt (i:=4) rfl).cell 2
      simp only [geS] at v0 v1 v2
      go_wp2_with fail
      refine (KEr.out _ _ R2.out rfl).mono ?_
      rintro e w22 ⟨⟨A8,c8,rfl,se8,_⟩,h22⟩
      have H22:=qh h22
      have S8:=qh se8
      clear h22 se8 R2 v0 v1 v2
      go_wp2_with fail
      refine (KEy.out b2 _ _ H22.out rfl).mono ?_
      rintro e w23 ⟨A9,c9,rfl,se9,h23,hb23⟩
      have S9:=qh se9
      have S8:=qh (slEn_below S8.out hb23)
      have B23:=qh (below_then BW.out (BS.out _ _ h23))
      clear h23 se9 hb23 H22
      go_wp2_with fail
      refine (KSm.out w23 A8 c8 A9 c9 S8.out S9.out).mono ?_
      rintro e w24 ⟨rfl,m24,rfl⟩
      have B24:=qh (show Below w.heap.size w (w23.drewN m24) from ⟨B23.out.os,B23.out.tape,B23.out.output,B23.out.size,B23.out.block⟩)
      go_wp2_with fail
      go_ret
      exact ⟨rfl,B24.out⟩

end Go.Proofs.YtbfgpdgiaclphaaGreat.roomLoads
