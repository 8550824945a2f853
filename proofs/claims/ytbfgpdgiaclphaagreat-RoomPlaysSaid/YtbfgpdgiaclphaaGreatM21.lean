/- Proved parts: B3d B3f B3a B3q. Conditions: each theorem's own. -/
import Derived.Test.YtbfgpdgiaclphaaGreatM20
import Derived.Test.YtbfgpdgiaclphaaGreatQ1
import Derived.Test.YtbfgpdgiaclphaaGreatQ2
set_option maxRecDepth 100000
set_option maxHeartbeats 8000000
namespace Go.Proofs.YtbfgpdgiaclphaaGreat
open Go.RowKit

structure Ac where
 kind:Int
 ws:List Wr
 by_:Int
 seq:Int
 key:ByteArray
def stepM (m:Rm) (a:Ac) (x:Int):Rm:=if a.kind=1 then m.com a.ws (x+a.by_) else if a.kind=2 then m.sw else m
def stepX (m:Rm) (a:Ac) (x:Int):Int:=if a.kind=1 then (if m.comE a.ws (x+a.by_)=0 then x+a.by_ else x) else x

theorem set_back {os:List Ob} {r A B C:Ob} {i j l:Nat} (hi:i<os.length) (hj:j<os.length) (hl:l<os.length):(((os++[r]).set i A).set j B).set l C=(((os.set i A).set j B).set l C)++[r]:=by
 rw [List.set_append_left _ _ hi,List.set_append_left _ _ (by rw [List.length_set]; exact hj),List.set_append_left _ _ (by rw [List.length_set,List.length_set]; exact hl)]
theorem set_get {os:List Ob} {o u:Ob} {i j:Nat} (h:os[j]?=some o) (ij:i≠j):(os.set i u)[j]?=some o:=by rw [List.getElem?_set_ne ij]; exact h
theorem stepM_1 (m:Rm) (a:Ac) (x:Int) (h:a.kind=1):stepM m a x=m.com a.ws (x+a.by_):=by unfold stepM; rw [if_pos h]
theorem stepM_2 (m:Rm) (a:Ac) (x:Int) (h:a.kind=2):stepM m a x=m.sw:=by unfold stepM; rw [if_neg (by omega),if_pos h]
theorem stepM_0 (m:Rm) (a:Ac) (x:Int) (h:a.kind≠1) (h2:a.kind≠2):stepM m a x=m:=by unfold stepM; rw [if_neg h,if_neg h2]
theorem stepX_0 (m:Rm) (a:Ac) (x:Int) (h:a.kind≠1):stepX m a x=x:=by unfold stepX; rw [if_neg h]

theorem lDoes {R:RelM} (X:RoomLo R) {w0 w:World} {N:Nat->Prop} {os:List Ob} {i j l b p g:Nat} {m:Rm} {x:Int} (h:Side w0 N w os) (hi:os[i]?=some (obP X b m)) (hj:os[j]?=some (obM p m)) (hl:os[l]?=some (Ob.row g [.int .u64 x] 26))
  (ij:i≠j) (il:i≠l) (jl:j≠l) (hb:m.Few) (hv:m.L.vers<=1000000) (a:Ac) (A:Option Addr) (c:Nat) (hN:∀ k,k<w0.heap.size->N k)
  (hw:SlWr w0 A a.ws) (hf:FitsW a.ws) (hn:a.ws.length<=1000) (hk:∀ y,y ∈ a.ws->y.key.size<=1000∧y.val.txt.size<=1000) (hA:0<a.ws.length->∀ q,A=some q->q.block<w0.heap.size) (x0:0<=x) (y0:0<=a.by_) (y1:a.by_<=255) (x1:x<=1000000) :
  Calls Tryz.prog 20 #[PtrM b,PtrM p,.agg #[.int .i64 a.kind,.slice A a.ws.length c,.int .u8 a.by_,.int .i64 a.seq,.string a.key],.pointer (some ⟨g,0,none⟩)] w fun e w'=>e=.returned (.bool true) ∧
   Side w0 N w' (((os.set i (obP X b (stepM m a x))).set j (obM p (stepM m a x))).set l (Ob.row g [.int .u64 (stepX m a x)] 26)):=by
 have ok:=pOk X h hi
 have li:=(List.getElem?_eq_some_iff.1 hi).1
 have lj:=(List.getElem?_eq_some_iff.1 hj).1
 have ll:=(List.getElem?_eq_some_iff.1 hl).1
 have SW:=qh (fun W os' (h:Side w0 N W os')=>show SlWr W A a.ws from hw.below (h.base (Nat.le_refl _) hN))
 have NA:=qh (fun hp q (e:A=some q)=>hN q.block (hA hp q e))
 have GW:=qh (fun W os' (h:Side w0 N W os') F (hn':∀ k,F k->¬ N k)=>show GoodW W F A a.ws from ⟨SW.out W os' h,hf,hn,fun hp q e f=>hn' _ f (NA.out hp q e),hk⟩)
 obtain ⟨B,hB⟩:=nmq (w.heap.size)
 have h0:=h.rowNew [.int .i64 a.kind,.slice A a.ws.length c,.int .u8 a.by_,.int .i64 a.seq,.string a.key] 37
 rw [<-hB] at h0
 obtain ⟨os1,ho1⟩:=nmq (os++[Ob.row B [.int .i64 a.kind,.slice A a.ws.length c,.int .u8 a.by_,.int .i64 a.seq,.string a.key] 37])
 rw [<-ho1] at h0
 have I1:=qh (show os1[i]?=some (obP X b m) from by rw [ho1]; exact Side.idx hi)
 have J1:=qh (show os1[j]?=some (obM p m) from by rw [ho1]; exact Side.idx hj)
 have L1:=qh (show os1[l]?=some (Ob.row g [.int .u64 x] 26) from by rw [ho1]; exact Side.idx hl)
 have R1:=qh (show os1[os.length]?=some (Ob.row B [.int .i64 a.kind,.slice A a.ws.length c,.int .u8 a.by_,.int .i64 a.seq,.string a.key] 37) from by rw [ho1]; exact Side.last)
 have BK:=qh (fun W A B C (h:Side w0 N W (((os1.set i A).set j B).set l C))=>show Side w0 N W (((os.set i A).set j B).set l C) from by
  rw [ho1,set_back li lj ll] at h
  exact h.drop)
 have KC:=qh (fun W s (h:Side w0 N W os1) (s0:0<=s) (s1:s<=18446744073709551615)=>pCall X (T:=fun e _=>e=.returned (.tuple #[.int .i64 (m.comN a.ws s),.int .i64 (m.comE a.ws s)])) h I1.out fun F hP hn'=>X.commit b F m a.ws A c s W hP hb (GW.out W os1 h F hn') s0 s1)
 have KM:=qh (fun W s o (h:Side w0 N W (os1.set i o))=>mCommit h (set_get J1.out ij) ok hb a.ws A c s (SW.out W _ h) hf hn NA.out)
 have KS:=qh (fun W (h:Side w0 N W os1)=>pCall X (T:=fun e _=>e=.returned (.int .i64 m.gone)) (m':=m.sw) h I1.out fun F hP _=>X.sweep b F m W hP hb)
 have KT:=qh (fun W o (h:Side w0 N W (os1.set i o))=>mSweep h (set_get J1.out ij) ok hb hv)
 have KK:=qh (fun W (h:Side w0 N W os1)=>pAsk X (T:=fun e _=>e=.returned (.int .i64 (m.chk a.ws a.seq))) h I1.out fun F hP hn'=>X.check b F m a.ws A c a.seq W hP hb (GW.out W os1 h F hn'))
 have KL:=qh (fun W (h:Side w0 N W os1)=>mCheck h J1.out ok hb a.ws A c a.seq (SW.out W _ h) hf hn)
 have SM:=qh (fun W (h:Side w0 N W os1)=>show Side w0 N W (((os1.set i (obP X b m)).set j (obM p m)).set l (Ob.row g [.int .u64 x] 26)) from by
  rw [set_same I1.out,set_same J1.out,set_same L1.out]; exact h)
 have S2:=qh (fun W A B (h:Side w0 N W ((os1.set i A).set j B))=>show Side w0 N W (((os1.set i A).set j B).set l (Ob.row g [.int .u64 x] 26)) from by
  rw [set_same (set_get (set_get L1.out il) jl)]; exact h)
 have S3:=qh (fun W A B W' s (h:Side w0 N W ((os1.set i A).set j B)) (hc:Chg (fun k=>k=g) W W') (hr:RowAt W' g [.int .u64 s] 26)=>h.rowSet (set_get (set_get L1.out il) jl) hc hr)
 have RG:=qh (fun W A B (h:Side w0 N W ((os1.set i A).set j B))=>h.rowAt (set_get (set_get L1.out il) jl))
 have RB:=qh (fun W o (h:Side w0 N W (os1.set i o))=>h.rowAt (set_get R1.out (by omega)))
 have RI:=qh I1.out
 have H0:=qh h0
 have HB:=qh hB
 have M1:=qh (stepM_1 m a x)
 have M2:=qh (stepM_2 m a x)
 have M0:=qh (stepM_0 m a x)
 have X0:=qh (stepX_0 m a x)
 have X1:=qh (show a.kind=1->stepX m a x=if m.comE a.ws (x+a.by_)=0 then x+a.by_ else x from fun e=>by unfold stepX; rw [if_pos e])
 obtain ⟨m',hm'⟩:=nmq (stepM m a x)
 obtain ⟨x',hx'⟩:=nmq (stepX m a x)
 rw [<-hm',<-hx']
 simp only [<-hm'] at M1 M2 M0
 simp only [<-hx'] at X0 X1
 have ra:=H0.out.rowAt R1.out
 have rg:=H0.out.rowAt L1.out
 obtain ⟨kd,ws,by_,sq,key⟩:=a
 have y0:0<=by_:=y0
 have y1:by_<=255:=y1
 obtain ⟨n,hn2⟩:=nmq (ws.length)
 have ra:RowAt (w.alloc (.cells #[.int .i64 kd,.slice A ws.length c,.int .u8 by_,.int .i64 sq,.string key] 37)) B [.int .i64 kd,.slice A ws.length c,.int .u8 by_,.int .i64 sq,.string key] 37:=ra
 have rg:RowAt (w.alloc (.cells #[.int .i64 kd,.slice A ws.length c,.int .u8 by_,.int .i64 sq,.string key] 37)) g [.int .u64 x] 26:=rg
 show Calls Tryz.prog 20 #[PtrM b,PtrM p,.agg #[.int .i64 kd,.slice A ws.length c,.int .u8 by_,.int .i64 sq,.string key],.pointer (some ⟨g,0,none⟩)] w _
 have QC:Hid (∀ W s,Side w0 N W os1->0<=s->s<=18446744073709551615->Calls Tryz.prog 26 #[PtrM b,.slice A n c,.int .u64 s] W fun e w'=>e=.returned (.tuple #[.int .i64 (m.comN ws s),.int .i64 (m.comE ws s)])∧Side w0 N w' (os1.set i (obP X b (m.com ws s)))):=by rw [hn2]; exact KC
 have QB:Hid (∀ W o,Side w0 N W (os1.set i o)->RowAt W B [.int .i64 kd,.slice A n c,.int .u8 by_,.int .i64 sq,.string key] 37):=by rw [hn2]; exact RB
 have QM:Hid (∀ W s o,Side w0 N W (os1.set i o)->Calls Tryz.prog 65 #[PtrM p,.slice A n c,.int .u64 s] W fun e w'=>e=.returned (.tuple #[.int .i64 (m.comN ws s),.int .i64 (m.comE ws s)])∧Side w0 N w' ((os1.set i o).set j (obM p (m.com ws s)))):=by rw [hn2]; exact KM
 have QK:Hid (∀ W,Side w0 N W os1->Calls Tryz.prog 32 #[PtrM b,.slice A n c,.int .i64 sq] W fun e w'=>e=.returned (.int .i64 (m.chk ws sq))∧Side w0 N w' os1):=by rw [hn2]; exact KK
 have QL:Hid (∀ W,Side w0 N W os1->Calls Tryz.prog 67 #[PtrM p,.slice A n c,.int .i64 sq] W fun e w'=>e=.returned (.int .i64 (m.chk ws sq))∧Side w0 N w' os1):=by rw [hn2]; exact KL
 have E1:Hid (kd=1->m'=m.com ws (x+by_)):=M1
 have E2:Hid (kd=2->m'=m.sw):=M2
 have E0:Hid (kd≠1->kd≠2->m'=m):=M0
 have Y0:Hid (kd≠1->x'=x):=X0
 have Y1:Hid (kd=1->x'=if m.comE ws (x+by_)=0 then x+by_ else x):=X1
 clear KC RB KM KK KL M1 M2 M0 X0 X1
 rw [<-hn2] at ra rg ⊢
 have a0:=ra.cell 0
 have a1:=ra.cell 1
 have a2:=ra.cell 2
 have a3:=ra.cell 3
 have g0:=rg.cell 0
 simp only [geS] at a0 a1 a2 a3 g0
 have H0:Hid (Side w0 N (w.alloc (.cells #[.int .i64 kd,.slice A ws.length c,.int .u8 by_,.int .i64 sq,.string key] 37)) os1):=H0
 rw [<-hn2] at H0
 clear h hi hj hl hb hv hN hw hf hn hk hA ok li lj ll hB h0 ho1 hm' hx' ra rg SW NA GW I1 J1 L1 R1 hn2
 have hBe:=HB.out
 clear HB
 subst hBe
 go_enter Tryz.func20,Tryz.ntmps20
 by_cases k1:kd=1
 ·subst k1
  have em:=qh (E1.out rfl)
  have ex:=qh (Y1.out rfl)
  obtain ⟨s,hs⟩:=nmq (x+by_)
  rw [<-hs] at em ex
  have QC1:=qh (fun W h=>QC.out W s h (by omega) (by omega))
  have KM2:=qh (fun W o h=>QM.out W s o h)
  obtain ⟨Nn,hNn⟩:=nmq (m.comN ws s)
  obtain ⟨E,hE⟩:=nmq (m.comE ws s)
  simp only [<-hNn,<-hE] at QC1 KM2
  rw [<-hE] at ex
  have u1:IntKind.u64.wrap by_=by_:=by rw [IntKind.wrap_u64]; omega
  have u2:IntKind.u64.wrap (x+by_)=s:=by rw [IntKind.wrap_u64]; omega
  clear hNn hE hs QM KS KT QK QL SM E1 E2 E0 Y0 Y1
  go_wp2_with fail
  go_quiet (fail)
  go_wp2_with fail
  refine Calls.mono (by with_reducible exact QC1.out _ (H0.out.below (below_drewN (Below.refl _ _) _))) ?_
  rintro e w1 ⟨rfl,h1⟩
  have b1:=(QB.out w1 _ h1).cell 1
  simp only [geS] at b1
  have H1:=qh h1
  clear h1 a0 a1 a2 a3 g0 QC QC1 u1 u2
  go_wp2_with fail
  refine (KM2.out _ _ H1.out).mono ?_
  rintro e w2 ⟨rfl,h2⟩
  have H2:=qh h2
  clear h2 b1 KM2
  by_cases e0:E=0
  ·subst e0
   have r2:=RG.out _ _ _ H2.out
   have g2:=r2.cell 0
   have f2:=r2.frozen 0
   simp only [List.getElem?_cons_zero] at g2
   have H3:=qh (BK.out _ _ _ _ (S3.out w2 _ _ (w2.setCell ⟨g,0,none⟩ (.int .u64 s)) s H2.out (Chg.setCell (F:=fun k=>k=g) (Chg.refl _ _) (.inl rfl) _) (r2.set 0 (.int .u64 s))))
   have ex:=qh (ex.out.trans (if_pos rfl))
   clear r2
   go_wp2_with fail
   go_ret
   exact ⟨by first | rfl | simp,by rw [em.out,ex.out]; exact H3.out⟩
  ·have H3:=qh (BK.out _ _ _ _ (S2.out w2 _ _ H2.out))
   have ex:=qh (ex.out.trans (if_neg e0))
   go_wp2_with fail
   go_ret
   exact ⟨by first | rfl | simp,by rw [em.out,ex.out]; exact H3.out⟩
 by_cases k2:kd=2
 ·subst k2
  have em:=qh (E2.out rfl)
  have ex:=qh (Y0.out (by decide))
  obtain ⟨V,hV⟩:=nmq (m.gone)
  simp only [<-hV] at KS KT
  clear hV QC QM QK QL SM E1 E2 E0 Y0 Y1 k1
  go_wp2_with fail
  refine (KS.out _ H0.out).mono ?_
  rintro e w1 ⟨rfl,h1⟩
  have H1:=qh h1
  clear h1 a0 a1 a2 a3 g0 KS
  go_wp2_with fail
  refine (KT.out _ _ H1.out).mono ?_
  rintro e w2 ⟨rfl,h2⟩
  have H3:=qh (BK.out _ _ _ _ (S2.out w2 _ _ h2))
  clear h2 KT
  go_wp2_with fail
  go_ret
  exact ⟨by first | rfl | simp,by rw [em.out,ex.out]; exact H3.out⟩
 have em:=qh (E0.out k1 k2)
 have ex:=qh (Y0.out k1)
 by_cases k3:kd=3
 ·subst k3
  obtain ⟨V,hV⟩:=nmq (m.chk ws sq)
  simp only [<-hV] at QK QL
  have a1H:=qh a1
  have a3H:=qh a3
  have RA:=qh (fun W (h:Side w0 N W os1)=>show W.cell? ⟨w.heap.size,1,none⟩=some (.slice A n c)∧W.cell? ⟨w.heap.size,3,none⟩=some (.int .i64 sq) from by
   have r:=QB.out W (obP X b m) (by rw [set_same RI.out]; exact h)
   exact ⟨r.cell 1,r.cell 3⟩)
  clear hV QC QM KS KT E1 E2 E0 Y0 Y1 k1 k2
  go_wp2_with fail
  clear a0 a1 a2 a3 g0
  refine wp_region_held_drew (S:=(fun w'=>w'.cell? ⟨w.heap.size,1,none⟩=some (.slice A n c)∧w'.cell? ⟨w.heap.size,3,none⟩=some (.int .i64 sq))) (by kernel_rfl) (⟨a1H.out,a3H.out⟩) (fun gH=>?_)
  refine rgT 0 (v:=?v1) ?y1 gH ?_
  case y1=>(intro v hSw; go_simp<;>rfl)
  refine rgT 1 (v:=?v2) ?y2 gH ?_
  case y2=>(intro v hSw; go_simp<;>rfl)
  refine rgT 2 (v:=?v3) ?y3 gH ?_
  case y3=>(intro v hSw; go_simp<;>rfl)
  try simp only [putS]
  refine rgT 3 (v:=?v4) ?y4 gH ?_
  case y4=>(intro v hSw; go_simp<;>rfl)
  refine rgT 4 (v:=?v5) ?y5 gH ?_
  case y5=>(intro v hSw; go_simp<;>rfl)
  refine rgT 6 (v:=?v6) ?y6 gH ?_
  case y6=>(intro v hSw; go_simp<;>rfl)
  try simp only [putS]
  refine rgT 7 (v:=?v7) ?y7 gH ?_
  case y7=>(intro v hSw; go_simp<;>rfl)
  refine rgT 8 (v:=?v8) ?y8 gH ?_
  case y8=>(intro v hSw; go_simp<;>rfl)
  refine rgT 9 (v:=?v9) ?y9 gH ?_
  case y9=>(intro v hSw; go_simp<;>rfl)
  try simp only [putS]
  refine rgT 10 (v:=?v10) ?y10 gH ?_
  case y10=>(intro v hSw; go_simp<;>rfl)
  try simp only [putS]
  refine rgO 5 fun K hK=>?_
  go_simp
  refine Calls.mono (by with_reducible exact QK.out _ (H0.out.below (below_drew (Below.refl _ _)))) ?_
  rintro e w1 ⟨rfl,h1⟩
  have H1:=qh h1
  clear h1
  refine hK.out _ _ (RA.out _ H1.out) (fun gH=>?_)
  clear hK K
  try simp only [putS]
  refine rgO 11 fun K hK=>?_
  go_simp
  refine (QL.out _ H1.out).mono ?_
  rintro e w2 ⟨rfl,h2⟩
  have H2:=qh h2
  clear h2
  refine hK.out _ _ (RA.out _ H2.out) (fun gH=>?_)
  clear hK K
  refine rgT 12 (v:=?v11) ?y11 gH ?_
  case y11=>(intro v hSw; go_simp<;>rfl)
  refine rgT 13 (v:=?v12) ?y12 gH ?_
  case y12=>(intro v hSw; go_simp<;>rfl)
  try simp only [putS]
  refine rgD ?_
  have H3:=qh (BK.out _ _ _ _ (SM.out w2 H2.out))
  go_wp2_with fail
  go_ret
  exact ⟨by first | rfl | simp,by rw [em.out,ex.out]; exact H3.out⟩
 ·have H3:=qh (BK.out _ _ _ _ (SM.out _ H0.out))
  clear QC QM KS KT QK QL E1 E2 E0 Y0 Y1
  go_wp2_with fail
  go_ret
  exact ⟨rfl,by rw [em.out,ex.out]; exact H3.out⟩

def bigW (x:Wr):Bool:=decide (200<x.key.size) || decide (200<x.val.txt.size)
def farW (ws:List Wr):Bool:=decide (30<ws.length) || ws.any bigW
theorem farW_no {ws:List Wr} (h:farW ws=false):ws.length<=30∧∀ x,x ∈ ws->x.key.size<=200∧x.val.txt.size<=200:=by
 unfold farW at h
 simp only [Bool.or_eq_false_iff,decide_eq_false_iff_not,List.any_eq_false] at h
 refine ⟨by omega,fun x hx=>?_⟩
 have:=h.2 x hx
 unfold bigW at this
 simp only [Bool.or_eq_true,decide_eq_true_eq,not_or] at this
 omega
def InW (ws:List Wr):Prop:=∀ x,x ∈ ws->x.key.size<=maxLen∧x.val.Fits
theorem InW.fits {ws:List Wr} (h:InW ws) (hf:farW ws=false):FitsW ws∧∀ x,x ∈ ws->x.key.size<=1000∧x.val.txt.size<=1000:=by
 have f:=(farW_no hf).2
 exact ⟨fun x hx=>⟨(h x hx).2,by have:=(f x hx).1; omega⟩,fun x hx=>by have:=f x hx; omega⟩

theorem lFar (ws:List Wr) (A:Option Addr) (c:Nat) (w:World) (h:SlWr w A ws) :
  Calls Tryz.prog 15 #[.slice A ws.length c] w fun e w'=>e=.returned (.bool (farW ws))∧Below w.heap.size w w':=by
 obtain ⟨n,hn⟩:=nmq (ws.length)
 obtain ⟨T,hT⟩:=nmq (farW ws)
 rw [<-hn]
 rw [<-hT]
 by_cases z:30<n
 ·have e:T=true:=by rw [hT]; unfold farW; rw [decide_eq_true (by omega)]; rfl
  subst e
  have B0:=qh (Below.refl w.heap.size w)
  clear h hn hT
  go_enter Tryz.func15,Tryz.ntmps15
  go_wp2_with fail
  go_ret
  exact ⟨rfl,B0.out⟩
 have FY:=qh (fun i (hi:i<n) (h:bigW (ws.getD i Wr.Z)=true)=>show T=true from by
  rw [hT]; unfold farW
  rw [show ws.any bigW=true from List.any_eq_true.2 ⟨ws.getD i Wr.Z,by rw [List.getD_eq_getElem?_getD,List.getElem?_eq_getElem (by omega)]; exact List.getElem_mem _,h⟩,Bool.or_true])
 have FN:=qh (fun (h:∀ i,i<n->bigW (ws.getD i Wr.Z)=false)=>show T=false from by
  rw [hT]; unfold farW
  rw [decide_eq_false (by omega),Bool.false_or,List.any_eq_false]
  intro x hx
  obtain ⟨i,hi,rfl⟩:=List.mem_iff_getElem.1 hx
  have:=h i (by omega)
  rw [List.getD_eq_getElem?_getD,List.getElem?_eq_getElem hi] at this
  exact Bool.eq_false_iff.1 this)
 have HS:=qh h
 have HN:=qh hn
 clear h hn hT
 go_enter Tryz.func15,Tryz.ntmps15
 go_wp2_with fail
 go_loopw [3] (fun vi wr=>∃ i:Nat,i<=n∧vi=.int .i64 i∧Hid (∀ j,j<i->bigW (ws.getD j Wr.Z)=false)∧wr=w) (fun vi _=>n-(intOf vi).toNat)
 case atStart=>exact ⟨0,Nat.zero_le _,rfl,qh (fun j hj=>by cases hj),rfl⟩
 case round =>
  obtain ⟨i,hi,rfl,HM,rfl⟩:=hrel
  by_cases q:i<n
  ·obtain ⟨b,o,rfl,hb,c0,c1,c2,c3,c4⟩:=HS.out.at (j:=i) (by rw [<-HN.out]; exact q)
   have i0:(0:Int)<=(i:Int):=by omega
   have i1:(i:Int)<(n:Int):=by omega
   have FY:=qh (FY.out i q)
   have ST:=qh (fun (h:bigW (ws.getD i Wr.Z)=false)=>show ∀ j,j<i+1->bigW (ws.getD j Wr.Z)=false from fun j hj=>by
    by_cases e:j=i
    ·rw [e]; exact h
    ·exact HM.out j (by omega))
   obtain ⟨x,hx⟩:=nmq (ws.getD i Wr.Z)
   rw [<-hx] at c0 c3 FY ST
   obtain ⟨k,g,v⟩:=x
   obtain ⟨mm,t,u⟩:=v
   have c0:wr.cell? ⟨b,o+i * 5,none⟩=some (.string k):=c0
   have c3:wr.cell? ⟨b,o+i * 5+3,none⟩=some (.string t):=c3
   have eb:bigW ⟨k,g,⟨mm,t,u⟩⟩=(decide (200<k.size) || decide (200<t.size)):=rfl
   have EB:=qh eb
   clear hx eb c1 c2 c4 hb
   by_cases z1:200<k.size
   ·have ET:=qh (FY.out (by rw [EB.out,decide_eq_true z1]; rfl))
    go_wp2_with fail
    go_ret
    exact ⟨by rw [ET.out]; rfl,Below.refl _ _⟩
   ·by_cases z2:200<t.size
    ·have ET:=qh (FY.out (by rw [EB.out,decide_eq_true z2,Bool.or_true]))
     go_wp2_with fail
     go_ret
     exact ⟨by rw [ET.out]; rfl,Below.refl _ _⟩
    ·have SS:=qh (ST.out (by rw [EB.out,decide_eq_false z1,decide_eq_false z2]; rfl))
     go_wp2_with fail
     go_roundw
     case rel=>exact ⟨i+1,by omega,by go_num,SS,by first | trivial | rfl⟩
     case measure=>simp [intOf]; omega
  ·obtain rfl:i=n:=by omega
   have ET:=qh (FN.out HM.out)
   go_wp2_with fail
   go_ret
   exact ⟨by rw [ET.out]; rfl,Below.refl _ _⟩
structure RoomAw (R:RelM):Prop where
 keep:∀ {w w':World} {b:Nat} {F:Nat->Prop} {m:Rm},R w b F m->(∀ k,F k->w'.heap[k]?=w.heap[k]?)->w.heap.size<=w'.heap.size->R w' b F m
 lt:∀ {w:World} {b:Nat} {F:Nat->Prop} {m:Rm} {k:Nat},R w b F m->F k->k<w.heap.size
 new:∀ (A:Option Addr) (c:Nat) (zs:List Int) (g1 g2 g3:Int) (w:World),Sl w A zs->zs.length<=1000->La.U64 zs →
  Calls Tryz.prog 11 #[.agg #[.slice A zs.length c,.int .i64 g1,.int .i64 g2,.int .i64 g3]] w fun e w'=>Below w.heap.size w w' ∧
   ((stOk zs g1 g2 g3=true∧∃ b F,e=.returned (.tuple #[PtrM b,.int .i64 0])∧R w' b F (Rm.new zs g1 g2 g3 0 [])∧∀ k,F k->w.heap.size<=k) ∨
    (stOk zs g1 g2 g3=false∧e=.returned (.tuple #[.pointer none,.int .i64 1])))
 check:∀ (b:Nat) (F:Nat->Prop) (m:Rm) (ws:List Wr) (A:Option Addr) (c:Nat) (s:Int) (w:World),R w b F m->m.Few->GoodW w F A ws →
  Calls Tryz.prog 32 #[PtrM b,.slice A ws.length c,.int .i64 s] w fun e w'=>e=.returned (.int .i64 (m.chk ws s))∧LeftM R b F w m w'
 nil_:∀ (ws:List Wr) (A:Option Addr) (c:Nat) (k:ByteArray) (s x:Int) (w:World),
  (Calls Tryz.prog 24 #[.pointer none] w fun e w'=>(∃ A c,e=.returned (.agg #[.slice A 0 c,.int .i64 0,.int .i64 0,.int .i64 0]))∧Below w.heap.size w w') ∧
  (Calls Tryz.prog 27 #[.pointer none] w fun e w'=>e=.returned (.int .i64 0)∧Below w.heap.size w w') ∧
  (Calls Tryz.prog 29 #[.pointer none] w fun e w'=>e=.returned (.int .i64 0)∧Below w.heap.size w w') ∧
  (Calls Tryz.prog 16 #[.pointer none,.int .u64 x] w fun e w'=>e=.returned (.tuple #[.int .i64 0,.int .i64 2])∧Below w.heap.size w w') ∧
  (Calls Tryz.prog 30 #[.pointer none,.string k,.int .i64 s] w fun e w'=>e=.returned (.tuple #[Val.V0.v,.bool false])∧Below w.heap.size w w') ∧
  (Calls Tryz.prog 31 #[.pointer none,.string k,.int .i64 s] w fun e w'=>e=.returned (.tuple #[.string ⟨#[]⟩,Val.V0.v,.bool false])∧Below w.heap.size w w') ∧
  (Calls Tryz.prog 40 #[.pointer none,.string k,.int .i64 s] w fun e w'=>e=.returned (.tuple #[.string ⟨#[]⟩,Val.V0.v,.bool false])∧Below w.heap.size w w') ∧
  (Calls Tryz.prog 32 #[.pointer none,.slice A ws.length c,.int .i64 s] w fun e w'=>e=.returned (.int .i64 2)∧Below w.heap.size w w') ∧
  (Calls Tryz.prog 26 #[.pointer none,.slice A ws.length c,.int .u64 x] w fun e w'=>e=.returned (.tuple #[.int .i64 0,.int .i64 2])∧Below w.heap.size w w') ∧
  (Calls Tryz.prog 28 #[.pointer none] w fun e w'=>e=.returned (.int .i64 0)∧Below w.heap.size w w') ∧
  (Calls Tryz.prog 33 #[.pointer none] w fun e w'=>e=.returned (.int .i64 0)∧Below w.heap.size w w') ∧
  (Calls Tryz.prog 34 #[.pointer none] w fun e w'=>e=.returned (.int .i64 0)∧Below w.heap.size w w') ∧
  (Calls Tryz.prog 35 #[.pointer none] w fun e w'=>e=.returned (.int .i64 0)∧Below w.heap.size w w') ∧
  (Calls Tryz.prog 37 #[.pointer none] w fun e w'=>(∃ A c,e=.returned (.slice A 0 c))∧Below w.heap.size w w')
structure RoomA0 (R:RelM):Prop where
 keep:∀ {w w':World} {b:Nat} {F:Nat->Prop} {m:Rm},R w b F m->(∀ k,F k->w'.heap[k]?=w.heap[k]?)->w.heap.size<=w'.heap.size->R w' b F m
 lt:∀ {w:World} {b:Nat} {F:Nat->Prop} {m:Rm} {k:Nat},R w b F m->F k->k<w.heap.size
 new:∀ (A:Option Addr) (c:Nat) (zs:List Int) (g1 g2 g3:Int) (w:World),Sl w A zs->zs.length<=1000->La.U64 zs →
  Calls Tryz.prog 11 #[.agg #[.slice A zs.length c,.int .i64 g1,.int .i64 g2,.int .i64 g3]] w fun e w'=>Below w.heap.size w w' ∧
   ((stOk zs g1 g2 g3=true∧∃ b F,e=.returned (.tuple #[PtrM b,.int .i64 0])∧R w' b F (Rm.new zs g1 g2 g3 0 [])∧∀ k,F k->w.heap.size<=k) ∨
    (stOk zs g1 g2 g3=false∧e=.returned (.tuple #[.pointer none,.int .i64 1])))
 check:∀ (b:Nat) (F:Nat->Prop) (m:Rm) (ws:List Wr) (A:Option Addr) (c:Nat) (s:Int) (w:World),R w b F m->m.Few->GoodW w F A ws →
  Calls Tryz.prog 32 #[PtrM b,.slice A ws.length c,.int .i64 s] w fun e w'=>e=.returned (.int .i64 (m.chk ws s))∧LeftM R b F w m w'
theorem RoomLo.a0 {R:RelM} (X:RoomLo R):RoomA0 R:=⟨X.keep,X.lt,X.new,X.check⟩
theorem RoomAw.a0 {R:RelM} (X:RoomAw R):RoomA0 R:=⟨X.keep,X.lt,X.new,X.check⟩
def wK (t:ByteArray):List Wr:=[⟨⟨#[107]⟩,false,⟨false,t,0⟩⟩]
theorem wK_sl (w:World) (t:ByteArray) (ty:TypeId):SlWr (w.alloc (.cells #[.string ⟨#[107]⟩,.bool false,.bool false,.string t,.int .u64 0] ty)) (some ⟨w.heap.size,0,none⟩) (wK t):=fun _=>by
 have r:=RowAt.new w [.string ⟨#[107]⟩,.bool false,.bool false,.string t,.int .u64 0] ty
 refine ⟨w.heap.size,0,rfl,r.lt,fun j hj=>?_⟩
 have e:j=0:=by simp [wK] at hj; exact hj
 subst e
 exact ⟨r.cell 0,r.cell 1,r.cell 2,r.cell 3,r.cell 4⟩
theorem wK_good {R:RelM} (X:RoomA0 R) {w:World} {b:Nat} {F:Nat->Prop} {m:Rm} (h:R w b F m) (t:ByteArray) (ht:t.size<=64) (ty:TypeId) :
  GoodW (w.alloc (.cells #[.string ⟨#[107]⟩,.bool false,.bool false,.string t,.int .u64 0] ty)) F (some ⟨w.heap.size,0,none⟩) (wK t) :=
 ⟨wK_sl w t ty,fun x hx=>by
  simp only [wK,List.mem_singleton] at hx
  subst hx
  exact ⟨⟨(show (0:Nat)<18446744073709551616 by decide),Nat.le_trans ht (by decide)⟩,(show (1:Nat)<=1000000 by decide)⟩,by simp [wK],fun _ a e f=>by
  injection e with e
  subst e
  have:=X.lt h f
  simp at this,fun x hx=>by
  simp only [wK,List.mem_singleton] at hx
  subst hx
  exact ⟨(show (1:Nat)<=1000 by decide),Nat.le_trans ht (by decide)⟩⟩

theorem lAwake {R:RelM} (X:RoomA0 R) (w:World):Calls Tryz.prog 10 #[] w fun e w'=>e=.returned (.bool true)∧Below w.heap.size w w':=by
 have st:stOk [] 1 3 9=true:=by kernel_rfl
 have CN:=qh (X.new none 0 [] 1 3 9 w (Sl.nil _ _) (by decide) (fun _ h=>by cases h))
 obtain ⟨m,hm⟩:=nmq (Rm.new [] 1 3 9 0 [])
 have c1:m.chk (wK ⟨#[120]⟩) 0=0:=by rw [hm]; kernel_rfl
 have c2:m.chk (wK ⟨#[120,121]⟩) 0=15:=by rw [hm]; kernel_rfl
 have fw:m.Few:=by rw [hm]; exact ⟨⟨by decide,fun _=>Nat.zero_le _⟩,by decide⟩
 have C1:=qh (fun W b F (h:R W b F m)=>X.check b F m (wK ⟨#[120]⟩) (some ⟨W.heap.size,0,none⟩) 1 0 _ (X.keep h (fun k e=>Below.heap_alloc _ _ _ (X.lt h e)) (by simp)) fw (wK_good X h ⟨#[120]⟩ (by decide) 104))
 have C2:=qh (fun W b F (h:R W b F m)=>X.check b F m (wK ⟨#[120,121]⟩) (some ⟨W.heap.size,0,none⟩) 1 0 _ (X.keep h (fun k e=>Below.heap_alloc _ _ _ (X.lt h e)) (by simp)) fw (wK_good X h ⟨#[120,121]⟩ (by decide) 104))
 rw [<-hm,st] at CN
 simp only [c1] at C1
 simp only [c2] at C2
 have LT:=qh (fun W b F (h:R W b F m) k (e:F k)=>X.lt h e)
 clear X c1 c2 fw hm st
 go_enter Tryz.func10,Tryz.ntmps10
 go_wp2_with fail
 refine CN.out.mono ?_
 rintro e w1 ⟨hb1,⟨_,b,F,rfl,hr,hF⟩ | ⟨hf,_⟩⟩
 case inr=>cases hf
 have CC:=qh (C1.out w1 b F hr)
 have B1:=qh hb1
 have HF:=qh hF
 clear hb1 hr hF CN C1
 go_wp2_with fail
 refine CC.out.mono ?_
 rintro e w2 ⟨rfl,hc,F',hr',hk⟩
 have CD:=qh (C2.out w2 b F' hr')
 have B2:=qh (show Below w.heap.size w w2 from by
  have b0:Below w.heap.size w (w1.alloc (.cells #[.string ⟨#[107]⟩,.bool false,.bool false,.string ⟨#[120]⟩,.int .u64 0] 104)):=B1.out.alloc B1.out.size _
  exact b0.trans (hc.below (fun k e=>HF.out k e) b0.size))
 have HF2:=qh (show ∀ k,F' k->w.heap.size<=k from fun k e=>by
  rcases hk k e with q | q
  ·exact HF.out k q
  ·have:=B1.out.size; simp at q; omega)
 clear hc hr' hk CC C2 B1
 go_wp2_with fail
 refine CD.out.mono ?_
 rintro e w3 ⟨rfl,hc,F3,hr3,hk⟩
 have B3:=qh (show Below w.heap.size w w3 from by
  have b0:Below w.heap.size w (w2.alloc (.cells #[.string ⟨#[107]⟩,.bool false,.bool false,.string ⟨#[120,121]⟩,.int .u64 0] 104)):=B2.out.alloc B2.out.size _
  exact b0.trans (hc.below (fun k e=>HF2.out k e) b0.size))
 clear hc hr3 hk CD
 go_wp2_with fail
 go_ret
 exact ⟨rfl,B3.out⟩
end Go.Proofs.YtbfgpdgiaclphaaGreat

namespace Go.Proofs.YtbfgpdgiaclphaaGreat
open Go.RowKit

theorem swept_vers {L:Ch} {q:Int} (h:OkL L q) (f:Int):(L.swept f).vers<=L.vers :=
 Sim.vers (F:=f) (fun _=>⟨f,Int.le_refl _,Ch.of_swept h.rise f⟩) h.rise (h.swept f)
structure Along (K0 i:Nat) (m:Rm) (x:Int):Prop where
 ok:m.Ok
 bnd:Bnd m.L (K0+16 * i) (i+1)
 len:m.r.l.length<=i
 vers:m.L.vers<=K0+16 * i
 x0:0<=x
 x1:x<=256 * i
namespace Along
variable {K0 i:Nat} {m:Rm} {x:Int}
theorem few (h:Along K0 i m x) (hi:i<=120) (hK:K0<=100):m.Few:=⟨h.bnd.mono (by omega) (by omega),Nat.le_trans h.len (by omega)⟩
theorem many (h:Along K0 i m x) (hi:i<=120) (hK:K0<=100):m.L.vers<=1000000:=Nat.le_trans h.vers (by omega)
theorem stamp (h:Along K0 i m x) (hi:i<=120):x<=1000000:=by have:=h.x1; omega
theorem new {zs:List Int} {g1 g2 g3:Int} (h:stOk zs g1 g2 g3=true):Along 0 0 (Rm.new zs g1 g2 g3 0 []) 0 :=
 ⟨Rm.ok_new h,(Rm.few_new zs g1 g2 g3).mono (Nat.le_refl _) (Nat.zero_le _),Nat.le_refl _,Nat.le_refl _,Int.le_refl _,Int.le_refl _⟩
theorem load {zs:List Int} {g1 g2 g3 sq:Int} {l:List En} (h:ldE zs g1 g2 g3 sq l=0) (hf:FitsE l):Along l.length 0 (Rm.new zs g1 g2 g3 sq (loadL l)) 0:=by
 obtain ⟨o,b⟩:=Rm.ok_load h hf
 exact ⟨o,b,Nat.le_refl _,Nat.le_of_eq (load_vers l),Int.le_refl _,Int.le_refl _⟩
theorem more (h:Along K0 i m x):Along K0 (i+1) m x :=
 ⟨h.ok,h.bnd.mono (by omega) (by omega),by have:=h.len; omega,by have:=h.vers; omega,h.x0,by have:=h.x1; omega⟩
theorem com (h:Along K0 i m x) {ws:List Wr} (hf:FitsW ws) (y:Int) {x':Int} (h0:0<=x') (h1:x'<=256 * (i+1)):Along K0 (i+1) (m.com ws y) x':=by
 obtain ⟨o,b,l⟩:=Rm.ok_com (x:=y) h.ok h.bnd hf
 refine ⟨o,b.mono (by omega) (by omega),by have:=h.len; omega,?_,h0,by omega⟩
 by_cases e:m.comE ws y=0
 ·obtain ⟨e1,_,_,_,e5,_⟩:=Rm.com_yes e
  rw [e5]
  show (m.L.withW ws ((m.r.seq:Int)+1)).vers<=_
  rw [vers_with]
  have:=h.vers
  have:=mayW_size e1
  omega
 ·rw [(Rm.com_no e).1]
  have:=h.vers; omega
theorem sw (h:Along K0 i m x):Along K0 (i+1) m.sw x:=by
 obtain ⟨o,b⟩:=Rm.ok_sw h.ok h.bnd
 refine ⟨o,b.mono (by omega) (by omega),by have:=h.len; show m.r.l.length<=_; omega,?_,h.x0,by have:=h.x1; omega⟩
 have:=h.vers
 have:=swept_vers h.ok.L m.floor
 show (m.L.swept m.floor).vers<=_
 omega
theorem step (h:Along K0 i m x) (a:Ac) (hf:FitsW a.ws) (y0:0<=a.by_) (y1:a.by_<=255):Along K0 (i+1) (stepM m a x) (stepX m a x):=by
 have h0:=h.x0
 have h1:=h.x1
 by_cases k1:a.kind=1
 ·rw [stepM_1 m a x k1]
  unfold stepX
  rw [if_pos k1]
  split
  ·exact h.com hf _ (by omega) (by omega)
  ·exact h.com hf _ h0 (by omega)
 ·rw [stepX_0 m a x k1]
  by_cases k2:a.kind=2
  ·rw [stepM_2 m a x k2]; exact h.sw
  ·rw [stepM_0 m a x k1 k2]; exact h.more
end Along
structure Wrote (m:Rm) (wr:List Nat):Prop where
 seq:m.r.seq=wr.length
 beg:m.r.beg=0
 late:∀ f:Nat,f<=wr.length->late (f:Int) m.L<=(wr.drop f).sum
theorem Wrote.new (zs:List Int) (g1 g2 g3:Int):Wrote (Rm.new zs g1 g2 g3 0 []) []:=⟨rfl,rfl,fun _ _=>Nat.zero_le _⟩
theorem late_zero {L:Ch} {q:Int} (h:OkL L q):late q L=0:=by
 unfold late
 have:∀ y,y ∈ L->lateL q y.2=0:=fun y hy=>by
  unfold lateL
  rw [List.countP_eq_zero]
  intro z hz
  have:=h.le y hy z hz
  simp only [decide_eq_true_eq]
  omega
 clear h
 induction L with
 | nil=>rfl
 | cons y L ih=>rw [List.map_cons,List.sum_cons,this y (by simp),ih fun z hz=>this z (List.mem_cons_of_mem _ hz)]
theorem Wrote.com {m:Rm} {wr:List Nat} (h:Wrote m wr) {ws:List Wr} {x:Int} (e:m.comE ws x=0) (ok:(m.com ws x).Ok):Wrote (m.com ws x) (wr++[ws.length]):=by
 obtain ⟨_,_,_,e4,e5,_⟩:=Rm.com_yes e
 have hs:=h.seq
 rw [e5] at ok ⊢
 have okL:OkL (m.L.withW ws ((m.r.seq:Int)+1)) (((m.r.push x).seq:Nat):Int):=ok.L
 rw [Rm.push_seq e4] at okL
 refine ⟨?_,?_,fun f hf=>?_⟩
 ·show (m.r.push x).seq=_
  rw [Rm.push_seq e4,hs,List.length_append,List.length_singleton]
 ·show (m.r.push x).beg=0
  rw [Rg.push_beg]; exact h.beg
 ·rw [List.length_append,List.length_singleton] at hf
  show Go.Proofs.YtbfgpdgiaclphaaGreat.late (f:Int) (m.L.withW ws ((m.r.seq:Int)+1))<=_
  rcases Nat.lt_or_ge f (wr.length+1) with z | z
  ·rw [late_with m.L ws (show (f:Int)<(m.r.seq:Int)+1 by omega),List.drop_append_of_le_length (by omega),List.sum_append]
   have:=h.late f (by omega)
   simp
   omega
  ·have ef:f=m.r.seq+1:=by omega
   rw [ef,late_zero okL]
   exact Nat.zero_le _
theorem Wrote.no {m:Rm} {wr:List Nat} (h:Wrote m wr) {ws:List Wr} {x:Int} (e:m.comE ws x≠0):Wrote (m.com ws x) wr:=by rw [(Rm.com_no e).1]; exact h
theorem Wrote.sw {m:Rm} {wr:List Nat} (h:Wrote m wr):Wrote m.sw wr:=⟨h.seq,h.beg,fun f hf=>Nat.le_trans (late_swept m.L _ _) (h.late f hf)⟩
theorem Wrote.kept {m:Rm} {wr:List Nat} (h:Wrote m wr) (ok:m.Ok):m.sw.L.vers<=m.ents.length+2 * (wr.drop (wr.length+1-m.r.size)).sum:=by
 have hf:m.r.floor=wr.length+1-m.r.size:=by unfold Rg.floor; rw [h.seq,h.beg]; omega
 have v:=vers_swept (f:=m.floor) (q:=m.seq) (L:=m.L) fun y hy=>⟨rise_of_right (ok.L.right y hy),ok.L.le y hy⟩
 have l:=h.late (wr.length+1-m.r.size) (by have:=ok.r.s1; omega)
 rw [<-hf] at l ⊢
 have v:m.sw.L.vers<=m.ents.length+2 * Go.Proofs.YtbfgpdgiaclphaaGreat.late (m.r.floor:Int) m.L:=v
 omega

end Go.Proofs.YtbfgpdgiaclphaaGreat
