/- Proved parts: H1a H1b H1c. Conditions: each theorem's own. -/
import Derived.Test.YtoljhoabbaigdaaGreatM26
import Derived.Test.YtoljhoabbaigdaaGreatM20
import Derived.Test.YtoljhoabbaigdaaGreatQ2
set_option maxRecDepth 100000
set_option maxHeartbeats 8000000
namespace Go.Proofs.YtoljhoabbaigdaaGreat
open Go.RowKit

structure Fn where
 n:FuncId
 fs:Array Value
 cs:Array Value
abbrev Fn.v (f:Fn):Value:=.func (.func f.n) f.fs f.cs
def Goes (n:FuncId):Prop:=∀ (args:Array Value) (w:World),(callFunc n args).run Tryz.prog w=.ok (.enter n args) w
def Finds (P:World->Prop) (f:Fn) (g:Fd):Prop :=
 Goes f.n∧∀ (W:World) (k:ByteArray),P W->Calls Tryz.prog f.n (f.fs.push (.string k)++f.cs) W fun e W'=>e=.returned (.tuple #[(g k).1.v,.bool (g k).2])∧Below W.heap.size W W'
def Finds2 (P:World->Prop) (f:Fn) (q:Int) (g:ByteArray->ByteArray × (Val × Bool)):Prop :=
 Goes f.n∧∀ (W:World) (k:ByteArray),P W->Calls Tryz.prog f.n (f.fs++(#[.string k,.int .i64 q]++f.cs)) W fun e W'=>e=.returned (.tuple #[.string (g k).1,(g k).2.1.v,.bool (g k).2.2])∧Below W.heap.size W W'
def KeptB (P:World->Prop):Prop:=∀ (W W':World),P W->Below W.heap.size W W'->P W'

theorem goes_asOf:Goes 120:=enters_of Tryz.func120 (by kernel_rfl) rfl
attribute [local go_sem] Oper.semAt_some
theorem xAsOf1 {P:World->Prop} (c:Fn) (q:Int) (g:ByteArray->ByteArray × (Val × Bool)) (a b:Nat) (ta tb:TypeId) (hC:Finds2 P c q g) (hP:KeptB P) :
  Finds (fun W=>P W∧RowAt W a [c.v] ta∧RowAt W b [.int .i64 q] tb) ⟨120,#[],#[.pointer (some ⟨a,0,none⟩),.pointer (some ⟨b,0,none⟩)]⟩ (fun k=>(⟨(g k).1,false,(g k).2.1⟩,(g k).2.2)):=by
 refine ⟨goes_asOf,?_⟩
 intro w k ⟨hp,ra,rb⟩
 obtain ⟨hE,hC⟩:=hC
 obtain ⟨B,hB⟩:=nmq (w.heap.size)
 obtain ⟨W0,hW0⟩:=nmq (w.alloc (.cells #[.string ⟨#[]⟩,.bool false,.bool false,.string ⟨#[]⟩,.int .u64 0] 61))
 have b0:Below w.heap.size w W0:=by rw [hW0]; exact (Below.refl _ _).alloc (Nat.le_refl _) _
 have R0:RowAt W0 w.heap.size Wr.Z.cs 61:=by rw [hW0]; exact RowAt.new w Wr.Z.cs 61
 have CC:=qh (hC W0 k (hP _ _ hp b0))
 have ca:=(ra.below b0).cell 0
 have cb:=(rb.below b0).cell 0
 simp only [List.getElem?_cons_zero] at ca cb
 show Calls Tryz.prog 120 #[.string k,.pointer (some ⟨a,0,none⟩),.pointer (some ⟨b,0,none⟩)] w fun e W'=>e=.returned (.tuple #[.agg #[.string (g k).1,.bool false,.bool (g k).2.1.num,.string (g k).2.1.txt,.int .u64 ((g k).2.1.bits:Int)],.bool (g k).2.2])∧Below w.heap.size w W'
 obtain ⟨T,hT⟩:=nmq (g k)
 rw [<-hT] at CC ⊢
 obtain ⟨K,⟨m,t,u⟩,ok⟩:=T
 replace CC:Hid (Calls Tryz.prog c.n (c.fs++(#[.string k,.int .i64 q]++c.cs)) W0 fun e W'=>e=.returned (.tuple #[.string K,.agg #[.bool m,.string t,.int .u64 (u:Int)],.bool ok])∧Below W0.heap.size W0 W'):=CC
 rw [<-hB] at b0 R0 ⊢
 have B0:=qh b0
 have R0':=qh R0
 have HB:=qh hB
 obtain ⟨n,fs,cs⟩:=c
 replace hE:∀ (args:Array Value) (w:World),(callFunc n args).run Tryz.prog w=.ok (.enter n args) w:=hE
 clear hC hP hp ra rb hT b0 hB R0
 subst hW0
 have ca':=ca
 clear ca
 have ca:=ca'
 clear ca'
 change _=some (Value.func (.func n) fs cs) at ca
 go_enter Tryz.func120,Tryz.ntmps120
 go_wp2_with fail
 rw [<-HB.out]
 refine CC.out.mono ?_
 rintro e w1 ⟨rfl,hb1⟩
 have B1:Below B w w1:=B0.out.trans (hb1.mono (by have:=B0.out.size; have:=HB.out; omega))
 have R1:RowAt w1 B Wr.Z.cs 61:=R0'.out.below hb1
 clear hb1 CC ca cb hE R0' B0
 obtain ⟨W2,hW2⟩:=nmq (w1.alloc (.cells #[.bool m,.string t,.int .u64 (u:Int)] 59))
 have R2:RowAt W2 B Wr.Z.cs 61:=by rw [hW2]; exact R1.alloc _
 have B2:Below B w W2:=by rw [hW2]; exact B1.alloc (by have:=B1.size; have:=HB.out; omega) _
 have F1:=qh (show Below B w (setW W2 B ⟨K,false,⟨m,t,u⟩⟩) from setW_below B2 (Nat.le_refl _))
 have F2:=qh (show RowAt (setW W2 B ⟨K,false,⟨m,t,u⟩⟩) B (Wr.cs ⟨K,false,⟨m,t,u⟩⟩) _ from setW_row R2)
 obtain ⟨g0,g1,g2,g3,g4,e0,e1,e2,e3,e4⟩:=wrZ R2
 subst hW2
 clear R2 B2 R1 B1 HB
 go_wp2_with fail
 refine bodyPost_ret (results_cell_tmp rfl _ _ B _ _ _ rfl F2.out Tryz.underlying61 rfl (by kernel_rfl)) rfl ?_
 exact ⟨rfl,F1.out⟩
end Go.Proofs.YtoljhoabbaigdaaGreat

namespace Go.Proofs.YtoljhoabbaigdaaGreat
open Go.RowKit

theorem le_notlt (a b:ByteArray):(Op.bytesLess a.toList b.toList || a.toList == b.toList)=!(ltB b a):=by
 show (ltB a b || a.toList == b.toList)=!(ltB b a)
 cases h:ltB a b with
 | true=>rw [ltB_asym h]; rfl
 | false =>
  cases k:ltB b a with
  | true =>
   have:¬ a.toList=b.toList:=fun e=>by rw [toList_inj e,ltB_irr] at k; cases k
   simp [this]
  | false=>rw [ltB_total h k]; simp
theorem goes_first:Goes 118:=enters_of Tryz.func118 (by kernel_rfl) rfl
attribute [local go_sem] Oper.semAt_some
theorem xFirst1 {P:World->Prop} (c d:Fn) (u l:Fd) (a b:Nat) (ta tb:TypeId) (hC:Finds P c u) (hD:Finds P d l) (hP:KeptB P) :
  Finds (fun W=>P W∧RowAt W a [c.v] ta∧RowAt W b [d.v] tb) ⟨118,#[],#[.pointer (some ⟨a,0,none⟩),.pointer (some ⟨b,0,none⟩)]⟩ (firstF u l):=by
 refine ⟨goes_first,?_⟩
 intro w k ⟨hp,ra,rb⟩
 obtain ⟨hE,hC⟩:=hC
 obtain ⟨hE2,hD⟩:=hD
 obtain ⟨B,hB⟩:=nmq (w.heap.size)
 obtain ⟨W0,hW0⟩:=nmq (w.alloc (.cells #[.string ⟨#[]⟩,.bool false,.bool false,.string ⟨#[]⟩,.int .u64 0] 61))
 have b0:Below w.heap.size w W0:=by rw [hW0]; exact (Below.refl _ _).alloc (Nat.le_refl _) _
 have R0:RowAt W0 w.heap.size Wr.Z.cs 61:=by rw [hW0]; exact RowAt.new w Wr.Z.cs 61
 have CC:=qh (hC W0 k (hP _ _ hp b0))
 have DD:=qh (fun W (hb:Below w.heap.size w W)=>hD W k (hP _ _ hp hb))
 have ca:=(ra.below b0).cell 0
 have RB:=qh (fun W (hb:Below w.heap.size w W)=>show W.cell? ⟨b,0,none⟩=some d.v from (rb.below hb).cell 0)
 simp only [List.getElem?_cons_zero] at ca
 show Calls Tryz.prog 118 #[.string k,.pointer (some ⟨a,0,none⟩),.pointer (some ⟨b,0,none⟩)] w fun e W'=>e=.returned (.tuple #[(firstF u l k).1.v,.bool (firstF u l k).2])∧Below w.heap.size w W'
 have EF:firstF u l k=if !(l k).2 || ((u k).2 && !(ltB (l k).1.key (u k).1.key)) then u k else l k:=rfl
 obtain ⟨T,hT⟩:=nmq (firstF u l k)
 rw [<-hT] at EF ⊢
 obtain ⟨U,hU⟩:=nmq (u k)
 obtain ⟨L,hL⟩:=nmq (l k)
 rw [<-hU,<-hL] at EF
 rw [<-hU] at CC
 simp only [<-hL] at DD
 obtain ⟨⟨ku,gu,⟨mu,tu,bu⟩⟩,iu⟩:=U
 obtain ⟨⟨kl,gl,⟨ml,tl,bl⟩⟩,il⟩:=L
 rw [<-hB] at b0 R0 ⊢
 simp only [<-hB] at DD RB
 have EF:=qh EF
 have B0:=qh b0
 have R0':=qh R0
 have HB:=qh hB
 obtain ⟨n,fs,cs⟩:=c
 obtain ⟨n2,fs2,cs2⟩:=d
 replace CC:Hid (Calls Tryz.prog n (fs.push (.string k)++cs) W0 fun e W'=>e=.returned (.tuple #[.agg #[.string ku,.bool gu,.bool mu,.string tu,.int .u64 (bu:Int)],.bool iu])∧Below W0.heap.size W0 W'):=CC
 replace DD:Hid (∀ W,Below B w W->Calls Tryz.prog n2 (fs2.push (.string k)++cs2) W fun e W'=>e=.returned (.tuple #[.agg #[.string kl,.bool gl,.bool ml,.string tl,.int .u64 (bl:Int)],.bool il])∧Below W.heap.size W W'):=DD
 replace RB:Hid (∀ W,Below B w W->W.cell? ⟨b,0,none⟩=some (Value.func (.func n2) fs2 cs2)):=RB
 replace hE:∀ (args:Array Value) (w:World),(callFunc n args).run Tryz.prog w=.ok (.enter n args) w:=hE
 have HE2:Hid (∀ (args:Array Value) (w:World),(callFunc n2 args).run Tryz.prog w=.ok (.enter n2 args) w):=qh hE2
 clear hC hD hP hp ra rb hT b0 hB R0 hE2 hU hL
 subst hW0
 change _=some (Value.func (.func n) fs cs) at ca
 go_enter Tryz.func118,Tryz.ntmps118
 go_wp2_with fail
 rw [<-HB.out]
 refine CC.out.mono ?_
 rintro e w1 ⟨rfl,hb1⟩
 have B1:Below B w w1:=B0.out.trans (hb1.mono (by have:=B0.out.size; have:=HB.out; omega))
 have R1:RowAt w1 B Wr.Z.cs 61:=R0'.out.below hb1
 clear hb1 CC ca hE R0' B0
 obtain ⟨W2,hW2⟩:=nmq (w1.alloc (.cells #[.string ku,.bool gu,.bool mu,.string tu,.int .u64 (bu:Int)] 61))
 have R2:RowAt W2 B Wr.Z.cs 61:=by rw [hW2]; exact R1.alloc _
 have B2:Below B w W2:=by rw [hW2]; exact B1.alloc (by have:=B1.size; have:=HB.out; omega) _
 obtain ⟨C,hC⟩:=nmq (w1.heap.size)
 have S2:RowAt W2 C (Wr.cs ⟨ku,gu,⟨mu,tu,bu⟩⟩) 61:=by rw [hW2,hC]; exact RowAt.new w1 (Wr.cs ⟨ku,gu,⟨mu,tu,bu⟩⟩) _
 have rb:=RB.out W2 B2
 have DW:=qh (DD.out W2 B2)
 have HW2:=qh hW2
 have HC:=qh hC
 have hE2:=HE2.out
 have B2':=qh B2
 have R2':=qh R2
 have S2':=qh S2
 subst hW2
 clear B2 R2 S2 B1 R1 RB DD hC HE2
 go_wp2_with fail
 rw [<-HC.out]
 refine DW.out.mono ?_
 rintro e w2 ⟨rfl,hb2⟩
 have B3:Below B w w2:=B2'.out.trans (hb2.mono (by have:=B2'.out.size; have:=HB.out; omega))
 have R3:=R2'.out.below hb2
 have S3:=S2'.out.below hb2
 clear hb2 DW rb hE2 R2' S2' B2' HW2
 obtain ⟨D,hD⟩:=nmq (w2.heap.size)
 obtain ⟨W4,hW4⟩:=nmq (w2.alloc (.cells #[.string kl,.bool gl,.bool ml,.string tl,.int .u64 (bl:Int)] 61))
 have R4:RowAt W4 B Wr.Z.cs 61:=by rw [hW4]; exact R3.alloc _
 have S4:RowAt W4 C (Wr.cs ⟨ku,gu,⟨mu,tu,bu⟩⟩) 61:=by rw [hW4]; exact S3.alloc _
 have T4:RowAt W4 D (Wr.cs ⟨kl,gl,⟨ml,tl,bl⟩⟩) 61:=by rw [hW4,hD]; exact RowAt.new w2 (Wr.cs ⟨kl,gl,⟨ml,tl,bl⟩⟩) _
 have B4:Below B w W4:=by rw [hW4]; exact B3.alloc (by have:=B3.size; have:=HB.out; omega) _
 have FU:=qh (show Below B w (setW W4 B ⟨ku,gu,⟨mu,tu,bu⟩⟩) from setW_below B4 (Nat.le_refl _))
 have GU:=qh (show RowAt (setW W4 B ⟨ku,gu,⟨mu,tu,bu⟩⟩) B (Wr.cs ⟨ku,gu,⟨mu,tu,bu⟩⟩) _ from setW_row R4)
 have FL:=qh (show Below B w (setW W4 B ⟨kl,gl,⟨ml,tl,bl⟩⟩) from setW_below B4 (Nat.le_refl _))
 have GL:=qh (show RowAt (setW W4 B ⟨kl,gl,⟨ml,tl,bl⟩⟩) B (Wr.cs ⟨kl,gl,⟨ml,tl,bl⟩⟩) _ from setW_row R4)
 have XS:=qh (wrF (x:=⟨ku,gu,⟨mu,tu,bu⟩⟩) S4)
 have XT:=qh (wrF (x:=⟨kl,gl,⟨ml,tl,bl⟩⟩) T4)
 have XR:=qh (wrZ R4)
 clear R3 S3 R4 S4 T4 B3 B4
 subst hW4 hD
 obtain ⟨g0,g1,g2,g3,g4,e0,e1,e2,e3,e4⟩:=XR.out
 clear XR HC HB
 cases il with
 | false =>
  obtain ⟨c0,c1,c2,c3,c4⟩:=XS.out
  simp only at c0 c1 c2 c3 c4
  clear XS XT FL GL
  go_wp2_with fail
  refine bodyPost_ret (results_cell_tmp rfl _ _ B _ _ _ rfl GU.out Tryz.underlying61 rfl (by kernel_rfl)) rfl ?_
  exact ⟨by rw [EF.out]; rfl,FU.out⟩
 | true =>
  cases iu with
  | false =>
   obtain ⟨c0,c1,c2,c3,c4⟩:=XT.out
   simp only at c0 c1 c2 c3 c4
   clear XS XT FU GU
   go_wp2_with fail
   refine bodyPost_ret (results_cell_tmp rfl _ _ B _ _ _ rfl GL.out Tryz.underlying61 rfl (by kernel_rfl)) rfl ?_
   exact ⟨by rw [EF.out]; rfl,FL.out⟩
  | true =>
   obtain ⟨c0,c1,c2,c3,c4⟩:=XS.out
   obtain ⟨d0,d1,d2,d3,d4⟩:=XT.out
   simp only at c0 c1 c2 c3 c4 d0 d1 d2 d3 d4
   clear XS XT
   cases hq:ltB kl ku with
   | true =>
    have q:(Op.bytesLess ku.toList kl.toList || ku.toList == kl.toList)=false:=by rw [le_notlt,hq]; rfl
    have E:=qh (show T=(⟨kl,gl,⟨ml,tl,bl⟩⟩,true) by rw [EF.out]; simp only [hq]; rfl)
    clear hq EF FU GU
    go_wp2_with fail
    refine bodyPost_ret (results_cell_tmp rfl _ _ B _ _ _ rfl GL.out Tryz.underlying61 rfl (by kernel_rfl)) rfl ?_
    exact ⟨by rw [E.out]; rfl,FL.out⟩
   | false =>
    have q:(Op.bytesLess ku.toList kl.toList || ku.toList == kl.toList)=true:=by rw [le_notlt,hq]; rfl
    have E:=qh (show T=(⟨ku,gu,⟨mu,tu,bu⟩⟩,true) by rw [EF.out]; simp only [hq]; rfl)
    clear hq EF FL GL
    go_wp2_with fail
    refine bodyPost_ret (results_cell_tmp rfl _ _ B _ _ _ rfl GU.out Tryz.underlying61 rfl (by kernel_rfl)) rfl ?_
    exact ⟨by rw [E.out]; rfl,FU.out⟩
end Go.Proofs.YtoljhoabbaigdaaGreat

namespace Go.Proofs.YtoljhoabbaigdaaGreat
open Go.RowKit

theorem wrA {w:World} {g:Nat} {t:TypeId} {x:Wr} (h:RowAt w g x.cs t):w.cell? ⟨g,0,none⟩=some (.string x.key)∧w.cell? ⟨g,1,none⟩=some (.bool x.gone)∧w.cell? ⟨g,2,none⟩=some (.bool x.val.num)∧w.cell? ⟨g,3,none⟩=some (.string x.val.txt)∧w.cell? ⟨g,4,none⟩=some (.int .u64 (x.val.bits:Int)) ∧
  w.frozen? ⟨g,0,none⟩=false∧w.frozen? ⟨g,1,none⟩=false∧w.frozen? ⟨g,2,none⟩=false∧w.frozen? ⟨g,3,none⟩=false∧w.frozen? ⟨g,4,none⟩=false :=
 ⟨h.cell 0,h.cell 1,h.cell 2,h.cell 3,h.cell 4,h.frozen 0,h.frozen 1,h.frozen 2,h.frozen 3,h.frozen 4⟩
def pastM (O:Wl) (C:Nat) (vo:Value) (w:World):Nat :=
 match vo with
 | .bool true=>O.length-(match w.cell? ⟨C,0,none⟩ with | some (.string k)=>O.pos k | _=>0)
 | _=>0
theorem pastM_at {O:Wl} (h:O.Rise) {C i:Nat} {w:World} {t:TypeId} (hr:RowAt w C (O.atV i).cs t):pastM O C (.bool (decide (i<O.length))) w=O.length-i:=by
 by_cases z:i<O.length
 ·rw [decide_eq_true z]
  have e:(O.atV i).key=O.key i:=by unfold Wl.atV Wl.key; rw [if_pos z]
  have:=((Wl.le_of (k:=O.key i) h z).2.1.1 rfl).2
  unfold pastM
  simp only [(wrF hr).1,e]
  omega
 ·rw [decide_eq_false z]
  show 0=_
  omega
theorem goes_past:Goes 117:=enters_of Tryz.func117 (by kernel_rfl) rfl
attribute [local go_sem] Oper.semAt_some
theorem xPast1 {P:World->Prop} (c d:Fn) (O:Wl) (ab:Bool) (a b:Nat) (ta tb:TypeId) (hC:Finds P c (fnd O ab)) (hD:Finds P d (fnd O true)) (hP:KeptB P) (hO:O.Rise) :
  Finds (fun W=>P W∧RowAt W a [c.v] ta∧RowAt W b [d.v] tb) ⟨117,#[],#[.pointer (some ⟨a,0,none⟩),.pointer (some ⟨b,0,none⟩)]⟩ (fnd (liv O) ab):=by
 refine ⟨goes_past,?_⟩
 intro w k ⟨hp,ra,rb⟩
 obtain ⟨hE,hC⟩:=hC
 obtain ⟨hE2,hD⟩:=hD
 obtain ⟨B,hB⟩:=nmq (w.heap.size)
 obtain ⟨W0,hW0⟩:=nmq (w.alloc (.cells #[.string ⟨#[]⟩,.bool false,.bool false,.string ⟨#[]⟩,.int .u64 0] 61))
 have b0:Below w.heap.size w W0:=by rw [hW0]; exact (Below.refl _ _).alloc (Nat.le_refl _) _
 have R0:RowAt W0 w.heap.size Wr.Z.cs 61:=by rw [hW0]; exact RowAt.new w Wr.Z.cs 61
 have CC:=qh (hC W0 k (hP _ _ hp b0))
 have DD:=qh (fun W (hb:Below w.heap.size w W) k=>hD W k (hP _ _ hp hb))
 have ca:=(ra.below b0).cell 0
 have RB:=qh (fun W (hb:Below w.heap.size w W)=>show W.cell? ⟨b,0,none⟩=some d.v from (rb.below hb).cell 0)
 simp only [List.getElem?_cons_zero] at ca
 show Calls Tryz.prog 117 #[.string k,.pointer (some ⟨a,0,none⟩),.pointer (some ⟨b,0,none⟩)] w fun e W'=>e=.returned (.tuple #[(fnd (liv O) ab k).1.v,.bool (fnd (liv O) ab k).2])∧Below w.heap.size w W'
 have PE:=qh (fun i=>past_end (i:=i) hO k ab)
 obtain ⟨i0,hi0⟩:=nmq (O.frm k ab)
 have HL:=qh (show i0<=O.length by rw [hi0]; exact O.frm_le k ab)
 have E0:fnd O ab k=(O.atV i0,decide (i0<O.length)):=by rw [hi0]; rfl
 rw [E0] at CC
 rw [<-hi0] at PE
 obtain ⟨T,hT⟩:=nmq (fnd (liv O) ab k)
 rw [<-hT] at PE ⊢
 rw [<-hB] at b0 R0 ⊢
 simp only [<-hB] at DD RB
 have B0:=qh b0
 have R0':=qh R0
 have HB:=qh hB
 have HO:=qh hO
 obtain ⟨n,fs,cs⟩:=c
 obtain ⟨n2,fs2,cs2⟩:=d
 obtain ⟨x,hx⟩:=nmq (O.atV i0)
 obtain ⟨ok,hok⟩:=nmq (decide (i0<O.length))
 rw [<-hx,<-hok] at CC
 have HX:=qh hx
 have HK:=qh hok
 clear hx hok E0
 obtain ⟨ku,gu,⟨mu,tu,bu⟩⟩:=x
 replace CC:Hid (Calls Tryz.prog n (fs.push (.string k)++cs) W0 fun e W'=>e=.returned (.tuple #[.agg #[.string ku,.bool gu,.bool mu,.string tu,.int .u64 (bu:Int)],.bool ok])∧Below W0.heap.size W0 W'):=CC
 replace DD:Hid (∀ W,Below B w W->∀ k,Calls Tryz.prog n2 (fs2.push (.string k)++cs2) W fun e W'=>e=.returned (.tuple #[(fnd O true k).1.v,.bool (fnd O true k).2])∧Below W.heap.size W W'):=DD
 replace RB:Hid (∀ W,Below B w W->W.cell? ⟨b,0,none⟩=some (Value.func (.func n2) fs2 cs2)):=RB
 replace hE:∀ (args:Array Value) (w:World),(callFunc n args).run Tryz.prog w=.ok (.enter n args) w:=hE
 have HE2:Hid (∀ (args:Array Value) (w:World),(callFunc n2 args).run Tryz.prog w=.ok (.enter n2 args) w):=qh hE2
 clear hC hD hP hp ra rb hT b0 hB R0 hE2 hi0 hO
 subst hW0
 change _=some (Value.func (.func n) fs cs) at ca
 go_enter Tryz.func117,Tryz.ntmps117
 go_wp2_with fail
 rw [<-HB.out]
 refine CC.out.mono ?_
 rintro e w1 ⟨rfl,hb1⟩
 have B1:Below B w w1:=B0.out.trans (hb1.mono (by have:=B0.out.size; have:=HB.out; omega))
 have R1:RowAt w1 B Wr.Z.cs 61:=R0'.out.below hb1
 clear hb1 CC ca hE R0' B0
 obtain ⟨W2,hW2⟩:=nmq (w1.alloc (.cells #[.string ku,.bool gu,.bool mu,.string tu,.int .u64 (bu:Int)] 61))
 have R2:RowAt W2 B Wr.Z.cs 61:=by rw [hW2]; exact R1.alloc _
 have B2:Below B w W2:=by rw [hW2]; exact B1.alloc (by have:=B1.size; have:=HB.out; omega) _
 obtain ⟨C,hC⟩:=nmq (w1.heap.size)
 have S2:RowAt W2 C (O.atV i0).cs 61:=by rw [<-HX.out,hW2,hC]; exact RowAt.new w1 (Wr.cs ⟨ku,gu,⟨mu,tu,bu⟩⟩) _
 have hlt:Hid (B<C):=qh (by have:=R1.lt; omega)
 have HW2:=qh hW2
 have HC:=qh hC
 have B2':=qh B2
 have R2':=qh R2
 have S2':=qh S2
 clear B2 R2 S2 B1 R1 hC hW2 HX
 go_wp2_with fail
 rw [<-HW2.out,<-HC.out]
 clear HW2 HC
 go_loopw [7] (fun vo wr=>∃ i:Nat,Hid (pastAt O i0 i)∧vo=.bool (decide (i<O.length))∧Hid (RowAt wr C (O.atV i).cs 61)∧Hid (RowAt wr B Wr.Z.cs 61)∧Hid (Below B w wr)) (fun vo wr=>pastM O C vo wr)
 case atStart=>exact ⟨i0,qh ⟨Nat.le_refl _,HL.out,fun j _ h1 h2=>by omega⟩,congrArg Value.bool HK.out,S2',R2',B2'⟩
 case round =>
  obtain ⟨i,HPA,rfl,HS,HR,HBW⟩:=hrel
  have EM:=qh (pastM_at HO.out HS.out)
  have PX:=qh (PE.out i HPA.out)
  have NX:=qh (fun h1 h2=>past_next (i:=i) HO.out HPA.out h1 h2)
  obtain ⟨x,hx⟩:=nmq (O.atV i)
  obtain ⟨y,hy⟩:=nmq (O.atV (i+1))
  rw [<-hx] at HS PX NX
  rw [<-hy] at NX
  have HY:=qh hy
  clear hx hy
  have EX:∀ z,Hid (x=z)->x=z:=fun z h=>h.out
  obtain ⟨c0,c1,c2,c3,c4,f0,f1,f2,f3,f4⟩:=wrA HS.out
  obtain ⟨g0,g1,g2,g3,g4,e0,e1,e2,e3,e4⟩:=wrZ HR.out
  have FX:=qh (show Below B w (setW wr B x) from setW_below HBW.out (Nat.le_refl _))
  have GX:=qh (show RowAt (setW wr B x) B x.cs _ from setW_row HR.out)
  obtain ⟨kx,gx,⟨mx,tx,bx⟩⟩:=x
  simp only at c0 c1 c2 c3 c4
  clear EX
  by_cases q:i<O.length
  ·have dq:=decide_eq_true q
   cases gx with
   | false =>
    have E:=qh (PX.out (by rw [dq]; rfl))
    rw [dq] at E ⊢
    clear PX NX DD RB HE2 EM dq
    go_wp2_with fail
    refine bodyPost_ret (results_cell_tmp rfl _ _ B _ _ _ rfl GX.out Tryz.underlying61 rfl (by kernel_rfl)) rfl ?_
    exact ⟨by rw [<-E.out]; rfl,FX.out⟩
   | true =>
    obtain ⟨n1,n2'⟩:=NX.out q rfl
    have N2:=qh n2'
    have rb:=RB.out wr HBW.out
    have DW:=DD.out wr HBW.out kx
    rw [show fnd O true kx=(y,decide (i+1<O.length)) from n1] at DW
    have DW:=qh DW
    have hE2:=HE2.out
    obtain ⟨ky,gy,⟨my,ty,yy⟩⟩:=y
    replace DW:Hid (Calls Tryz.prog n2 (fs2.push (.string kx)++cs2) wr fun e W'=>e=.returned (.tuple #[.agg #[.string ky,.bool gy,.bool my,.string ty,.int .u64 (yy:Int)],.bool (decide (i+1<O.length))])∧Below wr.heap.size wr W'):=DW
    rw [dq] at EM ⊢
    obtain ⟨ok',hok'⟩:=nmq (decide (i+1<O.length))
    rw [<-hok'] at DW
    have HOK:=qh hok'
    clear PX NX n1 n2' dq hok' f0 f1 f2 f3 f4 g0 g1 g2 g3 g4 e0 e1 e2 e3 e4 FX GX
    go_wp2_with fail
    refine DW.out.mono ?_
    rintro e w2 ⟨rfl,hb2⟩
    have B3:Below B w w2:=HBW.out.trans (hb2.mono (by have:=HBW.out.size; have:=HB.out; omega))
    have R3:=HR.out.below hb2
    have S3:=HS.out.below hb2
    clear hb2 DW rb hE2 c0 c1 c2 c3 c4 DD RB HE2
    obtain ⟨c0,c1,c2,c3,c4,f0,f1,f2,f3,f4⟩:=wrA S3
    simp only at c0 c1 c2 c3 c4
    have hBC:=hlt.out
    have B4:=qh (show Below B w (setW w2 C ⟨ky,gy,⟨my,ty,yy⟩⟩) from setW_below B3 (Nat.le_of_lt hBC))
    have S4':RowAt (setW w2 C ⟨ky,gy,⟨my,ty,yy⟩⟩) C (Wr.cs ⟨ky,gy,⟨my,ty,yy⟩⟩) 61:=setW_row S3
    have hne:C≠B:=by omega
    have R4:=qh (show RowAt (setW w2 C ⟨ky,gy,⟨my,ty,yy⟩⟩) B Wr.Z.cs 61 from ((((R3.other hne _).other hne _).other hne _).other hne _).other hne _)
    obtain ⟨W4,hW4⟩:=nmq (setW w2 C ⟨ky,gy,⟨my,ty,yy⟩⟩)
    rw [<-hW4] at S4'
    rw [HY.out] at S4'
    have EM2:=pastM_at HO.out S4'
    rw [hW4] at S4' EM2
    have S4:=qh S4'
    have EM2:=qh EM2
    rw [<-HOK.out] at EM2
    clear B3 R3 S3 S4' hBC hne hW4
    replace S4:Hid (RowAt (setW w2 C ⟨ky,gy,⟨my,ty,yy⟩⟩) C (O.atV (i+1)).cs 61):=S4
    go_wp2_with fail
    go_roundw
    case rel=>exact ⟨i+1,N2,congrArg Value.bool HOK.out,S4,R4,B4⟩
    case measure =>
     have e1:=EM.out
     have e2:=EM2.out
     show pastM O C (.bool ok') (setW w2 C ⟨ky,gy,⟨my,ty,yy⟩⟩)<pastM O C (.bool true) wr
     rw [e1,e2]
     omega
  ·have dq:=decide_eq_false q
   have E:=qh (PX.out (by rw [dq]; rfl))
   rw [dq] at E ⊢
   clear PX NX DD RB HE2 EM dq
   go_wp2_with fail
   refine bodyPost_ret (results_cell_tmp rfl _ _ B _ _ _ rfl GX.out Tryz.underlying61 rfl (by kernel_rfl)) rfl ?_
   exact ⟨by rw [<-E.out]; rfl,FX.out⟩
end Go.Proofs.YtoljhoabbaigdaaGreat
