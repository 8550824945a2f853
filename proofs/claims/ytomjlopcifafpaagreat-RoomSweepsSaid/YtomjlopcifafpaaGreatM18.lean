/- Proved parts: B1u B1v B1w B1x B1y B1n B1e. Conditions: each theorem's own. -/
import Derived.Test.YtomjlopcifafpaaGreatM14
import Derived.Test.YtomjlopcifafpaaGreatM17
import Derived.Test.YtomjlopcifafpaaGreatM12
import Derived.Test.YtomjlopcifafpaaGreatM9
import Derived.Test.YtomjlopcifafpaaGreatQ1
import Derived.Test.YtomjlopcifafpaaGreatQ2
set_option maxRecDepth 100000
set_option maxHeartbeats 8000000
namespace Go.Proofs.YtomjlopcifafpaaGreat
open Go.RowKit

def rmc (lb:Value) (g1 g2 g3:Int) (q:Nat) (Lv:Value):List Value:=[lb,.int .i64 g1,.int .i64 g2,.int .i64 g3,.pointer (some ⟨q,0,none⟩),Lv]
theorem rSeq1 (p q:Nat) (v lb Lv:Value) (g1 g2 g3:Int) (r:Rg) (w:World) (hr:RowAt w p (rmc lb g1 g2 g3 q Lv) 106) (h:RefG w q v r) (ok:r.Ok) :
  Calls Tryz.prog 62 #[.pointer (some ⟨p,0,none⟩)] w fun e w'=>e=.returned (.int .i64 (r.seq:Nat))∧∃ n,w'=w.drewN n:=by
 have SQ:=qh (rSeq0 q v r w h ok)
 have c4:=hr.cell 4
 simp only [rmc,List.getElem?_cons_succ,List.getElem?_cons_zero] at c4
 clear hr h ok
 go_enter Tryz.func62,Tryz.ntmps62
 go_wp2_with fail
 refine SQ.out.mono ?_
 rintro e w1 ⟨rfl,n,rfl⟩
 go_wp2_with fail
 go_ret
 exact ⟨rfl,n,rfl⟩

theorem rFloor1 (p q:Nat) (v lb Lv:Value) (g2 g3:Int) (r:Rg) (w:World) (hr:RowAt w p (rmc lb (r.size:Int) g2 g3 q Lv) 106) (h:RefG w q v r) (ok:r.Ok) :
  Calls Tryz.prog 85 #[.pointer (some ⟨p,0,none⟩)] w fun e w'=>e=.returned (.int .i64 (r.floor:Nat))∧∃ n,w'=w.drewN n:=by
 have SQ:=qh (fun n=>rSeq1 p q v lb Lv _ g2 g3 r (w.drewN n) (hr.drewN n) (h.drewN n) ok)
 have c1:=hr.cell 1
 have c4:=hr.cell 4
 simp only [rmc,List.getElem?_cons_succ,List.getElem?_cons_zero] at c1 c4
 have b1:=h.row.cell 1
 simp only [geS] at b1
 obtain ⟨s,hs⟩:=nmq (r.size)
 obtain ⟨m,hm⟩:=nmq (r.seq)
 obtain ⟨b,hb⟩:=nmq (r.beg)
 obtain ⟨f,hf⟩:=nmq (r.floor)
 have fe:(f:Int)=max ((m:Int)-(s:Int)+1) (b:Int):=by
  rw [hf]; unfold Rg.floor
  rw [<-hm,<-hs,<-hb]
  have:=ok.s1
  omega
 have s16:=ok.s16
 have sq:=ok.sq
 rw [<-hs] at c1 s16
 rw [<-hm] at sq
 rw [<-hb] at b1
 rw [<-hf]
 simp only [<-hm] at SQ
 clear hr h ok hs hm hb hf
 by_cases z:(m:Int)-(s:Int)+1<(b:Int)
 ·have f2:=qh (show (f:Int)=(b:Int) by omega)
  clear fe
  go_enter Tryz.func85,Tryz.ntmps85
  go_wp2_with fail
  go_quiet (first | (go_at_call 62; exact Calls.quiet_of (SQ.out _)))
  go_wp2_with fail
  go_ret
  exact ⟨by rw [f2.out]; rfl,_,rfl⟩
 ·have f2:=qh (show (f:Int)=(m:Int)-(s:Int)+1 by omega)
  clear fe
  go_enter Tryz.func85,Tryz.ntmps85
  go_wp2_with fail
  go_quiet (first | (go_at_call 62; exact Calls.quiet_of (SQ.out _)))
  go_wp2_with fail
  go_ret
  exact ⟨by rw [f2.out]; rfl,_,rfl⟩

def spcE (r:Rg) (L:Ch) (ws:List Wr) (quota most:Int):Int:=if most<=(r.seq:Int) then 17 else if quota<((L.withW ws ((r.seq:Int)+1)).live:Int) then 15 else 0
def WithP (B:Nat) (lb:Value) (g1 g2 g3:Int) (q:Nat) (G:Nat->Prop) (M:Ch) (W:World) (e:Ending) (w':World):Prop :=
 ∃ x A' c',e=.returned (.pointer (some ⟨x,0,none⟩))∧B<=x∧RowAt w' x (rmc lb g1 g2 g3 q (.slice A' M.length c')) 106∧SlO w' (fun y=>G y∨x<y) A' M∧Below B W w'
theorem rWith1d (p:Nat) (G:Nat->Prop) (A:Option Addr) (c:Nat) (L:Ch) (lb:Value) (g1 g2 g3:Int) (rp:Nat) (A2:Option Addr) (c2:Nat) (ws:List Wr) (q:Int) (w:World)
  (hr:RowAt w p (rmc lb g1 g2 g3 rp (.slice A L.length c)) 106) (hs:SlO w G A L) (hw:SlWr w A2 ws) (hl:ws.length<=1000)
  (hg:∀ i,i<=ws.length->GoodC (L.withW (ws.take i) q)∧(L.withW (ws.take i) q).length<=10000) (hG:∀ x,G x->x<w.heap.size) :
  ∀ W,(∃ n,W=w.drewN n)->Calls Tryz.prog 82 #[.pointer (some ⟨p,0,none⟩),.slice A2 ws.length c2,.int .i64 q] W (fun e w'=>WithP w.heap.size lb g1 g2 g3 rp G (L.withW ws q) W e w'):=by
 rintro _ ⟨n,rfl⟩
 exact rWith1 p G A c L lb g1 g2 g3 rp A2 c2 ws q (w.drewN n) (hr.drewN n) (hs.keep (fun _ _=>rfl) (Nat.le_refl _)) (hw.below (below_drewN (Below.refl _ _) n)) hl hg hG

theorem rSpace1 (p q:Nat) (v lb:Value) (g1 g2 g3:Int) (r:Rg) (G:Nat->Prop) (A:Option Addr) (c:Nat) (L:Ch) (A2:Option Addr) (c2:Nat) (ws:List Wr) (w:World) (hr:RowAt w p (rmc lb g1 g2 g3 q (.slice A L.length c)) 106) (h:RefG w q v r) (ok:r.Ok)
  (hs:SlO w G A L) (hw:SlWr w A2 ws) (hl:ws.length<=1000) (hg:(r.seq:Int)<g3->∀ i,i<=ws.length->GoodC (L.withW (ws.take i) ((r.seq:Int)+1))∧(L.withW (ws.take i) ((r.seq:Int)+1)).length<=10000) (hG:∀ x,G x->x<w.heap.size) :
  Calls Tryz.prog 80 #[.pointer (some ⟨p,0,none⟩),.slice A2 ws.length c2] w fun e w'=>e=.returned (.int .i64 (spcE r L ws g2 g3))∧Below w.heap.size w w':=by
 have SQ:=qh (fun n=>rSeq1 p q v lb _ g1 g2 g3 r (w.drewN n) (hr.drewN n) (h.drewN n) ok)
 have CW:=qh (fun (zz:(r.seq:Int)<g3)=>rWith1d p G A c L lb g1 g2 g3 q A2 c2 ws ((r.seq:Int)+1) w hr hs hw hl (hg zz) hG)
 have GL:=qh (fun (zz:(r.seq:Int)<g3)=>show GoodC (L.withW ws ((r.seq:Int)+1)) by have:=(hg zz ws.length (Nat.le_refl _)).1; rwa [List.take_length] at this)
 have CL:=qh (fun (zz:(r.seq:Int)<g3) W x A' c' (h5:W.cell? ⟨x,5,none⟩=_) (hs:SlO W (fun y=>G y∨x<y) A' (L.withW ws ((r.seq:Int)+1)))=>rLive1 x _ A' c' _ W h5 hs (GL.out zz))
 have c2':=hr.cell 2
 have c3:=hr.cell 3
 simp only [rmc,List.getElem?_cons_succ,List.getElem?_cons_zero] at c2' c3
 have P:=qh hr.lt
 obtain ⟨T,hT⟩:=nmq (spcE r L ws g2 g3)
 obtain ⟨M,hM⟩:=nmq (L.withW ws ((r.seq:Int)+1))
 obtain ⟨m,hm⟩:=nmq (r.seq)
 have eT:T=if g3<=(m:Int) then 17 else if g2<(M.live:Int) then 15 else 0:=by rw [hT,hm,hM]; rfl
 have sq:=ok.sq
 rw [<-hT]
 rw [<-hm] at sq
 simp only [<-hM] at CW CL
 clear GL
 simp only [<-hm] at CW SQ CL
 obtain ⟨V,hV⟩:=nmq (M.live)
 rw [<-hV] at eT
 simp only [<-hV] at CL
 obtain ⟨n,hn⟩:=nmq (ws.length)
 simp only [<-hn] at CW
 rw [<-hn]
 have ET:=qh eT
 clear hr h ok hs hw hl hg hG hT hM hm eT hV hn
 go_enter Tryz.func80,Tryz.ntmps80
 go_wp2_with fail
 by_cases z:g3<=(m:Int)
 ·have e:=ET.out
  rw [if_pos z] at e
  subst e
  go_quiet (first | (go_at_call 62; exact Calls.quiet_of (SQ.out _)))
  go_wp2_with fail
  go_ret
  exact ⟨rfl,below_drewN (Below.refl _ _) _⟩
 ·have e:=ET.out
  rw [if_neg z] at e
  have E2:=qh e
  have CW:=qh (CW.out (by omega))
  have CL:=qh (CL.out (by omega))
  clear e
  go_quiet (first | (go_at_call 62; exact Calls.quiet_of (SQ.out _)))
  go_wp2_with fail
  obtain ⟨n0,hn0⟩:=nmq (nq)
  rw [<-hn0]
  clear hn0
  have C2:=qh (show ∀ W,(∃ k,W=w.drewN k)->W.cell? ⟨p,2,none⟩=some (.int .i64 g2) from by rintro _ ⟨k,rfl⟩; exact c2')
  refine wp_region_held_drew (S:=(fun w'=>w'.cell? ⟨p,2,none⟩=some (.int .i64 g2))) (by kernel_rfl) ((C2.out _ ⟨n0+1,rfl⟩)) (fun gH=>?_)
  refine rgT 0 (v:=?v1) ?y1 gH ?_
  case y1=>(intro v hSw; go_simp<;>rfl)
  refine rgT 1 (v:=?v2) ?y2 gH ?_
  case y2=>(intro v hSw; go_simp<;>rfl)
  refine rgT 2 (v:=?v3) ?y3 gH ?_
  case y3=>(intro v hSw; go_simp<;>rfl)
  try simp only [putS]
  refine rgT 7 (v:=?v4) ?y4 gH ?_
  case y4=>(intro v hSw; go_simp<;>rfl)
  refine rgT 8 (v:=?v5) ?y5 gH ?_
  case y5=>(intro v hSw; go_simp<;>rfl)
  refine rgT 9 (v:=?v6) ?y6 gH ?_
  case y6=>(intro v hSw; go_simp<;>rfl)
  try simp only [putS]
  refine rgT 10 (v:=?v7) ?y7 gH ?_
  case y7=>(intro v hSw; go_simp<;>rfl)
  refine rgT 11 (v:=?v8) ?y8 gH ?_
  case y8=>(intro v hSw; go_simp<;>rfl)
  try simp only [putS]
  refine rgO 3 fun K hK=>?_
  go_simp
  refine (show Calls _ _ _ (w.drewN n0).drew _ from SQ.out (n0+1)).mono ?_
  rintro e w1 ⟨rfl,k1,hk1'⟩
  have hk1:=qh (show ∃ k,w1=w.drewN k from ⟨n0+1+k1,by rw [hk1',World.drewN_drewN]⟩)
  clear hk1'
  refine hK.out _ _ ((C2.out w1 hk1.out)) (fun gH=>?_)
  clear hK K
  refine rgT 4 (v:=?v9) ?y9 gH ?_
  case y9=>(intro v hSw; go_simp<;>rfl)
  try simp only [putS]
  refine rgO 5 fun K hK=>?_
  go_simp
  rw [show IntKind.i64.wrap ((m:Int)+1)=(m:Int)+1 from by rw [IntKind.wrap_i64]; omega]
  refine (CW.out w1 hk1.out).mono ?_
  rintro e w2 hw2
  obtain ⟨x,A',c',rfl,hx,hr2,hs2,hb2⟩:=hw2
  obtain ⟨k,hk⟩:=hk1.out
  have hz0:w1.heap.size=w.heap.size:=(by rw [hk]; rfl)
  have hbk:Below w.heap.size w w1:=(by rw [hk]; exact below_drewN (Below.refl _ _) _)
  have hz2:w2.cell? ⟨p,2,none⟩=some (.int .i64 g2):=(hb2.cell (p:=⟨p,2,none⟩) P.out).trans (C2.out w1 hk1.out)
  have B2:=qh (hbk.trans hb2)
  have h52:=hr2.cell 5
  simp only [rmc,List.getElem?_cons_succ,List.getElem?_cons_zero] at h52
  have C6:=qh (CL.out w2 x A' c' h52 hs2)
  clear hx hr2 hs2 hb2 h52 hk hz0 hbk
  refine hK.out _ _ (hz2) (fun gH=>?_)
  clear hK K
  try simp only [putS]
  refine rgO 6 fun K hK=>?_
  go_simp
  refine C6.out.mono ?_
  rintro e w3 ⟨rfl,hb3⟩
  have B3:=qh (B2.out.trans (hb3.mono B2.out.size))
  have hz3:w3.cell? ⟨p,2,none⟩=some (.int .i64 g2):=(B3.out.cell (p:=⟨p,2,none⟩) P.out).trans c2'
  clear hb3
  refine hK.out _ _ (hz3) (fun gH=>?_)
  clear hK K
  refine rgT 12 (v:=?v10) ?y10 gH ?_
  case y10=>(intro v hSw; go_simp<;>rfl)
  try simp only [putS]
  refine rgD ?_
  by_cases z2:g2<(V:Int)
  ·have e:=E2.out
   rw [if_pos z2] at e
   subst e
   go_wp2_with fail
   go_ret
   exact ⟨rfl,B3.out⟩
  ·have e:=E2.out
   rw [if_neg z2] at e
   subst e
   go_wp2_with fail
   go_ret
   exact ⟨rfl,B3.out⟩
end Go.Proofs.YtomjlopcifafpaaGreat

namespace Go.Proofs.YtomjlopcifafpaaGreat
open Go.RowKit

section
variable {P:Program} {ops:Array Oper} {Q:Exit->Act->World->Prop} {md:Region.Mode} {S:World->Prop}
theorem rgnSkip (i:Nat) {oi:Oper} {fuel:Nat} {listed:Array Bool} {a:Act} {w:World} (hi:ops.toList[i]?=some oi)
  (hs:Region.noSelect ops=true) (hf:Region.free md ops listed i=true) (hr:(Region.ready md ops listed).contains i=true)
  (hQ:∀ c a w,Q (.panic c) (a.put oi.dst undef) w->Q (.panic c) a w) (hw:Region.wanted oi (yielded ops a.tmps)=false) (hS:S w)
  (h:wpAnyH P md ops Q S fuel (listed.setIfInBounds i true) (a.put oi.dst undef) w):wpAnyH P md ops Q S (fuel+1) listed a w :=
 wpAnyH_take (by rw [<-Array.getElem?_toList]; exact hi) hs hf hr hQ (.inr ⟨hw,rfl⟩) hS h
end

theorem rKey1 (k:ByteArray) (w:World) (hk:k.size<=1000000):Calls Tryz.prog 71 #[.string k] w fun e w'=>e=.returned (.bool (keyOk k))∧w'=w:=by
 obtain ⟨n,hn⟩:=nmq (k.size)
 obtain ⟨T,hT⟩:=nmq (keyOk k)
 have e:T=(decide (1<=n) && decide (n<=32)):=by rw [hT,hn]; rfl
 rw [<-hT]
 have HN:=qh hn.symm
 by_cases z1:1<=n
 ·by_cases z2:n<=32
  ·rw [decide_eq_true z1,decide_eq_true z2] at e
   change T=true at e
   subst e
   rw [hn] at z1 z2
   clear hn hT
   go_enter Tryz.func71,Tryz.ntmps71
   go_wp2_with fail
   go_ret
   exact ⟨by show Ending.returned (Value.bool (decide ((k.size:Int)<=32)))=_; rw [decide_eq_true (by omega)],rfl⟩
  ·rw [decide_eq_true z1,decide_eq_false z2] at e
   change T=false at e
   subst e
   rw [hn] at z1 z2
   clear hn hT
   go_enter Tryz.func71,Tryz.ntmps71
   go_wp2_with fail
   go_ret
   exact ⟨by show Ending.returned (Value.bool (decide ((k.size:Int)<=32)))=_; rw [decide_eq_false (by omega)],rfl⟩
 ·rw [decide_eq_false z1] at e
  change T=false at e
  subst e
  rw [hn] at z1
  clear hn hT
  go_enter Tryz.func71,Tryz.ntmps71
  go_wp2_with fail
  go_ret
  exact ⟨rfl,rfl⟩

theorem prevW_succ (l:List Wr) (i:Nat):prevW l (i+1)=some (l.getD i Wr.Z).key:=by
 unfold prevW
 rw [if_neg (by omega),Nat.add_sub_cancel]
theorem mayW_no {l:List Wr} {i:Nat} (hi:i<l.length) (h:wrOk (prevW l i) (l.getD i Wr.Z)=false):mayW l=false:=by
 cases q:mayW l with
 | false=>rfl
 | true =>
  unfold mayW at q
  simp only [Bool.and_eq_true,List.all_eq_true,List.mem_range] at q
  have:=q.2.2 i hi
  rw [h] at this; cases this
theorem mayW_yes {l:List Wr} (h1:1<=l.length) (h2:l.length<=16) (h:∀ j,j<l.length->wrOk (prevW l j) (l.getD j Wr.Z)=true):mayW l=true:=by
 unfold mayW
 simp only [Bool.and_eq_true,List.all_eq_true,List.mem_range,decide_eq_true_eq]
 exact ⟨h1,h2,h⟩
theorem mayW_len {l:List Wr} (h:¬ (1<=l.length∧l.length<=16)):mayW l=false:=by
 cases q:mayW l with
 | false=>rfl
 | true =>
  unfold mayW at q
  simp only [Bool.and_eq_true,decide_eq_true_eq] at q
  exact absurd ⟨q.1,q.2.1⟩ h
def FitsW (l:List Wr):Prop:=∀ x,x ∈ l->x.val.Fits∧x.key.size<=1000000
theorem FitsW.get {l:List Wr} (h:FitsW l) {i:Nat} (hi:i<l.length):(l.getD i Wr.Z).val.Fits∧(l.getD i Wr.Z).key.size<=1000000:=by
 rw [List.getD_eq_getElem?_getD,List.getElem?_eq_getElem hi]
 exact h _ (List.getElem_mem hi)

theorem rMay1 (l:List Wr) (A:Option Addr) (c:Nat) (w:World) (h:SlWr w A l) (hf:FitsW l) :
  Calls Tryz.prog 37 #[.slice A l.length c] w fun e w'=>e=.returned (.bool (mayW l))∧Below w.heap.size w w':=by
 obtain ⟨n,hn⟩:=nmq (l.length)
 obtain ⟨R,hR⟩:=nmq (mayW l)
 rw [<-hn,<-hR]
 have HN:=qh hn
 have HR:=qh hR
 have HS:=qh h
 have HF:=qh hf
 have NZ:=qh neq_zero
 clear hn hR h hf
 by_cases z1:n<1
 ·have e:=HR.out
  rw [mayW_len (by rw [<-HN.out]; omega)] at e
  subst e
  go_enter Tryz.func37,Tryz.ntmps37
  go_wp2_with fail
  go_ret
  exact ⟨rfl,Below.refl _ _⟩
 by_cases z2:16<n
 ·have e:=HR.out
  rw [mayW_len (by rw [<-HN.out]; omega)] at e
  subst e
  go_enter Tryz.func37,Tryz.ntmps37
  go_wp2_with fail
  go_ret
  exact ⟨rfl,Below.refl _ _⟩
 go_enter Tryz.func37,Tryz.ntmps37
 go_wp2_with fail
 go_loopw [3] (fun vi wr=>∃ i:Nat,i<=n∧vi=.int .i64 i∧Hid (∀ j,j<i->wrOk (prevW l j) (l.getD j Wr.Z)=true)∧Hid (Below w.heap.size w wr)) (fun vi _=>n-(intOf vi).toNat)
 case atStart=>exact ⟨0,Nat.zero_le _,rfl,qh (fun j hj=>by cases hj),qh (Below.refl _ _)⟩
 case round =>
  obtain ⟨i,hi,rfl,HM,HB⟩:=hrel
  by_cases q:i<n
  ·obtain ⟨b,o,e0,hb,_⟩:=HS.out.at (j:=i) (by rw [<-HN.out]; exact q)
   have HK:=qh (show ∀ w',Below w.heap.size w w'->w'.cell? ⟨b,o+i * 5,none⟩=some (.string (l.getD i Wr.Z).key)∧w'.cell? ⟨b,o+i * 5+1,none⟩=some (.bool (l.getD i Wr.Z).gone)∧w'.cell? ⟨b,o+i * 5+2,none⟩=some (.bool (l.getD i Wr.Z).val.num)∧w'.cell? ⟨b,o+i * 5+3,none⟩=some (.string (l.getD i Wr.Z).val.txt)∧w'.cell? ⟨b,o+i * 5+4,none⟩=some (.int .u64 ((l.getD i Wr.Z).val.bits:Int)) from fun w' h'=>by
    obtain ⟨b',o',e1,_,d⟩:=(HS.out.below h').at (j:=i) (by rw [<-HN.out]; exact q)
    rw [e0] at e1
    injection e1 with e1
    injection e1 with e1 e2 _
    subst e1 e2
    exact d)
   have HP:=qh (fun (hp:0<i)=>show ∀ w',Below w.heap.size w w'->w'.cell? ⟨b,o+(i-1) * 5,none⟩=some (.string (l.getD (i-1) Wr.Z).key) from fun w' h'=>by
    obtain ⟨b',o',e1,_,d0,_⟩:=(HS.out.below h').at (j:=i-1) (by rw [<-HN.out]; omega)
    rw [e0] at e1
    injection e1 with e1
    injection e1 with e1 e2 _
    subst e1 e2
    exact d0)
   subst e0
   have RN:=qh (fun (hm:wrOk (prevW l i) (l.getD i Wr.Z)=false)=>show R=false by rw [HR.out]; exact mayW_no (by rw [<-HN.out]; exact q) hm)
   have XF:=qh (HF.out.get (i:=i) (by rw [<-HN.out]; exact q))
   obtain ⟨x,hx⟩:=nmq (l.getD i Wr.Z)
   have HMY:=qh (show wrOk (prevW l i) x=true->∀ j,j<i+1->wrOk (prevW l j) (l.getD j Wr.Z)=true from fun hm j hj=>by
    by_cases e:j=i
    ·rw [e,<-hx]; exact hm
    ·exact HM.out j (by omega))
   rw [<-hx] at HK RN XF
   obtain ⟨k,g,v⟩:=x
   obtain ⟨m,t,u⟩:=v
   have VR:=qh (fun w'=>vrRight ⟨m,t,u⟩ w' XF.out.1)
   have KR:=qh (fun w'=>rKey1 k w' XF.out.2)
   have NE:=NZ.out ⟨m,t,u⟩
   obtain ⟨K1,hK1⟩:=nmq (keyOk k)
   obtain ⟨K2,hK2⟩:=nmq (Val.ok ⟨m,t,u⟩)
   obtain ⟨Y,hY⟩:=nmq (Val.isZ ⟨m,t,u⟩)
   simp only [<-hK1] at KR
   simp only [<-hK2] at VR
   simp only [<-hY] at NE
   have EM:=qh (show ∀ pv,wrOk pv ⟨k,g,⟨m,t,u⟩⟩=(K1 && (K2 && ((!g || Y) && (match pv with | none=>true | some k2=>ltB k2 k)))) from fun pv=>by rw [hK1,hK2,hY]; rfl)
   have i0:(0:Int)<=(i:Int):=by omega
   have i1:(i:Int)<(n:Int):=by omega
   have hn16:n<=16:=by omega
   clear hx hK1 hK2 hY hb hi
   have BD:=qh HB.out.drew
   have HK:Hid (∀ w',Below w.heap.size w w'->w'.cell? ⟨b,o+i * 5,none⟩=some (.string k)∧w'.cell? ⟨b,o+i * 5+1,none⟩=some (.bool g)∧w'.cell? ⟨b,o+i * 5+2,none⟩=some (.bool m)∧w'.cell? ⟨b,o+i * 5+3,none⟩=some (.string t)∧w'.cell? ⟨b,o+i * 5+4,none⟩=some (.int .u64 (u:Int))):=HK
   have NE:∀ w,(binOp .neq 45 (.agg #[.bool m,.string t,.int .u64 (u:Int)]) (.agg #[.bool false,.string ⟨#[]⟩,.int .u64 0])).run Tryz.prog w=.ok (.bool (!Y)) w:=NE
   have VR:Hid (∀ w',Calls Tryz.prog 41 #[.agg #[.bool m,.string t,.int .u64 (u:Int)]] w' fun e w''=>e=.returned (.bool K2)∧Below w'.heap.size w' w''):=VR
   by_cases zi:i=0
   ·subst zi
    clear HP
    simp only [Nat.zero_mul,Nat.add_zero] at HK
    obtain ⟨c0,c1,c2,c3,c4⟩:=HK.out _ BD.out
    go_wp2_with fail
    clear c0 c1 c2 c3 c4
    refine wp_region_held_drew (S:=(fun w'=>Below w.heap.size w w')) (by kernel_rfl) (BD.out) (fun gH=>?_)
    refine rgT 0 (v:=?v1) ?y1 gH ?_
    case y1=>(intro v hSw; go_simp<;>rfl)
    refine rgT 1 (v:=?v2) ?y2 gH ?_
    case y2=>(intro v hSw; go_simp<;>rfl)
    refine rgT 2 (v:=?v3) ?y3 gH ?_
    case y3=>(intro v hSw; go_simp<;>rfl)
    try simp only [putS]
    refine rgT 3 (v:=?v4) ?y4 gH ?_
    case y4=>(intro v hSw; go_simp<;>rfl)
    refine rgT 4 (v:=?v5) ?y5 gH ?_
    case y5=>(intro v hSw; obtain ⟨c0,c1,c2,c3,c4⟩:=HK.out _ hSw; go_simp<;>rfl)
    try simp only [putS]
    refine rgO 5 fun K hK=>?_
    go_simp
    refine (KR.out _).mono ?_
    rintro e w1 ⟨rfl,rfl⟩
    refine hK.out _ _ (gH) (fun gH=>?_)
    clear hK K
    try simp only [putS]
    cases K1 with
    | false =>
     refine rgT 6 (v:=?v6) ?y6 gH ?_
     case y6=>(intro v hSw; go_simp<;>rfl)
     refine rgT 7 (v:=?v7) ?y7 gH ?_
     case y7=>(intro v hSw; go_simp<;>rfl)
     refine rgS 8 gH ?_
     try simp only [putS]
     refine rgS 9 gH ?_
     refine rgS 10 gH ?_
     refine rgS 11 gH ?_
     try simp only [putS]
     refine rgS 12 gH ?_
     try simp only [putS]
     refine rgO 13 fun K hK=>?_
     go_simp
     refine hK.out _ _ (gH) (fun gH=>?_)
     clear hK K
     refine rgS 14 gH ?_
     refine rgT 15 (v:=?v8) ?y8 gH ?_
     case y8=>(intro v hSw; go_simp<;>rfl)
     try simp only [putS]
     refine rgT 16 (v:=?v9) ?y9 gH ?_
     case y9=>(intro v hSw; go_simp<;>rfl)
     refine rgS 17 gH ?_
     refine rgS 18 gH ?_
     try simp only [putS]
     refine rgS 19 gH ?_
     refine rgS 20 gH ?_
     refine rgS 21 gH ?_
     try simp only [putS]
     refine rgS 22 gH ?_
     refine rgS 23 gH ?_
     refine rgS 24 gH ?_
     try simp only [putS]
     refine rgS 25 gH ?_
     refine rgS 26 gH ?_
     refine rgS 27 gH ?_
     try simp only [putS]
     refine rgS 28 gH ?_
     refine rgS 29 gH ?_
     refine rgS 30 gH ?_
     try simp only [putS]
     refine rgT 31 (v:=?v10) ?y10 gH ?_
     case y10=>(intro v hSw; go_simp<;>rfl)
     refine rgT 32 (v:=?v11) ?y11 gH ?_
     case y11=>(intro v hSw; go_simp<;>rfl)
     refine rgS 33 gH ?_
     try simp only [putS]
     refine rgS 34 gH ?_
     refine rgS 35 gH ?_
     refine rgS 36 gH ?_
     try simp only [putS]
     refine rgS 37 gH ?_
     refine rgS 38 gH ?_
     refine rgS 39 gH ?_
     try simp only [putS]
     refine rgS 40 gH ?_
     refine rgS 41 gH ?_
     refine rgS 42 gH ?_
     try simp only [putS]
     refine rgS 43 gH ?_
     refine rgS 44 gH ?_
     refine rgS 45 gH ?_
     try simp only [putS]
     refine rgS 46 gH ?_
     refine rgS 47 gH ?_
     refine rgS 48 gH ?_
     try simp only [putS]
     refine rgT 49 (v:=?v12) ?y12 gH ?_
     case y12=>(intro v hSw; go_simp<;>rfl)
     try simp only [putS]
     refine rgD ?_
     have B1:=qh (show Below w.heap.size w _ from gH)
     have e9:=(show prevW l 0=none from rfl)
     have ET:=qh (RN.out (by rw [EM.out,e9]; simp))
     clear e9
     go_wp2_with fail
     go_ret
     exact ⟨by rw [ET.out]; rfl,B1.out⟩
    | true =>
     refine rgT 6 (v:=?v13) ?y13 gH ?_
     case y13=>(intro v hSw; go_simp<;>rfl)
     refine rgT 7 (v:=?v14) ?y14 gH ?_
     case y14=>(intro v hSw; go_simp<;>rfl)
     refine rgT 8 (v:=?v15) ?y15 gH ?_
     case y15=>(intro v hSw; go_simp<;>rfl)
     try simp only [putS]
     refine rgT 9 (v:=?v16) ?y16 gH ?_
     case y16=>(intro v hSw; go_simp<;>rfl)
     refine rgT 10 (v:=?v17) ?y17 gH ?_
     case y17=>(intro v hSw; go_simp<;>rfl)
     refine rgT 11 (v:=?v18) ?y18 gH ?_
     case y18=>(intro v hSw; go_simp<;>rfl)
     try simp only [putS]
     refine rgT 12 (v:=?v19) ?y19 gH ?_
     case y19=>(intro v hSw; obtain ⟨c0,c1,c2,c3,c4⟩:=HK.out _ hSw; go_simp<;>rfl)
     try simp only [putS]
     refine rgO 13 fun K hK=>?_
     go_simp
     refine (VR.out _).mono ?_
     rintro e w1 ⟨rfl,hb1⟩
     have hz:Below w.heap.size w w1:=BD.out.trans (hb1.mono BD.out.size)
     clear hb1
     refine hK.out _ _ (hz) (fun gH=>?_)
     clear hK K
     try simp only [putS]
     cases K2 with
     | false =>
      refine rgT 14 (v:=?v20) ?y20 gH ?_
      case y20=>(intro v hSw; go_simp<;>rfl)
      refine rgT 15 (v:=?v21) ?y21 gH ?_
      case y21=>(intro v hSw; go_simp<;>rfl)
      refine rgT 16 (v:=?v22) ?y22 gH ?_
      case y22=>(intro v hSw; go_simp<;>rfl)
      try simp only [putS]
      refine rgS 17 gH ?_
      refine rgS 18 gH ?_
      refine rgS 19 gH ?_
      try simp only [putS]
      refine rgS 20 gH ?_
      refine rgS 21 gH ?_
      refine rgS 22 gH ?_
      try simp only [putS]
      refine rgS 23 gH ?_
      refine rgS 24 gH ?_
      refine rgS 25 gH ?_
      try simp only [putS]
      refine rgS 26 gH ?_
      refine rgS 27 gH ?_
      refine rgS 28 gH ?_
      try simp only [putS]
      refine rgS 29 gH ?_
      refine rgS 30 gH ?_
      refine rgT 31 (v:=?v23) ?y23 gH ?_
      case y23=>(intro v hSw; go_simp<;>rfl)
      try simp only [putS]
      refine rgT 32 (v:=?v24) ?y24 gH ?_
      case y24=>(intro v hSw; go_simp<;>rfl)
      refine rgS 33 gH ?_
      refine rgS 34 gH ?_
      try simp only [putS]
      refine rgS 35 gH ?_
      refine rgS 36 gH ?_
      refine rgS 37 gH ?_
      try simp only [putS]
      refine rgS 38 gH ?_
      refine rgS 39 gH ?_
      refine rgS 40 gH ?_
      try simp only [putS]
      refine rgS 41 gH ?_
      refine rgS 42 gH ?_
      refine rgS 43 gH ?_
      try simp only [putS]
      refine rgS 44 gH ?_
      refine rgS 45 gH ?_
      refine rgS 46 gH ?_
      try simp only [putS]
      refine rgS 47 gH ?_
      refine rgS 48 gH ?_
      refine rgT 49 (v:=?v25) ?y25 gH ?_
      case y25=>(intro v hSw; go_simp<;>rfl)
      try simp only [putS]
      refine rgD ?_
      have B1:=qh (show Below w.heap.size w _ from gH)
      have e9:=(show prevW l 0=none from rfl)
      have ET:=qh (RN.out (by rw [EM.out,e9]; simp))
      clear e9
      go_wp2_with fail
      go_ret
      exact ⟨by rw [ET.out]; rfl,B1.out⟩
     | true =>
      refine rgT 14 (v:=?v26) ?y26 gH ?_
      case y26=>(intro v hSw; go_simp<;>rfl)
      refine rgT 15 (v:=?v27) ?y27 gH ?_
      case y27=>(intro v hSw; go_simp<;>rfl)
      refine rgT 16 (v:=?v28) ?y28 gH ?_
      case y28=>(intro v hSw; go_simp<;>rfl)
      try simp only [putS]
      refine rgT 17 (v:=?v29) ?y29 gH ?_
      case y29=>(intro v hSw; go_simp<;>rfl)
      refine rgT 18 (v:=?v30) ?y30 gH ?_
      case y30=>(intro v hSw; go_simp<;>rfl)
      refine rgT 19 (v:=?v31) ?y31 gH ?_
      case y31=>(intro v hSw; go_simp<;>rfl)
      try simp only [putS]
      refine rgT 20 (v:=?v32) ?y32 gH ?_
      case y32=>(intro v hSw; go_simp<;>rfl)
      refine rgT 21 (v:=?v33) ?y33 gH ?_
      case y33=>(intro v hSw; obtain ⟨c0,c1,c2,c3,c4⟩:=HK.out _ hSw; go_simp<;>rfl)
      refine rgT 22 (v:=?v34) ?y34 gH ?_
      case y34=>(intro v hSw; go_simp<;>rfl)
      try simp only [putS]
      cases g with
      | false =>
       refine rgS 23 gH ?_
       refine rgS 24 gH ?_
       refine rgS 25 gH ?_
       try simp only [putS]
       refine rgS 26 gH ?_
       refine rgS 27 gH ?_
       refine rgS 28 gH ?_
       try simp only [putS]
       refine rgS 29 gH ?_
       refine rgT 30 (v:=?v35) ?y35 gH ?_
       case y35=>(intro v hSw; go_simp<;>rfl)
       refine rgT 31 (v:=?v36) ?y36 gH ?_
       case y36=>(intro v hSw; go_simp<;>rfl)
       try simp only [putS]
       refine rgT 32 (v:=?v37) ?y37 gH ?_
       case y37=>(intro v hSw; go_simp<;>rfl)
       refine rgT 33 (v:=?v38) ?y38 gH ?_
       case y38=>(intro v hSw; go_simp<;>rfl)
       refine rgT 34 (v:=?v39) ?y39 gH ?_
       case y39=>(intro v hSw; go_simp<;>rfl)
       try simp only [putS]
       refine rgT 35 (v:=?v40) ?y40 gH ?_
       case y40=>(intro v hSw; go_simp<;>rfl)
       refine rgS 36 gH ?_
       refine rgS 37 gH ?_
       try simp only [putS]
       refine rgS 38 gH ?_
       refine rgS 39 gH ?_
       refine rgS 40 gH ?_
       try simp only [putS]
       refine rgS 41 gH ?_
       refine rgS 42 gH ?_
       refine rgS 43 gH ?_
       try simp only [putS]
       refine rgS 44 gH ?_
       refine rgS 45 gH ?_
       refine rgS 46 gH ?_
       try simp only [putS]
       refine rgS 47 gH ?_
       refine rgT 48 (v:=?v41) ?y41 gH ?_
       case y41=>(intro v hSw; go_simp<;>rfl)
       refine rgT 49 (v:=?v42) ?y42 gH ?_
       case y42=>(intro v hSw; go_simp<;>rfl)
       try simp only [putS]
       refine rgD ?_
       have B1:=qh (show Below w.heap.size w _ from gH)
       have e9:=(show prevW l 0=none from rfl)
       have OK:=qh (HMY.out (by rw [EM.out,e9]; simp))
       clear e9
       go_wp2_with fail
       go_roundw
       case rel=>exact ⟨1,by omega,by go_num,OK,B1⟩
       case measure=>simp [intOf]; omega
      | true =>
       refine rgT 23 (v:=?v43) ?y43 gH ?_
       case y43=>(intro v hSw; go_simp<;>rfl)
       refine rgT 24 (v:=?v44) ?y44 gH ?_
       case y44=>(intro v hSw; go_simp<;>rfl)
       refine rgT 25 (v:=?v45) ?y45 gH ?_
       case y45=>(intro v hSw; go_simp<;>rfl)
       try simp only [putS]
       refine rgT 26 (v:=?v46) ?y46 gH ?_
       case y46=>(intro v hSw; go_simp<;>rfl)
       refine rgT 27 (v:=?v47) ?y47 gH ?_
       case y47=>(intro v hSw; obtain ⟨c0,c1,c2,c3,c4⟩:=HK.out _ hSw; go_simp<;>rfl)
       refine rgT 28 (v:=?v48) ?y48 gH ?_
       case y48=>(intro v hSw; go_simp<;>rfl)
       try simp only [putS]
       cases Y with
       | false =>
        refine rgT 29 (v:=?v49) ?y49 gH ?_
        case y49=>(intro v hSw; go_simp<;>rfl)
        refine rgT 30 (v:=?v50) ?y50 gH ?_
        case y50=>(intro v hSw; go_simp<;>rfl)
        refine rgT 31 (v:=?v51) ?y51 gH ?_
        case y51=>(intro v hSw; go_simp<;>rfl)
        try simp only [putS]
        refine rgT 32 (v:=?v52) ?y52 gH ?_
        case y52=>(intro v hSw; go_simp<;>rfl)
        refine rgS 33 gH ?_
        refine rgS 34 gH ?_
        try simp only [putS]
        refine rgS 35 gH ?_
        refine rgS 36 gH ?_
        refine rgS 37 gH ?_
        try simp only [putS]
        refine rgS 38 gH ?_
        refine rgS 39 gH ?_
        refine rgS 40 gH ?_
        try simp only [putS]
        refine rgS 41 gH ?_
        refine rgS 42 gH ?_
        refine rgS 43 gH ?_
        try simp only [putS]
        refine rgS 44 gH ?_
        refine rgS 45 gH ?_
        refine rgS 46 gH ?_
        try simp only [putS]
        refine rgS 47 gH ?_
        refine rgS 48 gH ?_
        refine rgT 49 (v:=?v53) ?y53 gH ?_
        case y53=>(intro v hSw; go_simp<;>rfl)
        try simp only [putS]
        refine rgD ?_
        have B1:=qh (show Below w.heap.size w _ from gH)
        have e9:=(show prevW l 0=none from rfl)
        have ET:=qh (RN.out (by rw [EM.out,e9]; simp))
        clear e9
        go_wp2_with fail
        go_ret
        exact ⟨by rw [ET.out]; rfl,B1.out⟩
       | true =>
        refine rgT 29 (v:=?v54) ?y54 gH ?_
        case y54=>(intro v hSw; go_simp<;>rfl)
        refine rgT 30 (v:=?v55) ?y55 gH ?_
        case y55=>(intro v hSw; go_simp<;>rfl)
        refine rgT 31 (v:=?v56) ?y56 gH ?_
        case y56=>(intro v hSw; go_simp<;>rfl)
        try simp only [putS]
        refine rgT 32 (v:=?v57) ?y57 gH ?_
        case y57=>(intro v hSw; go_simp<;>rfl)
        refine rgT 33 (v:=?v58) ?y58 gH ?_
        case y58=>(intro v hSw; go_simp<;>rfl)
        refine rgT 34 (v:=?v59) ?y59 gH ?_
        case y59=>(intro v hSw; go_simp<;>rfl)
        try simp only [putS]
        refine rgT 35 (v:=?v60) ?y60 gH ?_
        case y60=>(intro v hSw; go_simp<;>rfl)
        refine rgS 36 gH ?_
        refine rgS 37 gH ?_
        try simp only [putS]
        refine rgS 38 gH ?_
        refine rgS 39 gH ?_
        refine rgS 40 gH ?_
        try simp only [putS]
        refine rgS 41 gH ?_
        refine rgS 42 gH ?_
        refine rgS 43 gH ?_
        try simp only [putS]
        refine rgS 44 gH ?_
        refine rgS 45 gH ?_
        refine rgS 46 gH ?_
        try simp only [putS]
        refine rgS 47 gH ?_
        refine rgT 48 (v:=?v61) ?y61 gH ?_
        case y61=>(intro v hSw; go_simp<;>rfl)
        refine rgT 49 (v:=?v62) ?y62 gH ?_
        case y62=>(intro v hSw; go_simp<;>rfl)
        try simp only [putS]
        refine rgD ?_
        have B1:=qh (show Below w.heap.size w _ from gH)
        have e9:=(show prevW l 0=none from rfl)
        have OK:=qh (HMY.out (by rw [EM.out,e9]; simp))
        clear e9
        go_wp2_with fail
        go_roundw
        case rel=>exact ⟨1,by omega,by go_num,OK,B1⟩
        case measure=>simp [intOf]; omega
   ·obtain ⟨j,hj⟩:=nmq (i-1)
    have i9:(0:Int)<(i:Int):=by omega
    have i9':0<i:=by omega
    have i9d:decide ((0:Int)<(i:Int))=true:=by rw [decide_eq_true i9]
    have i9e:decide (0<i)=true:=by rw [decide_eq_true i9']
    have i4:wrap64 ((i:Int)-1)=(j:Int):=by
     rw [show (i:Int)-1=(j:Int) by omega]
     have:(j:Int)<=1000:=by omega
     first | exact wrap64_small (by omega) (by omega) | (unfold wrap64; omega) | (simp only [wrap64,IntKind.wrap_i64]; omega)
    have i4':IntKind.i64.wrap ((i:Int)-1)=(j:Int):=by rw [IntKind.wrap_i64]; omega
    have HP:=qh (HP.out (by omega))
    have PS:=qh (show prevW l i=some (l.getD j Wr.Z).key from by rw [show i=j+1 by omega]; exact prevW_succ l j)
    rw [<-hj] at HP
    obtain ⟨pk,hpk⟩:=nmq ((l.getD j Wr.Z).key)
    rw [<-hpk] at PS
    simp only [<-hpk] at HP
    clear hpk
    obtain ⟨c0,c1,c2,c3,c4⟩:=HK.out _ BD.out
    have pc:=HP.out _ BD.out
    have i2:(0:Int)<=(j:Int):=by omega
    have i3:(j:Int)<(n:Int):=by omega
    clear hj zi
    go_wp2_with fail
    clear c0 c1 c2 c3 c4 pc
    refine wp_region_held_drew (S:=(fun w'=>Below w.heap.size w w')) (by kernel_rfl) (BD.out) (fun gH=>?_)
    refine rgT 0 (v:=?v63) ?y63 gH ?_
    case y63=>(intro v hSw; go_simp<;>rfl)
    refine rgT 1 (v:=?v64) ?y64 gH ?_
    case y64=>(intro v hSw; go_simp<;>rfl)
    refine rgT 2 (v:=?v65) ?y65 gH ?_
    case y65=>(intro v hSw; go_simp<;>rfl)
    try simp only [putS]
    refine rgT 3 (v:=?v66) ?y66 gH ?_
    case y66=>(intro v hSw; go_simp<;>rfl)
    refine rgT 4 (v:=?v67) ?y67 gH ?_
    case y67=>(intro v hSw; obtain ⟨c0,c1,c2,c3,c4⟩:=HK.out _ hSw; go_simp<;>rfl)
    try simp only [putS]
    refine rgO 5 fun K hK=>?_
    go_simp
    refine (KR.out _).mono ?_
    rintro e w1 ⟨rfl,rfl⟩
    refine hK.out _ _ (gH) (fun gH=>?_)
    clear hK K
    try simp only [putS]
    cases K1 with
    | false =>
     refine rgT 6 (v:=?v68) ?y68 gH ?_
     case y68=>(intro v hSw; go_simp<;>rfl)
     refine rgT 7 (v:=?v69) ?y69 gH ?_
     case y69=>(intro v hSw; go_simp<;>rfl)
     refine rgS 8 gH ?_
     try simp only [putS]
     refine rgS 9 gH ?_
     refine rgS 10 gH ?_
     refine rgS 11 gH ?_
     try simp only [putS]
     refine rgS 12 gH ?_
     try simp only [putS]
     refine rgO 13 fun K hK=>?_
     go_simp
     refine hK.out _ _ (gH) (fun gH=>?_)
     clear hK K
     refine rgS 14 gH ?_
     refine rgT 15 (v:=?v70) ?y70 gH ?_
     case y70=>(intro v hSw; go_simp<;>rfl)
     try simp only [putS]
     refine rgT 16 (v:=?v71) ?y71 gH ?_
     case y71=>(intro v hSw; go_simp<;>rfl)
     refine rgS 17 gH ?_
     refine rgS 18 gH ?_
     try simp only [putS]
     refine rgS 19 gH ?_
     refine rgS 20 gH ?_
     refine rgS 21 gH ?_
     try simp only [putS]
     refine rgS 22 gH ?_
     refine rgS 23 gH ?_
     refine rgS 24 gH ?_
     try simp only [putS]
     refine rgS 25 gH ?_
     refine rgS 26 gH ?_
     refine rgS 27 gH ?_
     try simp only [putS]
     refine rgS 28 gH ?_
     refine rgS 29 gH ?_
     refine rgS 30 gH ?_
     try simp only [putS]
     refine rgT 31 (v:=?v72) ?y72 gH ?_
     case y72=>(intro v hSw; go_simp<;>rfl)
     refine rgT 32 (v:=?v73) ?y73 gH ?_
     case y73=>(intro v hSw; go_simp<;>rfl)
     refine rgS 33 gH ?_
     try simp only [putS]
     refine rgS 34 gH ?_
     refine rgS 35 gH ?_
     refine rgS 36 gH ?_
     try simp only [putS]
     refine rgS 37 gH ?_
     refine rgS 38 gH ?_
     refine rgS 39 gH ?_
     try simp only [putS]
     refine rgS 40 gH ?_
     refine rgS 41 gH ?_
     refine rgS 42 gH ?_
     try simp only [putS]
     refine rgS 43 gH ?_
     refine rgS 44 gH ?_
     refine rgS 45 gH ?_
     try simp only [putS]
     refine rgS 46 gH ?_
     refine rgS 47 gH ?_
     refine rgS 48 gH ?_
     try simp only [putS]
     refine rgT 49 (v:=?v74) ?y74 gH ?_
     case y74=>(intro v hSw; go_simp<;>rfl)
     try simp only [putS]
     refine rgD ?_
     have B1:=qh (show Below w.heap.size w _ from gH)
     have e9:=PS.out
     have ET:=qh (RN.out (by rw [EM.out,e9]; simp))
     clear e9
     go_wp2_with fail
     go_ret
     exact ⟨by rw [ET.out]; rfl,B1.out⟩
    | true =>
     refine rgT 6 (v:=?v75) ?y75 gH ?_
     case y75=>(intro v hSw; go_simp<;>rfl)
     refine rgT 7 (v:=?v76) ?y76 gH ?_
     case y76=>(intro v hSw; go_simp<;>rfl)
     refine rgT 8 (v:=?v77) ?y77 gH ?_
     case y77=>(intro v hSw; go_simp<;>rfl)
     try simp only [putS]
     refine rgT 9 (v:=?v78) ?y78 gH ?_
     case y78=>(intro v hSw; go_simp<;>rfl)
     refine rgT 10 (v:=?v79) ?y79 gH ?_
     case y79=>(intro v hSw; go_simp<;>rfl)
     refine rgT 11 (v:=?v80) ?y80 gH ?_
     case y80=>(intro v hSw; go_simp<;>rfl)
     try simp only [putS]
     refine rgT 12 (v:=?v81) ?y81 gH ?_
     case y81=>(intro v hSw; obtain ⟨c0,c1,c2,c3,c4⟩:=HK.out _ hSw; go_simp<;>rfl)
     try simp only [putS]
     refine rgO 13 fun K hK=>?_
     go_simp
     refine (VR.out _).mono ?_
     rintro e w1 ⟨rfl,hb1⟩
     have hz:Below w.heap.size w w1:=BD.out.trans (hb1.mono BD.out.size)
     clear hb1
     refine hK.out _ _ (hz) (fun gH=>?_)
     clear hK K
     try simp only [putS]
     cases K2 with
     | false =>
      refine rgT 14 (v:=?v82) ?y82 gH ?_
      case y82=>(intro v hSw; go_simp<;>rfl)
      refine rgT 15 (v:=?v83) ?y83 gH ?_
      case y83=>(intro v hSw; go_simp<;>rfl)
      refine rgT 16 (v:=?v84) ?y84 gH ?_
      case y84=>(intro v hSw; go_simp<;>rfl)
      try simp only [putS]
      refine rgS 17 gH ?_
      refine rgS 18 gH ?_
      refine rgS 19 gH ?_
      try simp only [putS]
      refine rgS 20 gH ?_
      refine rgS 21 gH ?_
      refine rgS 22 gH ?_
      try simp only [putS]
      refine rgS 23 gH ?_
      refine rgS 24 gH ?_
      refine rgS 25 gH ?_
      try simp only [putS]
      refine rgS 26 gH ?_
      refine rgS 27 gH ?_
      refine rgS 28 gH ?_
      try simp only [putS]
      refine rgS 29 gH ?_
      refine rgS 30 gH ?_
      refine rgT 31 (v:=?v85) ?y85 gH ?_
      case y85=>(intro v hSw; go_simp<;>rfl)
      try simp only [putS]
      refine rgT 32 (v:=?v86) ?y86 gH ?_
      case y86=>(intro v hSw; go_simp<;>rfl)
      refine rgS 33 gH ?_
      refine rgS 34 gH ?_
      try simp only [putS]
      refine rgS 35 gH ?_
      refine rgS 36 gH ?_
      refine rgS 37 gH ?_
      try simp only [putS]
      refine rgS 38 gH ?_
      refine rgS 39 gH ?_
      refine rgS 40 gH ?_
      try simp only [putS]
      refine rgS 41 gH ?_
      refine rgS 42 gH ?_
      refine rgS 43 gH ?_
      try simp only [putS]
      refine rgS 44 gH ?_
      refine rgS 45 gH ?_
      refine rgS 46 gH ?_
      try simp only [putS]
      refine rgS 47 gH ?_
      refine rgS 48 gH ?_
      refine rgT 49 (v:=?v87) ?y87 gH ?_
      case y87=>(intro v hSw; go_simp<;>rfl)
      try simp only [putS]
      refine rgD ?_
      have B1:=qh (show Below w.heap.size w _ from gH)
      have e9:=PS.out
      have ET:=qh (RN.out (by rw [EM.out,e9]; simp))
      clear e9
      go_wp2_with fail
      go_ret
      exact ⟨by rw [ET.out]; rfl,B1.out⟩
     | true =>
      refine rgT 14 (v:=?v88) ?y88 gH ?_
      case y88=>(intro v hSw; go_simp<;>rfl)
      refine rgT 15 (v:=?v89) ?y89 gH ?_
      case y89=>(intro v hSw; go_simp<;>rfl)
      refine rgT 16 (v:=?v90) ?y90 gH ?_
      case y90=>(intro v hSw; go_simp<;>rfl)
      try simp only [putS]
      refine rgT 17 (v:=?v91) ?y91 gH ?_
      case y91=>(intro v hSw; go_simp<;>rfl)
      refine rgT 18 (v:=?v92) ?y92 gH ?_
      case y92=>(intro v hSw; go_simp<;>rfl)
      refine rgT 19 (v:=?v93) ?y93 gH ?_
      case y93=>(intro v hSw; go_simp<;>rfl)
      try simp only [putS]
      refine rgT 20 (v:=?v94) ?y94 gH ?_
      case y94=>(intro v hSw; go_simp<;>rfl)
      refine rgT 21 (v:=?v95) ?y95 gH ?_
      case y95=>(intro v hSw; obtain ⟨c0,c1,c2,c3,c4⟩:=HK.out _ hSw; go_simp<;>rfl)
      refine rgT 22 (v:=?v96) ?y96 gH ?_
      case y96=>(intro v hSw; go_simp<;>rfl)
      try simp only [putS]
      cases g with
      | false =>
       refine rgS 23 gH ?_
       refine rgS 24 gH ?_
       refine rgS 25 gH ?_
       try simp only [putS]
       refine rgS 26 gH ?_
       refine rgS 27 gH ?_
       refine rgS 28 gH ?_
       try simp only [putS]
       refine rgS 29 gH ?_
       refine rgT 30 (v:=?v97) ?y97 gH ?_
       case y97=>(intro v hSw; go_simp<;>rfl)
       refine rgT 31 (v:=?v98) ?y98 gH ?_
       case y98=>(intro v hSw; go_simp<;>rfl)
       try simp only [putS]
       refine rgT 32 (v:=?v99) ?y99 gH ?_
       case y99=>(intro v hSw; go_simp<;>rfl)
       refine rgT 33 (v:=?v100) ?y100 gH ?_
       case y100=>(intro v hSw; go_simp<;>rfl)
       refine rgT 34 (v:=?v101) ?y101 gH ?_
       case y101=>(intro v hSw; go_simp<;>rfl)
       try simp only [putS]
       refine rgT 35 (v:=?v102) ?y102 gH ?_
       case y102=>(intro v hSw; go_simp<;>rfl)
       refine rgT 36 (v:=?v103) ?y103 gH ?_
       case y103=>(intro v hSw; go_simp<;>rfl)
       refine rgT 37 (v:=?v104) ?y104 gH ?_
       case y104=>(intro v hSw; go_simp<;>rfl)
       try simp only [putS]
       refine rgT 38 (v:=?v105) ?y105 gH ?_
       case y105=>(intro v hSw; go_simp<;>rfl)
       refine rgT 39 (v:=?v106) ?y106 gH ?_
       case y106=>(intro v hSw; go_simp<;>rfl)
       refine rgT 40 (v:=?v107) ?y107 gH ?_
       case y107=>(intro v hSw; go_simp<;>rfl)
       try simp only [putS]
       refine rgT 41 (v:=?v108) ?y108 gH ?_
       case y108=>(intro v hSw; have pc:=HP.out _ hSw; go_simp<;>rfl)
       refine rgT 42 (v:=?v109) ?y109 gH ?_
       case y109=>(intro v hSw; go_simp<;>rfl)
       refine rgT 43 (v:=?v110) ?y110 gH ?_
       case y110=>(intro v hSw; go_simp<;>rfl)
       try simp only [putS]
       refine rgT 44 (v:=?v111) ?y111 gH ?_
       case y111=>(intro v hSw; go_simp<;>rfl)
       refine rgT 45 (v:=?v112) ?y112 gH ?_
       case y112=>(intro v hSw; go_simp<;>rfl)
       refine rgT 46 (v:=?v113) ?y113 gH ?_
       case y113=>(intro v hSw; obtain ⟨c0,c1,c2,c3,c4⟩:=HK.out _ hSw; go_simp<;>rfl)
       try simp only [putS]
       cases z9:ltB pk k with
       | false =>
        have f1:Op.bytesLess pk.toList k.toList=false:=z9
        refine rgT 47 (v:=?v114) ?y114 gH ?_
        case y114=>(intro v hSw; go_simp<;>rfl)
        refine rgT 48 (v:=?v115) ?y115 gH ?_
        case y115=>(intro v hSw; go_simp<;>rfl)
        refine rgT 49 (v:=?v116) ?y116 gH ?_
        case y116=>(intro v hSw; go_simp<;>rfl)
        try simp only [putS]
        refine rgD ?_
        have B1:=qh (show Below w.heap.size w _ from gH)
        have e9:=PS.out
        have ET:=qh (RN.out (by rw [EM.out,e9]; simp [z9]))
        clear e9 z9
        go_wp2_with fail
        go_ret
        exact ⟨by rw [ET.out]; rfl,B1.out⟩
       | true =>
        have f1:Op.bytesLess pk.toList k.toList=true:=z9
        refine rgT 47 (v:=?v117) ?y117 gH ?_
        case y117=>(intro v hSw; go_simp<;>rfl)
        refine rgT 48 (v:=?v118) ?y118 gH ?_
        case y118=>(intro v hSw; go_simp<;>rfl)
        refine rgT 49 (v:=?v119) ?y119 gH ?_
        case y119=>(intro v hSw; go_simp<;>rfl)
        try simp only [putS]
        refine rgD ?_
        have B1:=qh (show Below w.heap.size w _ from gH)
        have e9:=PS.out
        have OK:=qh (HMY.out (by rw [EM.out,e9]; simp [z9]))
        clear e9 z9
        go_wp2_with fail
        go_roundw
        case rel=>exact ⟨i+1,by omega,by go_num,OK,B1⟩
        case measure=>simp [intOf]; omega
      | true =>
       refine rgT 23 (v:=?v120) ?y120 gH ?_
       case y120=>(intro v hSw; go_simp<;>rfl)
       refine rgT 24 (v:=?v121) ?y121 gH ?_
       case y121=>(intro v hSw; go_simp<;>rfl)
       refine rgT 25 (v:=?v122) ?y122 gH ?_
       case y122=>(intro v hSw; go_simp<;>rfl)
       try simp only [putS]
       refine rgT 26 (v:=?v123) ?y123 gH ?_
       case y123=>(intro v hSw; go_simp<;>rfl)
       refine rgT 27 (v:=?v124) ?y124 gH ?_
       case y124=>(intro v hSw; obtain ⟨c0,c1,c2,c3,c4⟩:=HK.out _ hSw; go_simp<;>rfl)
       refine rgT 28 (v:=?v125) ?y125 gH ?_
       case y125=>(intro v hSw; go_simp<;>rfl)
       try simp only [putS]
       cases Y with
       | false =>
        refine rgT 29 (v:=?v126) ?y126 gH ?_
        case y126=>(intro v hSw; go_simp<;>rfl)
        refine rgT 30 (v:=?v127) ?y127 gH ?_
        case y127=>(intro v hSw; go_simp<;>rfl)
        refine rgT 31 (v:=?v128) ?y128 gH ?_
        case y128=>(intro v hSw; go_simp<;>rfl)
        try simp only [putS]
        refine rgT 32 (v:=?v129) ?y129 gH ?_
        case y129=>(intro v hSw; go_simp<;>rfl)
        refine rgS 33 gH ?_
        refine rgS 34 gH ?_
        try simp only [putS]
        refine rgS 35 gH ?_
        refine rgS 36 gH ?_
        refine rgS 37 gH ?_
        try simp only [putS]
        refine rgS 38 gH ?_
        refine rgS 39 gH ?_
        refine rgS 40 gH ?_
        try simp only [putS]
        refine rgS 41 gH ?_
        refine rgS 42 gH ?_
        refine rgS 43 gH ?_
        try simp only [putS]
        refine rgS 44 gH ?_
        refine rgS 45 gH ?_
        refine rgS 46 gH ?_
        try simp only [putS]
        refine rgS 47 gH ?_
        refine rgS 48 gH ?_
        refine rgT 49 (v:=?v130) ?y130 gH ?_
        case y130=>(intro v hSw; go_simp<;>rfl)
        try simp only [putS]
        refine rgD ?_
        have B1:=qh (show Below w.heap.size w _ from gH)
        have e9:=PS.out
        have ET:=qh (RN.out (by rw [EM.out,e9]; simp))
        clear e9
        go_wp2_with fail
        go_ret
        exact ⟨by rw [ET.out]; rfl,B1.out⟩
       | true =>
        refine rgT 29 (v:=?v131) ?y131 gH ?_
        case y131=>(intro v hSw; go_simp<;>rfl)
        refine rgT 30 (v:=?v132) ?y132 gH ?_
        case y132=>(intro v hSw; go_simp<;>rfl)
        refine rgT 31 (v:=?v133) ?y133 gH ?_
        case y133=>(intro v hSw; go_simp<;>rfl)
        try simp only [putS]
        refine rgT 32 (v:=?v134) ?y134 gH ?_
        case y134=>(intro v hSw; go_simp<;>rfl)
        refine rgT 33 (v:=?v135) ?y135 gH ?_
        case y135=>(intro v hSw; go_simp<;>rfl)
        refine rgT 34 (v:=?v136) ?y136 gH ?_
        case y136=>(intro v hSw; go_simp<;>rfl)
        try simp only [putS]
        refine rgT 35 (v:=?v137) ?y137 gH ?_
        case y137=>(intro v hSw; go_simp<;>rfl)
        refine rgT 36 (v:=?v138) ?y138 gH ?_
        case y138=>(intro v hSw; go_simp<;>rfl)
        refine rgT 37 (v:=?v139) ?y139 gH ?_
        case y139=>(intro v hSw; go_simp<;>rfl)
        try simp only [putS]
        refine rgT 38 (v:=?v140) ?y140 gH ?_
        case y140=>(intro v hSw; go_simp<;>rfl)
        refine rgT 39 (v:=?v141) ?y141 gH ?_
        case y141=>(intro v hSw; go_simp<;>rfl)
        refine rgT 40 (v:=?v142) ?y142 gH ?_
        case y142=>(intro v hSw; go_simp<;>rfl)
        try simp only [putS]
        refine rgT 41 (v:=?v143) ?y143 gH ?_
        case y143=>(intro v hSw; have pc:=HP.out _ hSw; go_simp<;>rfl)
        refine rgT 42 (v:=?v144) ?y144 gH ?_
        case y144=>(intro v hSw; go_simp<;>rfl)
        refine rgT 43 (v:=?v145) ?y145 gH ?_
        case y145=>(intro v hSw; go_simp<;>rfl)
        try simp only [putS]
        refine rgT 44 (v:=?v146) ?y146 gH ?_
        case y146=>(intro v hSw; go_simp<;>rfl)
        refine rgT 45 (v:=?v147) ?y147 gH ?_
        case y147=>(intro v hSw; go_simp<;>rfl)
        refine rgT 46 (v:=?v148) ?y148 gH ?_
        case y148=>(intro v hSw; obtain ⟨c0,c1,c2,c3,c4⟩:=HK.out _ hSw; go_simp<;>rfl)
        try simp only [putS]
        cases z9:ltB pk k with
        | false =>
         have f1:Op.bytesLess pk.toList k.toList=false:=z9
         refine rgT 47 (v:=?v149) ?y149 gH ?_
         case y149=>(intro v hSw; go_simp<;>rfl)
         refine rgT 48 (v:=?v150) ?y150 gH ?_
         case y150=>(intro v hSw; go_simp<;>rfl)
         refine rgT 49 (v:=?v151) ?y151 gH ?_
         case y151=>(intro v hSw; go_simp<;>rfl)
         try simp only [putS]
         refine rgD ?_
         have B1:=qh (show Below w.heap.size w _ from gH)
         have e9:=PS.out
         have ET:=qh (RN.out (by rw [EM.out,e9]; simp [z9]))
         clear e9 z9
         go_wp2_with fail
         go_ret
         exact ⟨by rw [ET.out]; rfl,B1.out⟩
        | true =>
         have f1:Op.bytesLess pk.toList k.toList=true:=z9
         refine rgT 47 (v:=?v152) ?y152 gH ?_
         case y152=>(intro v hSw; go_simp<;>rfl)
         refine rgT 48 (v:=?v153) ?y153 gH ?_
         case y153=>(intro v hSw; go_simp<;>rfl)
         refine rgT 49 (v:=?v154) ?y154 gH ?_
         case y154=>(intro v hSw; go_simp<;>rfl)
         try simp only [putS]
         refine rgD ?_
         have B1:=qh (show Below w.heap.size w _ from gH)
         have e9:=PS.out
         have OK:=qh (HMY.out (by rw [EM.out,e9]; simp [z9]))
         clear e9 z9
         go_wp2_with fail
         go_roundw
         case rel=>exact ⟨i+1,by omega,by go_num,OK,B1⟩
         case measure=>simp [intOf]; omega
  ·obtain rfl:i=n:=by omega
   have RT:=qh (show R=true by rw [HR.out]; exact mayW_yes (by rw [<-HN.out]; omega) (by rw [<-HN.out]; omega) (by rw [<-HN.out]; exact HM.out))
   go_wp2_with fail
   go_ret
   exact ⟨by rw [RT.out]; rfl,HB.out⟩

end Go.Proofs.YtomjlopcifafpaaGreat

namespace Go.Proofs.YtomjlopcifafpaaGreat
open Go.RowKit

structure RoomG (w:World) (p q:Nat) (v lb:Value) (g2 g3:Int) (r:Rg) (G:Nat->Prop) (A:Option Addr) (c:Nat) (L:Ch):Prop where
 row:RowAt w p (rmc lb (r.size:Int) g2 g3 q (.slice A L.length c)) 106
 ring:RefG w q v r
 sl:SlO w G A L
 lt:∀ x,G x->x<w.heap.size
theorem RoomG.below {w w':World} {p q:Nat} {v lb:Value} {g2 g3:Int} {r:Rg} {G:Nat->Prop} {A:Option Addr} {c:Nat} {L:Ch} (h:RoomG w p q v lb g2 g3 r G A c L) (hb:Below w.heap.size w w'):RoomG w' p q v lb g2 g3 r G A c L :=
 ⟨h.row.below hb,h.ring.below hb,h.sl.keep (fun k hk=>hb.block k (h.lt k hk)) hb.size,fun x hx=>Nat.lt_of_lt_of_le (h.lt x hx) hb.size⟩
theorem RoomG.c5 {w:World} {p q:Nat} {v lb:Value} {g2 g3:Int} {r:Rg} {G:Nat->Prop} {A:Option Addr} {c:Nat} {L:Ch} (h:RoomG w p q v lb g2 g3 r G A c L):w.cell? ⟨p,5,none⟩=some (.slice A L.length c):=by
 have:=h.row.cell 5
 simpa only [rmc,List.getElem?_cons_succ,List.getElem?_cons_zero] using this
def since (L:Ch) (k:ByteArray) (s:Int):Bool:=decide (0<(L.of k).length) && decide (s<(lastL (L.of k)).seq)
def chkE (r:Rg) (L:Ch) (ws:List Wr) (s quota most:Int):Int :=
 if mayW ws=false then 1 else if s<(r.floor:Int)∨(r.seq:Int)<s then 14 else if ws.any (fun x=>since L x.key s) then 13 else spcE r L ws quota most
theorem GoodC.of {L:Ch} (h:GoodC L) (k:ByteArray):(L.of k).length<=1000:=by
 unfold Ch.of
 cases q:L.has k with
 | false=>simp
 | true =>
  have:=((Ch.has_iff L k).1 q).1
  exact (h.get this).2.2.1

theorem rCheck1 (p q:Nat) (v lb:Value) (g2 g3:Int) (r:Rg) (G:Nat->Prop) (A:Option Addr) (c:Nat) (L:Ch) (A2:Option Addr) (c2:Nat) (ws:List Wr) (s:Int) (w:World) (h:RoomG w p q v lb g2 g3 r G A c L) (ok:r.Ok)
  (hw:SlWr w A2 ws) (hf:FitsW ws) (hL:GoodC L) (hl:ws.length<=1000) (hg:mayW ws=true->(r.seq:Int)<g3->∀ i,i<=ws.length->GoodC (L.withW (ws.take i) ((r.seq:Int)+1))∧(L.withW (ws.take i) ((r.seq:Int)+1)).length<=10000) :
  Calls Tryz.prog 46 #[.pointer (some ⟨p,0,none⟩),.slice A2 ws.length c2,.int .i64 s] w fun e w'=>e=.returned (.int .i64 (chkE r L ws s g2 g3))∧Below w.heap.size w w':=by
 have MY:=qh (fun W (b:Below w.heap.size w W)=>rMay1 ws A2 c2 W (hw.below b) hf)
 have FL:=qh (fun W (b:Below w.heap.size w W)=>rFloor1 p q v lb _ g2 g3 r W (h.below b).row (h.below b).ring ok)
 have SQ:=qh (fun W (b:Below w.heap.size w W)=>rSeq1 p q v lb _ _ g2 g3 r W (h.below b).row (h.below b).ring ok)
 have CH:=qh (fun k W (b:Below w.heap.size w W)=>rChain1 p G A c L k W (h.below b).c5 (h.below b).sl hL)
 have SP:=qh (fun (my:mayW ws=true) W (b:Below w.heap.size w W)=>rSpace1 p q v lb _ g2 g3 r G A c L A2 c2 ws W (h.below b).row (h.below b).ring ok (h.below b).sl (hw.below b) hl (hg my) (h.below b).lt)
 have CW:=qh (fun i (hi:i<ws.length)=>hw.at hi)
 have GO:=qh (fun k=>hL.of k)
 obtain ⟨T,hT⟩:=nmq (chkE r L ws s g2 g3)
 obtain ⟨Y,hY⟩:=nmq (mayW ws)
 obtain ⟨Z,hZ⟩:=nmq (spcE r L ws g2 g3)
 obtain ⟨f,hfl⟩:=nmq (r.floor)
 obtain ⟨m,hm⟩:=nmq (r.seq)
 have ET:=qh (show T=if Y=false then 1 else if s<(f:Int)∨(m:Int)<s then 14 else if ws.any (fun x=>since L x.key s) then 13 else Z from by rw [hT,hY,hZ,hfl,hm]; rfl)
 have AY:=qh (fun i (hi:i<ws.length) (h:since L (ws.getD i Wr.Z).key s=true)=>show ws.any (fun x=>since L x.key s)=true from by
  rw [List.any_eq_true]
  refine ⟨ws[i],List.getElem_mem hi,?_⟩
  rwa [List.getD_eq_getElem?_getD,List.getElem?_eq_getElem hi] at h)
 have AN:=qh (fun (h:∀ i,i<ws.length->since L (ws.getD i Wr.Z).key s=false)=>show ws.any (fun x=>since L x.key s)=false from by
  rw [List.any_eq_false]
  intro x hx
  obtain ⟨i,hi,rfl⟩:=List.getElem_of_mem hx
  have:=h i hi
  rw [List.getD_eq_getElem?_getD,List.getElem?_eq_getElem hi] at this
  exact Bool.eq_false_iff.1 this)
 obtain ⟨K,hK⟩:=nmq (ws.any (fun x=>since L x.key s))
 obtain ⟨n,hn⟩:=nmq (ws.length)
 simp only [<-hK] at ET AY AN
 simp only [<-hn] at MY SP CW AY AN
 simp only [<-hY] at MY SP
 simp only [<-hZ] at SP
 simp only [<-hfl] at FL
 simp only [<-hm] at SQ
 rw [<-hT,<-hn]
 have PL:=qh h.row.lt
 have B0:=qh (Below.refl w.heap.size w)
 rw [<-hn] at hl
 clear h ok hw hf hL hg hT hY hZ hfl hm hK hn
 go_enter Tryz.func46,Tryz.ntmps46
 go_wp2_with fail
 refine (MY.out _ B0.out).mono ?_
 rintro e w1 ⟨rfl,hb1⟩
 have B1:=qh hb1
 clear hb1 MY B0
 cases Y with
 | false =>
  have e:=ET.out
  rw [if_pos rfl] at e
  subst e
  go_wp2_with fail
  go_ret
  exact ⟨rfl,B1.out⟩
 | true =>
 have SPY:=qh (SP.out rfl)
 clear SP
 have ET:=qh (show T=if s<(f:Int)∨(m:Int)<s then 14 else if K then 13 else Z from by have:=ET.out; rwa [if_neg (by simp)] at this)
 by_cases z1:s<(f:Int)
 ·have e:=ET.out
  rw [if_pos (Or.inl z1)] at e
  subst e
  go_wp2_with fail
  refine (FL.out _ B1.out).mono ?_
  rintro e w2 ⟨rfl,n2,hw2⟩
  have B2:=qh (show Below w.heap.size w w2 by rw [hw2]; exact below_drewN B1.out n2)
  clear hw2
  go_wp2_with fail
  go_ret
  exact ⟨rfl,B2.out⟩
 by_cases z2:(m:Int)<s
 ·have e:=ET.out
  rw [if_pos (Or.inr z2)] at e
  subst e
  go_wp2_with fail
  refine (FL.out _ B1.out).mono ?_
  rintro e w2 ⟨rfl,n2,hw2⟩
  have B2:=qh (show Below w.heap.size w w2 by rw [hw2]; exact below_drewN B1.out n2)
  clear hw2
  go_wp2_with fail
  refine (SQ.out _ B2.out).mono ?_
  rintro e w3 ⟨rfl,n3,hw3⟩
  have B3:=qh (show Below w.heap.size w w3 by rw [hw3]; exact below_drewN B2.out n3)
  clear hw3
  go_wp2_with fail
  go_ret
  exact ⟨rfl,B3.out⟩
 have ET:=qh (show T=if K then 13 else Z from by have:=ET.out; rwa [if_neg (by omega)] at this)
 go_wp2_with fail
 refine (FL.out _ B1.out).mono ?_
 rintro e w2 ⟨rfl,n2,hw2⟩
 have B2:=qh (show Below w.heap.size w w2 by rw [hw2]; exact below_drewN B1.out n2)
 clear hw2
 go_wp2_with fail
 refine (SQ.out _ B2.out).mono ?_
 rintro e w3 ⟨rfl,n3,hw3⟩
 have B3:=qh (show Below w.heap.size w w3 by rw [hw3]; exact below_drewN B2.out n3)
 clear hw3 B1 B2 FL SQ
 go_wp2_with fail
 go_loopw [7] (fun vi wr=>∃ i:Nat,i<=n∧vi=.int .i64 i∧Hid (∀ j,j<i->since L (ws.getD j Wr.Z).key s=false)∧Hid (Below w.heap.size w wr)) (fun vi _=>n-(intOf vi).toNat)
 case atStart=>exact ⟨0,Nat.zero_le _,rfl,qh (fun j hj=>by cases hj),B3⟩
 case round =>
  obtain ⟨i,hi,rfl,HM,HB⟩:=hrel
  by_cases q:i<n
  ·obtain ⟨b,o,rfl,hb,c0,_⟩:=CW.out i q
   have c0:=(HB.out.cell (p:=⟨b,o+i * 5,none⟩) hb).trans c0
   have CK:=qh (CH.out (ws.getD i Wr.Z).key wr HB.out)
   have NK:=qh (GO.out (ws.getD i Wr.Z).key)
   have ES:=qh (show since L (ws.getD i Wr.Z).key s=(decide (0<(L.of (ws.getD i Wr.Z).key).length) && decide (s<(lastL (L.of (ws.getD i Wr.Z).key)).seq)) from rfl)
   have AY:=qh (AY.out i q)
   have ST:=qh (fun (h:since L (ws.getD i Wr.Z).key s=false)=>show ∀ j,j<i+1->since L (ws.getD j Wr.Z).key s=false from fun j hj=>by
    by_cases e:j=i
    ·rw [e]; exact h
    ·exact HM.out j (by omega))
   have i0:(0:Int)<=(i:Int):=by omega
   have i1:(i:Int)<(n:Int):=by omega
   obtain ⟨k,hk⟩:=nmq ((ws.getD i Wr.Z).key)
   rw [<-hk] at c0 CK NK ES AY ST
   obtain ⟨l,hl2⟩:=nmq (L.of k)
   rw [<-hl2] at CK NK ES
   obtain ⟨N,hN⟩:=nmq (l.length)
   have LC:=qh (fun (A':Option Addr) (hv:SlVG wr G A' l) (h0:0<N)=>show ∃ b' o',A'=some ⟨b',o',none⟩∧wr.cell? ⟨b',o'+(N-1) * 5,none⟩=some (.int .i64 (lastL l).seq) from by
    obtain ⟨b',o',e,_,d,_⟩:=hv.1.at (j:=l.length-1) (by omega)
    exact ⟨b',o',e,by rw [hN]; exact d⟩)
   rw [<-hN] at CK NK ES
   obtain ⟨sq,hsq⟩:=nmq ((lastL l).seq)
   simp only [<-hsq] at LC ES
   have hN1:=NK.out
   clear hk hl2 hN hsq hb hi
   go_wp2_with fail
   refine CK.out.mono ?_
   rintro e w4 ⟨⟨A',c',rfl,sv⟩,rfl⟩
   have SV:=qh sv
   clear sv CK
   by_cases z3:0<N
   ·obtain ⟨b',o',rfl,d0⟩:=LC.out _ SV.out z3
    obtain ⟨M,hM⟩:=nmq (N-1)
    rw [<-hM] at d0
    have j0:(0:Int)<=(M:Int):=by omega
    have j1:(M:Int)<(N:Int):=by omega
    have j2:IntKind.i64.wrap ((N:Int)-1)=(M:Int):=by rw [IntKind.wrap_i64]; omega
    have j3:wrap64 ((N:Int)-1)=(M:Int):=by
     rw [show (N:Int)-1=(M:Int) by omega]
     have:(M:Int)<=1000:=by omega
     first | exact wrap64_small (by omega) (by omega) | (unfold wrap64; omega) | (simp only [wrap64,IntKind.wrap_i64]; omega)
    by_cases z4:s<sq
    ·have EK:=AY.out (by rw [ES.out,decide_eq_true z3,decide_eq_true z4]; rfl)
     have e:=ET.out
     rw [if_pos EK] at e
     subst e
     clear hM
     go_wp2_with fail
     go_ret
     exact ⟨rfl,HB.out⟩
    ·have OK:=qh (ST.out (by rw [ES.out,decide_eq_false z4,Bool.and_false]))
     clear hM
     go_wp2_with fail
     go_roundw
     case rel=>exact ⟨i+1,by omega,by go_num,OK,HB⟩
     case measure=>simp [intOf]; omega
   ·have OK:=qh (ST.out (by rw [ES.out,decide_eq_false z3,Bool.false_and]))
    go_wp2_with fail
    go_roundw
    case rel=>exact ⟨i+1,by omega,by go_num,OK,HB⟩
    case measure=>simp [intOf]; omega
  ·obtain rfl:i=n:=by omega
   have e:=ET.out
   rw [AN.out HM.out,if_neg (by simp)] at e
   subst e
   go_wp2_with fail
   refine (SPY.out _ HB.out).mono ?_
   rintro e w4 ⟨rfl,hb4⟩
   have B4:=qh (HB.out.trans (hb4.mono HB.out.size))
   clear hb4
   go_wp2_with fail
   go_ret
   exact ⟨rfl,B4.out⟩

def SepR (p q:Nat) (v:Value) (G:Nat->Prop):Prop:=¬ rfoot q v p∧∀ x,G x->¬ rfoot q v x∧x≠p
def comE (r:Rg) (L:Ch) (ws:List Wr) (x quota most:Int):Int:=if mayW ws=false then 1 else if spcE r L ws quota most≠0 then spcE r L ws quota most else r.no x
def comN (r:Rg) (L:Ch) (ws:List Wr) (x quota most:Int):Int:=if comE r L ws x quota most=0 then (r.seq:Int)+1 else 0
def comR (r:Rg) (L:Ch) (ws:List Wr) (x quota most:Int):Rg:=if comE r L ws x quota most=0 then r.push x else r
def comL (r:Rg) (L:Ch) (ws:List Wr) (x quota most:Int):Ch:=if comE r L ws x quota most=0 then L.withW ws ((r.seq:Int)+1) else L
def LeftR1 (w:World) (p q:Nat) (v lb:Value) (g2 g3:Int) (G:Nat->Prop) (r:Rg) (L:Ch) (w':World):Prop :=
 Chg (fun k=>k=p∨rfoot q v k) w w'∧∃ v' G' A' c',RoomG w' p q v' lb g2 g3 r G' A' c' L∧SepR p q v' G'∧(∀ k,rfoot q v' k->rfoot q v k∨w.heap.size<=k)∧∀ k,G' k->G k∨w.heap.size<=k
variable {w w' w2 w3 w4:World} {p q:Nat} {v lb:Value} {g2 g3:Int} {r r':Rg} {G:Nat->Prop} {A:Option Addr} {c:Nat} {L M:Ch}
theorem LeftR1.same (h:RoomG w p q v lb g2 g3 r G A c L) (s:SepR p q v G) (hb:Below w.heap.size w w'):LeftR1 w p q v lb g2 g3 G r L w' :=
 ⟨Chg.of_below hb,v,G,A,c,h.below hb,s,fun _ e=>.inl e,fun _ e=>.inl e⟩
theorem LeftR1.pushed (h:RoomG w p q v lb g2 g3 r G A c L) (s:SepR p q v G) (hb:Below w.heap.size w w2) (hp:LeftG q v w2 r' w3) (hs:r'.size=r.size) :
  Chg (rfoot q v) w w3∧∃ v',RoomG w3 p q v' lb g2 g3 r' G A c L∧SepR p q v' G∧∀ k,rfoot q v' k->rfoot q v k∨w.heap.size<=k:=by
 obtain ⟨hc,v',hr,hk⟩:=hp
 have h2:=h.below hb
 have hf:∀ k,rfoot q v' k->rfoot q v k∨w.heap.size<=k:=fun k e=>(hk k e).imp id fun e=>Nat.le_trans hb.size e
 have pl:=h.row.lt
 refine ⟨(Chg.of_below hb).then hc,v',⟨?_,hr,?_,?_⟩,⟨?_,?_⟩,hf⟩
 ·rw [hs]; exact h2.row.keep hc s.1
 ·exact h2.sl.keep (fun k e=>hc.block k (h2.lt k e) (s.2 k e).1) hc.size
 ·exact fun x e=>Nat.lt_of_lt_of_le (h2.lt x e) hc.size
 ·intro e
  rcases hf p e with e | e
  ·exact s.1 e
  ·omega
 ·intro x e
  refine ⟨fun f=>?_,(s.2 x e).2⟩
  rcases hf x f with f | f
  ·exact (s.2 x e).1 f
  ·have:=h.lt x e; omega
theorem LeftR1.with {v':Value} (hc:Chg (rfoot q v) w w3) (h3:RoomG w3 p q v' lb g2 g3 r' G A c L) (s:SepR p q v' G) (hf:∀ k,rfoot q v' k->rfoot q v k∨w.heap.size<=k)
  {x:Nat} {A':Option Addr} {c':Nat} (hx:w3.heap.size<=x) (hs:SlO w4 (fun y=>G y∨x<y) A' M) (hb:Below w3.heap.size w3 w4) :
  LeftR1 w p q v lb g2 g3 G r' M (w4.setCell ⟨p,5,none⟩ (.slice A' M.length c')):=by
 have pl:=h3.row.lt
 have h4:=h3.below hb
 have sb:=hs.bound
 have bk:∀ k,k≠p->(w4.setCell ⟨p,5,none⟩ (.slice A' M.length c')).heap[k]?=w4.heap[k]?:=fun k e=>Below.heap_setCell _ _ _ _ e
 have sz:(w4.setCell ⟨p,5,none⟩ (.slice A' M.length c')).heap.size=w4.heap.size:=by simp
 refine ⟨((hc.mono fun _ e=>.inr e).then (Chg.of_below hb)).setCell (.inl (.inl rfl)) _,v',fun y=>(G y∨x<y)∧y<w4.heap.size,A',c',⟨?_,?_,?_,?_⟩,⟨s.1,?_⟩,hf,?_⟩
 ·exact h4.row.set 5 _
 ·exact h4.ring.keep fun k e=>bk k fun ek=>s.1 (ek ▸ e)
 ·refine sb.keep (fun k e=>bk k fun ek=>?_) (Nat.le_of_eq sz.symm)
  rcases e.1 with e | e
  ·exact (s.2 k e).2 ek
  ·omega
 ·intro y e; rw [sz]; exact e.2
 ·intro y e
  rcases e.1 with e | e
  ·exact s.2 y e
  ·refine ⟨fun f=>?_,by omega⟩
   have:=h3.ring.lt y f; omega
 ·intro y e
  rcases e.1 with e | e
  ·exact .inl e
  ·have:=hc.size; exact .inr (by omega)
theorem SlWr.chg {F:Nat->Prop} {A:Option Addr} {l:List Wr} (h:SlWr w A l) (hc:Chg F w w') (hn:0<l.length->∀ a,A=some a->¬ F a.block):SlWr w' A l:=fun hp=>by
 obtain ⟨b,o,e,hl,hd⟩:=h hp
 have hn:=hn hp _ e
 refine ⟨b,o,e,Nat.lt_of_lt_of_le hl hc.size,fun j hj=>?_⟩
 obtain ⟨c0,c1,c2,c3,c4⟩:=hd j hj
 exact ⟨hc.cell c0 hn,hc.cell c1 hn,hc.cell c2 hn,hc.cell c3 hn,hc.cell c4 hn⟩

theorem rCommit1 (p q:Nat) (v lb:Value) (g2 g3:Int) (r:Rg) (G:Nat->Prop) (A:Option Addr) (c:Nat) (L:Ch) (A2:Option Addr) (c2:Nat) (ws:List Wr) (x:Int) (w:World) (h:RoomG w p q v lb g2 g3 r G A c L) (hs:SepR p q v G) (ok:r.Ok) (hrl:r.l.length<=1000)
  (hw:SlWr w A2 ws) (hn:0<ws.length->∀ a,A2=some a->¬ rfoot q v a.block) (hf:FitsW ws) (hl:ws.length<=1000) (hg:mayW ws=true->(r.seq:Int)<g3->∀ i,i<=ws.length->GoodC (L.withW (ws.take i) ((r.seq:Int)+1))∧(L.withW (ws.take i) ((r.seq:Int)+1)).length<=10000) :
  Calls Tryz.prog 44 #[.pointer (some ⟨p,0,none⟩),.slice A2 ws.length c2,.int .u64 x] w fun e w'=>e=.returned (.tuple #[.int .i64 (comN r L ws x g2 g3),.int .i64 (comE r L ws x g2 g3)])∧LeftR1 w p q v lb g2 g3 G (comR r L ws x g2 g3) (comL r L ws x g2 g3) w':=by
 have MY:=qh (fun W (b:Below w.heap.size w W)=>rMay1 ws A2 c2 W (hw.below b) hf)
 have SP:=qh (fun (my:mayW ws=true) W (b:Below w.heap.size w W)=>rSpace1 p q v lb _ g2 g3 r G A c L A2 c2 ws W (h.below b).row (h.below b).ring ok (h.below b).sl (hw.below b) hl (hg my) (h.below b).lt)
 have ZS:=qh (fun (e:spcE r L ws g2 g3=0)=>show (r.seq:Int)<g3 from by
  unfold spcE at e
  split at e
  ·cases e
  ·omega)
 have PU:=qh (fun W (b:Below w.heap.size w W)=>rPush0 q v r x W (h.below b).ring ok hrl)
 have C4:=qh (fun W (b:Below w.heap.size w W)=>show W.cell? ⟨p,4,none⟩=some (.pointer (some ⟨q,0,none⟩)) from by
  have:=(h.below b).row.cell 4
  simpa only [rmc,List.getElem?_cons_succ,List.getElem?_cons_zero] using this)
 have PP:=qh (fun W2 W (b:Below w.heap.size w W2) (hp:LeftG q v W2 (r.push x) W)=>LeftR1.pushed h hs b hp (show (r.push x).size=r.size by unfold Rg.push; split<;>rfl))
 have WI:=qh (fun (my:mayW ws=true) (zz:(r.seq:Int)<g3) W v' (hc:Chg (rfoot q v) w W) (h3:RoomG W p q v' lb g2 g3 (r.push x) G A c L)=>rWith1d p G A c L lb _ g2 g3 q A2 c2 ws ((r.seq:Int)+1) W h3.row h3.sl (hw.chg hc hn) hl (hg my zz) h3.lt W ⟨0,rfl⟩)
 have FI:=qh (fun W W4 v' hc (h3:RoomG W p q v' lb g2 g3 (r.push x) G A c L) s hf y A' c' hy hsl hb=>LeftR1.with (w:=w) (v:=v) (w4:=W4) (M:=L.withW ws ((r.seq:Int)+1)) (x:=y) (A':=A') (c':=c') hc h3 s hf hy hsl hb)
 have SM:=qh (fun W (b:Below w.heap.size w W)=>LeftR1.same h hs b)
 have SN:=qh (fun W2 W (b:Below w.heap.size w W2) (hp:LeftG q v W2 (r.push x) W) (e:r.push x=r)=>show LeftR1 w p q v lb g2 g3 G r L W from by
  obtain ⟨hc,v',h3,s3,hk⟩:=LeftR1.pushed h hs b hp (by rw [e])
  rw [e] at h3
  exact ⟨hc.mono fun _ e=>.inr e,v',G,A,c,h3,s3,hk,fun _ e=>.inl e⟩)
 have SQ:=qh ok.sq
 have TO:=qh (show r.no x=0->((r.told x:Nat):Int)=(r.seq:Int)+1 from fun e=>by unfold Rg.told; rw [if_pos e]; omega)
 have PN:=qh (show r.no x≠0->r.push x=r from fun e=>by unfold Rg.push; rw [if_neg e])
 obtain ⟨U,hU⟩:∃ U:Int,U=((r.told x:Nat):Int):=⟨_,rfl⟩
 simp only [<-hU] at PU TO
 clear hU
 obtain ⟨E,hE⟩:=nmq (comE r L ws x g2 g3)
 have EN:=qh (show comN r L ws x g2 g3=if E=0 then (r.seq:Int)+1 else 0 by rw [hE]; rfl)
 have ER:=qh (show comR r L ws x g2 g3=if E=0 then r.push x else r by rw [hE]; rfl)
 have EL:=qh (show comL r L ws x g2 g3=if E=0 then L.withW ws ((r.seq:Int)+1) else L by rw [hE]; rfl)
 obtain ⟨Y,hY⟩:=nmq (mayW ws)
 obtain ⟨Z,hZ⟩:=nmq (spcE r L ws g2 g3)
 obtain ⟨O,hO⟩:=nmq (r.no x)
 have EE:=qh (show E=if Y=false then 1 else if Z≠0 then Z else O from by rw [hE,hY,hZ,hO]; rfl)
 obtain ⟨n,hnn⟩:=nmq (ws.length)
 simp only [<-hnn] at MY SP WI
 simp only [<-hY] at MY SP WI
 simp only [<-hZ] at SP ZS
 simp only [<-hO] at PU TO PN
 rw [<-hE,<-hnn]
 have PL:=qh h.row.lt
 have F5:=qh (fun W (W4:World) (h3:∃ v',RoomG W p q v' lb g2 g3 (r.push x) G A c L) (hb:Below W.heap.size W W4)=>show W4.frozen? ⟨p,5,none⟩=false∧W4.cell? ⟨p,5,none⟩=some (.slice A L.length c) from by
  obtain ⟨v',h3⟩:=h3
  exact ⟨(h3.below hb).row.frozen 5,(h3.below hb).c5⟩)
 have B0:=qh (Below.refl w.heap.size w)
 clear h hs ok hrl hw hn hf hl hg hE hY hZ hO hnn
 go_enter Tryz.func44,Tryz.ntmps44
 go_wp2_with fail
 refine (MY.out _ B0.out).mono ?_
 rintro e w1 ⟨rfl,hb1⟩
 have B1:=qh hb1
 clear hb1 MY B0
 cases Y with
 | false =>
  have e:=EE.out
  rw [if_pos rfl] at e
  subst e
  have a1:=qh (EN.out.trans (if_neg (by decide)))
  have a2:=qh (ER.out.trans (if_neg (by decide)))
  have a3:=qh (EL.out.trans (if_neg (by decide)))
  have FN:=qh (SM.out _ B1.out)
  go_wp2_with fail
  go_ret2
  exact ⟨by rw [a1.out]; rfl,by rw [a2.out,a3.out]; exact FN.out⟩
 | true =>
 have SPY:=qh (SP.out rfl)
 have WIY:=qh (WI.out rfl)
 clear WI
 have EE:=qh (show E=if Z≠0 then Z else O from by have:=EE.out; rwa [if_neg (by simp)] at this)
 go_wp2_with fail
 refine (SPY.out _ B1.out).mono ?_
 rintro e w2 ⟨rfl,hb2⟩
 have B2:=qh (B1.out.trans (hb2.mono B1.out.size))
 clear hb2 SP SPY B1
 by_cases z:Z=0
 ·subst z
  have WIZ:=qh (WIY.out (ZS.out rfl))
  clear WIY
  have e:=EE.out
  rw [if_neg (by simp)] at e
  subst e
  have c4:=C4.out _ B2.out
  go_wp2_with fail
  refine (PU.out _ B2.out).mono ?_
  rintro e w3 ⟨rfl,hg3⟩
  have G3:=qh hg3
  clear hg3 c4
  by_cases z0:E=0
  ·have a1:=qh (EN.out.trans (if_pos z0))
   have a2:=qh (ER.out.trans (if_pos z0))
   have a3:=qh (EL.out.trans (if_pos z0))
   have T1:=qh (TO.out z0)
   have W3:=PP.out _ _ B2.out G3.out
   obtain ⟨hc3,v3,h3,s3,hf3⟩:=W3
   have CW:=qh (WIZ.out _ v3 hc3 h3)
   have FI:=qh (fun W4=>FI.out w3 W4 v3 hc3 h3 s3 hf3)
   have e9:=a3.out
   rw [<-T1.out] at CW FI e9
   have a3:=qh e9
   clear e9
   have F5:=qh (fun W4=>F5.out w3 W4 ⟨v3,h3⟩)
   have L3:=qh (show p<w3.heap.size from h3.row.lt)
   subst z0
   clear hc3 h3 s3 hf3
   go_wp2_with fail
   refine Calls.mono (by with_reducible exact CW.out) ?_
   rintro e w4 hw4
   obtain ⟨y,A',c',rfl,hy,hr4,hs4,hb4⟩:=hw4
   have FN:=qh (FI.out w4 y A' c' hy hs4 hb4)
   obtain ⟨f5,e5⟩:=F5.out w4 hb4
   have l4:p<w4.heap.size:=Nat.lt_of_lt_of_le L3.out hb4.size
   have d5:=hr4.cell 5
   simp only [rmc,List.getElem?_cons_succ,List.getElem?_cons_zero] at d5
   clear hy hr4 hs4 hb4 CW FI F5
   go_wp2_with fail
   go_ret2
   exact ⟨by rw [a1.out,<-T1.out]; rfl,by rw [a2.out,a3.out]; exact FN.out⟩
  ·have a1:=qh (EN.out.trans (if_neg z0))
   have a2:=qh (ER.out.trans (if_neg z0))
   have a3:=qh (EL.out.trans (if_neg z0))
   have FN:=qh (SN.out _ _ B2.out G3.out (PN.out z0))
   go_wp2_with fail
   go_ret2
   exact ⟨by rw [a1.out]; rfl,by rw [a2.out,a3.out]; exact FN.out⟩
 ·have e:=EE.out
  rw [if_pos z] at e
  subst e
  have a1:=qh (EN.out.trans (if_neg z))
  have a2:=qh (ER.out.trans (if_neg z))
  have a3:=qh (EL.out.trans (if_neg z))
  have FN:=qh (SM.out _ B2.out)
  go_wp2_with fail
  go_ret2
  exact ⟨by rw [a1.out]; rfl,by rw [a2.out,a3.out]; exact FN.out⟩
theorem news (lb:Value) (g1 s0:Nat) (g2 g3:Int) (w w1:World) (b1:Below w.heap.size w w1) (e1:w1.heap.size=w.heap.size+1) :
  ∃ x q,Ending.returned (.pointer (some ⟨w.heap.size+1+1,0,none⟩))=.returned (.pointer (some ⟨x,0,none⟩))∧w.heap.size<=x∧w.heap.size<=q ∧
   RoomG ((w1.alloc (.cells #[.int .i64 (g1:Int),.int .i64 (s0:Int),.slice none 0 0] 103)).alloc (.cells #[lb,.int .i64 (g1:Int),.int .i64 g2,.int .i64 g3,.pointer (some ⟨w.heap.size+1,0,none⟩),.slice none 0 0] 106)) x q (.slice none 0 0) lb g2 g3 ⟨g1,s0,[]⟩ (fun _=>False) none 0 []∧SepR x q (.slice none 0 0) (fun _=>False) ∧
   Below w.heap.size w ((w1.alloc (.cells #[.int .i64 (g1:Int),.int .i64 (s0:Int),.slice none 0 0] 103)).alloc (.cells #[lb,.int .i64 (g1:Int),.int .i64 g2,.int .i64 g3,.pointer (some ⟨w.heap.size+1,0,none⟩),.slice none 0 0] 106)):=by
 obtain ⟨w2,hw2⟩:=nmq (w1.alloc (.cells #[.int .i64 (g1:Int),.int .i64 (s0:Int),.slice none 0 0] 103))
 have e2:w2.heap.size=w.heap.size+1+1:=by rw [hw2]; simp [e1]
 have b2:Below w.heap.size w w2:=by rw [hw2]; exact b1.alloc (by omega) _
 have r2:RefG w2 (w.heap.size+1) (.slice none 0 0) ⟨g1,s0,[]⟩:=by
  rw [hw2,<-e1]
  exact ⟨RowAt.new w1 [.int .i64 (g1:Int),.int .i64 (s0:Int),.slice none 0 0] _,Own.nil _ _⟩
 have r3:=RowAt.new w2 [lb,.int .i64 (g1:Int),.int .i64 g2,.int .i64 g3,.pointer (some ⟨w.heap.size+1,0,none⟩),.slice none 0 0] 106
 rw [<-hw2]
 rw [e2] at r3
 refine ⟨_,w.heap.size+1,rfl,by omega,by omega,⟨r3,r2.below ((Below.refl _ _).alloc (Nat.le_refl _) _),SlO.nil _ _ _,fun _ f=>f.elim⟩,⟨fun f=>?_,fun _ f=>f.elim⟩,b2.alloc (by omega) _⟩
 rcases f with f | f
 ·omega
 ·cases f

theorem rNew1 (lb:Value) (g1 s0:Nat) (g2 g3:Int) (w:World) :
  Calls Tryz.prog 9 #[.agg #[lb,.int .i64 (g1:Int),.int .i64 g2,.int .i64 g3],.int .i64 (s0:Int)] w fun e w'=>∃ x q,e=.returned (.pointer (some ⟨x,0,none⟩))∧w.heap.size<=x∧w.heap.size<=q ∧
   RoomG w' x q (.slice none 0 0) lb g2 g3 ⟨g1,s0,[]⟩ (fun _=>False) none 0 []∧SepR x q (.slice none 0 0) (fun _=>False)∧Below w.heap.size w w':=by
 go_enter Tryz.func9,Tryz.ntmps9
 go_wp2_with fail
 go_ret
 have b1:Below w.heap.size w (w.alloc (.cells #[lb,.int .i64 (g1:Int),.int .i64 g2,.int .i64 g3] 24)):=(Below.refl _ _).alloc (Nat.le_refl _) _
 exact news lb g1 s0 g2 g3 w _ b1 (by simp)
def En.same (x y:En):Bool:=(x.key.toList == y.key.toList) && ((x.seq == y.seq) && ((x.val.num == y.val.num) && ((x.val.txt.toList == y.val.txt.toList) && ((x.val.bits:Int) == (y.val.bits:Int)))))
theorem En.same_iff (x y:En):x.same y=true↔x=y:=by
 obtain ⟨k,s,n,t,b⟩:=x
 obtain ⟨k',s',n',t',b'⟩:=y
 unfold En.same
 simp only [Bool.and_eq_true,beq_iff_eq]
 constructor
 ·rintro ⟨h1,h2,h3,h4,h5⟩
  have e1:k=k':=toList_inj h1
  have e4:t=t':=toList_inj h4
  have e5:b=b':=by omega
  rw [e1,h2,h3,e4,e5]
 ·intro h
  injection h with h1 h2 h3
  injection h3 with h3 h4 h5
  subst h1; subst h2; subst h3; subst h4; subst h5
  exact ⟨rfl,rfl,rfl,rfl,rfl⟩
theorem eqIn_en (d:Nat) (w:World) (k k':ByteArray) (q q':Int) (b b':Bool) (s s':ByteArray) (u u':Int) :
  (Op.equalIn (d+3) 134 (.agg #[.string k,.int .i64 q,.bool b,.string s,.int .u64 u]) (.agg #[.string k',.int .i64 q',.bool b',.string s',.int .u64 u'])).run Tryz.prog w=.ok ((k.toList == k'.toList) && ((q == q') && ((b == b') && ((s.toList == s'.toList) && (u == u'))))) w:=by
 rw [run_equalIn_struct w (d+2) 134 _ _ (by kernel_rfl) (by kernel_rfl)]
 have hv:∀ w:World,(Op.equalIn (d+2) 45 (.agg #[.bool b,.string s,.int .u64 u]) (.agg #[.bool b',.string s',.int .u64 u'])).run Tryz.prog w=.ok ((b == b') && ((s.toList == s'.toList) && (u == u'))) w:=fun w=>eqIn_val d w b b' s s' u u'
 generalize ((b == b') && ((s.toList == s'.toList) && (u == u')))=r at hv ⊢
 simp [go_sem,hv]
 by_cases h1:k.toList=k'.toList<;>by_cases h2:q=q'<;>cases r<;>simp [h1,h2]
theorem neq_en (x y:En) (w:World):(binOp .neq 134 x.v y.v).run Tryz.prog w=.ok (.bool (!(x.same y))) w:=by
 unfold En.v
 rw [run_neq_struct,eqIn_en 9997]; rfl
def SlEn (w:World) (A:Option Addr) (l:List En):Prop :=
 0<l.length->∃ b o,A=some ⟨b,o,none⟩∧b<w.heap.size∧∀ j,j<l.length →
  w.cell? ⟨b,o+j * 5,none⟩=some (.string (l.getD j En.Z).key)∧w.cell? ⟨b,o+j * 5+1,none⟩=some (.int .i64 (l.getD j En.Z).seq)∧w.cell? ⟨b,o+j * 5+2,none⟩=some (.bool (l.getD j En.Z).val.num) ∧
  w.cell? ⟨b,o+j * 5+3,none⟩=some (.string (l.getD j En.Z).val.txt)∧w.cell? ⟨b,o+j * 5+4,none⟩=some (.int .u64 ((l.getD j En.Z).val.bits:Int))
theorem SlEn.at {w:World} {A:Option Addr} {l:List En} (h:SlEn w A l) {j:Nat} (hj:j<l.length):∃ b o,A=some ⟨b,o,none⟩∧b<w.heap.size ∧
  w.cell? ⟨b,o+j * 5,none⟩=some (.string (l.getD j En.Z).key)∧w.cell? ⟨b,o+j * 5+1,none⟩=some (.int .i64 (l.getD j En.Z).seq)∧w.cell? ⟨b,o+j * 5+2,none⟩=some (.bool (l.getD j En.Z).val.num) ∧
  w.cell? ⟨b,o+j * 5+3,none⟩=some (.string (l.getD j En.Z).val.txt)∧w.cell? ⟨b,o+j * 5+4,none⟩=some (.int .u64 ((l.getD j En.Z).val.bits:Int)):=by
 obtain ⟨b,o,e,hl,hc⟩:=h (by omega)
 exact ⟨b,o,e,hl,hc j hj⟩
theorem sw5 {w w':World} {b o:Nat} {v0 v1 v2 v3 v4:Value} (hb:Below w.heap.size w w') (h:w.cell? ⟨b,o,none⟩=some v0∧w.cell? ⟨b,o+1,none⟩=some v1∧w.cell? ⟨b,o+2,none⟩=some v2∧w.cell? ⟨b,o+3,none⟩=some v3∧w.cell? ⟨b,o+4,none⟩=some v4) :
  w'.cell? ⟨b,o,none⟩=some v0∧w'.cell? ⟨b,o+1,none⟩=some v1∧w'.cell? ⟨b,o+2,none⟩=some v2∧w'.cell? ⟨b,o+3,none⟩=some v3∧w'.cell? ⟨b,o+4,none⟩=some v4:=by
 have hl:b<w.heap.size:=block_lt_of_cell h.1
 exact ⟨(hb.cell (p:=⟨b,o,none⟩) hl).trans h.1,(hb.cell (p:=⟨b,o+1,none⟩) hl).trans h.2.1,(hb.cell (p:=⟨b,o+2,none⟩) hl).trans h.2.2.1,(hb.cell (p:=⟨b,o+3,none⟩) hl).trans h.2.2.2.1,(hb.cell (p:=⟨b,o+4,none⟩) hl).trans h.2.2.2.2⟩
theorem getD_extE {a b:List En} (h:a.length=b.length) (hj:∀ j,j<a.length->a.getD j En.Z=b.getD j En.Z):a=b:=by
 apply List.ext_getElem h
 intro j h1 h2
 have:=hj j h1
 rwa [List.getD_eq_getElem?_getD,List.getD_eq_getElem?_getD,List.getElem?_eq_getElem h1,List.getElem?_eq_getElem h2] at this

open Classical in
theorem rSame1 (a b:List En) (A1 A2:Option Addr) (c1 c2:Nat) (w:World) (h1:SlEn w A1 a) (h2:SlEn w A2 b) (l1:a.length<=10000) (l2:b.length<=10000) :
  Calls Tryz.prog 22 #[.slice A1 a.length c1,.slice A2 b.length c2] w fun e w'=>e=.returned (.bool (decide (a=b)))∧∃ m,w'=w.drewN m:=by
 obtain ⟨R,hR⟩:∃ R:Bool,R=decide (a=b):=⟨_,rfl⟩
 obtain ⟨n,hn⟩:=nmq (a.length)
 obtain ⟨n2,hn2⟩:=nmq (b.length)
 rw [<-hn] at l1
 rw [<-hn2] at l2
 rw [<-hR,<-hn,<-hn2]
 have HR:=qh hR
 have HN:=qh hn
 have HN2:=qh hn2
 have H1:=qh h1
 have H2:=qh h2
 have NV:=qh neq_en
 clear hR hn hn2 h1 h2
 go_enter Tryz.func22,Tryz.ntmps22
 by_cases q0:n=n2
 ·have q0':=qh q0
  subst q0
  go_wp2_with fail
  go_loopw [5] (fun vi wr=>∃ i:Nat,i<=n∧vi=.int .i64 i∧Hid (∀ j,j<i->a.getD j En.Z=b.getD j En.Z)∧Hid (∃ m,wr=w.drewN m)) (fun vi _=>n-(intOf vi).toNat)
  case atStart=>exact ⟨0,Nat.zero_le _,rfl,qh (fun j hj=>by cases hj),qh ⟨0,rfl⟩⟩
  case round =>
   obtain ⟨i,hi,rfl,HM,HW⟩:=hrel
   by_cases q:i<n
   ·obtain ⟨mw,hw⟩:=HW.out
    have sw:Below w.heap.size w wr:=by rw [hw]; exact below_drewN (Below.refl _ _) _
    have HW2:=qh hw
    obtain ⟨g1,o1,rfl,_,x⟩:=H1.out.at (by rw [<-HN.out]; exact q)
    obtain ⟨g2,o2,rfl,_,y⟩:=H2.out.at (by rw [<-HN2.out]; exact q)
    obtain ⟨c0,c1,c2,c3,c4⟩:=sw5 sw x
    obtain ⟨d0,d1,d2,d3,d4⟩:=sw5 sw y
    have NE:=NV.out (a.getD i En.Z) (b.getD i En.Z)
    have ST:=qh (fun (h:a.getD i En.Z=b.getD i En.Z)=>show ∀ j,j<i+1->a.getD j En.Z=b.getD j En.Z from fun j hj=>by
     by_cases e:j=i
     ·rw [e]; exact h
     ·exact HM.out j (by omega))
    have SN:=qh (fun (h:a.getD i En.Z≠b.getD i En.Z)=>show R=false by rw [HR.out]; exact decide_eq_false fun e=>h (by rw [e]))
    obtain ⟨u,hu⟩:=nmq (a.getD i En.Z)
    obtain ⟨v,hv⟩:=nmq (b.getD i En.Z)
    rw [<-hu] at c0 c1 c2 c3 c4
    rw [<-hv] at d0 d1 d2 d3 d4
    rw [<-hu,<-hv] at NE ST SN
    have NE:∀ w,(binOp .neq 134 (.agg #[.string u.key,.int .i64 u.seq,.bool u.val.num,.string u.val.txt,.int .u64 (u.val.bits:Int)]) (.agg #[.string v.key,.int .i64 v.seq,.bool v.val.num,.string v.val.txt,.int .u64 (v.val.bits:Int)])).run Tryz.prog w=.ok (.bool (!(u.same v))) w:=NE
    have i0:(0:Int)<=(i:Int):=by omega
    have i1:(i:Int)<(n:Int):=by omega
    clear hu hv hw sw x y
    by_cases p:u=v
    ·have E:=qh (ST.out p)
     have p2:u.same v=true:=(En.same_iff u v).2 p
     rw [p2] at NE
     clear p p2
     go_wp2_with fail
     go_quiet (fail)
     go_wp2_with fail
     go_roundw
     case rel=>exact ⟨i+1,by omega,by go_num,E,qh (by rw [HW2.out,World.drewN_drewN]; exact ⟨_,rfl⟩)⟩
     case measure=>simp [intOf]; omega
    ·have E:=qh (SN.out p)
     have p2:u.same v=false:=by
      cases z:u.same v with
      | false=>rfl
      | true=>exact absurd ((En.same_iff u v).1 z) p
     rw [p2] at NE
     clear p p2
     go_wp2_with fail
     go_quiet (fail)
     go_wp2_with fail
     go_ret
     exact ⟨by rw [E.out]; rfl,by rw [HW2.out,World.drewN_drewN]; exact ⟨_,rfl⟩⟩
   ·obtain rfl:i=n:=by omega
    have E:=qh (show R=true by rw [HR.out]; exact decide_eq_true (getD_extE (by rw [<-HN.out,<-HN2.out]) (by rw [<-HN.out]; exact HM.out)))
    go_wp2_with fail
    go_ret
    exact ⟨by rw [E.out]; rfl,HW.out⟩
 ·have E:=qh (show R=false by rw [HR.out]; exact decide_eq_false fun e=>q0 (by rw [HN.out,HN2.out,e]))
  have q1:((n:Int) == (n2:Int))=false:=by simp; omega
  go_wp2_with fail
  go_ret
  exact ⟨by rw [E.out]; rfl,0,rfl⟩
end Go.Proofs.YtomjlopcifafpaaGreat
