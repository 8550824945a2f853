/- Proved parts: C9h C9k C9n. Conditions: each theorem's own. -/
import Derived.Test.YtoljhoabbaigdaaGreatM38
import Derived.Test.YtoljhoabbaigdaaGreatM39
import Derived.Test.YtoljhoabbaigdaaGreatQ2
set_option maxRecDepth 100000
set_option maxHeartbeats 8000000
namespace Go.Proofs.YtoljhoabbaigdaaGreat
open Go.RowKit

def VRow (w:World) (g:Nat) (l:List Ver):Prop:=RowAt w g (vcs l) 129
section
variable {w w':World} {g:Nat} {l:List Ver}
theorem VRow.cell (h:VRow w g l) {i j:Nat} (hi:i<l.length) (hj:j<5):w.cell? ⟨g,i * 5+j,none⟩=l[i].cs[j]?:=by
 rw [RowAt.cell h]; exact flat_at (f:=Ver.cs) (n:=5) (fun _=>rfl) l i j hi hj
theorem VRow.frozen (h:VRow w g l) (i:Nat):w.frozen? ⟨g,i,none⟩=false:=RowAt.frozen h i
theorem VRow.below (h:VRow w g l) (hb:Below w.heap.size w w'):VRow w' g l:=RowAt.below h hb
theorem VRow.set (h:VRow w g l) {k:Nat} (hk:k<l.length) (y:Ver):VRow (w.setCells g (k * 5) y.cs) g (l.set k y):=by
 have q:=RowAt.setCells y.cs (k * 5) (vcs l) w h (by rw [vcs_len]; show k * 5+5<=_; omega)
 rw [show over (vcs l) (k * 5) y.cs=vcs (l.set k y) from flat_seg (f:=Ver.cs) (n:=5) (fun _=>rfl) y l k hk] at q
 exact q
theorem VRow.own {B:Nat} (h:VRow w g l) (hg:B<=g) (hl:l.length<=maxLen):OwnV w B (.slice (some ⟨g,0,none⟩) l.length l.length) l :=
 ⟨vcs_len l,.inr ⟨g,l.length,_,rfl,hg,h,Nat.le_refl _,hl,by simp [vcs_len],by rw [List.take_of_length_le (by rw [vcs_len]; exact Nat.le_refl _)]⟩⟩
end
def verTo (l:List Ver) (k:Nat):List Ver:=(List.range l.length).map fun i=>if i<k then l.getD i Ver.Z else Ver.Z
theorem verTo_len (l:List Ver) (k:Nat):(verTo l k).length=l.length:=by unfold verTo; simp
theorem verTo_get (l:List Ver) (k i:Nat) (h:i<(verTo l k).length):(verTo l k)[i]=if i<k then l.getD i Ver.Z else Ver.Z:=by
 simp [verTo]
theorem verTo_zero (l:List Ver):verTo l 0=List.replicate l.length Ver.Z:=by
 apply List.ext_getElem
 ·rw [verTo_len,List.length_replicate]
 ·intro i h1 h2
  rw [verTo_get,if_neg (by omega),List.getElem_replicate]
theorem verTo_all (l:List Ver):verTo l l.length=l:=by
 apply List.ext_getElem
 ·rw [verTo_len]
 ·intro i h1 h2
  rw [verTo_get,if_pos h2,List.getD_eq_getElem?_getD,List.getElem?_eq_getElem h2]; rfl
theorem verTo_set (l:List Ver) (k:Nat):(verTo l k).set k (l.getD k Ver.Z)=verTo l (k+1):=by
 apply List.ext_getElem
 ·rw [List.length_set,verTo_len,verTo_len]
 ·intro i h1 h2
  rw [List.getElem_set]
  by_cases q:k=i
  ·subst q; rw [if_pos rfl,verTo_get,if_pos (by omega)]
  ·rw [if_neg q,verTo_get,verTo_get]
   by_cases q2:i<k
   ·rw [if_pos q2,if_pos (by omega)]
   ·rw [if_neg q2,if_neg (by omega)]
theorem make_vers (n:Nat) (hn:n<=1000) (W:World):(Instr.makeSlice 145 (.int .i64 (n:Int)) (.int .i64 (n:Int))).run Tryz.prog W=.ok (.slice (some ⟨W.heap.size,0,none⟩) n n) (W.alloc (.cells (vcs (List.replicate n Ver.Z)).toArray 129)):=by
 obtain ⟨i0,hi,hz0,hz1,hz2⟩:=info_parts infoVer
 have h:=run_make (P:=Tryz.prog) W 145 129 i0 _ Tryz.underlying145 hi hz0 .i64 .i64 (n:Int) (n:Int) (by omega) (by omega) (by rw [hz2]; omega) (by omega)
 rw [hz1,show Ver.Z.v.cells=Ver.Z.cs.toArray from rfl] at h
 have e:=made_flat (f:=Ver.cs) (m:=5) (by decide) (fun _=>rfl) Ver.Z n
 have h2:(Instr.makeSlice 145 (.int .i64 (n:Int)) (.int .i64 (n:Int))).run Tryz.prog W=.ok (.slice (some ⟨W.heap.size,0,none⟩) n n) (W.alloc (.cells (madeCells Ver.Z.cs.toArray (n * 5)) 129)):=by simpa using h
 rw [e] at h2
 exact h2

theorem xCopied9 (l:List Ver) (A:Option Addr) (c:Nat) (w:World) (h:SlV w A l) (hg:GoodL l) :
  Calls Tryz.prog 105 #[.slice A l.length c] w fun e w'=>∃ g,e=.returned (.slice (some ⟨g,0,none⟩) l.length l.length)∧VRow w' g l∧w.heap.size<=g∧Below w.heap.size w w':=by
 obtain ⟨n,hn⟩:=nmq (l.length)
 have hl:=hg.len
 rw [<-hn] at hl ⊢
 have MK:=make_vers n hl
 have HN:=qh hn
 have HS:=qh h
 have HG:=qh hg
 clear hn h hg
 go_enter Tryz.func105,Tryz.ntmps105
 go_wp2_with fail
 have R0:=qh (show VRow (w.alloc (.cells (vcs (List.replicate n Ver.Z)).toArray 129)) w.heap.size (verTo l 0) by rw [verTo_zero,<-HN.out]; exact RowAt.new w _ _)
 have B0:=qh (show Below w.heap.size w (w.alloc (.cells (vcs (List.replicate n Ver.Z)).toArray 129)) from (Below.refl _ w).alloc (Nat.le_refl _) _)
 clear MK
 obtain ⟨g,hg⟩:=nmq (w.heap.size)
 have HG2:=qh hg
 rw [<-hg] at R0 ⊢
 generalize w.alloc (.cells (vcs (List.replicate n Ver.Z)).toArray 129)=w2 at R0 B0 ⊢
 clear hg
 go_loopw [11] (fun v wr=>∃ k:Nat,k<=n∧v=.int .i64 k∧Hid (VRow wr g (verTo l k))∧Hid (Below w.heap.size w wr)) (fun v _=>n-(Go.RowKit.intOf v).toNat)
 case atStart=>exact ⟨0,Nat.zero_le _,rfl,R0,B0⟩
 case round =>
  obtain ⟨k,hk,rfl,HR,HB⟩:=hrel
  by_cases hlt:k<n
  ·have kl:k<l.length:=by rw [<-HN.out]; exact hlt
   obtain ⟨b,o,rfl,hb,c0,c1,c2,c3,c4⟩:=(HS.out.below HB.out).at kl
   have xt:=(HG.out.get kl).2
   have vs:=verTo_set l k
   obtain ⟨x,hx⟩:=nmq (l.getD k Ver.Z)
   rw [<-hx] at c0 c1 c2 c3 c4 xt vs
   have FR:=qh (fun w=>xFresh9 x w xt)
   have FR:Hid (∀ w,Calls Tryz.prog 106 #[.agg #[.int .i64 x.seq,.bool x.gone,.bool x.val.num,.string x.val.txt,.int .u64 (x.val.bits:Int)]] w fun e w'=>e=.returned (.agg #[.int .i64 x.seq,.bool x.gone,.bool x.val.num,.string x.val.txt,.int .u64 (x.val.bits:Int)])∧Below w.heap.size w w'):=FR
   have VS:=qh vs
   have i0:(0:Int)<=(k:Int):=by omega
   have i1:(k:Int)<(n:Int):=by omega
   have AB:=qh (show Below wr.heap.size wr (wr.alloc (.cells x.cs.toArray 129)) from (Below.refl _ _).alloc (Nat.le_refl _) _)
   clear hx hb xt kl vs
   go_wp2_with fail
   refine (FR.out _).mono ?_
   rintro e w3 ⟨rfl,hb3⟩
   have hb4:Below wr.heap.size wr w3:=AB.out.trans (hb3.mono AB.out.size)
   have r4:=HR.out.below hb4
   have kl:k<(verTo l k).length:=by rw [verTo_len,<-HN.out]; exact hlt
   have z:(verTo l k)[k]=Ver.Z:=by rw [verTo_get,if_neg (by omega)]
   have d0:=r4.cell (j:=0) kl (by omega)
   have d1:=r4.cell (j:=1) kl (by omega)
   have d2:=r4.cell (j:=2) kl (by omega)
   have d3:=r4.cell (j:=3) kl (by omega)
   have d4:=r4.cell (j:=4) kl (by omega)
   rw [z] at d0 d1 d2 d3 d4
   simp only [Ver.cs,List.getElem?_cons_succ,List.getElem?_cons_zero,Nat.add_zero] at d0 d1 d2 d3 d4
   have f0:=r4.frozen (k * 5)
   have f1:=r4.frozen (k * 5+1)
   have f2:=r4.frozen (k * 5+2)
   have f3:=r4.frozen (k * 5+3)
   have f4:=r4.frozen (k * 5+4)
   have R4:=qh (show VRow (w3.setCells g (k * 5) x.cs) g (verTo l (k+1)) by
    have q:=r4.set kl x
    rw [VS.out] at q
    exact q)
   have B4:=qh (below_then HB.out hb4)
   have g1:w.heap.size<=g:=by rw [HG2.out]; exact Nat.le_refl _
   have B5:=B4.out.setCell (p:=⟨g,k * 5,none⟩) g1 (.int .i64 x.seq)
   have B6:=B5.setCell (p:=⟨g,k * 5+1,none⟩) g1 (.bool x.gone)
   have B7:=B6.setCell (p:=⟨g,k * 5+2,none⟩) g1 (.bool x.val.num)
   have B8:=B7.setCell (p:=⟨g,k * 5+3,none⟩) g1 (.string x.val.txt)
   have B9:=qh (B8.setCell (p:=⟨g,k * 5+4,none⟩) g1 (.int .u64 (x.val.bits:Int)))
   clear hb3 hb4 r4 z kl B5 B6 B7 B8 g1 c0 c1 c2 c3 c4
   go_wp2_with fail
   go_roundw
   case rel=>exact ⟨k+1,by omega,by go_num,R4,B9⟩
   case measure=>simp [Go.RowKit.intOf]; omega
  ·obtain rfl:k=n:=by omega
   go_wp2_with fail
   go_ret
   have hr:=HR.out
   rw [HN.out,verTo_all] at hr
   exact ⟨g,rfl,hr,by rw [HG2.out]; exact Nat.le_refl _,HB.out⟩

end Go.Proofs.YtoljhoabbaigdaaGreat

namespace Go.Proofs.YtoljhoabbaigdaaGreat
open Go.RowKit

theorem SlV.take {w:World} {A:Option Addr} {l:List Ver} (h:SlV w A l) (k:Nat):SlV w A (l.take k):=fun hp=>by
 rw [List.length_take] at hp
 obtain ⟨b,o,e,hl,hc⟩:=h (by omega)
 refine ⟨b,o,e,hl,fun j hj=>?_⟩
 rw [List.length_take] at hj
 have:=hc j (by omega)
 rw [List.getD_eq_getElem?_getD,List.getElem?_take,if_pos (by omega),<-List.getD_eq_getElem?_getD]
 exact this
theorem GoodL.take {l:List Ver} (h:GoodL l) (k:Nat):GoodL (l.take k) :=
 ⟨fun x hx=>h.fits x (List.mem_of_mem_take hx),fun x hx=>h.texts x (List.mem_of_mem_take hx),by rw [List.length_take]; have:=h.len; omega⟩

theorem xLast9 (l:List Ver) (A:Option Addr) (c:Nat) (w:World) (h:SlV w A l) (hg:GoodL l) :
  Calls Tryz.prog 127 #[.slice A l.length c] w fun e w'=>e=.returned (.tuple #[(if rightL l && decide (0<l.length) then lastL l else Ver.Z).v,.bool (rightL l && decide (0<l.length))])∧Below w.heap.size w w':=by
 have CR:=qh (fun W (hs:SlV W A l)=>xRight9 l A c W hs hg)
 have CE:=qh (fun W (hs:SlV W A l)=>xEnd9 l A c W hs hg)
 obtain ⟨n,hn⟩:=nmq (l.length)
 obtain ⟨B,hB⟩:=nmq (w.heap.size)
 have hl:=hg.len
 rw [<-hn] at hl ⊢
 rw [<-hB]
 simp only [<-hn] at CR CE
 obtain ⟨R,hR⟩:=nmq (rightL l)
 obtain ⟨D,hD⟩:=nmq (decide (0<n))
 obtain ⟨y,hy⟩:=nmq ((if D=true then lastL l else Ver.Z))
 rw [<-hR,<-hD]
 simp only [<-hR] at CR
 simp only [<-hD,<-hy] at CE
 have CE:Hid (∀ W,SlV W A l->Calls Tryz.prog 103 #[.slice A n c] W fun e w'=>e=.returned (.tuple #[.agg #[.int .i64 y.seq,.bool y.gone,.bool y.val.num,.string y.val.txt,.int .u64 (y.val.bits:Int)],.bool D])∧Below W.heap.size W w'):=CE
 have HY:=qh hy
 obtain ⟨u,hu⟩:=nmq ((if (R && D)=true then lastL l else Ver.Z))
 obtain ⟨E,hE⟩:=nmq ((R && D))
 rw [<-hu,<-hE]
 have HU:=qh hu
 have HE:=qh hE
 clear hu hE
 have HS:=qh h
 have HB:=qh hB
 have R0:=RowAt.new w Ver.Z.cs 129
 rw [<-hB] at R0
 have B0:=qh (show Below B w (w.alloc (.cells Ver.Z.cs.toArray 129)) by rw [hB]; exact (Below.refl _ _).alloc (Nat.le_refl _) _)
 have S0:=qh (h.below (show Below w.heap.size w (w.alloc (.cells Ver.Z.cs.toArray 129)) from (Below.refl _ _).alloc (Nat.le_refl _) _))
 have R0:=qh R0
 clear hn hB h hg hR hD hy
 go_enter Tryz.func127,Tryz.ntmps127
 go_wp2_with fail
 rw [<-HB.out]
 refine (CR.out _ S0.out).mono ?_
 rintro e w1 ⟨rfl,hb1⟩
 have S1:=qh (S0.out.below hb1)
 have R1:=qh (R0.out.below hb1)
 have B1:=qh (show Below B w w1 from B0.out.trans (hb1.mono (by rw [HB.out]; exact B0.out.size)))
 clear hb1
 cases R with
 | false =>
  obtain ⟨g0,g1,g2,g3,g4,e0,e1,e2,e3,e4⟩:=zeroF R1.out
  have F1:=qh (show Below B w (setV w1 B Ver.Z) from setV_below B1.out (Nat.le_refl _))
  have F2:=qh (show RowAt (setV w1 B Ver.Z) B Ver.Z.cs _ from setV_row R1.out)
  go_wp2_with fail
  refine bodyPost_ret (results_cell_tmp rfl _ (setV w1 B Ver.Z) B _ _ _ rfl F2.out Tryz.underlying129 rfl (by kernel_rfl)) rfl ?_
  exact ⟨by rw [HU.out,HE.out]; rfl,F1.out⟩
 | true =>
  go_wp2_with fail
  refine (CE.out _ S1.out).mono ?_
  rintro e w2 ⟨rfl,hb2⟩
  have r2:=R1.out.below hb2
  have b2:Below B w w2:=B1.out.trans (hb2.mono (by rw [HB.out]; exact B1.out.size))
  obtain ⟨g0,g1,g2,g3,g4,e0,e1,e2,e3,e4⟩:=zeroF r2
  have F1:=qh (show Below B w (setV w2 B y) from setV_below b2 (Nat.le_refl _))
  have F2:=qh (show RowAt (setV w2 B y) B y.cs _ from setV_row r2)
  clear hb2 r2 b2
  go_wp2_with fail
  refine bodyPost_ret (results_cell_tmp rfl _ (setV w2 B y) B _ _ _ rfl F2.out Tryz.underlying129 rfl (by kernel_rfl)) rfl ?_
  refine ⟨?_,F1.out⟩
  rw [HU.out,HE.out,Bool.true_and,<-HY.out]; rfl

theorem lastL_take {l:List Ver} {k:Nat} (h:0<k) (hk:k<=l.length):lastL (l.take k)=l.getD (k-1) Ver.Z:=by
 unfold lastL
 rw [List.length_take,show min k l.length-1=k-1 by omega,List.getD_eq_getElem?_getD,List.getElem?_take,if_pos (by omega),<-List.getD_eq_getElem?_getD]
theorem xAt9 (l:List Ver) (A:Option Addr) (c:Nat) (s:Int) (w:World) (hc:l.length<=c) (h:SlV w A l) (hg:GoodL l) :
  Calls Tryz.prog 137 #[.slice A l.length c,.int .i64 s] w fun e w'=>e=.returned (.tuple #[(if rightL l then atL l s else Ver.Z).v,.bool (rightL l && atOk l s)])∧Below w.heap.size w w':=by
 have CR:=qh (fun W (hs:SlV W A l)=>xRight9 l A c W hs hg)
 have CU:=qh (fun (hr:rightL l=true) W (hs:SlV W A l)=>xUntil9 l A c s W hs (rise_of_right hr) hg.len)
 obtain ⟨n,hn⟩:=nmq (l.length)
 obtain ⟨B,hB⟩:=nmq (w.heap.size)
 obtain ⟨K,hK⟩:=nmq (cnt s l)
 have kn:K<=n:=by rw [hK,hn]; exact cnt_le s l
 have tl:(l.take K).length=K:=by rw [List.length_take]; omega
 have CE:=qh (fun W (hs:SlV W A l)=>show Calls Tryz.prog 103 #[.slice A K c] W _ from by
  have:=xEnd9 (l.take K) A c W (hs.take K) (hg.take K)
  rw [tl] at this
  exact this)
 have hl:=hg.len
 rw [<-hn] at hl hc ⊢
 rw [<-hB]
 simp only [<-hn] at CR CU
 simp only [<-hK] at CU
 obtain ⟨R,hR⟩:=nmq (rightL l)
 obtain ⟨D,hD⟩:=nmq (decide (0<K))
 obtain ⟨y,hy⟩:=nmq ((if D=true then lastL (l.take K) else Ver.Z))
 rw [<-hR]
 simp only [<-hR] at CR
 simp only [<-hD,<-hy] at CE
 have CE:Hid (∀ W,SlV W A l->Calls Tryz.prog 103 #[.slice A K c] W fun e w'=>e=.returned (.tuple #[.agg #[.int .i64 y.seq,.bool y.gone,.bool y.val.num,.string y.val.txt,.int .u64 (y.val.bits:Int)],.bool D])∧Below W.heap.size W w'):=CE
 obtain ⟨u,hu⟩:=nmq ((if R=true then atL l s else Ver.Z))
 obtain ⟨E,hE⟩:=nmq ((R && atOk l s))
 have eu:u=(if (R && (D && !y.gone))=true then y else Ver.Z)∧E=(R && (D && !y.gone)):=by
  have ea:atOk l s=(D && !y.gone):=by
   unfold atOk
   rw [<-hK,hD,hy,hD]
   by_cases k0:0<K
   ·rw [decide_eq_true k0,if_pos rfl,lastL_take k0 (by omega)]
   ·rw [decide_eq_false k0]; rfl
  refine ⟨?_,by rw [hE,ea]⟩
  rw [hu]
  unfold atL
  rw [ea]
  cases R with
  | false=>rfl
  | true =>
   rw [if_pos rfl,Bool.true_and]
   cases q:(D && !y.gone) with
   | false=>rfl
   | true =>
    have d1:D=true:=by simp at q; exact q.1
    rw [if_pos rfl,if_pos rfl,hy,if_pos d1,lastL_take (by rw [hD] at d1; exact of_decide_eq_true d1) (by omega),<-hK]
 rw [<-hu,<-hE]
 have EU:=qh eu.1
 have EE:=qh eu.2
 have B0:=qh (show Below B w (w.alloc (.cells Ver.Z.cs.toArray 129)) by rw [hB]; exact (Below.refl _ _).alloc (Nat.le_refl _) _)
 have S0:=qh (h.below (show Below w.heap.size w (w.alloc (.cells Ver.Z.cs.toArray 129)) from (Below.refl _ _).alloc (Nat.le_refl _) _))
 have R0:=RowAt.new w Ver.Z.cs 129
 rw [<-hB] at R0
 have R0:=qh R0
 have CV:=qh (fun (q:R=true)=>CU.out (by rw [<-hR]; exact q))
 have HB:=qh hB
 have k1:(K:Int)<=(c:Int):=by omega
 have k2:(0:Int)<=(K:Int):=by omega
 have kc:K<=c:=by omega
 clear CU hn hB hK tl hR hD hy hu hE eu h hg
 go_enter Tryz.func137,Tryz.ntmps137
 go_wp2_with fail
 rw [<-HB.out]
 refine (CR.out _ S0.out).mono ?_
 rintro e w1 ⟨rfl,hb1⟩
 have S1:=qh (S0.out.below hb1)
 have R1:=qh (R0.out.below hb1)
 have B1:=qh (show Below B w w1 from B0.out.trans (hb1.mono (by rw [HB.out]; exact B0.out.size)))
 clear hb1
 cases R with
 | false =>
  obtain ⟨g0,g1,g2,g3,g4,e0,e1,e2,e3,e4⟩:=zeroF R1.out
  have F1:=qh (show Below B w (setV w1 B Ver.Z) from setV_below B1.out (Nat.le_refl _))
  have F2:=qh (show RowAt (setV w1 B Ver.Z) B Ver.Z.cs _ from setV_row R1.out)
  go_wp2_with fail
  refine bodyPost_ret (results_cell_tmp rfl _ (setV w1 B Ver.Z) B _ _ _ rfl F2.out Tryz.underlying129 rfl (by kernel_rfl)) rfl ?_
  exact ⟨by rw [EU.out,EE.out]; rfl,F1.out⟩
 | true =>
  have CW:=qh (CV.out rfl w1 S1.out)
  go_wp2_with fail
  refine CW.out.mono ?_
  rintro e w2 ⟨rfl,hb2⟩
  have S2:=qh (S1.out.below hb2)
  have R2:=qh (R1.out.below hb2)
  have B2:=qh (show Below B w w2 from B1.out.trans (hb2.mono (by rw [HB.out]; exact B1.out.size)))
  clear hb2 CW
  go_wp2_with fail
  refine (CE.out _ S2.out).mono ?_
  rintro e w3 ⟨rfl,hb3⟩
  have r3:=R2.out.below hb3
  have b3:Below B w w3:=B2.out.trans (hb3.mono (by rw [HB.out]; exact B2.out.size))
  obtain ⟨q,g,v⟩:=y
  obtain ⟨m,t,k⟩:=v
  have b4:Below B w (w3.alloc (.cells #[.int .i64 q,.bool g,.bool m,.string t,.int .u64 (k:Int)] 129)):=b3.alloc (by rw [HB.out]; exact b3.size) _
  have r4:RowAt (w3.alloc (.cells #[.int .i64 q,.bool g,.bool m,.string t,.int .u64 (k:Int)] 129)) B Ver.Z.cs 129:=r3.alloc _
  obtain ⟨g0,g1,g2,g3,g4,e0,e1,e2,e3,e4⟩:=zeroF r4
  have F1:=qh (fun x=>show Below B w (setV (w3.alloc (.cells #[.int .i64 q,.bool g,.bool m,.string t,.int .u64 (k:Int)] 129)) B x) from setV_below b4 (Nat.le_refl _))
  have F2:=qh (fun x=>show RowAt (setV (w3.alloc (.cells #[.int .i64 q,.bool g,.bool m,.string t,.int .u64 (k:Int)] 129)) B x) B x.cs _ from setV_row r4)
  clear hb3 b3 r3 b4 r4 CE
  by_cases z:(D && !g)=true
  ·obtain ⟨rfl,rfl⟩:D=true∧g=false:=by simpa using z
   clear z
   go_wp2_with fail
   refine bodyPost_ret (results_cell_tmp rfl _ (setV (w3.alloc (.cells #[.int .i64 q,.bool false,.bool m,.string t,.int .u64 (k:Int)] 129)) B ⟨q,false,⟨m,t,k⟩⟩) B _ _ _ rfl (F2.out ⟨q,false,⟨m,t,k⟩⟩) Tryz.underlying129 rfl (by kernel_rfl)) rfl ?_
   exact ⟨by rw [EU.out,EE.out]; rfl,F1.out ⟨q,false,⟨m,t,k⟩⟩⟩
  ·have z2:(D && !g)=false:=by simpa using z
   have EU2:=qh (show u=Ver.Z by rw [EU.out,z2]; rfl)
   have EE2:=qh (show E=false by rw [EE.out,z2]; rfl)
   clear EU EE
   cases D with
   | false =>
    clear z z2
    go_wp2_with fail
    refine bodyPost_ret (results_cell_tmp rfl _ (setV (w3.alloc (.cells #[.int .i64 q,.bool g,.bool m,.string t,.int .u64 (k:Int)] 129)) B Ver.Z) B _ _ _ rfl (F2.out Ver.Z) Tryz.underlying129 rfl (by kernel_rfl)) rfl ?_
    exact ⟨by rw [EU2.out,EE2.out]; rfl,F1.out Ver.Z⟩
   | true =>
    cases g with
    | false=>exact absurd rfl z
    | true =>
     clear z z2
     go_wp2_with fail
     refine bodyPost_ret (results_cell_tmp rfl _ (setV (w3.alloc (.cells #[.int .i64 q,.bool true,.bool m,.string t,.int .u64 (k:Int)] 129)) B Ver.Z) B _ _ _ rfl (F2.out Ver.Z) Tryz.underlying129 rfl (by kernel_rfl)) rfl ?_
     exact ⟨by rw [EU2.out,EE2.out]; rfl,F1.out Ver.Z⟩
end Go.Proofs.YtoljhoabbaigdaaGreat
