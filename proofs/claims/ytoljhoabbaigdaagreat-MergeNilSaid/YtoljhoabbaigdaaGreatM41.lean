/- Proved parts: C9q. Conditions: each theorem's own. -/
import Derived.Test.YtoljhoabbaigdaaGreatM40
import Derived.Test.YtoljhoabbaigdaaGreatM11
import Derived.Test.YtoljhoabbaigdaaGreatM12
import Derived.Test.YtoljhoabbaigdaaGreatQ1
import Derived.Test.YtoljhoabbaigdaaGreatQ2
set_option maxRecDepth 100000
set_option maxHeartbeats 8000000
namespace Go.Proofs.YtoljhoabbaigdaaGreat
open Go.RowKit

theorem getD_snoc {l:List Ver} {v:Ver} {i:Nat} (h:i<l.length):(l++[v]).getD i Ver.Z=l.getD i Ver.Z:=by
 rw [List.getD_eq_getElem?_getD,List.getD_eq_getElem?_getD,List.getElem?_append_left h]
theorem getD_snoc_last (l:List Ver) (v:Ver):(l++[v]).getD l.length Ver.Z=v:=by
 rw [List.getD_eq_getElem?_getD,List.getElem?_append_right (Nat.le_refl _)]; simp
theorem right_snoc (l:List Ver) (v:Ver):rightL (l++[v])=(rightL l && mayV (if decide (0<l.length) then lastL l else Ver.Z).seq v):=by
 have e0:prevS (l++[v]) l.length=(if decide (0<l.length) then lastL l else Ver.Z).seq:=by
  unfold prevS
  by_cases p:l.length=0
  ·rw [if_pos p,decide_eq_false (by omega)]; rfl
  ·rw [if_neg p,decide_eq_true (by omega),if_pos rfl,getD_snoc (by omega)]; rfl
 have e1:∀ i,i<l.length->prevS (l++[v]) i=prevS l i:=fun i hi=>by
  unfold prevS
  by_cases p:i=0
  ·rw [if_pos p,if_pos p]
  ·rw [if_neg p,if_neg p,getD_snoc (by omega)]
 rw [Bool.eq_iff_iff,Bool.and_eq_true,rightL_iff,rightL_iff]
 constructor
 ·intro h
  refine ⟨fun i hi=>?_,?_⟩
  ·have:=h i (by simp; omega)
   rwa [e1 i hi,getD_snoc hi] at this
  ·have:=h l.length (by simp)
   rwa [e0,getD_snoc_last] at this
 ·rintro ⟨h1,h2⟩ i hi
  by_cases p:i<l.length
  ·rw [e1 i p,getD_snoc p]; exact h1 i p
  ·have e:i=l.length:=by simp at hi; omega
   rw [e,e0,getD_snoc_last]; exact h2
theorem GoodL.init {l:List Ver} {v:Ver} (h:GoodL (l++[v])):GoodL l:=by
 have:=h.take l.length
 rwa [List.take_left'] at this
 rfl
theorem slV_one (w:World) (v:Ver):SlV (w.alloc (.cells v.cs.toArray 129)) (some ⟨w.heap.size,0,none⟩) [v]:=fun _=>by
 have r:=RowAt.new w v.cs 129
 refine ⟨w.heap.size,0,rfl,r.lt,fun j hj=>?_⟩
 have e:j=0:=by simp at hj; exact hj
 subst e
 exact ⟨r.cell 0,r.cell 1,r.cell 2,r.cell 3,r.cell 4⟩

theorem xAdd9 (l:List Ver) (v:Ver) (A:Option Addr) (c:Nat) (w:World) (h:SlV w A l) (hg:GoodL (l++[v])) :
  Calls Tryz.prog 72 #[.slice A l.length c,v.v] w fun e w'=>∃ A' c',e=.returned (.tuple #[.slice A' (if rightL (l++[v]) then l++[v] else []).length c',.int .i64 (if rightL (l++[v]) then 0 else 1)])∧SlV w' A' (if rightL (l++[v]) then l++[v] else [])∧Below w.heap.size w w'∧(if rightL (l++[v]) then l++[v] else []).length<=c'∧(0<(if rightL (l++[v]) then l++[v] else []).length->∃ g,A'=some ⟨g,0,none⟩∧w.heap.size<=g):=by
 have gl:=hg.init
 have hv:=hg.get (i:=l.length) (by simp)
 rw [getD_snoc_last] at hv
 have CR:=qh (fun W (hs:SlV W A l)=>xRight9 l A c W hs gl)
 have CE:=qh (fun W (hs:SlV W A l)=>xEnd9 l A c W hs gl)
 have CC:=qh (fun W (hs:SlV W A l)=>xCopied9 l A c W hs gl)
 have CF:=qh (fun p W=>xFollows9 v p W hv.1)
 have CG:=qh (fun W=>xFresh9 v W hv.2)
 obtain ⟨T,hT⟩:=nmq ((if rightL (l++[v])=true then l++[v] else []))
 obtain ⟨X,hX⟩:∃ X:Int,X=(if rightL (l++[v])=true then 0 else 1):=⟨_,rfl⟩
 rw [<-hT,<-hX]
 rw [right_snoc] at hT hX
 have hl:=gl.len
 obtain ⟨R,hR⟩:=nmq (rightL l)
 rw [<-hR] at hT hX
 simp only [<-hR] at CR
 obtain ⟨D,hD⟩:=nmq (decide (0<l.length))
 obtain ⟨y,hy⟩:=nmq ((if D=true then lastL l else Ver.Z))
 rw [<-hD,<-hy] at hT hX
 simp only [<-hD,<-hy] at CE
 obtain ⟨K,hK⟩:=nmq (mayV y.seq v)
 rw [<-hK] at hT hX
 have CF:=qh (fun W=>show Calls Tryz.prog 104 #[v.v,.int .i64 y.seq] W fun e w'=>e=.returned (.bool K)∧Below W.heap.size W w' by rw [hK]; exact CF.out y.seq W)
 obtain ⟨n,hn⟩:=nmq (l.length)
 obtain ⟨N,hN⟩:=nmq (T.length)
 rw [<-hN]
 simp only [<-hn] at CR CE CC
 rw [<-hn] at hl ⊢
 have HN:=qh hn
 have HL:=qh hN
 have HT:=qh hT
 have HX:=qh hX
 obtain ⟨s,g,u⟩:=v
 obtain ⟨m,t,k⟩:=u
 obtain ⟨B,hB⟩:=nmq (w.heap.size)
 have r0:=RowAt.new w (Ver.cs ⟨s,g,⟨m,t,k⟩⟩) 129
 have b0:Below w.heap.size w (w.alloc (.cells (Ver.cs ⟨s,g,⟨m,t,k⟩⟩).toArray 129)):=(Below.refl _ _).alloc (Nat.le_refl _) _
 have S0:=qh (h.below b0)
 rw [<-hB] at r0
 have R0:=qh r0
 have B0:=qh b0
 have HB:=qh hB
 have CE:Hid (∀ W,SlV W A l->Calls Tryz.prog 103 #[.slice A n c] W fun e w'=>e=.returned (.tuple #[.agg #[.int .i64 y.seq,.bool y.gone,.bool y.val.num,.string y.val.txt,.int .u64 (y.val.bits:Int)],.bool D])∧Below W.heap.size W w'):=CE
 have CF:Hid (∀ W,Calls Tryz.prog 104 #[.agg #[.int .i64 s,.bool g,.bool m,.string t,.int .u64 (k:Int)],.int .i64 y.seq] W fun e w'=>e=.returned (.bool K)∧Below W.heap.size W w'):=CF
 have CG:Hid (∀ W,Calls Tryz.prog 106 #[.agg #[.int .i64 s,.bool g,.bool m,.string t,.int .u64 (k:Int)]] W fun e w'=>e=.returned (.agg #[.int .i64 s,.bool g,.bool m,.string t,.int .u64 (k:Int)])∧Below W.heap.size W w'):=CG
 show Calls Tryz.prog 72 #[.slice A n c,.agg #[.int .i64 s,.bool g,.bool m,.string t,.int .u64 (k:Int)]] w _
 clear h hg gl hv hT hX hR hD hy hK hn hN hB r0 b0
 go_enter Tryz.func72,Tryz.ntmps72
 go_wp2_with fail
 rw [<-HB.out]
 refine (CR.out _ S0.out).mono ?_
 rintro e w1 ⟨rfl,hb1⟩
 have S1:=qh (S0.out.below hb1)
 have R1:=qh (R0.out.below hb1)
 have B1:=qh (B0.out.trans (hb1.mono B0.out.size))
 clear hb1
 cases R with
 | false =>
  go_wp2_with fail
  go_ret2
  have e:T=[]:=HT.out
  exact ⟨none,0,by rw [HL.out,e,HX.out]; rfl,by rw [e]; exact SlV.nil _ _,B1.out,by rw [HL.out,e]; exact Nat.le_refl _,fun hp=>absurd hp (by rw [HL.out,e]; exact Nat.lt_irrefl 0)⟩
 | true =>
  go_wp2_with fail
  refine (CE.out _ S1.out).mono ?_
  rintro e w2 ⟨rfl,hb2⟩
  have q2:Below w2.heap.size w2 (w2.alloc (.cells y.cs.toArray 129)):=(Below.refl _ _).alloc (Nat.le_refl _) _
  have b2:Below w1.heap.size w1 (w2.alloc (.cells y.cs.toArray 129)):=hb2.trans (q2.mono hb2.size)
  have S2:=qh (S1.out.below b2)
  have r2:=R1.out.below b2
  have R2:=qh r2
  have B2:=qh (B1.out.trans (b2.mono B1.out.size))
  obtain ⟨d0,d1,d2,d3,d4⟩:=verF r2
  have W2:w2.alloc (.cells y.cs.toArray 129)=w2.alloc (.cells #[.int .i64 y.seq,.bool y.gone,.bool y.val.num,.string y.val.txt,.int .u64 (y.val.bits:Int)] 129):=rfl
  rw [W2] at d0 d1 d2 d3 d4
  clear hb2 q2 b2 r2 W2
  go_wp2_with fail
  refine (CF.out _).mono ?_
  rintro e w3 ⟨rfl,hb3⟩
  have S3:=qh (S2.out.below hb3)
  have R3:=qh (R2.out.below hb3)
  have B3:=qh (B2.out.trans (hb3.mono B2.out.size))
  clear hb3 d0 d1 d2 d3 d4
  cases K with
  | false =>
   go_wp2_with fail
   go_ret2
   have e:T=[]:=HT.out
   exact ⟨none,0,by rw [HL.out,e,HX.out]; rfl,by rw [e]; exact SlV.nil _ _,B3.out,by rw [HL.out,e]; exact Nat.le_refl _,fun hp=>absurd hp (by rw [HL.out,e]; exact Nat.lt_irrefl 0)⟩
  | true =>
   have et:T=l++[⟨s,g,⟨m,t,k⟩⟩]:=HT.out
   have ex:X=0:=HX.out
   have HT2:=qh et
   have HX2:=qh ex
   have C3:=qh (verF R3.out)
   have CC3:=qh (CC.out w3.drew S3.out)
   obtain ⟨d0,d1,d2,d3,d4⟩:=C3.out
   clear et ex HT HX
   go_wp2_with fail
   refine wp_region_held_drew (S:=(fun w'=>w'.cell? ⟨B,0,none⟩=some (.int .i64 s)∧w'.cell? ⟨B,1,none⟩=some (.bool g)∧w'.cell? ⟨B,2,none⟩=some (.bool m)∧w'.cell? ⟨B,3,none⟩=some (.string t)∧w'.cell? ⟨B,4,none⟩=some (.int .u64 (k:Int)))) (by kernel_rfl) (C3.out) (fun gH=>?_)
   refine rgT 0 (v:=?v1) ?y1 gH ?_
   case y1=>(intro v hSw; go_simp<;>rfl)
   refine rgT 2 (v:=?v2) ?y2 gH ?_
   case y2=>(intro v hSw; go_simp<;>rfl)
   try simp only [putS]
   refine rgO 1 fun K hK=>?_
   go_simp
   refine CC3.out.mono ?_
   rintro r w4 ⟨q,rfl,vr,gq,hb4⟩
   have bb:Below w3.heap.size w3 w4:=⟨hb4.os,hb4.tape,hb4.output,hb4.size,hb4.block⟩
   refine hK.out _ _ ((verF (R3.out.below bb))) (fun gH=>?_)
   clear hK K
   try simp only [putS]
   have V4:=qh vr
   have GQ:=qh gq
   have B4:=qh bb
   clear hb4 bb vr gq
   refine rgO 3 fun K hK=>?_
   go_simp
   refine (CG.out _).mono ?_
   rintro r w5 ⟨rfl,hb5⟩
   refine hK.out _ _ ((verF (R3.out.below (B4.out.trans (hb5.mono B4.out.size))))) (fun gH=>?_)
   clear hK K
   try simp only [putS]
   have R5:=qh (R3.out.below (B4.out.trans (hb5.mono B4.out.size)))
   have V5:=qh (V4.out.below hb5)
   have B5:=qh (B4.out.trans (hb5.mono B4.out.size))
   clear hb5
   refine rgO 4 fun K hK=>?_
   go_simp
   refine hK.out _ _ ((verF (R5.out.alloc _))) (fun gH=>?_)
   clear hK K
   try simp only [putS]
   have V6:=qh ((VRow.own V5.out (B:=w3.heap.size) GQ.out (by rw [<-HN.out]; unfold maxLen; omega)).alloc (.cells (Ver.cs ⟨s,g,⟨m,t,k⟩⟩).toArray 129))
   have S6:=qh (slV_one w5 ⟨s,g,⟨m,t,k⟩⟩)
   have B6:=qh (B5.out.alloc B5.out.size (.cells (Ver.cs ⟨s,g,⟨m,t,k⟩⟩).toArray 129))
   have R6:=qh (R5.out.alloc (.cells (Ver.cs ⟨s,g,⟨m,t,k⟩⟩).toArray 129))
   refine rgO 5 fun K hK=>?_
   refine step_appV rfl (.tmp 22) (.tmp 25) rfl w3.heap.size (.slice (some ⟨q,0,none⟩) n n) l [⟨s,g,⟨m,t,k⟩⟩] rfl (by have:=V6.out; rw [<-HN.out] at this; exact this) _ 1 rfl S6.out (by rw [<-HN.out]; simp; omega) B6.out.size ?_
   intro v7 w7 ho hgr hb7
   have R7:=qh (R3.out.below (B6.out.trans (hb7)))
   have B7:=qh (B6.out.trans hb7)
   obtain ⟨A7,c7,rfl,sl7,hc7,hg7⟩:=ho.sl2
   have S7:=qh sl7
   have C7:=qh hc7
   have G7:=qh hg7
   clear ho hgr hb7 sl7 hc7 hg7
   refine hK.out _ _ (verF R7.out) (fun gH=>?_)
   clear hK K
   refine rgT 6 (v:=?v3) ?y3 gH ?_
   case y3=>(intro v hSw; go_simp<;>rfl)
   refine rgT 7 (v:=?v4) ?y4 gH ?_
   case y4=>(intro v hSw; go_simp<;>rfl)
   try simp only [putS]
   refine rgD ?_
   go_wp2_with fail
   go_ret2
   have eL:(l++[(⟨s,g,⟨m,t,k⟩⟩:Ver)]).length=N:=by rw [HL.out,HT2.out]
   refine ⟨A7,c7,?_,by rw [HT2.out]; exact S7.out,B3.out.trans (B7.out.mono B3.out.size),by rw [<-eL]; exact C7.out,fun hp=>?_⟩
   ·rw [HL.out,HT2.out,HX2.out,List.length_append]; rfl
   ·obtain ⟨g7,e7,l7⟩:=G7.out (by rw [eL]; exact hp)
    exact ⟨g7,e7,Nat.le_trans B3.out.size l7⟩


end Go.Proofs.YtoljhoabbaigdaaGreat
