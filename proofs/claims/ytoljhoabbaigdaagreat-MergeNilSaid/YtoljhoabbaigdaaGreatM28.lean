/- Proved parts: H1d H1e H1f H1g H1h H1i H1j H1k H1l H2m H2a H2r H2b H2c H2s. Conditions: each theorem's own. -/
import Derived.Test.YtoljhoabbaigdaaGreatM27
import Derived.Laws.EntriesVeiled
import Derived.Test.YtoljhoabbaigdaaGreatM9
import Derived.Test.YtoljhoabbaigdaaGreatM24
import Derived.Test.YtoljhoabbaigdaaGreatQ1
import Derived.Test.YtoljhoabbaigdaaGreatQ2
set_option maxRecDepth 100000
set_option maxHeartbeats 8000000
namespace Go.Proofs.YtoljhoabbaigdaaGreat
open Go.RowKit
attribute [local go_sem] Oper.semAt_some

theorem xAsOf (q:Int) (c:Fn) (w:World) :
  Calls Tryz.prog 88 #[.int .i64 q,c.v] w fun e w'=>e=.returned (Fn.v ⟨120,#[],#[.pointer (some ⟨w.heap.size+1,0,none⟩),.pointer (some ⟨w.heap.size,0,none⟩)]⟩) ∧
   ∃ t,w'=(w.alloc (.cells #[.int .i64 q] 3)).alloc (.cells #[c.v] t):=by
 obtain ⟨n,fs,cs⟩:=c
 go_enter Tryz.func88,Tryz.ntmps88
 go_wp2_with fail
 go_ret
 exact ⟨rfl,_,rfl⟩

theorem xFirst (c d:Fn) (w:World) :
  Calls Tryz.prog 85 #[c.v,d.v] w fun e w'=>e=.returned (Fn.v ⟨118,#[],#[.pointer (some ⟨w.heap.size,0,none⟩),.pointer (some ⟨w.heap.size+1,0,none⟩)]⟩) ∧
   w'=(w.alloc (.cells #[c.v] 102)).alloc (.cells #[d.v] 102):=by
 obtain ⟨n,fs,cs⟩:=c
 obtain ⟨n2,fs2,cs2⟩:=d
 go_enter Tryz.func85,Tryz.ntmps85
 go_wp2_with fail
 go_ret
 exact ⟨rfl,rfl⟩

theorem xPast (c d:Fn) (w:World) :
  Calls Tryz.prog 84 #[c.v,d.v] w fun e w'=>e=.returned (Fn.v ⟨117,#[],#[.pointer (some ⟨w.heap.size,0,none⟩),.pointer (some ⟨w.heap.size+1,0,none⟩)]⟩) ∧
   w'=(w.alloc (.cells #[c.v] 102)).alloc (.cells #[d.v] 102):=by
 obtain ⟨n,fs,cs⟩:=c
 obtain ⟨n2,fs2,cs2⟩:=d
 go_enter Tryz.func84,Tryz.ntmps84
 go_wp2_with fail
 go_ret
 exact ⟨rfl,rfl⟩

theorem Finds.mono {P Q:World->Prop} {f:Fn} {g:Fd} (h:Finds P f g) (hq:∀ W,Q W->P W):Finds Q f g:=⟨h.1,fun W k q=>h.2 W k (hq W q)⟩
theorem KeptB.and {P Q:World->Prop} (h:KeptB P) (k:KeptB Q):KeptB (fun W=>P W∧Q W):=fun W W' ⟨p,q⟩ b=>⟨h W W' p b,k W W' q b⟩
theorem KeptB.row (g:Nat) (cs:List Value) (t:TypeId):KeptB (fun W=>RowAt W g cs t):=fun _ _ h b=>h.below b

theorem xOfSet (v:Value) (w:World) :
  Calls Tryz.prog 56 #[v] w fun e w'=>e=.returned (.agg #[Fn.v ⟨86,#[v],#[]⟩,Fn.v ⟨87,#[v],#[]⟩])∧Below w.heap.size w w':=by
 have F1:=qh (show Below w.heap.size w (w.alloc (.cells #[Fn.v ⟨86,#[v],#[]⟩,Fn.v ⟨87,#[v],#[]⟩] 104)) from (Below.refl _ _).alloc (Nat.le_refl _) _)
 have F2:=qh (RowAt.new w [Fn.v ⟨86,#[v],#[]⟩,Fn.v ⟨87,#[v],#[]⟩] 104)
 go_enter Tryz.func56,Tryz.ntmps56
 go_wp2_with fail
 refine bodyPost_ret (results_cell_oneW rfl _ _ _ _ _ _ rfl F2.out Tryz.underlying104 rfl (by kernel_rfl)) rfl ?_
 exact ⟨rfl,F1.out⟩
end Go.Proofs.YtoljhoabbaigdaaGreat

namespace Go.Proofs.YtoljhoabbaigdaaGreat
open Go.RowKit
attribute [local go_sem] Oper.semAt_some

theorem oFirst (c d:Fn) (w:World) :
  Calls Tryz.prog 85 #[.func (.func c.n) c.fs c.cs,.func (.func d.n) d.fs d.cs] w fun e w'=>∃ p,e=.returned (.func (.func 118) #[] #[.pointer (some ⟨p,0,none⟩),.pointer (some ⟨p+1,0,none⟩)]) ∧
   Below w.heap.size w w'∧w.heap.size<=p∧RowAt w' p [c.v] 102∧RowAt w' (p+1) [d.v] 102 :=
 (xFirst c d w).mono fun e w' ⟨h1,h2⟩=>⟨w.heap.size,h1,by rw [h2]; exact ((Below.refl _ _).alloc (Nat.le_refl _) _).alloc (by simp) _,Nat.le_refl _,by rw [h2]; exact (RowAt.new w [c.v] _).alloc _,by
  rw [h2]
  have:=RowAt.new (w.alloc (.cells #[c.v] 102)) [d.v] 102
  rw [World.size_alloc] at this
  exact this⟩
theorem oPast (c d:Fn) (w:World) :
  Calls Tryz.prog 84 #[.func (.func c.n) c.fs c.cs,.func (.func d.n) d.fs d.cs] w fun e w'=>∃ p,e=.returned (.func (.func 117) #[] #[.pointer (some ⟨p,0,none⟩),.pointer (some ⟨p+1,0,none⟩)]) ∧
   Below w.heap.size w w'∧w.heap.size<=p∧RowAt w' p [c.v] 102∧RowAt w' (p+1) [d.v] 102 :=
 (xPast c d w).mono fun e w' ⟨h1,h2⟩=>⟨w.heap.size,h1,by rw [h2]; exact ((Below.refl _ _).alloc (Nat.le_refl _) _).alloc (by simp) _,Nat.le_refl _,by rw [h2]; exact (RowAt.new w [c.v] _).alloc _,by
  rw [h2]
  have:=RowAt.new (w.alloc (.cells #[c.v] 102)) [d.v] 102
  rw [World.size_alloc] at this
  exact this⟩
theorem keyF {w:World} {g:Nat} {t:TypeId} {a b:Value} (h:RowAt w g [a,b] t):w.cell? ⟨g,0,none⟩=some a∧w.cell? ⟨g,1,none⟩=some b∧w.frozen? ⟨g,0,none⟩=false∧w.frozen? ⟨g,1,none⟩=false :=
 ⟨h.cell 0,h.cell 1,h.frozen 0,h.frozen 1⟩

theorem xOver (us ua ls la:Fn) (w:World) :
  Calls Tryz.prog 55 #[.agg #[us.v,ua.v],.agg #[ls.v,la.v]] w fun e w'=>∃ p q,e=.returned (.agg #[.func (.func 118) #[] #[.pointer (some ⟨p,0,none⟩),.pointer (some ⟨p+1,0,none⟩)],.func (.func 118) #[] #[.pointer (some ⟨q,0,none⟩),.pointer (some ⟨q+1,0,none⟩)]]) ∧
   Below w.heap.size w w'∧w.heap.size<=p∧w.heap.size<=q∧RowAt w' p [us.v] 102∧RowAt w' (p+1) [ls.v] 102∧RowAt w' q [ua.v] 102∧RowAt w' (q+1) [la.v] 102:=by
 obtain ⟨B,hB⟩:=nmq (w.heap.size)
 obtain ⟨C,hC⟩:=nmq (B+1)
 obtain ⟨D,hD⟩:=nmq (B+1+1)
 obtain ⟨W1,hW1⟩:=nmq (w.alloc (.cells #[us.v,ua.v] 104))
 obtain ⟨W2,hW2⟩:=nmq (W1.alloc (.cells #[ls.v,la.v] 104))
 obtain ⟨W3,hW3⟩:=nmq (W2.alloc (.cells #[.nilFunc,.nilFunc] 104))
 have s1:W1.heap.size=B+1:=by rw [hW1,hB]; simp
 have s2:W2.heap.size=B+1+1:=by rw [hW2,World.size_alloc,s1]
 have r1:RowAt W3 B [us.v,ua.v] 104:=by rw [hW3,hW2,hW1,hB]; exact ((RowAt.new w _ _).alloc _).alloc _
 have r2:RowAt W3 C [ls.v,la.v] 104:=by rw [hW3,hW2,hC,<-s1]; exact (RowAt.new W1 _ _).alloc _
 have r3:RowAt W3 D [.nilFunc,.nilFunc] 104:=by rw [hW3,hD,<-s2]; exact RowAt.new W2 _ _
 have BX:=qh (show Below w.heap.size w W3 by rw [hW3,hW2,hW1]; exact (((Below.refl _ _).alloc (Nat.le_refl _) _).alloc (by simp) _).alloc (by simp; omega) _)
 have CF:=qh (fun W (hb:Below W3.heap.size W3 W)=>show (W.cell? ⟨B,0,none⟩=some us.v∧W.cell? ⟨B,1,none⟩=some ua.v∧W.cell? ⟨C,0,none⟩=some ls.v∧W.cell? ⟨C,1,none⟩=some la.v) from ⟨(keyF (r1.below hb)).1,(keyF (r1.below hb)).2.1,(keyF (r2.below hb)).1,(keyF (r2.below hb)).2.1⟩)
 have R1:=qh r1
 have R2:=qh r2
 have R3:=qh r3
 have DB:=qh (show D<W3.heap.size from r3.lt)
 have NB:=qh (show D≠B by omega)
 have NC:=qh (show D≠C by omega)
 have HW1:=qh hW1
 have HW2:=qh hW2
 have HW3:=qh hW3
 have S1:=qh s1
 have S2:=qh s2
 have HB:=qh hB
 have HC:=qh hC
 have HD:=qh hD
 have DL:=qh (show w.heap.size<=D by rw [<-hB,hD]; omega)
 clear hB hC hD hW1 hW2 hW3 s1 s2 r1 r2 r3
 obtain ⟨n1,fs1,cs1⟩:=us
 obtain ⟨n2,fs2,cs2⟩:=ua
 obtain ⟨n3,fs3,cs3⟩:=ls
 obtain ⟨n4,fs4,cs4⟩:=la
 go_enter Tryz.func55,Tryz.ntmps55
 go_wp2_with fail
 rw [<-HW1.out,<-HW2.out,<-HW3.out,<-HB.out,<-HC.out]
 rw [show C+1=D from by rw [HC.out,HD.out]]
 have BD:=qh (show Below W3.heap.size W3 W3.drew from (Below.refl _ _).drew)
 refine wp_region_held_drew (S:=(fun w'=>w'.cell? ⟨B,0,none⟩=some (Value.func (.func n1) fs1 cs1)∧w'.cell? ⟨B,1,none⟩=some (Value.func (.func n2) fs2 cs2)∧w'.cell? ⟨C,0,none⟩=some (Value.func (.func n3) fs3 cs3)∧w'.cell? ⟨C,1,none⟩=some (Value.func (.func n4) fs4 cs4))) (by kernel_rfl) (CF.out _ BD.out) (fun gH=>?_)
 refine rgT 0 (v:=?v1) ?y1 gH ?_
 case y1=>(intro v hSw; go_simp<;>rfl)
 refine rgT 1 (v:=?v2) ?y2 gH ?_
 case y2=>(intro v hSw; go_simp<;>rfl)
 refine rgT 2 (v:=?v3) ?y3 gH ?_
 case y3=>(intro v hSw; go_simp<;>rfl)
 try simp only [putS]
 refine rgT 3 (v:=?v4) ?y4 gH ?_
 case y4=>(intro v hSw; go_simp<;>rfl)
 refine rgT 5 (v:=?v5) ?y5 gH ?_
 case y5=>(intro v hSw; go_simp<;>rfl)
 refine rgT 6 (v:=?v6) ?y6 gH ?_
 case y6=>(intro v hSw; go_simp<;>rfl)
 try simp only [putS]
 refine rgT 7 (v:=?v7) ?y7 gH ?_
 case y7=>(intro v hSw; go_simp<;>rfl)
 refine rgT 8 (v:=?v8) ?y8 gH ?_
 case y8=>(intro v hSw; go_simp<;>rfl)
 try simp only [putS]
 refine rgO 4 fun K hK=>?_
 go_simp
 refine (oFirst ⟨n1,fs1,cs1⟩ ⟨n3,fs3,cs3⟩ _).mono ?_
 rintro r W5 ⟨p,rfl,hb5,hp5,x5,y5⟩
 have B5:=qh (below_then BD.out hb5)
 have X5:=qh x5
 have Y5:=qh y5
 have P5:=qh hp5
 clear hb5 x5 y5 hp5
 refine hK.out _ _ (CF.out _ B5.out) (fun gH=>?_)
 clear hK K
 try simp only [putS]
 refine rgO 9 fun K hK=>?_
 go_simp
 refine (oFirst ⟨n2,fs2,cs2⟩ ⟨n4,fs4,cs4⟩ _).mono ?_
 rintro r W7 ⟨q,rfl,hb7,hq7,x7,y7⟩
 have B7:=qh (below_then B5.out hb7)
 have X6:=qh (X5.out.below hb7)
 have Y6:=qh (Y5.out.below hb7)
 have X7:=qh x7
 have Y7:=qh y7
 have Q7:=qh hq7
 clear hb7 x7 y7 hq7
 refine hK.out _ _ (CF.out _ B7.out) (fun gH=>?_)
 clear hK K
 refine rgT 10 (v:=?v9) ?y9 gH ?_
 case y9=>(intro v hSw; go_simp<;>rfl)
 try simp only [putS]
 obtain ⟨k0,k1,k2,k3⟩:=keyF (R3.out.below B7.out)
 obtain ⟨FU,hFU⟩:∃ f:Fn,f=⟨118,#[],#[.pointer (some ⟨p,0,none⟩),.pointer (some ⟨p+1,0,none⟩)]⟩:=⟨_,rfl⟩
 obtain ⟨FA,hFA⟩:∃ f:Fn,f=⟨118,#[],#[.pointer (some ⟨q,0,none⟩),.pointer (some ⟨q+1,0,none⟩)]⟩:=⟨_,rfl⟩
 have HF:=qh (show ∀ g cs,D≠g->RowAt W7 g cs 104->RowAt ((W7.setCell ⟨D,0,none⟩ FU.v).setCell ⟨D,1,none⟩ FA.v) g cs 104 from fun g cs hn h=>(h.other hn _).other hn _)
 have HG:=qh (show ∀ g cs,D≠g->RowAt W7 g cs 102->RowAt ((W7.setCell ⟨D,0,none⟩ FU.v).setCell ⟨D,1,none⟩ FA.v) g cs 102 from fun g cs hn h=>(h.other hn _).other hn _)
 have HR:=qh (show RowAt ((W7.setCell ⟨D,0,none⟩ FU.v).setCell ⟨D,1,none⟩ FA.v) D [FU.v,FA.v] 104 from ((R3.out.below B7.out).set 0 FU.v).set 1 FA.v)
 have HL:=qh (show Below w.heap.size w ((W7.setCell ⟨D,0,none⟩ FU.v).setCell ⟨D,1,none⟩ FA.v) from ((below_then BX.out B7.out).setCell DL.out _).setCell DL.out _)
 subst hFU hFA
 refine rgO 11 fun K hK=>?_
 go_simp
 refine hK.out _ _ (⟨(keyF (HF.out B _ NB.out (R1.out.below B7.out))).1,(keyF (HF.out B _ NB.out (R1.out.below B7.out))).2.1,(keyF (HF.out C _ NC.out (R2.out.below B7.out))).1,(keyF (HF.out C _ NC.out (R2.out.below B7.out))).2.1⟩) (fun gH=>?_)
 clear hK K
 try simp only [putS]
 refine rgD ?_
 clear k0 k1 k2 k3
 go_wp2_with fail
 refine bodyPost_ret (results_cell_oneW rfl _ _ D _ _ _ rfl HR.out Tryz.underlying104 rfl (by kernel_rfl)) rfl ?_
 have b5:=B5.out.size
 have bx:=BX.out.size
 have db:=DB.out
 have p5:=P5.out
 have q7:=Q7.out
 have e3:W3.drew.heap.size=W3.heap.size:=rfl
 exact ⟨p,q,rfl,HL.out,by omega,by omega,HG.out _ _ (by omega) X6.out,HG.out _ _ (by omega) Y6.out,HG.out _ _ (by omega) X7.out,HG.out _ _ (by omega) Y7.out⟩
end Go.Proofs.YtoljhoabbaigdaaGreat

namespace Go.Proofs.YtoljhoabbaigdaaGreat
open Go.RowKit
attribute [local go_sem] Oper.semAt_some

theorem xLiving (us ua:Fn) (w:World) :
  Calls Tryz.prog 54 #[.agg #[us.v,ua.v]] w fun e w'=>∃ p q,e=.returned (.agg #[.func (.func 117) #[] #[.pointer (some ⟨p,0,none⟩),.pointer (some ⟨p+1,0,none⟩)],.func (.func 117) #[] #[.pointer (some ⟨q,0,none⟩),.pointer (some ⟨q+1,0,none⟩)]]) ∧
   Below w.heap.size w w'∧w.heap.size<=p∧w.heap.size<=q∧RowAt w' p [us.v] 102∧RowAt w' (p+1) [ua.v] 102∧RowAt w' q [ua.v] 102∧RowAt w' (q+1) [ua.v] 102:=by
 obtain ⟨B,hB⟩:=nmq (w.heap.size)
 obtain ⟨D,hD⟩:=nmq (B+1)
 obtain ⟨W1,hW1⟩:=nmq (w.alloc (.cells #[us.v,ua.v] 104))
 obtain ⟨W3,hW3⟩:=nmq (W1.alloc (.cells #[.nilFunc,.nilFunc] 104))
 have s1:W1.heap.size=B+1:=by rw [hW1,hB]; simp
 have r1:RowAt W3 B [us.v,ua.v] 104:=by rw [hW3,hW1,hB]; exact (RowAt.new w _ _).alloc _
 have r3:RowAt W3 D [.nilFunc,.nilFunc] 104:=by rw [hW3,hD,<-s1]; exact RowAt.new W1 _ _
 have BX:=qh (show Below w.heap.size w W3 by rw [hW3,hW1]; exact ((Below.refl _ _).alloc (Nat.le_refl _) _).alloc (by simp) _)
 have CF:=qh (fun W (hb:Below W3.heap.size W3 W)=>show (W.cell? ⟨B,0,none⟩=some us.v∧W.cell? ⟨B,1,none⟩=some ua.v) from ⟨(keyF (r1.below hb)).1,(keyF (r1.below hb)).2.1⟩)
 have R1:=qh r1
 have R3:=qh r3
 have DB:=qh (show D<W3.heap.size from r3.lt)
 have NB:=qh (show D≠B by omega)
 have HW1:=qh hW1
 have HW3:=qh hW3
 have HB:=qh hB
 have HD:=qh hD
 have DL:=qh (show w.heap.size<=D by rw [<-hB,hD]; omega)
 clear hB hD hW1 hW3 s1 r1 r3
 obtain ⟨n1,fs1,cs1⟩:=us
 obtain ⟨n2,fs2,cs2⟩:=ua
 go_enter Tryz.func54,Tryz.ntmps54
 go_wp2_with fail
 rw [<-HW1.out,<-HW3.out,<-HB.out,<-HD.out]
 have BD:=qh (show Below W3.heap.size W3 W3.drew from (Below.refl _ _).drew)
 refine wp_region_held_drew (S:=(fun w'=>w'.cell? ⟨B,0,none⟩=some (Value.func (.func n1) fs1 cs1)∧w'.cell? ⟨B,1,none⟩=some (Value.func (.func n2) fs2 cs2))) (by kernel_rfl) (CF.out _ BD.out) (fun gH=>?_)
 refine rgT 0 (v:=?v1) ?y1 gH ?_
 case y1=>(intro v hSw; go_simp<;>rfl)
 refine rgT 1 (v:=?v2) ?y2 gH ?_
 case y2=>(intro v hSw; go_simp<;>rfl)
 refine rgT 2 (v:=?v3) ?y3 gH ?_
 case y3=>(intro v hSw; go_simp<;>rfl)
 try simp only [putS]
 refine rgT 3 (v:=?v4) ?y4 gH ?_
 case y4=>(intro v hSw; go_simp<;>rfl)
 refine rgT 5 (v:=?v5) ?y5 gH ?_
 case y5=>(intro v hSw; go_simp<;>rfl)
 refine rgT 6 (v:=?v6) ?y6 gH ?_
 case y6=>(intro v hSw; go_simp<;>rfl)
 try simp only [putS]
 refine rgT 7 (v:=?v7) ?y7 gH ?_
 case y7=>(intro v hSw; go_simp<;>rfl)
 refine rgT 8 (v:=?v8) ?y8 gH ?_
 case y8=>(intro v hSw; go_simp<;>rfl)
 try simp only [putS]
 refine rgO 4 fun K hK=>?_
 go_simp
 refine (oPast ⟨n1,fs1,cs1⟩ ⟨n2,fs2,cs2⟩ _).mono ?_
 rintro r W5 ⟨p,rfl,hb5,hp5,x5,y5⟩
 have B5:=qh (below_then BD.out hb5)
 have X5:=qh x5
 have Y5:=qh y5
 have P5:=qh hp5
 clear hb5 x5 y5 hp5
 refine hK.out _ _ (CF.out _ B5.out) (fun gH=>?_)
 clear hK K
 try simp only [putS]
 refine rgO 9 fun K hK=>?_
 go_simp
 refine (oPast ⟨n2,fs2,cs2⟩ ⟨n2,fs2,cs2⟩ _).mono ?_
 rintro r W7 ⟨q,rfl,hb7,hq7,x7,y7⟩
 have B7:=qh (below_then B5.out hb7)
 have X6:=qh (X5.out.below hb7)
 have Y6:=qh (Y5.out.below hb7)
 have X7:=qh x7
 have Y7:=qh y7
 have Q7:=qh hq7
 clear hb7 x7 y7 hq7
 refine hK.out _ _ (CF.out _ B7.out) (fun gH=>?_)
 clear hK K
 refine rgT 10 (v:=?v9) ?y9 gH ?_
 case y9=>(intro v hSw; go_simp<;>rfl)
 try simp only [putS]
 obtain ⟨k0,k1,k2,k3⟩:=keyF (R3.out.below B7.out)
 obtain ⟨FU,hFU⟩:∃ f:Fn,f=⟨117,#[],#[.pointer (some ⟨p,0,none⟩),.pointer (some ⟨p+1,0,none⟩)]⟩:=⟨_,rfl⟩
 obtain ⟨FA,hFA⟩:∃ f:Fn,f=⟨117,#[],#[.pointer (some ⟨q,0,none⟩),.pointer (some ⟨q+1,0,none⟩)]⟩:=⟨_,rfl⟩
 have HF:=qh (show ∀ g cs,D≠g->RowAt W7 g cs 104->RowAt ((W7.setCell ⟨D,0,none⟩ FU.v).setCell ⟨D,1,none⟩ FA.v) g cs 104 from fun g cs hn h=>(h.other hn _).other hn _)
 have HG:=qh (show ∀ g cs,D≠g->RowAt W7 g cs 102->RowAt ((W7.setCell ⟨D,0,none⟩ FU.v).setCell ⟨D,1,none⟩ FA.v) g cs 102 from fun g cs hn h=>(h.other hn _).other hn _)
 have HR:=qh (show RowAt ((W7.setCell ⟨D,0,none⟩ FU.v).setCell ⟨D,1,none⟩ FA.v) D [FU.v,FA.v] 104 from ((R3.out.below B7.out).set 0 FU.v).set 1 FA.v)
 have HL:=qh (show Below w.heap.size w ((W7.setCell ⟨D,0,none⟩ FU.v).setCell ⟨D,1,none⟩ FA.v) from ((below_then BX.out B7.out).setCell DL.out _).setCell DL.out _)
 subst hFU hFA
 refine rgO 11 fun K hK=>?_
 go_simp
 refine hK.out _ _ (⟨(keyF (HF.out B _ NB.out (R1.out.below B7.out))).1,(keyF (HF.out B _ NB.out (R1.out.below B7.out))).2.1⟩) (fun gH=>?_)
 clear hK K
 try simp only [putS]
 refine rgD ?_
 clear k0 k1 k2 k3
 go_wp2_with fail
 refine bodyPost_ret (results_cell_oneW rfl _ _ D _ _ _ rfl HR.out Tryz.underlying104 rfl (by kernel_rfl)) rfl ?_
 have b5:=B5.out.size
 have bx:=BX.out.size
 have db:=DB.out
 have p5:=P5.out
 have q7:=Q7.out
 have e3:W3.drew.heap.size=W3.heap.size:=rfl
 exact ⟨p,q,rfl,HL.out,by omega,by omega,HG.out _ _ (by omega) X6.out,HG.out _ _ (by omega) Y6.out,HG.out _ _ (by omega) X7.out,HG.out _ _ (by omega) Y7.out⟩
end Go.Proofs.YtoljhoabbaigdaaGreat

namespace Go.Proofs.YtoljhoabbaigdaaGreat
open Go.RowKit
attribute [local go_sem] Oper.semAt_some

theorem oAsOfM (q:Int) (n:FuncId) (fs cs:Array Value) (w:World) :
  Calls Tryz.prog 88 #[.int .i64 q,.func (.func n) fs cs] w fun e w'=>∃ p t,e=.returned (.func (.func 120) #[] #[.pointer (some ⟨p+1,0,none⟩),.pointer (some ⟨p,0,none⟩)]) ∧
   Below w.heap.size w w'∧w.heap.size<=p∧RowAt w' p [.int .i64 q] 3∧RowAt w' (p+1) [.func (.func n) fs cs] t :=
 (xAsOf q ⟨n,fs,cs⟩ w).mono fun e w' ⟨h1,t,h2⟩=>⟨w.heap.size,t,h1,by rw [h2]; exact ((Below.refl _ _).alloc (Nat.le_refl _) _).alloc (by simp) _,Nat.le_refl _,by rw [h2]; exact (RowAt.new w [.int .i64 q] _).alloc _,by
  rw [h2]
  have:=RowAt.new (w.alloc (.cells #[.int .i64 q] 3)) [.func (.func n) fs cs] t
  rw [World.size_alloc] at this
  exact this⟩
theorem srcF {w:World} {g:Nat} {t:TypeId} {a b c:Value} (h:RowAt w g [a,b,c] t):w.cell? ⟨g,0,none⟩=some a∧w.cell? ⟨g,1,none⟩=some b:=⟨h.cell 0,h.cell 1⟩

theorem xOfRoom (rv:Value) (sq pl:Int) (w:World) :
  Calls Tryz.prog 57 #[.agg #[rv,.int .i64 sq,.int .i64 pl]] w fun e w'=>∃ p q t u,e=.returned (.agg #[.func (.func 120) #[] #[.pointer (some ⟨p+1,0,none⟩),.pointer (some ⟨p,0,none⟩)],.func (.func 120) #[] #[.pointer (some ⟨q+1,0,none⟩),.pointer (some ⟨q,0,none⟩)]]) ∧
   Below w.heap.size w w'∧w.heap.size<=p∧w.heap.size<=q∧RowAt w' p [.int .i64 sq] 3∧RowAt w' (p+1) [.func (.func 89) #[rv] #[]] t∧RowAt w' q [.int .i64 sq] 3∧RowAt w' (q+1) [.func (.func 90) #[rv] #[]] u:=by
 obtain ⟨B,hB⟩:=nmq (w.heap.size)
 obtain ⟨D,hD⟩:=nmq (B+1)
 obtain ⟨W1,hW1⟩:=nmq (w.alloc (.cells #[rv,.int .i64 sq,.int .i64 pl] 71))
 obtain ⟨W3,hW3⟩:=nmq (W1.alloc (.cells #[.nilFunc,.nilFunc] 104))
 have s1:W1.heap.size=B+1:=by rw [hW1,hB]; simp
 have r1:RowAt W3 B [rv,.int .i64 sq,.int .i64 pl] 71:=by rw [hW3,hW1,hB]; exact (RowAt.new w _ _).alloc _
 have r3:RowAt W3 D [.nilFunc,.nilFunc] 104:=by rw [hW3,hD,<-s1]; exact RowAt.new W1 _ _
 have BX:=qh (show Below w.heap.size w W3 by rw [hW3,hW1]; exact ((Below.refl _ _).alloc (Nat.le_refl _) _).alloc (by simp) _)
 have CF:=qh (fun W (hb:Below W3.heap.size W3 W)=>srcF (r1.below hb))
 have R1:=qh r1
 have R3:=qh r3
 have DB:=qh (show D<W3.heap.size from r3.lt)
 have NB:=qh (show D≠B by omega)
 have HW1:=qh hW1
 have HW3:=qh hW3
 have HB:=qh hB
 have HD:=qh hD
 have DL:=qh (show w.heap.size<=D by rw [<-hB,hD]; omega)
 clear hB hD hW1 hW3 s1 r1 r3
 go_enter Tryz.func57,Tryz.ntmps57
 go_wp2_with fail
 rw [<-HW1.out,<-HW3.out,<-HB.out,<-HD.out]
 have BD:=qh (show Below W3.heap.size W3 W3.drew from (Below.refl _ _).drew)
 refine wp_region_held_drew (S:=(fun w'=>w'.cell? ⟨B,0,none⟩=some rv∧w'.cell? ⟨B,1,none⟩=some (.int .i64 sq))) (by kernel_rfl) (CF.out _ BD.out) (fun gH=>?_)
 refine rgT 0 (v:=?v1) ?y1 gH ?_
 case y1=>(intro v hSw; go_simp<;>rfl)
 refine rgT 1 (v:=?v2) ?y2 gH ?_
 case y2=>(intro v hSw; go_simp<;>rfl)
 refine rgT 2 (v:=?v3) ?y3 gH ?_
 case y3=>(intro v hSw; go_simp<;>rfl)
 try simp only [putS]
 refine rgT 3 (v:=?v4) ?y4 gH ?_
 case y4=>(intro v hSw; go_simp<;>rfl)
 refine rgT 4 (v:=?v5) ?y5 gH ?_
 case y5=>(intro v hSw; go_simp<;>rfl)
 refine rgT 6 (v:=?v6) ?y6 gH ?_
 case y6=>(intro v hSw; go_simp<;>rfl)
 try simp only [putS]
 refine rgT 7 (v:=?v7) ?y7 gH ?_
 case y7=>(intro v hSw; go_simp<;>rfl)
 refine rgT 8 (v:=?v8) ?y8 gH ?_
 case y8=>(intro v hSw; go_simp<;>rfl)
 refine rgT 9 (v:=?v9) ?y9 gH ?_
 case y9=>(intro v hSw; go_simp<;>rfl)
 try simp only [putS]
 refine rgT 10 (v:=?v10) ?y10 gH ?_
 case y10=>(intro v hSw; go_simp<;>rfl)
 try simp only [putS]
 refine rgO 5 fun K hK=>?_
 go_simp
 refine (oAsOfM sq _ _ _ _).mono ?_
 rintro r W5 ⟨p,tt,rfl,hb5,hp5,x5,y5⟩
 have B5:=qh (below_then BD.out hb5)
 have X5:=qh x5
 have Y5:=qh y5
 have P5:=qh hp5
 clear hb5 x5 y5 hp5
 refine hK.out _ _ (CF.out _ B5.out) (fun gH=>?_)
 clear hK K
 try simp only [putS]
 refine rgO 11 fun K hK=>?_
 go_simp
 refine (oAsOfM sq _ _ _ _).mono ?_
 rintro r W7 ⟨q,tu,rfl,hb7,hq7,x7,y7⟩
 have B7:=qh (below_then B5.out hb7)
 have X6:=qh (X5.out.below hb7)
 have Y6:=qh (Y5.out.below hb7)
 have X7:=qh x7
 have Y7:=qh y7
 have Q7:=qh hq7
 clear hb7 x7 y7 hq7
 refine hK.out _ _ (CF.out _ B7.out) (fun gH=>?_)
 clear hK K
 refine rgT 12 (v:=?v11) ?y11 gH ?_
 case y11=>(intro v hSw; go_simp<;>rfl)
 try simp only [putS]
 obtain ⟨k0,k1,k2,k3⟩:=keyF (R3.out.below B7.out)
 obtain ⟨FU,hFU⟩:∃ f:Fn,f=⟨120,#[],#[.pointer (some ⟨p+1,0,none⟩),.pointer (some ⟨p,0,none⟩)]⟩:=⟨_,rfl⟩
 obtain ⟨FA,hFA⟩:∃ f:Fn,f=⟨120,#[],#[.pointer (some ⟨q+1,0,none⟩),.pointer (some ⟨q,0,none⟩)]⟩:=⟨_,rfl⟩
 have HG:=qh (show ∀ (g:Nat) (cs:List Value) (t:TypeId),D≠g->RowAt W7 g cs t->RowAt ((W7.setCell ⟨D,0,none⟩ FU.v).setCell ⟨D,1,none⟩ FA.v) g cs t from fun g cs t hn h=>(h.other hn _).other hn _)
 have HR:=qh (show RowAt ((W7.setCell ⟨D,0,none⟩ FU.v).setCell ⟨D,1,none⟩ FA.v) D [FU.v,FA.v] 104 from ((R3.out.below B7.out).set 0 FU.v).set 1 FA.v)
 have HL:=qh (show Below w.heap.size w ((W7.setCell ⟨D,0,none⟩ FU.v).setCell ⟨D,1,none⟩ FA.v) from ((below_then BX.out B7.out).setCell DL.out _).setCell DL.out _)
 subst hFU hFA
 refine rgO 13 fun K hK=>?_
 go_simp
 refine hK.out _ _ (srcF (HG.out B _ _ NB.out (R1.out.below B7.out))) (fun gH=>?_)
 clear hK K
 try simp only [putS]
 refine rgD ?_
 clear k0 k1 k2 k3
 go_wp2_with fail
 refine bodyPost_ret (results_cell_oneW rfl _ _ D _ _ _ rfl HR.out Tryz.underlying104 rfl (by kernel_rfl)) rfl ?_
 have b5:=B5.out.size
 have bx:=BX.out.size
 have db:=DB.out
 have p5:=P5.out
 have q7:=Q7.out
 have e3:W3.drew.heap.size=W3.heap.size:=rfl
 exact ⟨p,q,tt,tu,rfl,HL.out,by omega,by omega,HG.out _ _ _ (by omega) X6.out,HG.out _ _ _ (by omega) Y6.out,HG.out _ _ _ (by omega) X7.out,HG.out _ _ _ (by omega) Y7.out⟩
end Go.Proofs.YtoljhoabbaigdaaGreat

namespace Go.Proofs.YtoljhoabbaigdaaGreat
open Go.RowKit

abbrev Bxs:=List (Nat × List Value × TypeId)
def AllAt (bx:Bxs) (W:World):Prop:=∀ r,r ∈ bx->RowAt W r.1 r.2.1 r.2.2
theorem AllAt.nil (W:World):AllAt [] W:=fun r h=>by cases h
theorem AllAt.app {a b:Bxs} {W:World}:AllAt (a++b) W↔AllAt a W∧AllAt b W :=
 ⟨fun h=>⟨fun r hr=>h r (List.mem_append_left _ hr),fun r hr=>h r (List.mem_append_right _ hr)⟩,fun ⟨h1,h2⟩ r hr=>(List.mem_append.1 hr).elim (h1 r) (h2 r)⟩
theorem AllAt.cons {g:Nat} {cs:List Value} {t:TypeId} {b:Bxs} {W:World}:AllAt ((g,cs,t) :: b) W↔RowAt W g cs t∧AllAt b W :=
 ⟨fun h=>⟨h _ (List.mem_cons_self ..),fun r hr=>h r (List.mem_cons_of_mem _ hr)⟩,fun ⟨h1,h2⟩ r hr=>(List.mem_cons.1 hr).elim (fun e=>by rw [e]; exact h1) (h2 r)⟩
theorem AllAt.below {bx:Bxs} {W W':World} (h:AllAt bx W) (b:Below W.heap.size W W'):AllAt bx W':=fun r hr=>(h r hr).below b
theorem AllAt.kept (bx:Bxs):KeptB (AllAt bx):=fun _ _ h b=>h.below b
structure KeysAt (R:World->Prop) (O:Wl) (bx:Bxs) (f h:Fn):Prop where
 rise:O.Rise
 seek:Finds (fun W=>R W∧AllAt bx W) f (fnd O false)
 after:Finds (fun W=>R W∧AllAt bx W) h (fnd O true)
theorem KeysAt.more {R:World->Prop} {O:Wl} {bx by':Bxs} {f h:Fn} (k:KeysAt R O bx f h) (hs:∀ W,AllAt by' W->AllAt bx W):KeysAt R O by' f h :=
 ⟨k.rise,k.seek.mono fun W ⟨r,a⟩=>⟨r,hs W a⟩,k.after.mono fun W ⟨r,a⟩=>⟨r,hs W a⟩⟩
theorem Finds.to {P:World->Prop} {f:Fn} {g g':Fd} (h:Finds P f g) (e:g=g'):Finds P f g':=e ▸ h
theorem KeysAt.room {R:World->Prop} (hR:KeptB R) {L:Ch} {sq:Int} (hl:(roomO L sq).Rise) {cs ca:Fn} {p q:Nat} {t u t' u':TypeId}
  (h1:Finds2 R cs sq fun k=>aftV L k false sq) (h2:Finds2 R ca sq fun k=>aftV L k true sq) :
  KeysAt R (roomO L sq) [(p,[.int .i64 sq],t'),(p+1,[cs.v],t),(q,[.int .i64 sq],u'),(q+1,[ca.v],u)] ⟨120,#[],#[.pointer (some ⟨p+1,0,none⟩),.pointer (some ⟨p,0,none⟩)]⟩ ⟨120,#[],#[.pointer (some ⟨q+1,0,none⟩),.pointer (some ⟨q,0,none⟩)]⟩ where
 rise:=hl
 seek:=((xAsOf1 cs sq _ (p+1) p t t' h1 hR).mono fun _ ⟨r,a⟩=>⟨r,(AllAt.cons.1 (AllAt.cons.1 a).2).1,(AllAt.cons.1 a).1⟩).to (funext fun k=>by
  rw [fnd_find hl]; exact room_find L k false sq)
 after:=((xAsOf1 ca sq _ (q+1) q u u' h2 hR).mono fun _ ⟨r,a⟩=>⟨r,(AllAt.cons.1 (AllAt.cons.1 (AllAt.cons.1 (AllAt.cons.1 a).2).2).2).1,(AllAt.cons.1 (AllAt.cons.1 (AllAt.cons.1 a).2).2).1⟩).to (funext fun k=>by
  rw [fnd_find hl]; exact room_find L k true sq)
theorem KeysAt.over {R:World->Prop} (hR:KeptB R) {U L:Wl} {bu bl:Bxs} {us ua ls la:Fn} {p q:Nat} {t1 t2 t3 t4:TypeId} (k1:KeysAt R U bu us ua) (k2:KeysAt R L bl ls la) :
  KeysAt R (mrg U L) ([(p,[us.v],t1),(p+1,[ls.v],t2),(q,[ua.v],t3),(q+1,[la.v],t4)]++(bu++bl)) ⟨118,#[],#[.pointer (some ⟨p,0,none⟩),.pointer (some ⟨p+1,0,none⟩)]⟩ ⟨118,#[],#[.pointer (some ⟨q,0,none⟩),.pointer (some ⟨q+1,0,none⟩)]⟩ where
 rise:=mrg_rise U L k1.rise k2.rise
 seek:=((xFirst1 us ls _ _ p (p+1) t1 t2 (k1.more (by':=bu++bl) fun _ a=>(AllAt.app.1 a).1).seek (k2.more (by':=bu++bl) fun _ a=>(AllAt.app.1 a).2).seek (hR.and (AllAt.kept _))).mono fun _ ⟨r,a⟩ =>
  ⟨⟨r,(AllAt.app.1 a).2⟩,(AllAt.cons.1 (AllAt.app.1 a).1).1,(AllAt.cons.1 (AllAt.cons.1 (AllAt.app.1 a).1).2).1⟩).to (first_fnd k1.rise k2.rise false)
 after:=((xFirst1 ua la _ _ q (q+1) t3 t4 (k1.more (by':=bu++bl) fun _ a=>(AllAt.app.1 a).1).after (k2.more (by':=bu++bl) fun _ a=>(AllAt.app.1 a).2).after (hR.and (AllAt.kept _))).mono fun _ ⟨r,a⟩ =>
  ⟨⟨r,(AllAt.app.1 a).2⟩,(AllAt.cons.1 (AllAt.cons.1 (AllAt.cons.1 (AllAt.app.1 a).1).2).2).1,(AllAt.cons.1 (AllAt.cons.1 (AllAt.cons.1 (AllAt.cons.1 (AllAt.app.1 a).1).2).2).2).1⟩).to (first_fnd k1.rise k2.rise true)
theorem KeysAt.living {R:World->Prop} (hR:KeptB R) {O:Wl} {bo:Bxs} {us ua:Fn} {p q:Nat} {t1 t2 t3 t4:TypeId} (k1:KeysAt R O bo us ua) :
  KeysAt R (liv O) ([(p,[us.v],t1),(p+1,[ua.v],t2),(q,[ua.v],t3),(q+1,[ua.v],t4)]++bo) ⟨117,#[],#[.pointer (some ⟨p,0,none⟩),.pointer (some ⟨p+1,0,none⟩)]⟩ ⟨117,#[],#[.pointer (some ⟨q,0,none⟩),.pointer (some ⟨q+1,0,none⟩)]⟩ where
 rise:=liv_rise k1.rise
 seek:=(xPast1 us ua O false p (p+1) t1 t2 k1.seek k1.after (hR.and (AllAt.kept _)) k1.rise).mono fun _ ⟨r,a⟩ =>
  ⟨⟨r,(AllAt.app.1 a).2⟩,(AllAt.cons.1 (AllAt.app.1 a).1).1,(AllAt.cons.1 (AllAt.cons.1 (AllAt.app.1 a).1).2).1⟩
 after:=(xPast1 ua ua O true q (q+1) t3 t4 k1.after k1.after (hR.and (AllAt.kept _)) k1.rise).mono fun _ ⟨r,a⟩ =>
  ⟨⟨r,(AllAt.app.1 a).2⟩,(AllAt.cons.1 (AllAt.cons.1 (AllAt.cons.1 (AllAt.app.1 a).1).2).2).1,(AllAt.cons.1 (AllAt.cons.1 (AllAt.cons.1 (AllAt.cons.1 (AllAt.app.1 a).1).2).2).2).1⟩
end Go.Proofs.YtoljhoabbaigdaaGreat

namespace Go.Proofs.YtoljhoabbaigdaaGreat
open Go.RowKit
attribute [local go_sem] Oper.semAt_some

theorem KeysAt.set {R:World->Prop} {O:Wl} (h:O.Rise) {f g:Fn} (h1:Finds R f (fnd O false)) (h2:Finds R g (fnd O true)):KeysAt R O [] f g :=
 ⟨h,h1.mono fun _ a=>a.1,h2.mono fun _ a=>a.1⟩
def Made (R:World->Prop) (O:Wl) (B:Nat) (W:World) (v:Value):Prop :=
 ∃ (bx:Bxs) (f h:Fn),v=.agg #[f.v,h.v]∧KeysAt R O bx f h∧AllAt bx W∧∀ r,r ∈ bx->B<=r.1
theorem oOfRoom {R:World->Prop} (hR:KeptB R) {L:Ch} {rv:Value} {sq pl:Int} (hl:(roomO L sq).Rise) (w:World)
  (h1:Finds2 R ⟨89,#[rv],#[]⟩ sq fun k=>aftV L k false sq) (h2:Finds2 R ⟨90,#[rv],#[]⟩ sq fun k=>aftV L k true sq) :
  Calls Tryz.prog 57 #[.agg #[rv,.int .i64 sq,.int .i64 pl]] w fun e w'=>∃ v,e=.returned v∧Below w.heap.size w w'∧Made R (roomO L sq) w.heap.size w' v :=
 (xOfRoom rv sq pl w).mono fun e w' ⟨p,q,t,u,he,hb,hp,hq,r1,r2,r3,r4⟩=>⟨_,he,hb,_,_,_,rfl,KeysAt.room (t':=3) (u':=3) (t:=t) (u:=u) hR hl h1 h2,
  AllAt.cons.2 ⟨r1,AllAt.cons.2 ⟨r2,AllAt.cons.2 ⟨r3,AllAt.cons.2 ⟨r4,AllAt.nil _⟩⟩⟩⟩,fun r hr=>by
   simp only [List.mem_cons,List.not_mem_nil,or_false] at hr
   rcases hr with rfl | rfl | rfl | rfl
   ·exact hp
   ·show w.heap.size<=p+1; omega
   ·exact hq
   ·show w.heap.size<=q+1; omega⟩
theorem oOver {R:World->Prop} (hR:KeptB R) {U L:Wl} {bu bl:Bxs} {us ua ls la:Fn} {B:Nat} (w:World) (k1:KeysAt R U bu us ua) (k2:KeysAt R L bl ls la) (a1:AllAt bu w) (a2:AllAt bl w) (hB:B<=w.heap.size) (g1:∀ r,r ∈ bu->B<=r.1) (g2:∀ r,r ∈ bl->B<=r.1) :
  Calls Tryz.prog 55 #[.agg #[us.v,ua.v],.agg #[ls.v,la.v]] w fun e w'=>∃ v,e=.returned v∧Below w.heap.size w w'∧Made R (mrg U L) B w' v :=
 (xOver us ua ls la w).mono fun e w' ⟨p,q,he,hb,hp,hq,r1,r2,r3,r4⟩=>⟨_,he,hb,_,_,_,rfl,KeysAt.over (t1:=102) (t2:=102) (t3:=102) (t4:=102) hR k1 k2,
  AllAt.app.2 ⟨AllAt.cons.2 ⟨r1,AllAt.cons.2 ⟨r2,AllAt.cons.2 ⟨r3,AllAt.cons.2 ⟨r4,AllAt.nil _⟩⟩⟩⟩,AllAt.app.2 ⟨a1.below hb,a2.below hb⟩⟩,fun r hr=>by
   rcases List.mem_append.1 hr with hr | hr
   ·simp only [List.mem_cons,List.not_mem_nil,or_false] at hr
    rcases hr with rfl | rfl | rfl | rfl
    ·show B<=p; omega
    ·show B<=p+1; omega
    ·show B<=q; omega
    ·show B<=q+1; omega
   ·exact (List.mem_append.1 hr).elim (g1 r) (g2 r)⟩
theorem oLiving {R:World->Prop} (hR:KeptB R) {O:Wl} {bo:Bxs} {us ua:Fn} {B:Nat} (w:World) (k1:KeysAt R O bo us ua) (a1:AllAt bo w) (hB:B<=w.heap.size) (g1:∀ r,r ∈ bo->B<=r.1) :
  Calls Tryz.prog 54 #[.agg #[us.v,ua.v]] w fun e w'=>∃ v,e=.returned v∧Below w.heap.size w w'∧Made R (liv O) B w' v :=
 (xLiving us ua w).mono fun e w' ⟨p,q,he,hb,hp,hq,r1,r2,r3,r4⟩=>⟨_,he,hb,_,_,_,rfl,KeysAt.living (t1:=102) (t2:=102) (t3:=102) (t4:=102) hR k1,
  AllAt.app.2 ⟨AllAt.cons.2 ⟨r1,AllAt.cons.2 ⟨r2,AllAt.cons.2 ⟨r3,AllAt.cons.2 ⟨r4,AllAt.nil _⟩⟩⟩⟩,a1.below hb⟩,fun r hr=>by
   rcases List.mem_append.1 hr with hr | hr
   ·simp only [List.mem_cons,List.not_mem_nil,or_false] at hr
    rcases hr with rfl | rfl | rfl | rfl
    ·show B<=p; omega
    ·show B<=p+1; omega
    ·show B<=q; omega
    ·show B<=q+1; omega
   ·exact g1 r hr⟩
theorem xKeysOfNo {R:World->Prop} (hR:KeptB R) {L:Ch} {rv sv:Value} {sq pl place:Int} (hl:(roomO L sq).Rise) (w:World) (hp:pl≠place)
  (h1:Finds2 R ⟨89,#[rv],#[]⟩ sq fun k=>aftV L k false sq) (h2:Finds2 R ⟨90,#[rv],#[]⟩ sq fun k=>aftV L k true sq) :
  Calls Tryz.prog 35 #[.agg #[rv,.int .i64 sq,.int .i64 pl],sv,.int .i64 place] w fun e w'=>∃ v,e=.returned v∧Below w.heap.size w w'∧Made R (roomO L sq) w.heap.size w' v:=by
 have OR:=qh (fun w=>oOfRoom hR hl (pl:=pl) w h1 h2)
 obtain ⟨B,hB⟩:=nmq (w.heap.size)
 obtain ⟨D,hD⟩:=nmq (B+1)
 obtain ⟨W1,hW1⟩:=nmq (w.alloc (.cells #[rv,.int .i64 sq,.int .i64 pl] 71))
 obtain ⟨W3,hW3⟩:=nmq (W1.alloc (.cells #[.nilFunc,.nilFunc] 104))
 have s1:W1.heap.size=B+1:=by rw [hW1,hB]; simp
 have r1:RowAt W3 B [rv,.int .i64 sq,.int .i64 pl] 71:=by rw [hW3,hW1,hB]; exact (RowAt.new w _ _).alloc _
 have r3:RowAt W3 D [.nilFunc,.nilFunc] 104:=by rw [hW3,hD,<-s1]; exact RowAt.new W1 _ _
 have BX:=qh (show Below w.heap.size w W3 by rw [hW3,hW1]; exact ((Below.refl _ _).alloc (Nat.le_refl _) _).alloc (by simp) _)
 have c0:=r1.cell 0
 have c1:=r1.cell 1
 have c2:=r1.cell 2
 simp only [geS] at c0 c1 c2
 have R3:=qh r3
 have DB:=qh (show D<W3.heap.size from r3.lt)
 have DL:=qh (show w.heap.size<=D by rw [<-hB,hD]; omega)
 have HB:=qh hB
 have HD:=qh hD
 have dp:(pl == place)=false:=by simpa using hp
 subst hW3 hW1
 clear hB hD s1 r1 r3 h1 h2 hl hR
 go_enter Tryz.func35,Tryz.ntmps35
 go_wp2_with fail
 rw [<-HB.out,<-HD.out]
 refine (OR.out _).mono ?_
 rintro e w5 ⟨_,rfl,hb5,bx,f,h,rfl,hk,ha,hg⟩
 obtain ⟨k0,k1,k2,k3⟩:=keyF (R3.out.below hb5)
 have HR:=qh (show RowAt ((w5.setCell ⟨D,0,none⟩ f.v).setCell ⟨D,1,none⟩ h.v) D [f.v,h.v] 104 from ((R3.out.below hb5).set 0 f.v).set 1 h.v)
 have HL:=qh (show Below w.heap.size w ((w5.setCell ⟨D,0,none⟩ f.v).setCell ⟨D,1,none⟩ h.v) from ((below_then BX.out hb5).setCell DL.out _).setCell DL.out _)
 have HM:=qh (show Made R (roomO L sq) w.heap.size ((w5.setCell ⟨D,0,none⟩ f.v).setCell ⟨D,1,none⟩ h.v) (.agg #[f.v,h.v]) from
  ⟨bx,f,h,rfl,hk,fun r hr=>by
   have hn:D≠r.1:=by have:=hg r hr; have:=DB.out; omega
   exact ((ha r hr).other hn _).other hn _,fun r hr=>by have:=hg r hr; have:=BX.out.size; omega⟩)
 clear hk ha hg hb5 c0 c1 c2 OR BX R3 DB DL
 obtain ⟨n,fs,cs⟩:=f
 obtain ⟨n2,fs2,cs2⟩:=h
 go_wp2_with fail
 refine bodyPost_ret (results_cell_oneW rfl _ _ D _ _ _ rfl HR.out Tryz.underlying104 rfl (by kernel_rfl)) rfl ?_
 exact ⟨_,rfl,HL.out,HM.out⟩
end Go.Proofs.YtoljhoabbaigdaaGreat

namespace Go.Proofs.YtoljhoabbaigdaaGreat
open Go.RowKit
attribute [local go_sem] Oper.semAt_some

theorem srcF3 {w:World} {g:Nat} {t:TypeId} {a b c:Value} (h:RowAt w g [a,b,c] t):w.cell? ⟨g,0,none⟩=some a∧w.cell? ⟨g,1,none⟩=some b∧w.cell? ⟨g,2,none⟩=some c:=⟨h.cell 0,h.cell 1,h.cell 2⟩

theorem xKeysOfYes {R:World->Prop} (hR:KeptB R) {S:Wl} {L:Ch} {rv sv:Value} {sq pl:Int} (hl:(roomO L sq).Rise) (w:World)
  (h1:Finds2 R ⟨89,#[rv],#[]⟩ sq fun k=>aftV L k false sq) (h2:Finds2 R ⟨90,#[rv],#[]⟩ sq fun k=>aftV L k true sq)
  (h3:KeysAt R S [] ⟨86,#[sv],#[]⟩ ⟨87,#[sv],#[]⟩) :
  Calls Tryz.prog 35 #[.agg #[rv,.int .i64 sq,.int .i64 pl],sv,.int .i64 pl] w fun e w'=>∃ v,e=.returned v∧Below w.heap.size w w'∧Made R (liv (mrg S (roomO L sq))) w.heap.size w' v:=by
 have OR:=qh (fun w=>oOfRoom hR hl (pl:=pl) w h1 h2)
 have H3:=qh h3
 have HKB:=qh hR
 obtain ⟨B,hB⟩:=nmq (w.heap.size)
 obtain ⟨D,hD⟩:=nmq (B+1)
 obtain ⟨W1,hW1⟩:=nmq (w.alloc (.cells #[rv,.int .i64 sq,.int .i64 pl] 71))
 obtain ⟨W3,hW3⟩:=nmq (W1.alloc (.cells #[.nilFunc,.nilFunc] 104))
 have s1:W1.heap.size=B+1:=by rw [hW1,hB]; simp
 have r1:RowAt W3 B [rv,.int .i64 sq,.int .i64 pl] 71:=by rw [hW3,hW1,hB]; exact (RowAt.new w _ _).alloc _
 have r3:RowAt W3 D [.nilFunc,.nilFunc] 104:=by rw [hW3,hD,<-s1]; exact RowAt.new W1 _ _
 have BX:=qh (show Below w.heap.size w W3 by rw [hW3,hW1]; exact ((Below.refl _ _).alloc (Nat.le_refl _) _).alloc (by simp) _)
 have CF:=qh (fun W (hb:Below W3.heap.size W3 W)=>srcF3 (r1.below hb))
 have C3:=r1.cell 2
 simp only [geS] at C3
 have R1:=qh r1
 have R3:=qh r3
 have DB:=qh (show D<W3.heap.size from r3.lt)
 have NB:=qh (show D≠B by omega)
 have DL:=qh (show w.heap.size<=D by rw [<-hB,hD]; omega)
 have HB:=qh hB
 have HD:=qh hD
 have HW1:=qh hW1
 have HW3:=qh hW3
 rw [hW3,hW1,hB] at C3
 clear hB hD hW1 hW3 s1 r1 r3 h1 h2 hl hR h3
 go_enter Tryz.func35,Tryz.ntmps35
 go_wp2_with fail
 rw [<-HW1.out,<-HW3.out,<-HB.out,<-HD.out]
 have BD:=qh (show Below W3.heap.size W3 W3.drew from (Below.refl _ _).drew)
 clear C3
 refine wp_region_held_drew (S:=(fun w'=>w'.cell? ⟨B,0,none⟩=some rv∧w'.cell? ⟨B,1,none⟩=some (.int .i64 sq)∧w'.cell? ⟨B,2,none⟩=some (.int .i64 pl))) (by kernel_rfl) (CF.out _ BD.out) (fun gH=>?_)
 refine rgT 0 (v:=?v1) ?y1 gH ?_
 case y1=>(intro v hSw; go_simp<;>rfl)
 refine rgT 2 (v:=?v2) ?y2 gH ?_
 case y2=>(intro v hSw; go_simp<;>rfl)
 try simp only [putS]
 refine rgO 1 fun K hK=>?_
 go_simp
 refine (xOfSet sv _).mono ?_
 rintro r W5 ⟨rfl,hb5⟩
 have B5:=qh (below_then BD.out hb5)
 clear hb5
 refine hK.out _ _ (CF.out _ B5.out) (fun gH=>?_)
 clear hK K
 try simp only [putS]
 refine rgO 3 fun K hK=>?_
 go_simp
 refine (OR.out _).mono ?_
 rintro r W6 ⟨_,rfl,hb6,bx,f,h,rfl,hk,ha,hg⟩
 have B6:=qh (below_then B5.out hb6)
 have K6:=qh hk
 have A6:=qh ha
 have G6:=qh (show ∀ r,r ∈ bx->W3.heap.size<=r.1 from fun r hr=>Nat.le_trans B5.out.size (hg r hr))
 clear hb6 hk ha hg
 refine hK.out _ _ (CF.out _ B6.out) (fun gH=>?_)
 clear hK K
 try simp only [putS]
 refine rgO 4 fun K hK=>?_
 go_simp
 refine (oOver (B:=W3.heap.size) HKB.out _ H3.out K6.out (AllAt.nil _) A6.out B6.out.size (fun r hr=>by cases hr) G6.out).mono ?_
 rintro r W7 ⟨_,rfl,hb7,bx7,f7,h7,rfl,hk,ha,hg⟩
 have B7:=qh (below_then B6.out hb7)
 have K7:=qh hk
 have A7:=qh ha
 have G7:=qh hg
 clear hb7 hk ha hg
 refine hK.out _ _ (CF.out _ B7.out) (fun gH=>?_)
 clear hK K
 try simp only [putS]
 refine rgO 5 fun K hK=>?_
 go_simp
 refine (oLiving (B:=W3.heap.size) HKB.out _ K7.out A7.out B7.out.size G7.out).mono ?_
 rintro r W8 ⟨_,rfl,hb8,bx8,f8,h8,rfl,hk,ha,hg⟩
 have B8:=qh (below_then B7.out hb8)
 have K8:=qh hk
 have A8:=qh ha
 have G8:=qh hg
 clear hb8 hk ha hg
 refine hK.out _ _ (CF.out _ B8.out) (fun gH=>?_)
 clear hK K
 try simp only [putS]
 obtain ⟨k0,k1,k2,k3⟩:=keyF (R3.out.below B8.out)
 have HX:=qh (show RowAt ((W8.setCell ⟨D,0,none⟩ f8.v).setCell ⟨D,1,none⟩ h8.v) B [rv,.int .i64 sq,.int .i64 pl] 71 from ((R1.out.below B8.out).other NB.out _).other NB.out _)
 have HR:=qh (show RowAt ((W8.setCell ⟨D,0,none⟩ f8.v).setCell ⟨D,1,none⟩ h8.v) D [f8.v,h8.v] 104 from ((R3.out.below B8.out).set 0 f8.v).set 1 h8.v)
 have HL:=qh (show Below w.heap.size w ((W8.setCell ⟨D,0,none⟩ f8.v).setCell ⟨D,1,none⟩ h8.v) from ((below_then BX.out B8.out).setCell DL.out _).setCell DL.out _)
 have HM:=qh (show Made R (liv (mrg S (roomO L sq))) w.heap.size ((W8.setCell ⟨D,0,none⟩ f8.v).setCell ⟨D,1,none⟩ h8.v) (.agg #[f8.v,h8.v]) from
  ⟨bx8,f8,h8,rfl,K8.out,fun r hr=>by
   have hn:D≠r.1:=by have:=G8.out r hr; have:=DB.out; omega
   exact ((A8.out r hr).other hn _).other hn _,fun r hr=>by have:=G8.out r hr; have:=BX.out.size; omega⟩)
 obtain ⟨n8,fs8,cs8⟩:=f8
 obtain ⟨m8,gs8,ds8⟩:=h8
 refine rgO 6 fun K hK=>?_
 go_simp
 refine hK.out _ _ (srcF3 HX.out) (fun gH=>?_)
 clear hK K
 try simp only [putS]
 refine rgD ?_
 clear k0 k1 k2 k3
 go_wp2_with fail
 refine bodyPost_ret (results_cell_oneW rfl _ _ D _ _ _ rfl HR.out Tryz.underlying104 rfl (by kernel_rfl)) rfl ?_
 exact ⟨_,rfl,HL.out,HM.out⟩
end Go.Proofs.YtoljhoabbaigdaaGreat

namespace Go.Proofs.YtoljhoabbaigdaaGreat
open Go.RowKit
attribute [local go_sem] Oper.semAt_some

def CurRow (w:World) (b:Nat) (sv:Value) (to:ByteArray) (limit told:Int) (key:ByteArray) (place:Int):Prop :=
 RowAt w b [sv,.string to,.int .i64 limit,.int .i64 told,.string key,.int .i64 place] 100
def inTo (to k:ByteArray):Bool:=to.toList.isEmpty || ltB k to

theorem xWithin (b:Nat) (sv:Value) (to:ByteArray) (limit told:Int) (key:ByteArray) (place:Int) (k:ByteArray) (w:World) (h:CurRow w b sv to limit told key place) :
  Calls Tryz.prog 62 #[.pointer (some ⟨b,0,none⟩),.string k] w fun e w'=>e=.returned (.bool (inTo to k))∧w=w':=by
 have c1:=RowAt.cell h 1
 simp only [geS] at c1
 have EI:inTo to k=(to.toList.isEmpty || Op.bytesLess k.toList to.toList):=rfl
 rw [EI]
 clear EI h
 go_enter Tryz.func62,Tryz.ntmps62
 go_wp2_with fail
 ·go_ret
  rename_i he
  exact ⟨by rw [he]; rfl,rfl⟩
 ·go_ret
  exact ⟨rfl,rfl⟩

abbrev srcV (f h:Fn) (place:Int):Value:=.agg #[f.v,h.v,.int .i64 place]
theorem xBehind (b:Nat) (sv:Value) (to:ByteArray) (limit told:Int) (key:ByteArray) (place:Int) (f g:Fn) (p:Int) (w:World) (h:CurRow w b sv to limit told key place) :
  Calls Tryz.prog 61 #[.pointer (some ⟨b,0,none⟩),srcV f g p] w fun e w'=>e=.returned (Fn.v (if place<p then f else g))∧Below w.heap.size w w':=by
 obtain ⟨B,hB⟩:=nmq (w.heap.size)
 obtain ⟨W1,hW1⟩:=nmq (w.alloc (.cells #[f.v,g.v,.int .i64 p] 107))
 have r1:RowAt W1 B [f.v,g.v,.int .i64 p] 107:=by rw [hW1,hB]; exact RowAt.new w _ _
 have BX:=qh (show Below w.heap.size w W1 by rw [hW1]; exact (Below.refl _ _).alloc (Nat.le_refl _) _)
 have c0:=r1.cell 0
 have c1:=r1.cell 1
 have c2:=r1.cell 2
 have c5:=(RowAt.alloc h (.cells #[f.v,g.v,.int .i64 p] 107)).cell 5
 simp only [geS] at c0 c1 c2 c5
 rw [<-hW1] at c5
 have HB:=qh hB
 have HW1:=qh hW1
 obtain ⟨n,fs,cs⟩:=f
 obtain ⟨n2,fs2,cs2⟩:=g
 clear h r1 hB hW1
 obtain ⟨q,hq⟩:=nmq (decide (place<p))
 have e1:Fn.v (if place<p then (⟨n,fs,cs⟩:Fn) else ⟨n2,fs2,cs2⟩)=if q then .func (.func n) fs cs else .func (.func n2) fs2 cs2:=by
  rw [hq]
  by_cases z:place<p<;>simp [z]
 have dq:=hq.symm
 rw [e1]
 clear hq e1
 go_enter Tryz.func61,Tryz.ntmps61
 go_wp2_with fail
 rw [<-HW1.out,<-HB.out]
 refine wp_region_held_drew (S:=(fun w'=>w'.cell? ⟨B,2,none⟩=some (.int .i64 p)∧w'.cell? ⟨b,5,none⟩=some (.int .i64 place))) (by kernel_rfl) (⟨c2,c5⟩) (fun gH=>?_)
 refine rgT 0 (v:=?v1) ?y1 gH ?_
 case y1=>(intro v hSw; go_simp<;>rfl)
 refine rgT 1 (v:=?v2) ?y2 gH ?_
 case y2=>(intro v hSw; go_simp<;>rfl)
 refine rgT 2 (v:=?v3) ?y3 gH ?_
 case y3=>(intro v hSw; go_simp<;>rfl)
 try simp only [putS]
 refine rgT 3 (v:=?v4) ?y4 gH ?_
 case y4=>(intro v hSw; go_simp<;>rfl)
 refine rgT 4 (v:=?v5) ?y5 gH ?_
 case y5=>(intro v hSw; go_simp<;>rfl)
 refine rgT 5 (v:=?v6) ?y6 gH ?_
 case y6=>(intro v hSw; go_simp<;>rfl)
 try simp only [putS]
 refine rgT 6 (v:=?v7) ?y7 gH ?_
 case y7=>(intro v hSw; go_simp<;>rfl)
 try simp only [putS]
 refine rgD ?_
 have BY:=qh (show Below w.heap.size w W1.drew from BX.out.drew)
 cases q with
 | true =>
  go_wp2_with fail
  go_ret
  exact ⟨rfl,BY.out⟩
 | false =>
  go_wp2_with fail
  go_ret
  exact ⟨rfl,BY.out⟩
end Go.Proofs.YtoljhoabbaigdaaGreat

namespace Go.Proofs.YtoljhoabbaigdaaGreat
open Go.RowKit
attribute [local go_sem] Oper.semAt_some

theorem rowF2 {w:World} {g:Nat} {t:TypeId} {a b c d e:Value} (h:RowAt w g [a,b,c,d,e] t):w.cell? ⟨g,0,none⟩=some a∧w.cell? ⟨g,1,none⟩=some b:=⟨h.cell 0,h.cell 1⟩
theorem xPassM (b:Nat) (sv:Value) (to:ByteArray) (limit told:Int) (key:ByteArray) (place room:Int) (k:ByteArray) (m:Bool) (t:ByteArray) (u:Nat) (w:World) (h:CurRow w b sv to limit told key place) (hk:k.size<=1000) (ht0:0<=told) (ht:told<=1000) :
  Calls Tryz.prog 38 #[.pointer (some ⟨b,0,none⟩),.agg #[.int .i64 room,.string k,.bool m,.string t,.int .u64 (u:Int)]] w fun e w'=>e=.returned (.tuple #[])∧CurRow w' b sv to limit (told+1) k room∧Chg (fun q=>q=b) w w':=by
 have CK:=qh (fun w=>lclone k w (Nat.le_trans hk (by decide)))
 obtain ⟨B,hB⟩:=nmq (w.heap.size)
 obtain ⟨W1,hW1⟩:=nmq (w.alloc (.cells #[.int .i64 room,.string k,.bool m,.string t,.int .u64 (u:Int)] 85))
 have r1:RowAt W1 B [.int .i64 room,.string k,.bool m,.string t,.int .u64 (u:Int)] 85:=by rw [hW1,hB]; exact RowAt.new w _ _
 have h1:CurRow W1 b sv to limit told key place:=by rw [hW1]; exact RowAt.alloc h _
 have nb:b≠B:=by have:=RowAt.lt h; omega
 obtain ⟨W2,hW2⟩:=nmq (W1.setCell ⟨b,3,none⟩ (.int .i64 (told+1)))
 have r2:RowAt W2 B [.int .i64 room,.string k,.bool m,.string t,.int .u64 (u:Int)] 85:=by rw [hW2]; exact r1.other nb _
 have h2:CurRow W2 b sv to limit (told+1) key place:=by rw [hW2]; exact RowAt.set h1 3 _
 have g2:Chg (fun q=>q=b) w W2:=by
  rw [hW2,hW1]
  exact (Chg.of_below (F:=fun q=>q=b) ((Below.refl _ w).alloc (Nat.le_refl _) _)).setCell (p:=⟨b,3,none⟩) (.inl rfl) _
 have c3:=RowAt.cell h1 3
 have f3:=RowAt.frozen h1 3
 simp only [geS] at c3
 have ta:IntKind.i64.wrap (told+1)=told+1:=by rw [IntKind.wrap_i64]; omega
 have CF:=qh (fun W (hb:Below W2.heap.size W2 W)=>rowF2 (r2.below hb))
 have R2:=qh r2
 have H2:=qh h2
 have G2:=qh g2
 have NB:=qh nb
 have HB:=qh hB
 have HW1:=qh hW1
 have HW2:=qh hW2
 rw [hW1] at c3 f3
 clear h hB hW1 hW2 r1 h1 nb r2 h2 g2 hk ht0 ht
 go_enter Tryz.func38,Tryz.ntmps38
 go_wp2_with fail
 rw [<-HW1.out,<-HB.out,<-HW2.out]
 clear c3 f3 ta
 have BD:=qh (show Below W2.heap.size W2 W2.drew from (Below.refl _ _).drew)
 refine wp_region_held_drew (S:=(fun w'=>w'.cell? ⟨B,0,none⟩=some (.int .i64 room)∧w'.cell? ⟨B,1,none⟩=some (.string k))) (by kernel_rfl) (CF.out _ BD.out) (fun gH=>?_)
 refine rgT 0 (v:=?v1) ?y1 gH ?_
 case y1=>(intro v hSw; go_simp<;>rfl)
 refine rgT 1 (v:=?v2) ?y2 gH ?_
 case y2=>(intro v hSw; go_simp<;>rfl)
 refine rgT 2 (v:=?v3) ?y3 gH ?_
 case y3=>(intro v hSw; go_simp<;>rfl)
 try simp only [putS]
 refine rgT 3 (v:=?v4) ?y4 gH ?_
 case y4=>(intro v hSw; go_simp<;>rfl)
 refine rgT 5 (v:=?v5) ?y5 gH ?_
 case y5=>(intro v hSw; go_simp<;>rfl)
 refine rgT 6 (v:=?v6) ?y6 gH ?_
 case y6=>(intro v hSw; go_simp<;>rfl)
 try simp only [putS]
 refine rgO 4 fun K hK=>?_
 go_simp
 refine (CK.out _).mono ?_
 rintro r W5 ⟨rfl,hb5⟩
 have B5:=qh (below_then BD.out hb5)
 clear hb5
 refine hK.out _ _ (CF.out _ B5.out) (fun gH=>?_)
 clear hK K
 try simp only [putS]
 have h5:=RowAt.below H2.out B5.out
 have d4:=RowAt.cell h5 4
 have z4:=RowAt.frozen h5 4
 have d5:=RowAt.cell h5 5
 have z5:=RowAt.frozen h5 5
 simp only [geS] at d4 d5
 have h6:CurRow (W5.setCell ⟨b,4,none⟩ (.string k)) b sv to limit (told+1) k place:=RowAt.set h5 4 (.string k)
 have d6:=RowAt.cell h6 5
 have z6:=RowAt.frozen h6 5
 simp only [geS] at d6
 have HE:=qh (show CurRow ((W5.setCell ⟨b,4,none⟩ (.string k)).setCell ⟨b,5,none⟩ (.int .i64 room)) b sv to limit (told+1) k room from RowAt.set h6 5 (.int .i64 room))
 have GE:=qh (show Chg (fun q=>q=b) w ((W5.setCell ⟨b,4,none⟩ (.string k)).setCell ⟨b,5,none⟩ (.int .i64 room)) from ((G2.out.trans (Chg.of_below (F:=fun q=>q=b) B5.out) fun _ e=>.inl e).setCell (p:=⟨b,4,none⟩) (.inl rfl) _).setCell (p:=⟨b,5,none⟩) (.inl rfl) _)
 have RS:=qh (show RowAt (W5.setCell ⟨b,4,none⟩ (.string k)) B [.int .i64 room,.string k,.bool m,.string t,.int .u64 (u:Int)] 85 from (R2.out.below B5.out).other NB.out _)
 have RT:=qh (show RowAt ((W5.setCell ⟨b,4,none⟩ (.string k)).setCell ⟨b,5,none⟩ (.int .i64 room)) B [.int .i64 room,.string k,.bool m,.string t,.int .u64 (u:Int)] 85 from RS.out.other NB.out _)
 clear h5 h6
 refine rgT 7 (v:=?v7) ?y7 gH ?_
 case y7=>(intro v hSw; go_simp<;>rfl)
 refine rgT 8 (v:=?v8) ?y8 gH ?_
 case y8=>(intro v hSw; go_simp<;>rfl)
 try simp only [putS]
 refine rgO 9 fun K hK=>?_
 go_simp
 refine hK.out _ _ (rowF2 RS.out) (fun gH=>?_)
 clear hK K
 refine rgT 10 (v:=?v9) ?y9 gH ?_
 case y9=>(intro v hSw; go_simp<;>rfl)
 refine rgT 11 (v:=?v10) ?y10 gH ?_
 case y10=>(intro v hSw; go_simp<;>rfl)
 try simp only [putS]
 refine rgO 12 fun K hK=>?_
 go_simp
 refine hK.out _ _ (rowF2 RT.out) (fun gH=>?_)
 clear hK K
 try simp only [putS]
 refine rgD ?_
 clear d4 z4 d5 z5 d6 z6
 go_wp2_with fail
 refine bodyPost_end (results_none rfl _ _ _) rfl ?_
 exact ⟨rfl,HE.out,GE.out⟩
end Go.Proofs.YtoljhoabbaigdaaGreat

namespace Go.Proofs.YtoljhoabbaigdaaGreat
open Go.RowKit

structure Src where
 O:Wl
 bx:Bxs
 f:Fn
 h:Fn
 p:Int
def Src.fn (s:Src) (place:Int):Fn:=if place<s.p then s.f else s.h
def Src.ab (s:Src) (place:Int):Bool:=if place<s.p then false else true
abbrev Best:=Option (Int × Wr)
def bP (b:Best):Int:=match b with | none=>0 | some y=>y.1
def bK (b:Best):ByteArray:=match b with | none=>⟨#[]⟩ | some y=>y.2.key
def bV (b:Best):Val:=match b with | none=>Val.V0 | some y=>y.2.val
def bRowM (b:Best):List Value:=[.int .i64 (bP b),.string (bK b),.bool (bV b).num,.string (bV b).txt,.int .u64 ((bV b).bits:Int)]
def nst (to key:ByteArray) (place:Int) (b:Best) (s:Src):Best :=
 if (fnd s.O (s.ab place) key).2 && (inTo to (fnd s.O (s.ab place) key).1.key && (!b.isSome || ltB (fnd s.O (s.ab place) key).1.key (bK b))) then some (s.p,(fnd s.O (s.ab place) key).1) else b
def nxt (ss:List Src) (to key:ByteArray) (place:Int):Best:=ss.foldl (nst to key place) none
theorem nxt_take {ss:List Src} {i:Nat} {s:Src} (h:ss[i]?=some s) (to key:ByteArray) (place:Int):nxt (ss.take (i+1)) to key place=nst to key place (nxt (ss.take i) to key place) s:=by
 unfold nxt
 rw [List.take_add_one,h,Option.toList_some,List.foldl_append]
 rfl
def SlSc (w:World) (A:Option Addr) (ss:List Src):Prop :=
 0<ss.length->∃ b o,A=some ⟨b,o,none⟩∧b<w.heap.size∧∀ j s,ss[j]?=some s →
  w.cell? ⟨b,o+j * 3,none⟩=some s.f.v∧w.cell? ⟨b,o+j * 3+1,none⟩=some s.h.v∧w.cell? ⟨b,o+j * 3+2,none⟩=some (.int .i64 s.p)
theorem SlSc.below {w w':World} {A:Option Addr} {ss:List Src} (h:SlSc w A ss) (hb:Below w.heap.size w w'):SlSc w' A ss:=fun hp=>by
 obtain ⟨b,o,e,hl,hc⟩:=h hp
 refine ⟨b,o,e,Nat.lt_of_lt_of_le hl hb.size,fun j s hj=>?_⟩
 obtain ⟨c0,c1,c2⟩:=hc j s hj
 exact ⟨(hb.cell (p:=⟨b,o+j * 3,none⟩) hl).trans c0,(hb.cell (p:=⟨b,o+j * 3+1,none⟩) hl).trans c1,(hb.cell (p:=⟨b,o+j * 3+2,none⟩) hl).trans c2⟩
theorem SlSc.nil (w:World) (A:Option Addr):SlSc w A []:=fun h=>absurd h (by simp)
theorem srcF4 {w:World} {g:Nat} {t:TypeId} {a b c:Value} (h:RowAt w g [a,b,c] t):w.cell? ⟨g,0,none⟩=some a∧w.cell? ⟨g,1,none⟩=some b∧w.cell? ⟨g,2,none⟩=some c:=⟨h.cell 0,h.cell 1,h.cell 2⟩
def run (ss:List Src) (to:ByteArray):Nat->ByteArray->Int->List (Int × Wr)
 | 0,_,_=>[]
 | k+1,key,place=>match nxt ss to key place with
  | none=>[]
  | some y=>y :: run ss to k y.2.key y.1
theorem run_none {ss:List Src} {to key:ByteArray} {place:Int} (h:nxt ss to key place=none) (k:Nat):run ss to k key place=[]:=by
 cases k with
 | zero=>rfl
 | succ k=>unfold run; rw [h]
theorem run_some {ss:List Src} {to key:ByteArray} {place:Int} {y:Int × Wr} (h:nxt ss to key place=some y) (k:Nat):run ss to (k+1) key place=y :: run ss to k y.2.key y.1:=by
 rw [run,h]
theorem nst_from {to key:ByteArray} {place:Int} {b:Best} {s:Src} {y:Int × Wr} (h:nst to key place b s=some y):b=some y∨(y.1=s.p∧∃ x,x ∈ s.O∧y.2=x):=by
 unfold nst at h
 split at h
 ·rename_i hc
  injection h with h
  refine .inr ⟨by rw [<-h],?_⟩
  rw [Bool.and_eq_true] at hc
  have h2:=hc.1
  unfold fnd at h2 h
  simp only [decide_eq_true_eq] at h2
  refine ⟨s.O[s.O.frm key (s.ab place)],List.getElem_mem h2,?_⟩
  rw [<-h]
  show s.O.atV (s.O.frm key (s.ab place))=_
  unfold Wl.atV
  rw [if_pos h2,Wl.get h2]
 ·exact .inl h
theorem nxt_from {to key:ByteArray} {place:Int} {y:Int × Wr}:∀ (ss:List Src) (b:Best),ss.foldl (nst to key place) b=some y->b=some y∨∃ s,s ∈ ss∧y.1=s.p∧∃ x,x ∈ s.O∧y.2=x
 | [],b,h=>.inl h
 | s :: ss,b,h=>by
  rcases nxt_from ss _ h with h1 | ⟨s',hs,r⟩
  ·rcases nst_from h1 with h2 | ⟨h2,h3⟩
   ·exact .inl h2
   ·exact .inr ⟨s,List.mem_cons_self ..,h2,h3⟩
  ·exact .inr ⟨s',List.mem_cons_of_mem _ hs,r⟩
theorem nxt_key {ss:List Src} {to key:ByteArray} {place:Int} {y:Int × Wr} {N:Nat} (hk:∀ s,s ∈ ss->∀ x,x ∈ s.O->x.key.size<=N) (h:nxt ss to key place=some y):y.2.key.size<=N:=by
 rcases nxt_from ss none h with h1 | ⟨s,hs,_,x,hx,e⟩
 ·cases h1
 ·rw [e]; exact hk s hs x hx
end Go.Proofs.YtoljhoabbaigdaaGreat

namespace Go.Proofs.YtoljhoabbaigdaaGreat
open Go.RowKit
attribute [local go_sem] Oper.semAt_some

abbrev zRo:List Value:=[.int .i64 0,.string ⟨#[]⟩,.bool false,.string ⟨#[]⟩,.int .u64 0]
theorem xNextM {R:World->Prop} (hR:KeptB R) (b:Nat) (ss:List Src) (to:ByteArray) (limit told:Int) (key:ByteArray) (place:Int) (A:Option Addr) (c:Nat) (w:World) (hr:R w)
  (hc:CurRow w b (.slice A ss.length c) to limit told key place) (hs:SlSc w A ss) (hk:∀ s,s ∈ ss->KeysAt R s.O s.bx s.f s.h∧AllAt s.bx w) (hl:ss.length<=1000) :
  Calls Tryz.prog 37 #[.pointer (some ⟨b,0,none⟩)] w fun e w'=>e=.returned (.tuple #[.agg (bRowM (nxt ss to key place)).toArray,.bool (nxt ss to key place).isSome])∧Below w.heap.size w w':=by
 obtain ⟨n,hn⟩:=nmq (ss.length)
 obtain ⟨B,hB⟩:=nmq (w.heap.size)
 obtain ⟨C,hC⟩:=nmq (B+1)
 obtain ⟨W0,hW0⟩:=nmq ((w.alloc (.cells zRo.toArray 85)).alloc (.cells zRo.toArray 85))
 have z1:(w.alloc (.cells zRo.toArray 85)).heap.size=C:=by rw [hC,hB]; show (w.heap.push _).size=_; rw [Array.size_push]
 have RB:RowAt W0 B zRo 85:=by rw [hW0,hB]; exact (RowAt.new w _ _).alloc _
 have RC:RowAt W0 C zRo 85:=by rw [hW0,<-z1]; exact RowAt.new _ _ _
 have BW:Below w.heap.size w W0:=by rw [hW0]; exact ((Below.refl _ _).alloc (Nat.le_refl _) _).alloc (by rw [z1]; omega) _
 have hc0:CurRow ((w.alloc (.cells zRo.toArray 85)).alloc (.cells zRo.toArray 85)) b (.slice A ss.length c) to limit told key place:=by
  have:=RowAt.below hc BW; rw [hW0] at this; exact this
 rw [<-hn] at hc hc0 hl
 have c0:=RowAt.cell hc0 0
 simp only [List.getElem?_cons_zero] at c0
 have HN:=qh hn
 have HC:=qh hc
 have HS:=qh hs
 have HK:=qh hk
 have HR:=qh hr
 have HB:=qh hB
 have HCC:=qh hC
 have RBH:=qh RB
 have RCH:=qh RC
 have BWH:=qh BW
 have HW0:=qh (show (w.alloc (.cells #[.int .i64 0,.string ⟨#[]⟩,.bool false,.string ⟨#[]⟩,.int .u64 0] 85)).alloc (.cells #[.int .i64 0,.string ⟨#[]⟩,.bool false,.string ⟨#[]⟩,.int .u64 0] 85)=W0 from hW0.symm)
 have HZ1:=qh (show (w.alloc (.cells #[.int .i64 0,.string ⟨#[]⟩,.bool false,.string ⟨#[]⟩,.int .u64 0] 85)).heap.size=C from z1)
 obtain ⟨T,hT⟩:=nmq (nxt ss to key place)
 have HT:=qh hT
 rw [<-hT]
 clear hn hB hC hW0 RB RC BW hc hc0 hs hk hr hT z1
 go_enter Tryz.func37,Tryz.ntmps37
 go_wp2_with fail
 rw [HW0.out,<-HB.out,<-HCC.out]
 go_loopw [5,15] (fun vt vi wr=>∃ (i:Nat) (y:Best),i<=n∧vt=.bool y.isSome∧vi=.int .i64 i∧Hid (y=nxt (ss.take i) to key place)∧Hid (RowAt wr B zRo 85)∧Hid (RowAt wr C (bRowM y) 85)∧Hid (Below w.heap.size w wr)) (fun _ vi _=>n-(intOf vi).toNat)
 case atStart=>exact ⟨0,none,Nat.zero_le _,rfl,rfl,qh rfl,RBH,RCH,BWH⟩
 case round =>
  obtain ⟨i,y,hi,rfl,rfl,HY,RB,RC,BR⟩:=hrel
  by_cases q:i<n
  ·-- the source of the round
   obtain ⟨s,hsi⟩:∃ s,ss[i]?=some s:=⟨_,List.getElem?_eq_getElem (by rw [<-HN.out]; exact q)⟩
   obtain ⟨g,o,hA,hg,cc⟩:=(HS.out.below BR.out) (by rw [<-HN.out]; omega)
   obtain ⟨k0,k1,k2⟩:=cc i s hsi
   obtain ⟨KA,AB⟩:=HK.out s (List.mem_of_getElem? hsi)
   have HY2:=qh (show nst to key place y s=nxt (ss.take (i+1)) to key place by rw [nxt_take hsi,<-HY.out])
   obtain ⟨D,hD⟩:=nmq (wr.heap.size)
   obtain ⟨W1,hW1⟩:=nmq (wr.alloc (.cells #[s.f.v,s.h.v,.int .i64 s.p] 107))
   have b1:Below w.heap.size w W1:=by rw [hW1]; exact BR.out.alloc BR.out.size _
   have rD:RowAt W1 D [s.f.v,s.h.v,.int .i64 s.p] 107:=by rw [hW1,hD]; exact RowAt.new wr _ _
   have rB1:=qh (show RowAt W1 B zRo 85 by rw [hW1]; exact RB.out.alloc _)
   have rC1:=qh (show RowAt W1 C (bRowM y) 85 by rw [hW1]; exact RC.out.alloc _)
   have hc1:=RowAt.below HC.out b1
   obtain ⟨fn,hfn⟩:=nmq (s.fn place)
   have FK:Finds (fun W=>R W∧AllAt s.bx W) fn (fnd s.O (s.ab place)):=by
    rw [hfn]; unfold Src.fn Src.ab
    by_cases z:place<s.p
    ·rw [if_pos z,if_pos z]; exact KA.seek
    ·rw [if_neg z,if_neg z]; exact KA.after
   obtain ⟨hE,FK⟩:=FK
   have XB:=qh (fun W (hb:Below W1.heap.size W1 W)=>xBehind b _ to limit told key place s.f s.h s.p W (RowAt.below hc1 hb))
   have CC:=qh (fun W (hb:Below W1.heap.size W1 W)=>FK W key ⟨hR _ _ HR.out (b1.trans (hb.mono b1.size)),AB.below (b1.trans (hb.mono b1.size))⟩)
   have CF:=qh (fun W (hb:Below W1.heap.size W1 W)=>And.intro (srcF4 (rD.below hb)) (RowAt.cell (RowAt.below hc1 hb) 4))
   have EF:(if place<s.p then s.f else s.h)=fn:=by rw [hfn]; rfl
   obtain ⟨x,hx⟩:=nmq (fnd s.O (s.ab place) key)
   have NS:nst to key place y s=if x.2 && (inTo to x.1.key && (!y.isSome || ltB x.1.key (bK y))) then some (s.p,x.1) else y:=by rw [hx]; rfl
   rw [<-hx] at CC
   rw [NS] at HY2
   simp only [EF] at XB
   have WI:=qh (fun W (hb:Below W1.heap.size W1 W)=>xWithin b _ to limit told key place x.1.key W (RowAt.below hc1 hb))
   obtain ⟨O,bx,⟨n1,fs1,cs1⟩,⟨n2,fs2,cs2⟩,p⟩:=s
   obtain ⟨nf,fs,cs⟩:=fn
   obtain ⟨⟨kx,gn,⟨m,t,u⟩⟩,ok⟩:=x
   simp only at k0 k1 k2 rD CF XB CC HY2 WI hW1
   replace hE:∀ (args:Array Value) (w:World),(callFunc nf args).run Tryz.prog w=.ok (.enter nf args) w:=hE
   replace CC:Hid (∀ W,Below W1.heap.size W1 W->Calls Tryz.prog nf (fs.push (.string key)++cs) W fun e W'=>e=.returned (.tuple #[.agg #[.string kx,.bool gn,.bool m,.string t,.int .u64 (u:Int)],.bool ok])∧Below W.heap.size W W'):=CC
   have HE:=qh hE
   have B1:=qh b1
   have HW1:=qh (show wr.alloc (.cells #[.func (.func n1) fs1 cs1,.func (.func n2) fs2 cs2,.int .i64 p] 107)=W1 from hW1.symm)
   have HD:=qh hD
   have HA:=hA
   subst hA
   clear hE EF NS hx hfn KA AB FK cc hsi hc1 rD b1 hg hD hW1
   have NBC:=qh (show C≠B by have:=HCC.out; omega)
   have NWC:=qh (show w.heap.size<=C by have:=HCC.out; have:=HB.out; omega)
   go_wp2_with fail
   rw [HW1.out,<-HD.out]
   clear k0 k1 k2 c0
   have BD:=qh (show Below W1.heap.size W1 W1.drew from (Below.refl _ _).drew)
   refine wp_region_held_drew (S:=(fun W=>(W.cell? ⟨D,0,none⟩=some (.func (.func n1) fs1 cs1)∧W.cell? ⟨D,1,none⟩=some (.func (.func n2) fs2 cs2)∧W.cell? ⟨D,2,none⟩=some (.int .i64 p))∧W.cell? ⟨b,4,none⟩=some (.string key))) (by kernel_rfl) (CF.out _ BD.out) (fun gH=>?_)
   obtain ⟨Wd,hWd⟩:=nmq (W1.drew)
   rw [<-hWd] at BD gH ⊢
   clear hWd
   refine rgT 0 (v:=?v1) ?y1 gH ?_
   case y1=>(intro v hSw; obtain ⟨⟨y0,y1,y2⟩,y4⟩:=hSw; go_simp<;>rfl)
   refine rgT 1 (v:=?v2) ?y2 gH ?_
   case y2=>(intro v hSw; obtain ⟨⟨y0,y1,y2⟩,y4⟩:=hSw; go_simp<;>rfl)
   refine rgT 3 (v:=?v3) ?y3 gH ?_
   case y3=>(intro v hSw; obtain ⟨⟨y0,y1,y2⟩,y4⟩:=hSw; go_simp<;>rfl)
   try simp only [putS]
   refine rgT 4 (v:=?v4) ?y4 gH ?_
   case y4=>(intro v hSw; obtain ⟨⟨y0,y1,y2⟩,y4⟩:=hSw; go_simp<;>rfl)
   refine rgT 5 (v:=?v5) ?y5 gH ?_
   case y5=>(intro v hSw; obtain ⟨⟨y0,y1,y2⟩,y4⟩:=hSw; go_simp<;>rfl)
   refine rgT 6 (v:=?v6) ?y6 gH ?_
   case y6=>(intro v hSw; obtain ⟨⟨y0,y1,y2⟩,y4⟩:=hSw; go_simp<;>rfl)
   try simp only [putS]
   refine rgnTwo 2 11 rfl rfl (by kernel_rfl) (fun K hK=>?_) (fun K hK=>?_)
   ·go_simp
    refine (XB.out _ BD.out).mono ?_
    rintro e w5 ⟨rfl,hb5⟩
    have B5:=qh (below_then BD.out hb5)
    clear hb5
    refine hK.out _ _ (CF.out _ B5.out) (fun gH=>?_)
    clear hK K
    try simp only [putS]
    refine rgnTwo 7 11 rfl rfl (by kernel_rfl) (fun K hK=>?_) (fun K hK=>?_)
    ·have hE:=HE.out
     go_simp
     refine (CC.out _ B5.out).mono ?_
     rintro e w6 ⟨rfl,hb6⟩
     clear hE
     have B6:=qh (below_then B5.out hb6)
     clear hb6
     refine hK.out _ _ (CF.out _ B6.out) (fun gH=>?_)
     clear hK K
     refine rgT 8 (v:=?v7) ?y7 gH ?_
     case y7=>(intro v hSw; obtain ⟨⟨y0,y1,y2⟩,y4⟩:=hSw; go_simp<;>rfl)
     refine rgT 9 (v:=?v8) ?y8 gH ?_
     case y8=>(intro v hSw; obtain ⟨⟨y0,y1,y2⟩,y4⟩:=hSw; go_simp<;>rfl)
     try simp only [putS]
     refine rgT 10 (v:=?v9) ?y9 gH ?_
     case y9=>(intro v hSw; obtain ⟨⟨y0,y1,y2⟩,y4⟩:=hSw; go_simp<;>rfl)
     try simp only [putS]
     refine rgO 11 fun K hK=>?_
     go_simp
     refine hK.out _ _ ((CF.out _ (B6.out.alloc B6.out.size _))) (fun gH=>?_)
     clear hK K
     try simp only [putS]
     obtain ⟨W7,hW7⟩:=nmq (w6)
     have B7:=B6
     rw [<-hW7] at B7
     rw [<-hW7]
     obtain ⟨E,hE8⟩:=nmq (W7.heap.size)
     obtain ⟨W8,hW8⟩:=nmq (W7.alloc (.cells #[.string ⟨#[]⟩,.bool false,.bool false,.string ⟨#[]⟩,.int .u64 0] 61))
     rw [<-hW8,<-hE8]
     have B8:=qh (show Below W1.heap.size W1 W8 by rw [hW8]; exact B7.out.alloc B7.out.size _)
     have R8:=qh (show RowAt W8 E Wr.Z.cs 61 by rw [hW8,hE8]; exact RowAt.new W7 Wr.Z.cs _)
     have E8:=qh (show W1.heap.size<=E by rw [hE8]; exact B7.out.size)
     clear hW8 hE8 hW7
     obtain ⟨g0,g1,g2,g3,g4,e0,e1,e2,e3,e4⟩:=wrZ R8.out
     have B9:=qh (show Below W1.heap.size W1 (setW W8 E ⟨kx,gn,⟨m,t,u⟩⟩) from setW_below B8.out E8.out)
     have R9:=qh (setW_row (x:=⟨kx,gn,⟨m,t,u⟩⟩) R8.out)
     refine rgO 12 fun K hK=>?_
     go_simp
     refine hK.out _ _ (CF.out _ B9.out) (fun gH=>?_)
     clear hK K
     try simp only [putS]
     clear g0 g1 g2 g3 g4 e0 e1 e2 e3 e4
     refine rgT 13 (v:=?v10) ?y10 gH ?_
     case y10=>(intro v hSw; obtain ⟨⟨y0,y1,y2⟩,y4⟩:=hSw; go_simp<;>rfl)
     try simp only [putS]
     refine rgD ?_
     obtain ⟨Wz,hWz⟩:=nmq (setW W8 E ⟨kx,gn,⟨m,t,u⟩⟩)
     rw [<-hWz] at R9 B9
     rw [show ((((W8.setCell ⟨E,0,none⟩ (.string kx)).setCell ⟨E,1,none⟩ (.bool gn)).setCell ⟨E,2,none⟩ (.bool m)).setCell ⟨E,3,none⟩ (.string t)).setCell ⟨E,4,none⟩ (.int .u64 (u:Int))=Wz from hWz.symm]
     clear hWz R8 B8
     have RB9:=qh (rB1.out.below B9.out)
     have RC9:=qh (rC1.out.below B9.out)
     have BZ9:=qh (B1.out.trans (B9.out.mono B1.out.size))
     have x0:=R9.out.cell 0
     have x1:=R9.out.cell 1
     have x2:=R9.out.cell 2
     have x3:=R9.out.cell 3
     have x4:=R9.out.cell 4
     simp only [Wr.cs,List.getElem?_cons_zero,List.getElem?_cons_succ] at x0 x1 x2 x3 x4
     have d2:=(CF.out _ B9.out).1.2.2
     have cK:=RC9.out.cell 1
     simp only [bRowM,List.getElem?_cons_zero,List.getElem?_cons_succ] at cK
     have WZ:=qh (WI.out _ B9.out)
     cases ok with
     | false =>
      go_wp2_with fail
      go_roundw
      case rel=>exact ⟨i+1,y,by omega,(by first | rfl | rw [hy]),by go_num,qh (by rw [<-HY2.out]; first | rfl | (rw [if_neg]; simp [*]) | simp [*]),RB9,RC9,BZ9⟩
      case measure=>simp [intOf]; omega
     | true =>
      cases hI:inTo to kx with
      | false =>
       rw [hI] at WZ
       go_wp2_with fail
       refine WZ.out.mono ?_
       rintro e w7 ⟨rfl,rfl⟩
       go_wp2_with fail
       go_roundw
       case rel=>exact ⟨i+1,y,by omega,(by first | rfl | rw [hy]),by go_num,qh (by rw [<-HY2.out]; first | rfl | (rw [if_neg]; simp [*]) | simp [*]),RB9,RC9,BZ9⟩
       case measure=>simp [intOf]; omega
      | true =>
       rw [hI] at WZ
       cases hy:y.isSome with
       | false =>
        have k0:=RC9.out.cell 0
        have k1:=RC9.out.cell 1
        have k2:=RC9.out.cell 2
        have k3:=RC9.out.cell 3
        have k4:=RC9.out.cell 4
        simp only [bRowM,List.getElem?_cons_zero,List.getElem?_cons_succ] at k0 k1 k2 k3 k4
        have q0:=RC9.out.frozen 0
        have q1:=RC9.out.frozen 1
        have q2:=RC9.out.frozen 2
        have q3:=RC9.out.frozen 3
        have q4:=RC9.out.frozen 4
        have RCa:=qh (show RowAt (((((Wz.setCell ⟨C,0,none⟩ (.int .i64 p)).setCell ⟨C,1,none⟩ (.string kx)).setCell ⟨C,2,none⟩ (.bool m)).setCell ⟨C,3,none⟩ (.string t)).setCell ⟨C,4,none⟩ (.int .u64 (u:Int))) C (bRowM (some (p,⟨kx,gn,⟨m,t,u⟩⟩))) 85 from ((((RC9.out.set 0 _).set 1 _).set 2 _).set 3 _).set 4 _)
        have RBa:=qh (show RowAt (((((Wz.setCell ⟨C,0,none⟩ (.int .i64 p)).setCell ⟨C,1,none⟩ (.string kx)).setCell ⟨C,2,none⟩ (.bool m)).setCell ⟨C,3,none⟩ (.string t)).setCell ⟨C,4,none⟩ (.int .u64 (u:Int))) B zRo 85 from
         ((((RB9.out.other (p:=⟨C,0,none⟩) NBC.out _).other (p:=⟨C,1,none⟩) NBC.out _).other (p:=⟨C,2,none⟩) NBC.out _).other (p:=⟨C,3,none⟩) NBC.out _).other (p:=⟨C,4,none⟩) NBC.out _)
        have BZa:=qh (show Below w.heap.size w (((((Wz.setCell ⟨C,0,none⟩ (.int .i64 p)).setCell ⟨C,1,none⟩ (.string kx)).setCell ⟨C,2,none⟩ (.bool m)).setCell ⟨C,3,none⟩ (.string t)).setCell ⟨C,4,none⟩ (.int .u64 (u:Int))) from
         ((((BZ9.out.setCell (p:=⟨C,0,none⟩) NWC.out _).setCell (p:=⟨C,1,none⟩) NWC.out _).setCell (p:=⟨C,2,none⟩) NWC.out _).setCell (p:=⟨C,3,none⟩) NWC.out _).setCell (p:=⟨C,4,none⟩) NWC.out _)
        go_wp2_with fail
        refine WZ.out.mono ?_
        rintro e w7 ⟨rfl,rfl⟩
        go_wp2_with fail
        go_roundw
        case rel=>exact ⟨i+1,some (p,⟨kx,gn,⟨m,t,u⟩⟩),by omega,rfl,by go_num,qh (by rw [<-HY2.out]; first | rfl | (rw [if_pos]; simp [*]) | simp [*]),RBa,RCa,BZa⟩
        case measure=>simp [intOf]; omega
       | true =>
        cases hl2:ltB kx (bK y) with
        | false =>
         have hb2:Op.bytesLess kx.toList (bK y).toList=false:=hl2
         go_wp2_with fail
         refine WZ.out.mono ?_
         rintro e w7 ⟨rfl,rfl⟩
         go_wp2_with fail
         go_roundw
         case rel=>exact ⟨i+1,y,by omega,(by first | rfl | rw [hy]),by go_num,qh (by rw [<-HY2.out]; first | rfl | (rw [if_neg]; simp [*]) | simp [*]),RB9,RC9,BZ9⟩
         case measure=>simp [intOf]; omega
        | true =>
         have hb2:Op.bytesLess kx.toList (bK y).toList=true:=hl2
         have k0:=RC9.out.cell 0
         have k1:=RC9.out.cell 1
         have k2:=RC9.out.cell 2
         have k3:=RC9.out.cell 3
         have k4:=RC9.out.cell 4
         simp only [bRowM,List.getElem?_cons_zero,List.getElem?_cons_succ] at k0 k1 k2 k3 k4
         have q0:=RC9.out.frozen 0
         have q1:=RC9.out.frozen 1
         have q2:=RC9.out.frozen 2
         have q3:=RC9.out.frozen 3
         have q4:=RC9.out.frozen 4
         have RCa:=qh (show RowAt (((((Wz.setCell ⟨C,0,none⟩ (.int .i64 p)).setCell ⟨C,1,none⟩ (.string kx)).setCell ⟨C,2,none⟩ (.bool m)).setCell ⟨C,3,none⟩ (.string t)).setCell ⟨C,4,none⟩ (.int .u64 (u:Int))) C (bRowM (some (p,⟨kx,gn,⟨m,t,u⟩⟩))) 85 from ((((RC9.out.set 0 _).set 1 _).set 2 _).set 3 _).set 4 _)
         have RBa:=qh (show RowAt (((((Wz.setCell ⟨C,0,none⟩ (.int .i64 p)).setCell ⟨C,1,none⟩ (.string kx)).setCell ⟨C,2,none⟩ (.bool m)).setCell ⟨C,3,none⟩ (.string t)).setCell ⟨C,4,none⟩ (.int .u64 (u:Int))) B zRo 85 from
          ((((RB9.out.other (p:=⟨C,0,none⟩) NBC.out _).other (p:=⟨C,1,none⟩) NBC.out _).other (p:=⟨C,2,none⟩) NBC.out _).other (p:=⟨C,3,none⟩) NBC.out _).other (p:=⟨C,4,none⟩) NBC.out _)
         have BZa:=qh (show Below w.heap.size w (((((Wz.setCell ⟨C,0,none⟩ (.int .i64 p)).setCell ⟨C,1,none⟩ (.string kx)).setCell ⟨C,2,none⟩ (.bool m)).setCell ⟨C,3,none⟩ (.string t)).setCell ⟨C,4,none⟩ (.int .u64 (u:Int))) from
          ((((BZ9.out.setCell (p:=⟨C,0,none⟩) NWC.out _).setCell (p:=⟨C,1,none⟩) NWC.out _).setCell (p:=⟨C,2,none⟩) NWC.out _).setCell (p:=⟨C,3,none⟩) NWC.out _).setCell (p:=⟨C,4,none⟩) NWC.out _)
         go_wp2_with fail
         refine WZ.out.mono ?_
         rintro e w7 ⟨rfl,rfl⟩
         go_wp2_with fail
         go_roundw
         case rel=>exact ⟨i+1,some (p,⟨kx,gn,⟨m,t,u⟩⟩),by omega,rfl,by go_num,qh (by rw [<-HY2.out]; first | rfl | (rw [if_pos]; simp [*]) | simp [*]),RBa,RCa,BZa⟩
         case measure=>simp [intOf]; omega
    ·go_simp
     refine hK.out _ _ ((CF.out _ (B5.out.alloc B5.out.size _))) (fun gH=>?_)
     clear hK K
     try simp only [putS]
     obtain ⟨W7,hW7⟩:=nmq (w5)
     have B7:=B5
     rw [<-hW7] at B7
     rw [<-hW7]
     obtain ⟨E,hE8⟩:=nmq (W7.heap.size)
     obtain ⟨W8,hW8⟩:=nmq (W7.alloc (.cells #[.string ⟨#[]⟩,.bool false,.bool false,.string ⟨#[]⟩,.int .u64 0] 61))
     rw [<-hW8,<-hE8]
     have B8:=qh (show Below W1.heap.size W1 W8 by rw [hW8]; exact B7.out.alloc B7.out.size _)
     have R8:=qh (show RowAt W8 E Wr.Z.cs 61 by rw [hW8,hE8]; exact RowAt.new W7 Wr.Z.cs _)
     have E8:=qh (show W1.heap.size<=E by rw [hE8]; exact B7.out.size)
     clear hW8 hE8 hW7
     have hE:=HE.out
     refine rgO 7 fun K hK=>?_
     go_simp
     refine (CC.out _ B8.out).mono ?_
     rintro e w6 ⟨rfl,hb6⟩
     clear hE
     have B6:=qh (below_then B8.out hb6)
     have R6:=qh (R8.out.below hb6)
     clear hb6 B8 R8
     refine hK.out _ _ (CF.out _ B6.out) (fun gH=>?_)
     clear hK K
     refine rgT 8 (v:=?v11) ?y11 gH ?_
     case y11=>(intro v hSw; obtain ⟨⟨y0,y1,y2⟩,y4⟩:=hSw; go_simp<;>rfl)
     refine rgT 9 (v:=?v12) ?y12 gH ?_
     case y12=>(intro v hSw; obtain ⟨⟨y0,y1,y2⟩,y4⟩:=hSw; go_simp<;>rfl)
     try simp only [putS]
     refine rgT 10 (v:=?v13) ?y13 gH ?_
     case y13=>(intro v hSw; obtain ⟨⟨y0,y1,y2⟩,y4⟩:=hSw; go_simp<;>rfl)
     try simp only [putS]
     obtain ⟨W8,hW8⟩:=nmq (w6)
     have B8:=B6
     have R8:=R6
     rw [<-hW8] at B8 R8
     rw [<-hW8]
     clear hW8
     obtain ⟨g0,g1,g2,g3,g4,e0,e1,e2,e3,e4⟩:=wrZ R8.out
     have B9:=qh (show Below W1.heap.size W1 (setW W8 E ⟨kx,gn,⟨m,t,u⟩⟩) from setW_below B8.out E8.out)
     have R9:=qh (setW_row (x:=⟨kx,gn,⟨m,t,u⟩⟩) R8.out)
     refine rgO 12 fun K hK=>?_
     go_simp
     refine hK.out _ _ (CF.out _ B9.out) (fun gH=>?_)
     clear hK K
     try simp only [putS]
     clear g0 g1 g2 g3 g4 e0 e1 e2 e3 e4
     refine rgT 13 (v:=?v14) ?y14 gH ?_
     case y14=>(intro v hSw; obtain ⟨⟨y0,y1,y2⟩,y4⟩:=hSw; go_simp<;>rfl)
     try simp only [putS]
     refine rgD ?_
     obtain ⟨Wz,hWz⟩:=nmq (setW W8 E ⟨kx,gn,⟨m,t,u⟩⟩)
     rw [<-hWz] at R9 B9
     rw [show ((((W8.setCell ⟨E,0,none⟩ (.string kx)).setCell ⟨E,1,none⟩ (.bool gn)).setCell ⟨E,2,none⟩ (.bool m)).setCell ⟨E,3,none⟩ (.string t)).setCell ⟨E,4,none⟩ (.int .u64 (u:Int))=Wz from hWz.symm]
     clear hWz R8 B8
     have RB9:=qh (rB1.out.below B9.out)
     have RC9:=qh (rC1.out.below B9.out)
     have BZ9:=qh (B1.out.trans (B9.out.mono B1.out.size))
     have x0:=R9.out.cell 0
     have x1:=R9.out.cell 1
     have x2:=R9.out.cell 2
     have x3:=R9.out.cell 3
     have x4:=R9.out.cell 4
     simp only [Wr.cs,List.getElem?_cons_zero,List.getElem?_cons_succ] at x0 x1 x2 x3 x4
     have d2:=(CF.out _ B9.out).1.2.2
     have cK:=RC9.out.cell 1
     simp only [bRowM,List.getElem?_cons_zero,List.getElem?_cons_succ] at cK
     have WZ:=qh (WI.out _ B9.out)
     cases ok with
     | false =>
      go_wp2_with fail
      go_roundw
      case rel=>exact ⟨i+1,y,by omega,(by first | rfl | rw [hy]),by go_num,qh (by rw [<-HY2.out]; first | rfl | (rw [if_neg]; simp [*]) | simp [*]),RB9,RC9,BZ9⟩
      case measure=>simp [intOf]; omega
     | true =>
      cases hI:inTo to kx with
      | false =>
       rw [hI] at WZ
       go_wp2_with fail
       refine WZ.out.mono ?_
       rintro e w7 ⟨rfl,rfl⟩
       go_wp2_with fail
       go_roundw
       case rel=>exact ⟨i+1,y,by omega,(by first | rfl | rw [hy]),by go_num,qh (by rw [<-HY2.out]; first | rfl | (rw [if_neg]; simp [*]) | simp [*]),RB9,RC9,BZ9⟩
       case measure=>simp [intOf]; omega
      | true =>
       rw [hI] at WZ
       cases hy:y.isSome with
       | false =>
        have k0:=RC9.out.cell 0
        have k1:=RC9.out.cell 1
        have k2:=RC9.out.cell 2
        have k3:=RC9.out.cell 3
        have k4:=RC9.out.cell 4
        simp only [bRowM,List.getElem?_cons_zero,List.getElem?_cons_succ] at k0 k1 k2 k3 k4
        have q0:=RC9.out.frozen 0
        have q1:=RC9.out.frozen 1
        have q2:=RC9.out.frozen 2
        have q3:=RC9.out.frozen 3
        have q4:=RC9.out.frozen 4
        have RCa:=qh (show RowAt (((((Wz.setCell ⟨C,0,none⟩ (.int .i64 p)).setCell ⟨C,1,none⟩ (.string kx)).setCell ⟨C,2,none⟩ (.bool m)).setCell ⟨C,3,none⟩ (.string t)).setCell ⟨C,4,none⟩ (.int .u64 (u:Int))) C (bRowM (some (p,⟨kx,gn,⟨m,t,u⟩⟩))) 85 from ((((RC9.out.set 0 _).set 1 _).set 2 _).set 3 _).set 4 _)
        have RBa:=qh (show RowAt (((((Wz.setCell ⟨C,0,none⟩ (.int .i64 p)).setCell ⟨C,1,none⟩ (.string kx)).setCell ⟨C,2,none⟩ (.bool m)).setCell ⟨C,3,none⟩ (.string t)).setCell ⟨C,4,none⟩ (.int .u64 (u:Int))) B zRo 85 from
         ((((RB9.out.other (p:=⟨C,0,none⟩) NBC.out _).other (p:=⟨C,1,none⟩) NBC.out _).other (p:=⟨C,2,none⟩) NBC.out _).other (p:=⟨C,3,none⟩) NBC.out _).other (p:=⟨C,4,none⟩) NBC.out _)
        have BZa:=qh (show Below w.heap.size w (((((Wz.setCell ⟨C,0,none⟩ (.int .i64 p)).setCell ⟨C,1,none⟩ (.string kx)).setCell ⟨C,2,none⟩ (.bool m)).setCell ⟨C,3,none⟩ (.string t)).setCell ⟨C,4,none⟩ (.int .u64 (u:Int))) from
         ((((BZ9.out.setCell (p:=⟨C,0,none⟩) NWC.out _).setCell (p:=⟨C,1,none⟩) NWC.out _).setCell (p:=⟨C,2,none⟩) NWC.out _).setCell (p:=⟨C,3,none⟩) NWC.out _).setCell (p:=⟨C,4,none⟩) NWC.out _)
        go_wp2_with fail
        refine WZ.out.mono ?_
        rintro e w7 ⟨rfl,rfl⟩
        go_wp2_with fail
        go_roundw
        case rel=>exact ⟨i+1,some (p,⟨kx,gn,⟨m,t,u⟩⟩),by omega,rfl,by go_num,qh (by rw [<-HY2.out]; first | rfl | (rw [if_pos]; simp [*]) | simp [*]),RBa,RCa,BZa⟩
        case measure=>simp [intOf]; omega
       | true =>
        cases hl2:ltB kx (bK y) with
        | false =>
         have hb2:Op.bytesLess kx.toList (bK y).toList=false:=hl2
         go_wp2_with fail
         refine WZ.out.mono ?_
         rintro e w7 ⟨rfl,rfl⟩
         go_wp2_with fail
         go_roundw
         case rel=>exact ⟨i+1,y,by omega,(by first | rfl | rw [hy]),by go_num,qh (by rw [<-HY2.out]; first | rfl | (rw [if_neg]; simp [*]) | simp [*]),RB9,RC9,BZ9⟩
         case measure=>simp [intOf]; omega
        | true =>
         have hb2:Op.bytesLess kx.toList (bK y).toList=true:=hl2
         have k0:=RC9.out.cell 0
         have k1:=RC9.out.cell 1
         have k2:=RC9.out.cell 2
         have k3:=RC9.out.cell 3
         have k4:=RC9.out.cell 4
         simp only [bRowM,List.getElem?_cons_zero,List.getElem?_cons_succ] at k0 k1 k2 k3 k4
         have q0:=RC9.out.frozen 0
         have q1:=RC9.out.frozen 1
         have q2:=RC9.out.frozen 2
         have q3:=RC9.out.frozen 3
         have q4:=RC9.out.frozen 4
         have RCa:=qh (show RowAt (((((Wz.setCell ⟨C,0,none⟩ (.int .i64 p)).setCell ⟨C,1,none⟩ (.string kx)).setCell ⟨C,2,none⟩ (.bool m)).setCell ⟨C,3,none⟩ (.string t)).setCell ⟨C,4,none⟩ (.int .u64 (u:Int))) C (bRowM (some (p,⟨kx,gn,⟨m,t,u⟩⟩))) 85 from ((((RC9.out.set 0 _).set 1 _).set 2 _).set 3 _).set 4 _)
         have RBa:=qh (show RowAt (((((Wz.setCell ⟨C,0,none⟩ (.int .i64 p)).setCell ⟨C,1,none⟩ (.string kx)).setCell ⟨C,2,none⟩ (.bool m)).setCell ⟨C,3,none⟩ (.string t)).setCell ⟨C,4,none⟩ (.int .u64 (u:Int))) B zRo 85 from
          ((((RB9.out.other (p:=⟨C,0,none⟩) NBC.out _).other (p:=⟨C,1,none⟩) NBC.out _).other (p:=⟨C,2,none⟩) NBC.out _).other (p:=⟨C,3,none⟩) NBC.out _).other (p:=⟨C,4,none⟩) NBC.out _)
         have BZa:=qh (show Below w.heap.size w (((((Wz.setCell ⟨C,0,none⟩ (.int .i64 p)).setCell ⟨C,1,none⟩ (.string kx)).setCell ⟨C,2,none⟩ (.bool m)).setCell ⟨C,3,none⟩ (.string t)).setCell ⟨C,4,none⟩ (.int .u64 (u:Int))) from
          ((((BZ9.out.setCell (p:=⟨C,0,none⟩) NWC.out _).setCell (p:=⟨C,1,none⟩) NWC.out _).setCell (p:=⟨C,2,none⟩) NWC.out _).setCell (p:=⟨C,3,none⟩) NWC.out _).setCell (p:=⟨C,4,none⟩) NWC.out _)
         go_wp2_with fail
         refine WZ.out.mono ?_
         rintro e w7 ⟨rfl,rfl⟩
         go_wp2_with fail
         go_roundw
         case rel=>exact ⟨i+1,some (p,⟨kx,gn,⟨m,t,u⟩⟩),by omega,rfl,by go_num,qh (by rw [<-HY2.out]; first | rfl | (rw [if_pos]; simp [*]) | simp [*]),RBa,RCa,BZa⟩
         case measure=>simp [intOf]; omega
   ·go_simp
    refine hK.out _ _ ((CF.out _ (BD.out.alloc BD.out.size _))) (fun gH=>?_)
    clear hK K
    try simp only [putS]
    obtain ⟨W7,hW7⟩:=nmq (Wd)
    have B7:=BD
    rw [<-hW7] at B7
    rw [<-hW7]
    obtain ⟨E,hE8⟩:=nmq (W7.heap.size)
    obtain ⟨W8,hW8⟩:=nmq (W7.alloc (.cells #[.string ⟨#[]⟩,.bool false,.bool false,.string ⟨#[]⟩,.int .u64 0] 61))
    rw [<-hW8,<-hE8]
    have B8:=qh (show Below W1.heap.size W1 W8 by rw [hW8]; exact B7.out.alloc B7.out.size _)
    have R8:=qh (show RowAt W8 E Wr.Z.cs 61 by rw [hW8,hE8]; exact RowAt.new W7 Wr.Z.cs _)
    have E8:=qh (show W1.heap.size<=E by rw [hE8]; exact B7.out.size)
    clear hW8 hE8 hW7
    refine rgO 2 fun K hK=>?_
    go_simp
    refine (XB.out _ B8.out).mono ?_
    rintro e w5 ⟨rfl,hb5⟩
    have B5:=qh (below_then B8.out hb5)
    have R5:=qh (R8.out.below hb5)
    clear hb5 B8 R8
    refine hK.out _ _ (CF.out _ B5.out) (fun gH=>?_)
    clear hK K
    try simp only [putS]
    have hE:=HE.out
    refine rgO 7 fun K hK=>?_
    go_simp
    refine (CC.out _ B5.out).mono ?_
    rintro e w6 ⟨rfl,hb6⟩
    clear hE
    have B6:=qh (below_then B5.out hb6)
    have R6:=qh (R5.out.below hb6)
    clear hb6
    refine hK.out _ _ (CF.out _ B6.out) (fun gH=>?_)
    clear hK K
    refine rgT 8 (v:=?v15) ?y15 gH ?_
    case y15=>(intro v hSw; obtain ⟨⟨y0,y1,y2⟩,y4⟩:=hSw; go_simp<;>rfl)
    refine rgT 9 (v:=?v16) ?y16 gH ?_
    case y16=>(intro v hSw; obtain ⟨⟨y0,y1,y2⟩,y4⟩:=hSw; go_simp<;>rfl)
    try simp only [putS]
    refine rgT 10 (v:=?v17) ?y17 gH ?_
    case y17=>(intro v hSw; obtain ⟨⟨y0,y1,y2⟩,y4⟩:=hSw; go_simp<;>rfl)
    try simp only [putS]
    obtain ⟨W8,hW8⟩:=nmq (w6)
    have B8:=B6
    have R8:=R6
    rw [<-hW8] at B8 R8
    rw [<-hW8]
    clear hW8
    obtain ⟨g0,g1,g2,g3,g4,e0,e1,e2,e3,e4⟩:=wrZ R8.out
    have B9:=qh (show Below W1.heap.size W1 (setW W8 E ⟨kx,gn,⟨m,t,u⟩⟩) from setW_below B8.out E8.out)
    have R9:=qh (setW_row (x:=⟨kx,gn,⟨m,t,u⟩⟩) R8.out)
    refine rgO 12 fun K hK=>?_
    go_simp
    refine hK.out _ _ (CF.out _ B9.out) (fun gH=>?_)
    clear hK K
    try simp only [putS]
    clear g0 g1 g2 g3 g4 e0 e1 e2 e3 e4
    refine rgT 13 (v:=?v18) ?y18 gH ?_
    case y18=>(intro v hSw; obtain ⟨⟨y0,y1,y2⟩,y4⟩:=hSw; go_simp<;>rfl)
    try simp only [putS]
    refine rgD ?_
    obtain ⟨Wz,hWz⟩:=nmq (setW W8 E ⟨kx,gn,⟨m,t,u⟩⟩)
    rw [<-hWz] at R9 B9
    rw [show ((((W8.setCell ⟨E,0,none⟩ (.string kx)).setCell ⟨E,1,none⟩ (.bool gn)).setCell ⟨E,2,none⟩ (.bool m)).setCell ⟨E,3,none⟩ (.string t)).setCell ⟨E,4,none⟩ (.int .u64 (u:Int))=Wz from hWz.symm]
    clear hWz R8 B8
    have RB9:=qh (rB1.out.below B9.out)
    have RC9:=qh (rC1.out.below B9.out)
    have BZ9:=qh (B1.out.trans (B9.out.mono B1.out.size))
    have x0:=R9.out.cell 0
    have x1:=R9.out.cell 1
    have x2:=R9.out.cell 2
    have x3:=R9.out.cell 3
    have x4:=R9.out.cell 4
    simp only [Wr.cs,List.getElem?_cons_zero,List.getElem?_cons_succ] at x0 x1 x2 x3 x4
    have d2:=(CF.out _ B9.out).1.2.2
    have cK:=RC9.out.cell 1
    simp only [bRowM,List.getElem?_cons_zero,List.getElem?_cons_succ] at cK
    have WZ:=qh (WI.out _ B9.out)
    cases ok with
    | false =>
     go_wp2_with fail
     go_roundw
     case rel=>exact ⟨i+1,y,by omega,(by first | rfl | rw [hy]),by go_num,qh (by rw [<-HY2.out]; first | rfl | (rw [if_neg]; simp [*]) | simp [*]),RB9,RC9,BZ9⟩
     case measure=>simp [intOf]; omega
    | true =>
     cases hI:inTo to kx with
     | false =>
      rw [hI] at WZ
      go_wp2_with fail
      refine WZ.out.mono ?_
      rintro e w7 ⟨rfl,rfl⟩
      go_wp2_with fail
      go_roundw
      case rel=>exact ⟨i+1,y,by omega,(by first | rfl | rw [hy]),by go_num,qh (by rw [<-HY2.out]; first | rfl | (rw [if_neg]; simp [*]) | simp [*]),RB9,RC9,BZ9⟩
      case measure=>simp [intOf]; omega
     | true =>
      rw [hI] at WZ
      cases hy:y.isSome with
      | false =>
       have k0:=RC9.out.cell 0
       have k1:=RC9.out.cell 1
       have k2:=RC9.out.cell 2
       have k3:=RC9.out.cell 3
       have k4:=RC9.out.cell 4
       simp only [bRowM,List.getElem?_cons_zero,List.getElem?_cons_succ] at k0 k1 k2 k3 k4
       have q0:=RC9.out.frozen 0
       have q1:=RC9.out.frozen 1
       have q2:=RC9.out.frozen 2
       have q3:=RC9.out.frozen 3
       have q4:=RC9.out.frozen 4
       have RCa:=qh (show RowAt (((((Wz.setCell ⟨C,0,none⟩ (.int .i64 p)).setCell ⟨C,1,none⟩ (.string kx)).setCell ⟨C,2,none⟩ (.bool m)).setCell ⟨C,3,none⟩ (.string t)).setCell ⟨C,4,none⟩ (.int .u64 (u:Int))) C (bRowM (some (p,⟨kx,gn,⟨m,t,u⟩⟩))) 85 from ((((RC9.out.set 0 _).set 1 _).set 2 _).set 3 _).set 4 _)
       have RBa:=qh (show RowAt (((((Wz.setCell ⟨C,0,none⟩ (.int .i64 p)).setCell ⟨C,1,none⟩ (.string kx)).setCell ⟨C,2,none⟩ (.bool m)).setCell ⟨C,3,none⟩ (.string t)).setCell ⟨C,4,none⟩ (.int .u64 (u:Int))) B zRo 85 from
        ((((RB9.out.other (p:=⟨C,0,none⟩) NBC.out _).other (p:=⟨C,1,none⟩) NBC.out _).other (p:=⟨C,2,none⟩) NBC.out _).other (p:=⟨C,3,none⟩) NBC.out _).other (p:=⟨C,4,none⟩) NBC.out _)
       have BZa:=qh (show Below w.heap.size w (((((Wz.setCell ⟨C,0,none⟩ (.int .i64 p)).setCell ⟨C,1,none⟩ (.string kx)).setCell ⟨C,2,none⟩ (.bool m)).setCell ⟨C,3,none⟩ (.string t)).setCell ⟨C,4,none⟩ (.int .u64 (u:Int))) from
        ((((BZ9.out.setCell (p:=⟨C,0,none⟩) NWC.out _).setCell (p:=⟨C,1,none⟩) NWC.out _).setCell (p:=⟨C,2,none⟩) NWC.out _).setCell (p:=⟨C,3,none⟩) NWC.out _).setCell (p:=⟨C,4,none⟩) NWC.out _)
       go_wp2_with fail
       refine WZ.out.mono ?_
       rintro e w7 ⟨rfl,rfl⟩
       go_wp2_with fail
       go_roundw
       case rel=>exact ⟨i+1,some (p,⟨kx,gn,⟨m,t,u⟩⟩),by omega,rfl,by go_num,qh (by rw [<-HY2.out]; first | rfl | (rw [if_pos]; simp [*]) | simp [*]),RBa,RCa,BZa⟩
       case measure=>simp [intOf]; omega
      | true =>
       cases hl2:ltB kx (bK y) with
       | false =>
        have hb2:Op.bytesLess kx.toList (bK y).toList=false:=hl2
        go_wp2_with fail
        refine WZ.out.mono ?_
        rintro e w7 ⟨rfl,rfl⟩
        go_wp2_with fail
        go_roundw
        case rel=>exact ⟨i+1,y,by omega,(by first | rfl | rw [hy]),by go_num,qh (by rw [<-HY2.out]; first | rfl | (rw [if_neg]; simp [*]) | simp [*]),RB9,RC9,BZ9⟩
        case measure=>simp [intOf]; omega
       | true =>
        have hb2:Op.bytesLess kx.toList (bK y).toList=true:=hl2
        have k0:=RC9.out.cell 0
        have k1:=RC9.out.cell 1
        have k2:=RC9.out.cell 2
        have k3:=RC9.out.cell 3
        have k4:=RC9.out.cell 4
        simp only [bRowM,List.getElem?_cons_zero,List.getElem?_cons_succ] at k0 k1 k2 k3 k4
        have q0:=RC9.out.frozen 0
        have q1:=RC9.out.frozen 1
        have q2:=RC9.out.frozen 2
        have q3:=RC9.out.frozen 3
        have q4:=RC9.out.frozen 4
        have RCa:=qh (show RowAt (((((Wz.setCell ⟨C,0,none⟩ (.int .i64 p)).setCell ⟨C,1,none⟩ (.string kx)).setCell ⟨C,2,none⟩ (.bool m)).setCell ⟨C,3,none⟩ (.string t)).setCell ⟨C,4,none⟩ (.int .u64 (u:Int))) C (bRowM (some (p,⟨kx,gn,⟨m,t,u⟩⟩))) 85 from ((((RC9.out.set 0 _).set 1 _).set 2 _).set 3 _).set 4 _)
        have RBa:=qh (show RowAt (((((Wz.setCell ⟨C,0,none⟩ (.int .i64 p)).setCell ⟨C,1,none⟩ (.string kx)).setCell ⟨C,2,none⟩ (.bool m)).setCell ⟨C,3,none⟩ (.string t)).setCell ⟨C,4,none⟩ (.int .u64 (u:Int))) B zRo 85 from
         ((((RB9.out.other (p:=⟨C,0,none⟩) NBC.out _).other (p:=⟨C,1,none⟩) NBC.out _).other (p:=⟨C,2,none⟩) NBC.out _).other (p:=⟨C,3,none⟩) NBC.out _).other (p:=⟨C,4,none⟩) NBC.out _)
        have BZa:=qh (show Below w.heap.size w (((((Wz.setCell ⟨C,0,none⟩ (.int .i64 p)).setCell ⟨C,1,none⟩ (.string kx)).setCell ⟨C,2,none⟩ (.bool m)).setCell ⟨C,3,none⟩ (.string t)).setCell ⟨C,4,none⟩ (.int .u64 (u:Int))) from
         ((((BZ9.out.setCell (p:=⟨C,0,none⟩) NWC.out _).setCell (p:=⟨C,1,none⟩) NWC.out _).setCell (p:=⟨C,2,none⟩) NWC.out _).setCell (p:=⟨C,3,none⟩) NWC.out _).setCell (p:=⟨C,4,none⟩) NWC.out _)
        go_wp2_with fail
        refine WZ.out.mono ?_
        rintro e w7 ⟨rfl,rfl⟩
        go_wp2_with fail
        go_roundw
        case rel=>exact ⟨i+1,some (p,⟨kx,gn,⟨m,t,u⟩⟩),by omega,rfl,by go_num,qh (by rw [<-HY2.out]; first | rfl | (rw [if_pos]; simp [*]) | simp [*]),RBa,RCa,BZa⟩
        case measure=>simp [intOf]; omega
  ·have hin:i=n:=by omega
   subst hin
   have TY:=HT.out
   rw [show nxt ss to key place=y by rw [HY.out,HN.out,List.take_length]] at TY
   have HTY:=qh TY
   have f0:=RB.out.frozen 0
   have f1:=RB.out.frozen 1
   have f2:=RB.out.frozen 2
   have f3:=RB.out.frozen 3
   have f4:=RB.out.frozen 4
   have b0:=RB.out.cell 0
   have b1:=RB.out.cell 1
   have b2:=RB.out.cell 2
   have b3:=RB.out.cell 3
   have b4:=RB.out.cell 4
   have k0:=RC.out.cell 0
   have k1:=RC.out.cell 1
   have k2:=RC.out.cell 2
   have k3:=RC.out.cell 3
   have k4:=RC.out.cell 4
   simp only [bRowM,List.getElem?_cons_zero,List.getElem?_cons_succ] at b0 b1 b2 b3 b4 k0 k1 k2 k3 k4
   obtain ⟨Wf,hWf⟩:=nmq (((((wr.setCell ⟨B,0,none⟩ (.int .i64 (bP y))).setCell ⟨B,1,none⟩ (.string (bK y))).setCell ⟨B,2,none⟩ (.bool (bV y).num)).setCell ⟨B,3,none⟩ (.string (bV y).txt)).setCell ⟨B,4,none⟩ (.int .u64 ((bV y).bits:Int)))
   have RF:=qh (show RowAt Wf B (bRowM y) 85 by rw [hWf]; exact ((((RB.out.set 0 _).set 1 _).set 2 _).set 3 _).set 4 _)
   have BF:=qh (show Below w.heap.size w Wf by
    have hb:w.heap.size<=B:=by have:=HB.out; omega
    rw [hWf]; exact ((((BR.out.setCell (p:=⟨B,0,none⟩) hb _).setCell (p:=⟨B,1,none⟩) hb _).setCell (p:=⟨B,2,none⟩) hb _).setCell (p:=⟨B,3,none⟩) hb _).setCell (p:=⟨B,4,none⟩) hb _)
   have HWf:=qh hWf
   clear hWf hi q TY
   go_wp2_with fail
   rw [<-HWf.out]
   refine bodyPost_ret (results_cell_tmp rfl _ _ B _ _ _ rfl RF.out Tryz.underlying85 rfl (by kernel_rfl)) rfl ?_
   exact ⟨by rw [HTY.out]; rfl,BF.out⟩

end Go.Proofs.YtoljhoabbaigdaaGreat

namespace Go.Proofs.YtoljhoabbaigdaaGreat
open Go.RowKit

structure Rr where
 room:Int
 key:ByteArray
 val:Val
namespace Rr
def cs (x:Rr):List Value:=[.int .i64 x.room,.string x.key,.bool x.val.num,.string x.val.txt,.int .u64 (x.val.bits:Int)]
def v (x:Rr):Value:=.agg #[.int .i64 x.room,.string x.key,.bool x.val.num,.string x.val.txt,.int .u64 (x.val.bits:Int)]
def Z:Rr:=⟨0,⟨#[]⟩,Val.V0⟩
end Rr
theorem getD_dropRr (l:List Rr) (k j:Nat) (d:Rr):(l.drop k).getD j d=l.getD (k+j) d:=by
 rw [List.getD_eq_getElem?_getD,List.getD_eq_getElem?_getD,List.getElem?_drop]
theorem infoRr:(Tryz.prog.info? 85).map (fun i=>(i.zero,i.size,i.bytes))=some (some Rr.Z.v,5,56):=by kernel_rfl
def rrcs (l:List Rr):List Value:=l.flatMap Rr.cs
def SlRr (w:World) (A:Option Addr) (l:List Rr):Prop :=
 0<l.length->∃ b o,A=some ⟨b,o,none⟩∧b<w.heap.size∧∀ j,j<l.length →
  w.cell? ⟨b,o+j * 5,none⟩=some (.int .i64 (l.getD j Rr.Z).room)∧w.cell? ⟨b,o+j * 5+1,none⟩=some (.string (l.getD j Rr.Z).key)∧w.cell? ⟨b,o+j * 5+2,none⟩=some (.bool (l.getD j Rr.Z).val.num) ∧
  w.cell? ⟨b,o+j * 5+3,none⟩=some (.string (l.getD j Rr.Z).val.txt)∧w.cell? ⟨b,o+j * 5+4,none⟩=some (.int .u64 ((l.getD j Rr.Z).val.bits:Int))
theorem SlRr.below {w w':World} {A:Option Addr} {l:List Rr} (h:SlRr w A l) (hb:Below w.heap.size w w'):SlRr w' A l:=fun hp=>by
 obtain ⟨b,o,e,hl,hc⟩:=h hp
 refine ⟨b,o,e,Nat.lt_of_lt_of_le hl hb.size,fun j hj=>?_⟩
 obtain ⟨c0,c1,c2,c3,c4⟩:=hc j hj
 exact ⟨(hb.cell (p:=⟨b,o+j * 5,none⟩) hl).trans c0,(hb.cell (p:=⟨b,o+j * 5+1,none⟩) hl).trans c1,(hb.cell (p:=⟨b,o+j * 5+2,none⟩) hl).trans c2,(hb.cell (p:=⟨b,o+j * 5+3,none⟩) hl).trans c3,(hb.cell (p:=⟨b,o+j * 5+4,none⟩) hl).trans c4⟩
theorem SlRr.nil (w:World) (A:Option Addr):SlRr w A []:=fun h=>absurd h (by simp)
theorem SlRr.at {w:World} {A:Option Addr} {l:List Rr} (h:SlRr w A l) {j:Nat} (hj:j<l.length):∃ b o,A=some ⟨b,o,none⟩∧b<w.heap.size ∧
  w.cell? ⟨b,o+j * 5,none⟩=some (.int .i64 (l.getD j Rr.Z).room)∧w.cell? ⟨b,o+j * 5+1,none⟩=some (.string (l.getD j Rr.Z).key)∧w.cell? ⟨b,o+j * 5+2,none⟩=some (.bool (l.getD j Rr.Z).val.num) ∧
  w.cell? ⟨b,o+j * 5+3,none⟩=some (.string (l.getD j Rr.Z).val.txt)∧w.cell? ⟨b,o+j * 5+4,none⟩=some (.int .u64 ((l.getD j Rr.Z).val.bits:Int)):=by
 obtain ⟨b,o,e,hl,hc⟩:=h (by omega)
 exact ⟨b,o,e,hl,hc j hj⟩
theorem SlRr.drop {w:World} {b o:Nat} {l:List Rr} (h:SlRr w (some ⟨b,o,none⟩) l) (k:Nat):SlRr w (some ⟨b,o+k * 5,none⟩) (l.drop k):=fun hp=>by
 rw [List.length_drop] at hp
 obtain ⟨b',o',e,hl,hc⟩:=h (by omega)
 injection e with e
 injection e with e1 e2 _
 subst e1; subst e2
 refine ⟨b,o+k * 5,rfl,hl,fun j hj=>?_⟩
 rw [List.length_drop] at hj
 have:=hc (k+j) (by omega)
 rw [getD_dropRr,show o+k * 5+j * 5=o+(k+j) * 5 by omega]
 exact this
def OwnRr (w:World) (B:Nat) (v:Value) (l:List Rr):Prop:=w.ownsRow B 85 5 v l.length (rrcs l)
section
variable {w w':World} {B:Nat} {v:Value} {l:List Rr}
theorem OwnRr.sl (h:OwnRr w B v l):∃ A c,v=.slice A l.length c∧SlRr w A l∧(0<l.length->∃ g,A=some ⟨g,0,none⟩):=by
 have h1:=h
 unfold OwnRr at h1
 rcases h.2 with ⟨rfl,h0⟩ | ⟨g,cap,cur,rfl,hB,hg,_⟩
 ·exact ⟨none,0,by rw [h0],fun hp=>by omega,fun hp=>by omega⟩
 ·refine ⟨_,cap,rfl,fun hp=>⟨g,0,rfl,(Array.getElem?_eq_some_iff.1 hg).1,fun j hj=>?_⟩,fun _=>⟨g,rfl⟩⟩
  have at_:∀ i,i<5->w.cell? ⟨g,j * 5+i,none⟩=(l.getD j Rr.Z).cs[i]?:=fun i hi=>by
   rw [h1.cellAt (j * 5+i) (by omega),List.getD_eq_getElem?_getD,List.getElem?_eq_getElem hj]
   exact flat_at (f:=Rr.cs) (n:=5) (fun _=>rfl) l j i hj hi
  rw [Nat.zero_add]
  exact ⟨at_ 0 (by decide),at_ 1 (by decide),at_ 2 (by decide),at_ 3 (by decide),at_ 4 (by decide)⟩
theorem OwnRr.sl2 (h:OwnRr w B v l):∃ A c,v=.slice A l.length c∧SlRr w A l∧l.length<=c∧(0<l.length->∃ g,A=some ⟨g,0,none⟩∧B<=g):=by
 obtain ⟨A,c,e,hs,_⟩:=h.sl
 rcases h.2 with ⟨e2,h0⟩ | ⟨g,cap,cur,e2,hB,hg,hc,_⟩
 ·exact ⟨A,c,e,hs,by omega,fun hp=>by omega⟩
 ·rw [e] at e2
  injection e2 with e3 _ e4
  exact ⟨A,c,e,hs,by rw [e4]; exact hc,fun _=>⟨g,e3,hB⟩⟩
theorem OwnRr.below (h:OwnRr w B v l) (hb:Below w.heap.size w w'):OwnRr w' B v l:=by
 rcases h with ⟨h1,h2⟩
 refine ⟨h1,?_⟩
 rcases h2 with ⟨rfl,h0⟩ | ⟨g,cap,cur,rfl,hB,hg,r⟩
 ·exact .inl ⟨rfl,h0⟩
 ·refine .inr ⟨g,cap,cur,rfl,hB,?_,r⟩
  have hl:g<w.heap.size:=(Array.getElem?_eq_some_iff.1 hg).1
  rw [hb.block g hl]; exact hg
theorem OwnRr.alloc (h:OwnRr w B v l) (o:Obj):OwnRr (w.alloc o) B v l:=World.ownsRow.alloc h o
theorem OwnRr.lt (h:OwnRr w B v l):∀ k,v.ownBlock=some k->B<=k∧k<w.heap.size:=World.ownsRow.lt h
theorem OwnRr.made (w:World) (hB:B<=w.heap.size):OwnRr (w.alloc (.cells #[] 85)) B (.slice (some ⟨w.heap.size,0,none⟩) 0 0) [] :=
 World.ownsRow_made w #[] 0 hB (Nat.zero_le _) (by simp)
end
theorem wp_putRr {w:World} {B:Nat} {ops:Array Oper} {rest:List Oper} {o:Oper} {a:Act} {Q:Exit->Act->World->Prop} (hgd:o.guard=none) (s x:Operand)
  (ho:o.op=.call { callee:=.builtin .append,args:=#[s,x],argTypes:=#[48,48] })
  (v:Value) (l:List Rr) (hs:a.eval s=v) (hown:OwnRr w B v l) (hB:B<=w.heap.size) (g:Nat) (y:Rr) (hx:a.eval x=.slice (some ⟨g,0,none⟩) 1 1)
  (hc:∀ i,i<5->w.cell? ⟨g,i,none⟩=y.cs[i]?) (hl:l.length<=1000000)
  (h:∀ v' w',OwnRr w' B v' (l++[y])->w.grownBy w' v.ownBlock->wpList Tryz.prog ops Q rest (a.put o.dst v') w'):wpList Tryz.prog ops Q (o :: rest) a w:=by
 obtain ⟨i0,hi,hz0,hz1,hz2⟩:=info_parts infoRr
 refine wpList_append_own_at w hgd s x 48 ho B 85 i0 _ 5 56 Tryz.underlying48 hi hz0 hz1 hz2 rfl (by decide) v l.length _ hs hown ⟨g,0,none⟩ 1 1 y.cs hx rfl ?_ ?_
  (by unfold maxLen; omega) (by omega) hB ?_
 ·intro j u hj
  have hj5:j<5:=(List.getElem?_eq_some_iff.1 hj).1
  rw [show (⟨g,0,none⟩:Addr).add j=⟨g,j,none⟩ by simp [Addr.add]; omega,hc j hj5,hj]
 ·intro u hu
  unfold Rr.cs at hu
  simp at hu
  rcases hu with rfl | rfl | rfl | rfl | rfl<;>rfl
 ·intro v' w' h1 h2 _ _
  refine h v' w' ?_ h2
  have e:rrcs l++y.cs=rrcs (l++[y]):=by unfold rrcs; simp
  rw [e] at h1
  unfold OwnRr
  rw [List.length_append]
  exact h1

end Go.Proofs.YtoljhoabbaigdaaGreat

namespace Go.Proofs.YtoljhoabbaigdaaGreat
open Go.RowKit
attribute [local go_sem] Oper.semAt_some

def rr (y:Int × Wr):Rr:=⟨y.1,y.2.key,y.2.val⟩
def lenV (v:Value):Nat:=match v with | .slice _ n _=>n | _=>0
theorem xToldNilM (w:World):Calls Tryz.prog 17 #[.pointer none] w fun e w'=>e=.returned (.int .i64 0)∧Below w.heap.size w w':=by
 have B0:=qh (Below.refl w.heap.size w)
 go_enter Tryz.func17,Tryz.ntmps17
 go_wp2_with fail
 go_ret
 exact ⟨rfl,B0.out⟩
theorem xStepNil (n:Int) (w:World):Calls Tryz.prog 16 #[.pointer none,.int .i64 n] w fun e w'=>e=.returned (.tuple #[.slice none 0 0,.bool false,.int .i64 2])∧Below w.heap.size w w':=by
 have B0:=qh (Below.refl w.heap.size w)
 go_enter Tryz.func16,Tryz.ntmps16
 go_wp2_with fail
 go_ret3
 exact ⟨rfl,B0.out⟩
theorem xStepArg (b:Nat) (n:Int) (hn:n<1) (w:World):Calls Tryz.prog 16 #[.pointer (some ⟨b,0,none⟩),.int .i64 n] w fun e w'=>e=.returned (.tuple #[.slice none 0 0,.bool false,.int .i64 1])∧Below w.heap.size w w':=by
 have B0:=qh (Below.refl w.heap.size w)
 go_enter Tryz.func16,Tryz.ntmps16
 go_wp2_with fail
 go_ret3
 exact ⟨rfl,B0.out⟩

theorem OwnRr.chg {w w':World} {B:Nat} {v:Value} {l:List Rr} {F:Nat->Prop} (h:OwnRr w B v l) (hc:Chg F w w') (hn:∀ k,B<=k->¬ F k):OwnRr w' B v l:=by
 rcases h with ⟨h1,h2⟩
 refine ⟨h1,?_⟩
 rcases h2 with ⟨rfl,h0⟩ | ⟨g,cap,cur,rfl,hB,hg,r⟩
 ·exact .inl ⟨rfl,h0⟩
 ·refine .inr ⟨g,cap,cur,rfl,hB,?_,r⟩
  have hl:g<w.heap.size:=(Array.getElem?_eq_some_iff.1 hg).1
  rw [hc.block g hl (hn g hB)]; exact hg
theorem OwnRr.nil (w:World) (B:Nat):OwnRr w B (.slice none 0 0) []:=World.ownsRow_nil _ _ _ _
def StepAt (b:Nat) (sv:Value) (ss:List Src) (to:ByteArray) (limit told:Int) (key:ByteArray) (place:Int) (K:Nat) (w:World) (v:Value) (wr:World) (L:List (Int × Wr)) (key':ByteArray) (place':Int):Prop :=
 L.length<=K∧OwnRr wr w.heap.size v (L.map rr)∧CurRow wr b sv to limit (told+(L.length:Int)) key' place'∧(∀ k,run ss to (L.length+k) key place=L++run ss to k key' place')∧Chg (fun q=>q=b) w wr
def StepM (b:Nat) (sv:Value) (ss:List Src) (to:ByteArray) (limit told:Int) (key:ByteArray) (place:Int) (n:Int) (w:World) (e:Ending) (w':World):Prop :=
 ∃ (L:List (Int × Wr)) (v:Value) (key':ByteArray) (place':Int),L=run ss to (min n.toNat (limit-told).toNat) key place ∧
  e=.returned (.tuple #[v,.bool (decide (told+(L.length:Int)=limit) || decide ((L.length:Int)<n)),.int .i64 0])∧OwnRr w' w.heap.size v (L.map rr) ∧
  CurRow w' b sv to limit (told+(L.length:Int)) key' place'∧(∀ k,run ss to (L.length+k) key place=L++run ss to k key' place')∧Chg (fun q=>q=b) w w'
theorem xStepM {R:World->Prop} (hR:KeptB R) (b:Nat) (hRb:∀ W W',R W->Chg (fun q=>q=b) W W'->R W') (ss:List Src) (to:ByteArray) (limit told:Int) (key:ByteArray) (place:Int) (A:Option Addr) (c:Nat) (w:World) (n:Int) (hn:1<=n) (hn2:n<=9223372036854775807) (hr:R w)
  (hc:CurRow w b (.slice A ss.length c) to limit told key place) (hs:SlSc w A ss) (hk:∀ s,s ∈ ss->KeysAt R s.O s.bx s.f s.h∧AllAt s.bx w) (hl:ss.length<=1000)
  (hb1:∀ s,s ∈ ss->∀ r,r ∈ s.bx->r.1≠b) (hA:∀ a,A=some a->a.block≠b) (hkey:∀ s,s ∈ ss->∀ x,x ∈ s.O->x.key.size<=1000) (h0:0<=told) (h1:told<=limit) (h2:limit<=100) :
  Calls Tryz.prog 16 #[.pointer (some ⟨b,0,none⟩),.int .i64 n] w (StepM b (.slice A ss.length c) ss to limit told key place n w):=by
 obtain ⟨K,hK⟩:=nmq (min n.toNat (limit-told).toNat)
 obtain ⟨sv,hsv⟩:=nmq (Value.slice A ss.length c)
 have KEEP:∀ W,Chg (fun q=>q=b) w W->R W∧SlSc W A ss∧∀ s,s ∈ ss->KeysAt R s.O s.bx s.f s.h∧AllAt s.bx W:=fun W hW=>by
  refine ⟨hRb _ _ hr hW,fun hp=>?_,fun s hs'=>⟨(hk s hs').1,fun r hr'=>((hk s hs').2 r hr').keep hW (hb1 s hs' r hr')⟩⟩
  obtain ⟨g,o,e,hl,cc⟩:=hs hp
  have hg:g≠b:=hA _ e
  refine ⟨g,o,e,Nat.lt_of_lt_of_le hl hW.size,fun j s hj=>?_⟩
  obtain ⟨k0,k1,k2⟩:=cc j s hj
  exact ⟨hW.cell k0 hg,hW.cell k1 hg,hW.cell k2 hg⟩
 have XN:=qh (fun (W:World) (told':Int) (key':ByteArray) (place':Int) (hW:Chg (fun q=>q=b) w W) (h:CurRow W b (.slice A ss.length c) to limit told' key' place') =>
  xNextM hR b ss to limit told' key' place' A c W (KEEP W hW).1 h (KEEP W hW).2.1 (KEEP W hW).2.2 hl)
 have XP:=qh (fun (W:World) (told':Int) (key':ByteArray) (place' room:Int) (k:ByteArray) (m:Bool) (t:ByteArray) (u:Nat) (h:CurRow W b (.slice A ss.length c) to limit told' key' place') (hk:k.size<=1000) (g0:0<=told') (g1:told'<=1000) =>
  xPassM b (.slice A ss.length c) to limit told' key' place' room k m t u W h hk g0 g1)
 rw [<-hsv] at hc XP
 simp only [<-hsv] at XN
 have NK:=qh (fun (key':ByteArray) (place':Int) (y:Int × Wr) (h:nxt ss to key' place'=some y)=>nxt_key hkey h)
 have HKK:=qh hK
 have HC:=qh hc
 have BLT:=qh (RowAt.lt hc)
 have hK1:(K:Int)<=n:=by omega
 have hK2:(K:Int)<=limit-told:=by omega
 have hK3:K<=100:=by omega
 have hK4:(K:Int)=n∨(K:Int)=limit-told:=by omega
 rw [<-hsv]
 have HSV:=qh hsv
 clear KEEP hr hc hs hk hl hb1 hA hkey hRb hR hK hsv
 go_enter Tryz.func16,Tryz.ntmps16
 go_wp2_with fail
 go_loopw [7] (fun vl wr=>Hid (∃ L key' place',StepAt b sv ss to limit told key place K w vl wr L key' place')) (fun vl _=>K+1-lenV vl)
 case atStart=>exact ⟨[],key,place,Nat.zero_le _,OwnRr.nil _ _,(by rw [List.length_nil,show told+((0:Nat):Int)=told by omega]; exact HC.out),(fun k=>by rw [List.length_nil,Nat.zero_add,List.nil_append]),Chg.refl _ _⟩
 case round =>
  obtain ⟨L,key',place',hLK,hO,hCur,hRun,hChg⟩:=hrel.out
  obtain ⟨A',c',rfl,_,hcc,_⟩:=hO.sl2
  obtain ⟨j,hj⟩:=nmq (L.length)
  obtain ⟨td,htd⟩:∃ td:Int,td=told+(L.length:Int):=⟨_,rfl⟩
  have hml:(L.map rr).length=j:=by rw [List.length_map,hj]
  have c2:=RowAt.cell hCur 2
  have c3:=RowAt.cell hCur 3
  simp only [geS] at c2 c3
  rw [<-htd] at c3
  rw [hml]
  have END:=qh (fun (W:World) (hd:L=run ss to K key place) (h1:OwnRr W w.heap.size (.slice A' j c') (L.map rr)) (h2:CurRow W b sv to limit td key' place') (h3:Chg (fun q=>q=b) w W)=>show StepM b sv ss to limit told key place n w (.returned (.tuple #[.slice A' j c',.bool (decide (td=limit) || decide ((j:Int)<n)),.int .i64 0])) W from
   ⟨L,.slice A' j c',key',place',by rw [<-HKK.out]; exact hd,by rw [htd,hj],h1,by rw [<-htd]; exact h2,hRun,h3⟩)
  rw [hml] at hO
  rw [<-htd] at hCur
  have td0:0<=td:=by omega
  have td1:td<=100:=by omega
  have j1:j<=100:=by omega
  have CF:=qh (fun W (h:CurRow W b sv to limit td key' place')=>show W.cell? ⟨b,2,none⟩=some (.int .i64 limit)∧W.cell? ⟨b,3,none⟩=some (.int .i64 td) from ⟨RowAt.cell h 2,RowAt.cell h 3⟩)
  have OD:=qh (show OwnRr wr.drew w.heap.size (.slice A' j c') (L.map rr) from hO.chg ((Chg.refl (fun _=>False) _).drew) (fun _ _ h=>h))
  have CD:=qh (show CurRow wr.drew b sv to limit td key' place' from RowAt.drewN hCur 1)
  have GD:=qh (show Chg (fun q=>q=b) w wr.drew from hChg.drew)
  by_cases q:j<K
  ·have l1:(j:Int)<n:=by omega
   have l2:td<limit:=by omega
   have XN2:=qh (XN.out wr.drew td key' place' GD.out CD.out)
   have HRun:=qh hRun
   have HJ:=qh hj
   have HTD:=qh htd
   have HML:=qh hml
   cases hN:nxt ss to key' place' with
   | none =>
    have ljk:L=run ss to K key place:=by
     have:=hRun (K-j)
     rw [run_none hN,List.append_nil,show L.length+(K-j)=K by omega] at this
     exact this.symm
    have LJK:=qh ljk
    rw [hN] at XN2
    replace XN2:Hid (Calls Tryz.prog 37 #[.pointer (some ⟨b,0,none⟩)] wr.drew fun e w'=>e=.returned (.tuple #[.agg #[.int .i64 0,.string ⟨#[]⟩,.bool false,.string ⟨#[]⟩,.int .u64 0],.bool false])∧Below wr.drew.heap.size wr.drew w'):=XN2
    clear hO hCur hRun hChg hml hLK hcc hrel hj htd hN ljk
    go_wp2_with fail
    refine wp_region_held_drew (S:=(fun W=>W.cell? ⟨b,2,none⟩=some (.int .i64 limit)∧W.cell? ⟨b,3,none⟩=some (.int .i64 td))) (by kernel_rfl) (CF.out _ CD.out) (fun gH=>?_)
    refine rgT 0 (v:=?v1) ?y1 gH ?_
    case y1=>(intro v hSw; go_simp<;>rfl)
    refine rgT 1 (v:=?v2) ?y2 gH ?_
    case y2=>(intro v hSw; go_simp<;>rfl)
    refine rgT 2 (v:=?v3) ?y3 gH ?_
    case y3=>(intro v hSw; go_simp<;>rfl)
    try simp only [putS]
    refine rgT 3 (v:=?v4) ?y4 gH ?_
    case y4=>(intro v hSw; go_simp<;>rfl)
    refine rgT 4 (v:=?v5) ?y5 gH ?_
    case y5=>(intro v hSw; go_simp<;>rfl)
    refine rgT 5 (v:=?v6) ?y6 gH ?_
    case y6=>(intro v hSw; go_simp<;>rfl)
    try simp only [putS]
    refine rgT 6 (v:=?v7) ?y7 gH ?_
    case y7=>(intro v hSw; go_simp<;>rfl)
    refine rgT 7 (v:=?v8) ?y8 gH ?_
    case y8=>(intro v hSw; go_simp<;>rfl)
    refine rgT 8 (v:=?v9) ?y9 gH ?_
    case y9=>(intro v hSw; go_simp<;>rfl)
    try simp only [putS]
    refine rgT 9 (v:=?v10) ?y10 gH ?_
    case y10=>(intro v hSw; go_simp<;>rfl)
    refine rgT 10 (v:=?v11) ?y11 gH ?_
    case y11=>(intro v hSw; go_simp<;>rfl)
    refine rgT 11 (v:=?v12) ?y12 gH ?_
    case y12=>(intro v hSw; go_simp<;>rfl)
    try simp only [putS]
    refine rgT 12 (v:=?v13) ?y13 gH ?_
    case y13=>(intro v hSw; go_simp<;>rfl)
    refine rgT 13 (v:=?v14) ?y14 gH ?_
    case y14=>(intro v hSw; go_simp<;>rfl)
    refine rgT 14 (v:=?v15) ?y15 gH ?_
    case y15=>(intro v hSw; go_simp<;>rfl)
    try simp only [putS]
    refine rgD ?_
    go_wp2_with fail
    refine XN2.out.mono ?_
    rintro e w5 ⟨rfl,hb5⟩
    obtain ⟨W6,hW6⟩:=nmq (w5.alloc (.cells #[.int .i64 0,.string ⟨#[]⟩,.bool false,.string ⟨#[]⟩,.int .u64 0] 85))
    have b6:Below wr.drew.heap.size wr.drew W6.drew:=by rw [hW6]; exact (hb5.alloc hb5.size _).drew
    have O6:=qh (OD.out.below b6)
    have C6:=qh (RowAt.below CD.out b6)
    have G6:=qh (GD.out.then (Chg.of_below (F:=fun q=>q=b) b6))
    have END2:=qh (END.out W6.drew LJK.out O6.out C6.out G6.out)
    have HW6:=qh (show w5.alloc (.cells #[.int .i64 0,.string ⟨#[]⟩,.bool false,.string ⟨#[]⟩,.int .u64 0] 85)=W6 from hW6.symm)
    have l3:(td == limit)=false:=by simp; omega
    clear hW6 b6 hb5
    go_wp2_with fail
    rw [HW6.out]
    refine wp_region_held_drew (S:=(fun W=>W.cell? ⟨b,2,none⟩=some (.int .i64 limit)∧W.cell? ⟨b,3,none⟩=some (.int .i64 td))) (by kernel_rfl) (CF.out _ C6.out) (fun gH=>?_)
    refine rgT 0 (v:=?v16) ?y16 gH ?_
    case y16=>(intro v hSw; go_simp<;>rfl)
    refine rgT 1 (v:=?v17) ?y17 gH ?_
    case y17=>(intro v hSw; go_simp<;>rfl)
    refine rgT 2 (v:=?v18) ?y18 gH ?_
    case y18=>(intro v hSw; go_simp<;>rfl)
    try simp only [putS]
    refine rgT 3 (v:=?v19) ?y19 gH ?_
    case y19=>(intro v hSw; go_simp<;>rfl)
    refine rgT 4 (v:=?v20) ?y20 gH ?_
    case y20=>(intro v hSw; go_simp<;>rfl)
    refine rgT 5 (v:=?v21) ?y21 gH ?_
    case y21=>(intro v hSw; go_simp<;>rfl)
    try simp only [putS]
    refine rgT 6 (v:=?v22) ?y22 gH ?_
    case y22=>(intro v hSw; go_simp<;>rfl)
    refine rgT 7 (v:=?v23) ?y23 gH ?_
    case y23=>(intro v hSw; go_simp<;>rfl)
    refine rgT 8 (v:=?v24) ?y24 gH ?_
    case y24=>(intro v hSw; go_simp<;>rfl)
    try simp only [putS]
    refine rgT 9 (v:=?v25) ?y25 gH ?_
    case y25=>(intro v hSw; go_simp<;>rfl)
    refine rgT 10 (v:=?v26) ?y26 gH ?_
    case y26=>(intro v hSw; go_simp<;>rfl)
    refine rgT 11 (v:=?v27) ?y27 gH ?_
    case y27=>(intro v hSw; go_simp<;>rfl)
    try simp only [putS]
    refine rgT 12 (v:=?v28) ?y28 gH ?_
    case y28=>(intro v hSw; go_simp<;>rfl)
    refine rgT 13 (v:=?v29) ?y29 gH ?_
    case y29=>(intro v hSw; go_simp<;>rfl)
    refine rgT 14 (v:=?v30) ?y30 gH ?_
    case y30=>(intro v hSw; go_simp<;>rfl)
    try simp only [putS]
    refine rgT 15 (v:=?v31) ?y31 gH ?_
    case y31=>(intro v hSw; go_simp<;>rfl)
    refine rgT 16 (v:=?v32) ?y32 gH ?_
    case y32=>(intro v hSw; go_simp<;>rfl)
    refine rgT 17 (v:=?v33) ?y33 gH ?_
    case y33=>(intro v hSw; go_simp<;>rfl)
    try simp only [putS]
    refine rgT 18 (v:=?v34) ?y34 gH ?_
    case y34=>(intro v hSw; go_simp<;>rfl)
    try simp only [putS]
    refine rgD ?_
    go_wp2_with fail
    go_ret3
    have E2:=END2.out
    rw [decide_eq_true l1,Bool.or_true] at E2
    exact E2
   | some y =>
    have KS:=qh (NK.out key' place' y hN)
    have RUN2:=qh (show ∀ k,run ss to ((L++[y]).length+k) key place=(L++[y])++run ss to k y.2.key y.1 from fun k=>by
     have:=hRun (k+1)
     rw [run_some hN] at this
     rw [List.length_append,List.length_singleton,show L.length+1+k=L.length+(k+1) by omega,this,List.append_assoc]
     rfl)
    rw [hN] at XN2
    obtain ⟨p,⟨kx,gn,⟨m,t,u⟩⟩⟩:=y
    replace XN2:Hid (Calls Tryz.prog 37 #[.pointer (some ⟨b,0,none⟩)] wr.drew fun e w'=>e=.returned (.tuple #[.agg #[.int .i64 p,.string kx,.bool m,.string t,.int .u64 (u:Int)],.bool true])∧Below wr.drew.heap.size wr.drew w'):=XN2
    have BLT2:=qh (show b<w.heap.size from BLT.out)
    clear hO hCur hRun hChg hml hLK hcc hrel hj htd hN
    go_wp2_with fail
    refine wp_region_held_drew (S:=(fun W=>W.cell? ⟨b,2,none⟩=some (.int .i64 limit)∧W.cell? ⟨b,3,none⟩=some (.int .i64 td))) (by kernel_rfl) (CF.out _ CD.out) (fun gH=>?_)
    refine rgT 0 (v:=?v35) ?y35 gH ?_
    case y35=>(intro v hSw; go_simp<;>rfl)
    refine rgT 1 (v:=?v36) ?y36 gH ?_
    case y36=>(intro v hSw; go_simp<;>rfl)
    refine rgT 2 (v:=?v37) ?y37 gH ?_
    case y37=>(intro v hSw; go_simp<;>rfl)
    try simp only [putS]
    refine rgT 3 (v:=?v38) ?y38 gH ?_
    case y38=>(intro v hSw; go_simp<;>rfl)
    refine rgT 4 (v:=?v39) ?y39 gH ?_
    case y39=>(intro v hSw; go_simp<;>rfl)
    refine rgT 5 (v:=?v40) ?y40 gH ?_
    case y40=>(intro v hSw; go_simp<;>rfl)
    try simp only [putS]
    refine rgT 6 (v:=?v41) ?y41 gH ?_
    case y41=>(intro v hSw; go_simp<;>rfl)
    refine rgT 7 (v:=?v42) ?y42 gH ?_
    case y42=>(intro v hSw; go_simp<;>rfl)
    refine rgT 8 (v:=?v43) ?y43 gH ?_
    case y43=>(intro v hSw; go_simp<;>rfl)
    try simp only [putS]
    refine rgT 9 (v:=?v44) ?y44 gH ?_
    case y44=>(intro v hSw; go_simp<;>rfl)
    refine rgT 10 (v:=?v45) ?y45 gH ?_
    case y45=>(intro v hSw; go_simp<;>rfl)
    refine rgT 11 (v:=?v46) ?y46 gH ?_
    case y46=>(intro v hSw; go_simp<;>rfl)
    try simp only [putS]
    refine rgT 12 (v:=?v47) ?y47 gH ?_
    case y47=>(intro v hSw; go_simp<;>rfl)
    refine rgT 13 (v:=?v48) ?y48 gH ?_
    case y48=>(intro v hSw; go_simp<;>rfl)
    refine rgT 14 (v:=?v49) ?y49 gH ?_
    case y49=>(intro v hSw; go_simp<;>rfl)
    try simp only [putS]
    refine rgD ?_
    go_wp2_with fail
    refine XN2.out.mono ?_
    rintro e w5 ⟨rfl,hb5⟩
    obtain ⟨E,hE⟩:=nmq (w5.heap.size)
    obtain ⟨W6,hW6⟩:=nmq (w5.alloc (.cells #[.int .i64 p,.string kx,.bool m,.string t,.int .u64 (u:Int)] 85))
    have b6:Below wr.drew.heap.size wr.drew W6:=by rw [hW6]; exact hb5.alloc hb5.size _
    have r6:RowAt W6 E [.int .i64 p,.string kx,.bool m,.string t,.int .u64 (u:Int)] 85:=by rw [hW6,hE]; exact RowAt.new w5 _ _
    have O6:=qh (OD.out.below b6)
    have C6:=qh (RowAt.below CD.out b6)
    have G6:=qh (GD.out.then (Chg.of_below (F:=fun q=>q=b) b6))
    have R6:=qh r6
    have NE:=qh (show ¬ E=b by
     have h1:=GD.out.size
     have h2:=hb5.size
     have h3:=BLT.out
     omega)
    have PX:=qh (XP.out W6 td key' place' p kx m t u C6.out KS.out td0 (by omega))
    have rc0:=(RowAt.new w5 [.int .i64 p,.string kx,.bool m,.string t,.int .u64 (u:Int)] 85).cell 0
    have rc1:=(RowAt.new w5 [.int .i64 p,.string kx,.bool m,.string t,.int .u64 (u:Int)] 85).cell 1
    have rc2:=(RowAt.new w5 [.int .i64 p,.string kx,.bool m,.string t,.int .u64 (u:Int)] 85).cell 2
    have rc3:=(RowAt.new w5 [.int .i64 p,.string kx,.bool m,.string t,.int .u64 (u:Int)] 85).cell 3
    have rc4:=(RowAt.new w5 [.int .i64 p,.string kx,.bool m,.string t,.int .u64 (u:Int)] 85).cell 4
    simp only [geS] at rc0 rc1 rc2 rc3 rc4
    have HW6:=qh (show w5.alloc (.cells #[.int .i64 p,.string kx,.bool m,.string t,.int .u64 (u:Int)] 85)=W6 from hW6.symm)
    have HE:=qh hE
    clear hW6 b6 hb5 r6 hE
    go_wp2_with fail
    rw [HW6.out,<-HE.out]
    clear rc0 rc1 rc2 rc3 rc4
    refine PX.out.mono ?_
    rintro e w7 ⟨rfl,hc7,hg7⟩
    have r7:=R6.out.keep hg7 NE.out
    have O7:=qh (O6.out.chg hg7 (fun k hk e=>by have:=BLT.out; omega))
    have C7:=qh hc7
    have G7:=qh (G6.out.then hg7)
    have s0:=r7.cell 0
    have s1:=r7.cell 1
    have s2:=r7.cell 2
    have s3:=r7.cell 3
    have s4:=r7.cell 4
    simp only [geS] at s0 s1 s2 s3 s4
    have BS:=qh (show w.heap.size<=w7.heap.size from G7.out.size)
    clear hc7 hg7 r7
    go_wp2_with (at_builtin; refine wp_putRr rfl (.tmp 39) (.tmp 41) rfl (.slice A' j c') (L.map rr) rfl (O7.out.alloc _) (Nat.le_trans BS.out (by simp)) w7.heap.size (rr (p,⟨kx,gn,⟨m,t,u⟩⟩)) rfl (fun i hi=>(RowAt.new w7 [.int .i64 p,.string kx,.bool m,.string t,.int .u64 (u:Int)] _).cell i) (by have:=HML.out; omega) ?_; intro v8 w8 ho hgr)
    have lt9:=O7.out.lt
    have C8:=RowAt.keep (RowAt.alloc C7.out (.cells #[.int .i64 p,.string kx,.bool m,.string t,.int .u64 (u:Int)] 85)) ((Chg.refl (fun k=>(Value.slice A' j c').ownBlock=some k) _).grown hgr (fun k e=>.inl e)) (fun e=>by have:=(lt9 b e).1; have:=BLT.out; omega)
    have G8:=(G7.out.alloc (.cells #[.int .i64 p,.string kx,.bool m,.string t,.int .u64 (u:Int)] 85)).grown hgr (fun k e=>.inr (lt9 k e).1)
    have LJ1:(L++[(p,(⟨kx,gn,⟨m,t,u⟩⟩:Wr))]).length=j+1:=by rw [List.length_append,List.length_singleton,<-HJ.out]
    refine ⟨⟨L++[(p,⟨kx,gn,⟨m,t,u⟩⟩)],kx,p,by rw [LJ1]; omega,by rw [List.map_append]; exact ho,?_,RUN2.out,G8⟩,?_⟩
    ·rw [LJ1,show told+((j+1:Nat):Int)=td+1 by rw [HTD.out,<-HJ.out]; omega]
     exact C8
    ·obtain ⟨A2,c2,e8,_⟩:=ho.sl2
     have l8:(L.map rr++[rr (p,⟨kx,gn,⟨m,t,u⟩⟩)]).length=j+1:=by rw [List.length_append,List.length_singleton,HML.out]
     rw [e8,l8]
     show K+1-(j+1)<K+1-j
     omega
  ·have ljk:L=run ss to K key place:=by
    have:=hRun 0
    rw [Nat.add_zero] at this
    rw [show K=L.length by omega,this]
    show L=L++[]
    rw [List.append_nil]
   have OE:=qh (show OwnRr wr.drew.drew w.heap.size (.slice A' j c') (L.map rr) from OD.out.chg ((Chg.refl (fun _=>False) _).drew) (fun _ _ h=>h))
   have CE:=qh (show CurRow wr.drew.drew b sv to limit td key' place' from RowAt.drewN CD.out 1)
   have END2:=qh (END.out wr.drew.drew ljk OE.out CE.out GD.out.drew)
   have jk:j=K:=by omega
   by_cases l1:(j:Int)<n
   ·have l2:td=limit:=by omega
    have l3:(td == limit)=true:=by simp [l2]
    clear hO hCur hRun hChg hml hLK hcc ljk END hrel hj htd jk hK4 q
    go_wp2_with fail
    refine wp_region_held_drew (S:=(fun W=>W.cell? ⟨b,2,none⟩=some (.int .i64 limit)∧W.cell? ⟨b,3,none⟩=some (.int .i64 td))) (by kernel_rfl) (CF.out _ CD.out) (fun gH=>?_)
    refine rgT 0 (v:=?v50) ?y50 gH ?_
    case y50=>(intro v hSw; go_simp<;>rfl)
    refine rgT 1 (v:=?v51) ?y51 gH ?_
    case y51=>(intro v hSw; go_simp<;>rfl)
    refine rgT 2 (v:=?v52) ?y52 gH ?_
    case y52=>(intro v hSw; go_simp<;>rfl)
    try simp only [putS]
    refine rgT 3 (v:=?v53) ?y53 gH ?_
    case y53=>(intro v hSw; go_simp<;>rfl)
    refine rgT 4 (v:=?v54) ?y54 gH ?_
    case y54=>(intro v hSw; go_simp<;>rfl)
    refine rgT 5 (v:=?v55) ?y55 gH ?_
    case y55=>(intro v hSw; go_simp<;>rfl)
    try simp only [putS]
    refine rgT 6 (v:=?v56) ?y56 gH ?_
    case y56=>(intro v hSw; go_simp<;>rfl)
    refine rgT 7 (v:=?v57) ?y57 gH ?_
    case y57=>(intro v hSw; go_simp<;>rfl)
    refine rgT 8 (v:=?v58) ?y58 gH ?_
    case y58=>(intro v hSw; go_simp<;>rfl)
    try simp only [putS]
    refine rgT 9 (v:=?v59) ?y59 gH ?_
    case y59=>(intro v hSw; go_simp<;>rfl)
    refine rgT 10 (v:=?v60) ?y60 gH ?_
    case y60=>(intro v hSw; go_simp<;>rfl)
    refine rgT 11 (v:=?v61) ?y61 gH ?_
    case y61=>(intro v hSw; go_simp<;>rfl)
    try simp only [putS]
    refine rgT 12 (v:=?v62) ?y62 gH ?_
    case y62=>(intro v hSw; go_simp<;>rfl)
    refine rgT 13 (v:=?v63) ?y63 gH ?_
    case y63=>(intro v hSw; go_simp<;>rfl)
    refine rgT 14 (v:=?v64) ?y64 gH ?_
    case y64=>(intro v hSw; go_simp<;>rfl)
    try simp only [putS]
    refine rgD ?_
    go_wp2_with fail
    refine wp_region_held_drew (S:=(fun W=>W.cell? ⟨b,2,none⟩=some (.int .i64 limit)∧W.cell? ⟨b,3,none⟩=some (.int .i64 td))) (by kernel_rfl) (CF.out _ CE.out) (fun gH=>?_)
    refine rgT 0 (v:=?v65) ?y65 gH ?_
    case y65=>(intro v hSw; go_simp<;>rfl)
    refine rgT 1 (v:=?v66) ?y66 gH ?_
    case y66=>(intro v hSw; go_simp<;>rfl)
    refine rgT 2 (v:=?v67) ?y67 gH ?_
    case y67=>(intro v hSw; go_simp<;>rfl)
    try simp only [putS]
    refine rgT 3 (v:=?v68) ?y68 gH ?_
    case y68=>(intro v hSw; go_simp<;>rfl)
    refine rgT 4 (v:=?v69) ?y69 gH ?_
    case y69=>(intro v hSw; go_simp<;>rfl)
    refine rgT 5 (v:=?v70) ?y70 gH ?_
    case y70=>(intro v hSw; go_simp<;>rfl)
    try simp only [putS]
    refine rgT 6 (v:=?v71) ?y71 gH ?_
    case y71=>(intro v hSw; go_simp<;>rfl)
    refine rgT 7 (v:=?v72) ?y72 gH ?_
    case y72=>(intro v hSw; go_simp<;>rfl)
    refine rgT 8 (v:=?v73) ?y73 gH ?_
    case y73=>(intro v hSw; go_simp<;>rfl)
    try simp only [putS]
    refine rgT 9 (v:=?v74) ?y74 gH ?_
    case y74=>(intro v hSw; go_simp<;>rfl)
    refine rgT 10 (v:=?v75) ?y75 gH ?_
    case y75=>(intro v hSw; go_simp<;>rfl)
    refine rgS 11 gH ?_
    try simp only [putS]
    refine rgS 12 gH ?_
    refine rgS 13 gH ?_
    refine rgS 14 gH ?_
    try simp only [putS]
    refine rgT 15 (v:=?v76) ?y76 gH ?_
    case y76=>(intro v hSw; go_simp<;>rfl)
    refine rgT 16 (v:=?v77) ?y77 gH ?_
    case y77=>(intro v hSw; go_simp<;>rfl)
    refine rgT 17 (v:=?v78) ?y78 gH ?_
    case y78=>(intro v hSw; go_simp<;>rfl)
    try simp only [putS]
    refine rgT 18 (v:=?v79) ?y79 gH ?_
    case y79=>(intro v hSw; go_simp<;>rfl)
    try simp only [putS]
    refine rgD ?_
    go_wp2_with fail
    go_ret3
    have E2:=END2.out
    rw [decide_eq_true l2,Bool.true_or] at E2
    exact E2
   ·have l4:(j:Int)=n:=by omega
    clear hO hCur hRun hChg hml hLK hcc ljk END hrel hj htd jk hK4 q
    by_cases l2:td=limit
    ·have l3:(td == limit)=true:=by simp [l2]
     go_wp2_with fail
     refine wp_region_held_drew (S:=(fun W=>W.cell? ⟨b,2,none⟩=some (.int .i64 limit)∧W.cell? ⟨b,3,none⟩=some (.int .i64 td))) (by kernel_rfl) (CF.out _ CD.out) (fun gH=>?_)
     refine rgT 0 (v:=?v80) ?y80 gH ?_
     case y80=>(intro v hSw; go_simp<;>rfl)
     refine rgT 1 (v:=?v81) ?y81 gH ?_
     case y81=>(intro v hSw; go_simp<;>rfl)
     refine rgT 2 (v:=?v82) ?y82 gH ?_
     case y82=>(intro v hSw; go_simp<;>rfl)
     try simp only [putS]
     refine rgT 3 (v:=?v83) ?y83 gH ?_
     case y83=>(intro v hSw; go_simp<;>rfl)
     refine rgT 4 (v:=?v84) ?y84 gH ?_
     case y84=>(intro v hSw; go_simp<;>rfl)
     refine rgS 5 gH ?_
     try simp only [putS]
     refine rgS 6 gH ?_
     refine rgS 7 gH ?_
     refine rgS 8 gH ?_
     try simp only [putS]
     refine rgS 9 gH ?_
     refine rgS 10 gH ?_
     refine rgS 11 gH ?_
     try simp only [putS]
     refine rgS 12 gH ?_
     refine rgS 13 gH ?_
     refine rgT 14 (v:=?v85) ?y85 gH ?_
     case y85=>(intro v hSw; go_simp<;>rfl)
     try simp only [putS]
     refine rgD ?_
     go_wp2_with fail
     refine wp_region_held_drew (S:=(fun W=>W.cell? ⟨b,2,none⟩=some (.int .i64 limit)∧W.cell? ⟨b,3,none⟩=some (.int .i64 td))) (by kernel_rfl) (CF.out _ CE.out) (fun gH=>?_)
     refine rgT 0 (v:=?v86) ?y86 gH ?_
     case y86=>(intro v hSw; go_simp<;>rfl)
     refine rgT 1 (v:=?v87) ?y87 gH ?_
     case y87=>(intro v hSw; go_simp<;>rfl)
     refine rgT 2 (v:=?v88) ?y88 gH ?_
     case y88=>(intro v hSw; go_simp<;>rfl)
     try simp only [putS]
     refine rgT 3 (v:=?v89) ?y89 gH ?_
     case y89=>(intro v hSw; go_simp<;>rfl)
     refine rgT 4 (v:=?v90) ?y90 gH ?_
     case y90=>(intro v hSw; go_simp<;>rfl)
     refine rgT 5 (v:=?v91) ?y91 gH ?_
     case y91=>(intro v hSw; go_simp<;>rfl)
     try simp only [putS]
     refine rgT 6 (v:=?v92) ?y92 gH ?_
     case y92=>(intro v hSw; go_simp<;>rfl)
     refine rgT 7 (v:=?v93) ?y93 gH ?_
     case y93=>(intro v hSw; go_simp<;>rfl)
     refine rgT 8 (v:=?v94) ?y94 gH ?_
     case y94=>(intro v hSw; go_simp<;>rfl)
     try simp only [putS]
     refine rgT 9 (v:=?v95) ?y95 gH ?_
     case y95=>(intro v hSw; go_simp<;>rfl)
     refine rgT 10 (v:=?v96) ?y96 gH ?_
     case y96=>(intro v hSw; go_simp<;>rfl)
     refine rgS 11 gH ?_
     try simp only [putS]
     refine rgS 12 gH ?_
     refine rgS 13 gH ?_
     refine rgS 14 gH ?_
     try simp only [putS]
     refine rgT 15 (v:=?v97) ?y97 gH ?_
     case y97=>(intro v hSw; go_simp<;>rfl)
     refine rgT 16 (v:=?v98) ?y98 gH ?_
     case y98=>(intro v hSw; go_simp<;>rfl)
     refine rgT 17 (v:=?v99) ?y99 gH ?_
     case y99=>(intro v hSw; go_simp<;>rfl)
     try simp only [putS]
     refine rgT 18 (v:=?v100) ?y100 gH ?_
     case y100=>(intro v hSw; go_simp<;>rfl)
     try simp only [putS]
     refine rgD ?_
     go_wp2_with fail
     go_ret3
     have E2:=END2.out
     rw [decide_eq_true l2,Bool.true_or] at E2
     exact E2
    ·have l3:(td == limit)=false:=by simp [l2]
     go_wp2_with fail
     refine wp_region_held_drew (S:=(fun W=>W.cell? ⟨b,2,none⟩=some (.int .i64 limit)∧W.cell? ⟨b,3,none⟩=some (.int .i64 td))) (by kernel_rfl) (CF.out _ CD.out) (fun gH=>?_)
     refine rgT 0 (v:=?v101) ?y101 gH ?_
     case y101=>(intro v hSw; go_simp<;>rfl)
     refine rgT 1 (v:=?v102) ?y102 gH ?_
     case y102=>(intro v hSw; go_simp<;>rfl)
     refine rgT 2 (v:=?v103) ?y103 gH ?_
     case y103=>(intro v hSw; go_simp<;>rfl)
     try simp only [putS]
     refine rgT 3 (v:=?v104) ?y104 gH ?_
     case y104=>(intro v hSw; go_simp<;>rfl)
     refine rgT 4 (v:=?v105) ?y105 gH ?_
     case y105=>(intro v hSw; go_simp<;>rfl)
     refine rgS 5 gH ?_
     try simp only [putS]
     refine rgS 6 gH ?_
     refine rgS 7 gH ?_
     refine rgS 8 gH ?_
     try simp only [putS]
     refine rgS 9 gH ?_
     refine rgS 10 gH ?_
     refine rgS 11 gH ?_
     try simp only [putS]
     refine rgS 12 gH ?_
     refine rgS 13 gH ?_
     refine rgT 14 (v:=?v106) ?y106 gH ?_
     case y106=>(intro v hSw; go_simp<;>rfl)
     try simp only [putS]
     refine rgD ?_
     go_wp2_with fail
     refine wp_region_held_drew (S:=(fun W=>W.cell? ⟨b,2,none⟩=some (.int .i64 limit)∧W.cell? ⟨b,3,none⟩=some (.int .i64 td))) (by kernel_rfl) (CF.out _ CE.out) (fun gH=>?_)
     refine rgT 0 (v:=?v107) ?y107 gH ?_
     case y107=>(intro v hSw; go_simp<;>rfl)
     refine rgT 1 (v:=?v108) ?y108 gH ?_
     case y108=>(intro v hSw; go_simp<;>rfl)
     refine rgT 2 (v:=?v109) ?y109 gH ?_
     case y109=>(intro v hSw; go_simp<;>rfl)
     try simp only [putS]
     refine rgT 3 (v:=?v110) ?y110 gH ?_
     case y110=>(intro v hSw; go_simp<;>rfl)
     refine rgT 4 (v:=?v111) ?y111 gH ?_
     case y111=>(intro v hSw; go_simp<;>rfl)
     refine rgT 5 (v:=?v112) ?y112 gH ?_
     case y112=>(intro v hSw; go_simp<;>rfl)
     try simp only [putS]
     refine rgT 6 (v:=?v113) ?y113 gH ?_
     case y113=>(intro v hSw; go_simp<;>rfl)
     refine rgT 7 (v:=?v114) ?y114 gH ?_
     case y114=>(intro v hSw; go_simp<;>rfl)
     refine rgT 8 (v:=?v115) ?y115 gH ?_
     case y115=>(intro v hSw; go_simp<;>rfl)
     try simp only [putS]
     refine rgT 9 (v:=?v116) ?y116 gH ?_
     case y116=>(intro v hSw; go_simp<;>rfl)
     refine rgT 10 (v:=?v117) ?y117 gH ?_
     case y117=>(intro v hSw; go_simp<;>rfl)
     refine rgT 11 (v:=?v118) ?y118 gH ?_
     case y118=>(intro v hSw; go_simp<;>rfl)
     try simp only [putS]
     refine rgT 12 (v:=?v119) ?y119 gH ?_
     case y119=>(intro v hSw; go_simp<;>rfl)
     refine rgT 13 (v:=?v120) ?y120 gH ?_
     case y120=>(intro v hSw; go_simp<;>rfl)
     refine rgT 14 (v:=?v121) ?y121 gH ?_
     case y121=>(intro v hSw; go_simp<;>rfl)
     try simp only [putS]
     refine rgT 15 (v:=?v122) ?y122 gH ?_
     case y122=>(intro v hSw; go_simp<;>rfl)
     refine rgT 16 (v:=?v123) ?y123 gH ?_
     case y123=>(intro v hSw; go_simp<;>rfl)
     refine rgT 17 (v:=?v124) ?y124 gH ?_
     case y124=>(intro v hSw; go_simp<;>rfl)
     try simp only [putS]
     refine rgT 18 (v:=?v125) ?y125 gH ?_
     case y125=>(intro v hSw; go_simp<;>rfl)
     try simp only [putS]
     refine rgD ?_
     go_wp2_with fail
     go_ret3
     have E2:=END2.out
     rw [decide_eq_false l2,decide_eq_false (show ¬ (j:Int)<n by omega),Bool.false_or] at E2
     exact E2

end Go.Proofs.YtoljhoabbaigdaaGreat

namespace Go.Proofs.YtoljhoabbaigdaaGreat
open Go.RowKit
attribute [local go_sem] Oper.semAt_some

structure So where
 rp:Option Addr
 L:Ch
 sq:Int
 p:Int
def SlSo (w:World) (A:Option Addr) (l:List So):Prop :=
 0<l.length->∃ b o,A=some ⟨b,o,none⟩∧b<w.heap.size∧∀ j s,l[j]?=some s →
  w.cell? ⟨b,o+j * 3,none⟩=some (.pointer s.rp)∧w.cell? ⟨b,o+j * 3+1,none⟩=some (.int .i64 s.sq)∧w.cell? ⟨b,o+j * 3+2,none⟩=some (.int .i64 s.p)
theorem SlSo.below {w w':World} {A:Option Addr} {l:List So} (h:SlSo w A l) (hb:Below w.heap.size w w'):SlSo w' A l:=fun hp=>by
 obtain ⟨b,o,e,hl,hc⟩:=h hp
 refine ⟨b,o,e,Nat.lt_of_lt_of_le hl hb.size,fun j s hj=>?_⟩
 obtain ⟨c0,c1,c2⟩:=hc j s hj
 exact ⟨(hb.cell (p:=⟨b,o+j * 3,none⟩) hl).trans c0,(hb.cell (p:=⟨b,o+j * 3+1,none⟩) hl).trans c1,(hb.cell (p:=⟨b,o+j * 3+2,none⟩) hl).trans c2⟩
def riseF:Int->List So->Bool
 | _,[]=>true
 | a,s :: l=>decide (a<s.p) && riseF s.p l
def rgOk (frm to:ByteArray) (limit:Int):Bool:=decide (1<=limit) && (decide (limit<=64) && (to.toList.isEmpty || ltB frm to))

theorem xRightMg (frm to:ByteArray) (limit:Int) (w:World):Calls Tryz.prog 13 #[.agg #[.string frm,.string to,.int .i64 limit]] w fun e w'=>e=.returned (.bool (rgOk frm to limit))∧Below w.heap.size w w':=by
 have B0:=qh ((Below.refl w.heap.size w).alloc (Nat.le_refl _) (.cells #[.string frm,.string to,.int .i64 limit] 25))
 have ER:rgOk frm to limit=(decide (1<=limit) && (decide (limit<=64) && (to.toList.isEmpty || Op.bytesLess frm.toList to.toList))):=rfl
 have HR:=qh ER
 clear ER
 by_cases p1:1<=limit
 ·by_cases p2:limit<=64
  ·cases he:to.toList.isEmpty with
   | true =>
    have e2:(to.toList == [])=true:=by simpa using he
    have e3:to.toList=[]:=by simpa using he
    go_enter Tryz.func13,Tryz.ntmps13
    go_wp2_with fail
    go_ret
    exact ⟨ret_bool (by rw [HR.out,decide_eq_true p1,decide_eq_true p2,he]; rfl),B0.out⟩
   | false =>
    have e2:(to.toList == [])=false:=by
     cases hq:to.toList with
     | nil=>rw [hq] at he; cases he
     | cons a b=>rfl
    have e3:¬ to.toList=[]:=fun z=>by rw [z] at he; cases he
    cases hl:Op.bytesLess frm.toList to.toList with
    | true =>
     have e4:Op.bytesLess to.toList frm.toList=false:=ltB_asym (show ltB frm to=true from hl)
     have e5:¬ to.toList=frm.toList:=fun z=>by rw [z] at hl e4; rw [hl] at e4; cases e4
     go_enter Tryz.func13,Tryz.ntmps13
     go_wp2_with fail
     go_ret
     exact ⟨ret_bool (by rw [HR.out,decide_eq_true p1,decide_eq_true p2,he,hl]; simp [e5]),B0.out⟩
    | false =>
     cases e4:Op.bytesLess to.toList frm.toList with
     | true =>
      go_enter Tryz.func13,Tryz.ntmps13
      go_wp2_with fail
      go_ret
      exact ⟨ret_bool (by rw [HR.out,decide_eq_true p1,decide_eq_true p2,he,hl]; simp),B0.out⟩
     | false =>
      obtain rfl:frm=to:=ltB_total (a:=frm) (b:=to) hl e4
      clear hl
      have hl:=e4
      go_enter Tryz.func13,Tryz.ntmps13
      go_wp2_with fail
      go_ret
      exact ⟨ret_bool (by rw [HR.out,decide_eq_true p1,decide_eq_true p2,he,hl]; simp),B0.out⟩
  ·have p3:¬ limit<=64:=p2
   go_enter Tryz.func13,Tryz.ntmps13
   go_wp2_with fail
   go_ret
   exact ⟨ret_bool (by rw [HR.out,decide_eq_false (show ¬ limit<=64 by omega)]; simp),B0.out⟩
 ·go_enter Tryz.func13,Tryz.ntmps13
  go_wp2_with fail
  go_ret
  exact ⟨ret_bool (by rw [HR.out,decide_eq_false (show ¬ 1<=limit by omega)]; rfl),B0.out⟩

theorem xAllThere (l:List So) (A:Option Addr) (c:Nat) (w:World) (h:SlSo w A l) (hl:l.length<=1000) :
  Calls Tryz.prog 32 #[.slice A l.length c] w fun e w'=>e=.returned (.bool (l.all fun s=>s.rp.isSome))∧Below w.heap.size w w':=by
 obtain ⟨n,hn⟩:=nmq (l.length)
 obtain ⟨T,hT⟩:=nmq (l.all fun s=>s.rp.isSome)
 have HN:=qh hn
 have HS:=qh h
 have NO:=qh (show ∀ (i:Nat) (s:So),l[i]?=some s->s.rp=none->T=false from fun i (s:So) hs (hx:s.rp=none)=>by
  rw [hT,List.all_eq_false]; exact ⟨s,List.mem_of_getElem? hs,by rw [hx]; simp⟩)
 have YES:=qh (show (∀ (i:Nat) (s:So),i<n->l[i]?=some s->s.rp.isSome=true)->T=true from fun ha=>by
  rw [hT,List.all_eq_true]
  intro s hs
  obtain ⟨i,hi,rfl⟩:=List.mem_iff_getElem.1 hs
  exact ha i _ (by omega) (List.getElem?_eq_getElem hi))
 rw [<-hT,<-hn]
 have hl':n<=1000:=by omega
 clear hT hn h hl
 go_enter Tryz.func32,Tryz.ntmps32
 go_wp2_with fail
 go_loopw [7] (fun vi wr=>∃ i:Nat,i<=n∧vi=.int .i64 i∧Hid (∀ (j:Nat) (s:So),j<i->l[j]?=some s->s.rp.isSome=true)∧Hid (Below w.heap.size w wr)) (fun vi _=>n-(intOf vi).toNat)
 case atStart=>exact ⟨0,Nat.zero_le _,rfl,qh (fun j s hj=>by cases hj),qh (Below.refl _ _)⟩
 case round =>
  obtain ⟨i,hi,rfl,HM,HB⟩:=hrel
  by_cases q:i<n
  ·obtain ⟨s,hsi⟩:∃ s,l[i]?=some s:=⟨_,List.getElem?_eq_getElem (by rw [<-HN.out]; exact q)⟩
   obtain ⟨b,o,rfl,hb,cc⟩:=(HS.out.below HB.out) (by rw [<-HN.out]; omega)
   obtain ⟨k0,k1,k2⟩:=cc i s hsi
   have NO2:=qh (NO.out i s hsi)
   have HM2:=qh (show s.rp.isSome=true->∀ (j:Nat) (s':So),j<i+1->l[j]?=some s'->s'.rp.isSome=true from fun hx j s' hj hs'=>by
    rcases Nat.lt_or_ge j i with z | z
    ·exact HM.out j s' z hs'
    ·obtain rfl:j=i:=by omega
     rw [hsi] at hs'; injection hs' with hs'; rw [<-hs']; exact hx)
   obtain ⟨rp,Lk,sq,p⟩:=s
   simp only at k0 k1 k2
   have B4:=qh (HB.out.alloc HB.out.size (.cells #[.pointer rp,.int .i64 sq,.int .i64 p] 71))
   clear cc hsi hb
   cases rp with
   | none =>
    have ef:=NO2.out rfl
    go_wp2_with fail
    go_ret
    exact ⟨ret_bool (by first | rfl | exact ef.symm),B4.out⟩
   | some ad =>
    have HM3:=qh (HM2.out rfl)
    go_wp2_with fail
    go_roundw
    case rel=>exact ⟨i+1,by omega,by go_num,HM3,B4⟩
    case measure=>simp [intOf]; omega
  ·have hin:i=n:=by omega
   subst hin
   have et:=YES.out (fun j s hj hs=>HM.out j s hj hs)
   go_wp2_with fail
   go_ret
   exact ⟨ret_bool (by first | rfl | exact et.symm),HB.out⟩

theorem riseF_drop {l:List So} {i:Nat} {s:So} (h:l[i]?=some s) (a:Int):riseF a (l.drop i)=(decide (a<s.p) && riseF s.p (l.drop (i+1))):=by
 obtain ⟨hi,e⟩:=List.getElem?_eq_some_iff.1 h
 rw [List.drop_eq_getElem_cons hi,e]; rfl
theorem xRiseM (l:List So) (A:Option Addr) (c:Nat) (w:World) (h:SlSo w A l) (hl:l.length<=1000) :
  Calls Tryz.prog 33 #[.slice A l.length c] w fun e w'=>e=.returned (.bool (riseF (-1) l))∧Below w.heap.size w w':=by
 obtain ⟨n,hn⟩:=nmq (l.length)
 obtain ⟨T,hT⟩:=nmq (riseF (-1) l)
 have HN:=qh hn
 have HS:=qh h
 have HT:=qh hT
 rw [<-hT,<-hn]
 have hl':n<=1000:=by omega
 clear hT hn h hl
 go_enter Tryz.func33,Tryz.ntmps33
 go_wp2_with fail
 go_loopw [3,8] (fun va vi wr=>∃ (i:Nat) (a:Int),i<=n∧va=.int .i64 a∧vi=.int .i64 i∧Hid (T=riseF a (l.drop i))∧Hid (Below w.heap.size w wr)) (fun _ vi _=>n-(intOf vi).toNat)
 case atStart=>exact ⟨0,-1,Nat.zero_le _,rfl,rfl,HT,qh (Below.refl _ _)⟩
 case round =>
  obtain ⟨i,a,hi,rfl,rfl,HM,HB⟩:=hrel
  by_cases q:i<n
  ·obtain ⟨s,hsi⟩:∃ s,l[i]?=some s:=⟨_,List.getElem?_eq_getElem (by rw [<-HN.out]; exact q)⟩
   obtain ⟨b,o,rfl,hb,cc⟩:=(HS.out.below HB.out) (by rw [<-HN.out]; omega)
   obtain ⟨k0,k1,k2⟩:=cc i s hsi
   have HM2:=qh (show T=(decide (a<s.p) && riseF s.p (l.drop (i+1))) by rw [HM.out,riseF_drop hsi])
   obtain ⟨rp,Lk,sq,p⟩:=s
   simp only at k0 k1 k2 HM2
   have B4:=qh (HB.out.alloc HB.out.size (.cells #[.pointer rp,.int .i64 sq,.int .i64 p] 71))
   clear cc hsi hb
   by_cases z:a<p
   ·have HM3:=qh (show T=riseF p (l.drop (i+1)) by rw [HM2.out,decide_eq_true z,Bool.true_and])
    have z2:¬ p<=a:=by omega
    go_wp2_with fail
    go_roundw
    case rel=>exact ⟨i+1,p,by omega,rfl,by go_num,HM3,B4⟩
    case measure=>simp [intOf]; omega
   ·have ef:T=false:=by rw [HM2.out,decide_eq_false z,Bool.false_and]
    have z2:p<=a:=by omega
    go_wp2_with fail
    go_ret
    exact ⟨ret_bool (by first | rfl | exact ef.symm),B4.out⟩
  ·have hin:i=n:=by omega
   subst hin
   have et:T=true:=by rw [HM.out,HN.out,List.drop_length]; rfl
   go_wp2_with fail
   go_ret
   exact ⟨ret_bool (by first | rfl | exact et.symm),HB.out⟩
end Go.Proofs.YtoljhoabbaigdaaGreat

namespace Go.Proofs.YtoljhoabbaigdaaGreat
open Go.RowKit

def Src.cs (s:Src):List Value:=[s.f.v,s.h.v,.int .i64 s.p]
theorem infoSrc:(Tryz.prog.info? 107).map (fun i=>(i.zero,i.size,i.bytes))=some (some (.agg #[.nilFunc,.nilFunc,.int .i64 0]),3,24):=by kernel_rfl
def scs (l:List Src):List Value:=l.flatMap Src.cs
def OwnSr (w:World) (B:Nat) (v:Value) (l:List Src):Prop:=w.ownsRow B 107 3 v l.length (scs l)
section
variable {w w':World} {B:Nat} {v:Value} {l:List Src}
theorem OwnSr.nil (w:World) (B:Nat):OwnSr w B (.slice none 0 0) []:=World.ownsRow_nil _ _ _ _
theorem OwnSr.sl (h:OwnSr w B v l):∃ A c,v=.slice A l.length c∧SlSc w A l∧l.length<=c∧(∀ a,A=some a->∃ g,a=⟨g,0,none⟩∧B<=g):=by
 have h1:=h
 unfold OwnSr at h1
 rcases h.2 with ⟨rfl,h0⟩ | ⟨g,cap,cur,rfl,hB,hg,hc,_⟩
 ·exact ⟨none,0,by rw [h0],fun hp=>by omega,by omega,fun a e=>by cases e⟩
 ·refine ⟨_,cap,rfl,fun hp=>⟨g,0,rfl,(Array.getElem?_eq_some_iff.1 hg).1,fun j s hj=>?_⟩,hc,fun a e=>by injection e with e; exact ⟨g,e.symm,hB⟩⟩
  obtain ⟨hj1,hj2⟩:=List.getElem?_eq_some_iff.1 hj
  have at_:∀ i,i<3->w.cell? ⟨g,j * 3+i,none⟩=s.cs[i]?:=fun i hi=>by
   rw [h1.cellAt (j * 3+i) (by omega),<-hj2]
   exact flat_at (f:=Src.cs) (n:=3) (fun _=>rfl) l j i hj1 hi
  rw [Nat.zero_add]
  exact ⟨at_ 0 (by decide),at_ 1 (by decide),at_ 2 (by decide)⟩
theorem OwnSr.below (h:OwnSr w B v l) (hb:Below w.heap.size w w'):OwnSr w' B v l:=by
 rcases h with ⟨h1,h2⟩
 refine ⟨h1,?_⟩
 rcases h2 with ⟨rfl,h0⟩ | ⟨g,cap,cur,rfl,hB,hg,r⟩
 ·exact .inl ⟨rfl,h0⟩
 ·refine .inr ⟨g,cap,cur,rfl,hB,?_,r⟩
  have hl:g<w.heap.size:=(Array.getElem?_eq_some_iff.1 hg).1
  rw [hb.block g hl]; exact hg
theorem OwnSr.alloc (h:OwnSr w B v l) (o:Obj):OwnSr (w.alloc o) B v l:=World.ownsRow.alloc h o
theorem OwnSr.lt (h:OwnSr w B v l):∀ k,v.ownBlock=some k->B<=k∧k<w.heap.size:=World.ownsRow.lt h
end
end Go.Proofs.YtoljhoabbaigdaaGreat
