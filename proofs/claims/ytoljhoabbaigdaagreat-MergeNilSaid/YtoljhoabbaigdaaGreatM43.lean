/- Proved parts: A0q A0c. Conditions: each theorem's own. -/
import Derived.Test.YtoljhoabbaigdaaGreatM42
import Derived.Test.YtoljhoabbaigdaaGreatM23
import Derived.Test.YtoljhoabbaigdaaGreatM21
import Derived.Test.YtoljhoabbaigdaaGreatM25
import Derived.Lib.SliceRun
import Derived.Deep.RegionLaw
import Derived.Test.YtoljhoabbaigdaaGreatQ2
set_option maxRecDepth 100000
set_option maxHeartbeats 8000000
namespace Go.Proofs.YtoljhoabbaigdaaGreat
open Go.RowKit

structure PrW (w:World) (b:Nat) (v:Value) (z g q:Nat) (zs:List Int):Prop where
 row:RowAt w b [.int .i64 z,.int .i64 g,.int .i64 q,v] 159
 own:Own w (b+1) v zs
 nil:zs=[]->v=.slice none 0 0
def StepP (b:Nat) (v:Value) (w:World) (v':Value) (w':World):Prop:=Chg (rfoot b v) w w'∧∀ k,rfoot b v' k->rfoot b v k∨w.heap.size<=k
section
variable {w w' w4:World} {b z g q:Nat} {v v' v2:Value} {zs zs':List Int}
theorem StepP.refl (b:Nat) (v:Value) (w:World):StepP b v w v w:=⟨Chg.refl _ _,fun _ e=>.inl e⟩
theorem StepP.trans {w2:World} (h:StepP b v w v' w') (k:StepP b v' w' v2 w2):StepP b v w v2 w2:=by
 have sz:=h.1.size
 refine ⟨h.1.trans k.1 h.2,fun i e=>?_⟩
 rcases k.2 i e with q | q
 ·exact h.2 i q
 ·exact .inr (by omega)
theorem StepP.below (h:Below w.heap.size w w'):StepP b v w v w':=⟨Chg.of_below h,fun _ e=>.inl e⟩
theorem PrW.lt (h:PrW w b v z g q zs):∀ k,rfoot b v k->k<w.heap.size:=fun k e=>by
 rcases e with rfl | e
 ·exact h.row.lt
 ·exact (h.own.lt k e).2
theorem PrW.keep (h:PrW w b v z g q zs) (hk:∀ k,rfoot b v k->w'.heap[k]?=w.heap[k]?):PrW w' b v z g q zs:=by
 refine ⟨(hk b (.inl rfl)).trans h.row,⟨h.own.1,?_⟩,h.nil⟩
 rcases h.own.2 with hn | ⟨c,cap,cur,rfl,hB,hg,r⟩
 ·exact .inl hn
 ·exact .inr ⟨c,cap,cur,rfl,hB,(hk c (.inr rfl)).trans hg,r⟩
theorem PrW.below (h:PrW w b v z g q zs) (hb:Below w.heap.size w w'):PrW w' b v z g q zs:=h.keep fun k e=>hb.block k (h.lt k e)
theorem PrW.drewN (h:PrW w b v z g q zs) (n:Nat):PrW (w.drewN n) b v z g q zs:=⟨h.row,h.own,h.nil⟩
theorem PrW.seq (h:PrW w b v z g q zs) (q':Nat):PrW (w.setCell ⟨b,2,none⟩ (.int .i64 q')) b v z g q' zs∧StepP b v w v (w.setCell ⟨b,2,none⟩ (.int .i64 q')):=by
 refine ⟨⟨h.row.set 2 _,⟨h.own.1,?_⟩,h.nil⟩,(Chg.refl _ w).setCell (.inl (.inl rfl)) _,fun _ e=>.inl e⟩
 rcases h.own.2 with hn | ⟨c,cap,cur,rfl,hB,hg,r⟩
 ·exact .inl hn
 ·exact .inr ⟨c,cap,cur,rfl,hB,(Below.heap_setCell _ _ _ _ (by show c≠b; omega)).trans hg,r⟩
theorem Own.set_head {x:Value} {k:Nat} (h:Own w (b+1) v zs):Own (w.setCell ⟨b,k,none⟩ x) (b+1) v zs:=by
 refine ⟨h.1,?_⟩
 rcases h.2 with hn | ⟨c,cap,cur,rfl,hB,hg,r⟩
 ·exact .inl hn
 ·exact .inr ⟨c,cap,cur,rfl,hB,(Below.heap_setCell _ _ _ _ (by show c≠b; omega)).trans hg,r⟩
theorem PrW.row_new (h:PrW w b v z g q zs) (hc:Chg (fun k=>v.ownBlock=some k) w w4) (ho:Own w4 (b+1) v' zs') (hk:∀ k,v'.ownBlock=some k->v.ownBlock=some k∨w.heap.size<=k) (hn:zs'≠[]) :
  RowAt w4 b [.int .i64 z,.int .i64 g,.int .i64 q,v] 159∧PrW (w4.setCell ⟨b,3,none⟩ v') b v' z g q zs'∧StepP b v w v' (w4.setCell ⟨b,3,none⟩ v'):=by
 have r4:RowAt w4 b [.int .i64 z,.int .i64 g,.int .i64 q,v] 159:=h.row.keep hc fun e=>by have:=h.own.lt b e; omega
 refine ⟨r4,⟨r4.set 3 v',ho.set_head,fun e=>absurd e hn⟩,(hc.mono fun k e=>.inr e).setCell (.inl (.inl rfl)) v',fun k e=>?_⟩
 rcases e with e | e
 ·exact .inl (.inl e)
 ·rcases hk k e with q | q
  ·exact .inl (.inr q)
  ·exact .inr q
end

theorem xAhead0 (b:Nat) (v:Value) (r:Rg) (w:World) (h:PrW w b v r.size r.beg r.seq r.kept) (ok:r.Ok) :
  Calls Tryz.prog 70 #[PtrR b] w fun e w'=>e=.returned (.int .u64 r.last)∧∃ n,w'=w.drewN n:=by
 obtain ⟨A,c,hv,hc,hsl,_,_⟩:=h.own.form
 have c3:=h.row.cell 3
 rw [hv] at c3
 simp only [geS] at c3
 obtain ⟨n,hn⟩:=nmq (r.kept.length)
 obtain ⟨L,hL⟩:=nmq (r.last)
 have kl:=r.kept_len
 have s1:=ok.s1
 have s16:=ok.s16
 have nb:n<=16:=by omega
 rw [<-hn] at c3 hc
 rw [<-hL]
 by_cases n0:n=0
 ·have eL:L=0:=by rw [hL]; unfold Rg.last; rw [if_pos (by omega)]
  subst eL
  clear hL hn kl s1 s16 nb hc hsl h ok hv
  subst n0
  go_enter Tryz.func70,Tryz.ntmps70
  go_wp2_with fail
  go_ret
  exact ⟨rfl,0,rfl⟩
 ·obtain ⟨i,hi⟩:=nmq (n-1)
  obtain ⟨bb,o,rfl,hbb,cc⟩:=hsl.at_ (k:=i) (by omega)
  have cl:=cc i (by omega)
  rw [show r.kept.getD i 0=L by rw [hi,hn,hL]; exact Rg.kept_last ok (by omega)] at cl
  have i1:(n:Int)-1=(i:Int):=by omega
  have i2:(0:Int)<=(i:Int):=by omega
  have i3:(i:Int)<(n:Int):=by omega
  have n1:((n:Int) == 0)=false:=by simp; omega
  clear hi hbb cc hL hn n0 kl s1 s16 h ok hv hsl
  go_enter Tryz.func70,Tryz.ntmps70
  go_wp2_with fail
  go_quiet (fail)
  go_wp2_with fail
  go_ret
  exact ⟨rfl,_,rfl⟩

end Go.Proofs.YtoljhoabbaigdaaGreat

namespace Go.Proofs.YtoljhoabbaigdaaGreat
open Go.RowKit

theorem xSeq0 (b:Nat) (v:Value) (z g q:Nat) (zs:List Int) (w:World) (h:PrW w b v z g q zs) :
  Calls Tryz.prog 41 #[PtrR b] w fun e w'=>e=.returned (.int .i64 q)∧Below w.heap.size w w':=by
 have c2:=h.row.cell 2
 simp only [geS] at c2
 have B0:=qh (Below.refl w.heap.size w)
 clear h
 go_enter Tryz.func41,Tryz.ntmps41
 go_wp2_with fail
 go_ret
 exact ⟨rfl,B0.out⟩
theorem new_prw {w:World} {z g:Nat} (w0:World) (hb:w=w0.alloc (.cells ([.int .i64 z,.int .i64 g,.int .i64 g,.slice none 0 0]:List Value).toArray 159)) :
  PrW w w0.heap.size (.slice none 0 0) z g g []:=by
 subst hb
 exact ⟨RowAt.new _ _ _,Own.nil _ _,fun _=>rfl⟩

theorem xNew0 (s q:Int) (w:World):Calls Tryz.prog 77 #[.int .i64 s,.int .i64 q] w fun e w'=>Below w.heap.size w w' ∧
  ((Rg.fits s q=true∧∃ b,e=.returned (.tuple #[PtrR b,.int .i64 0])∧PrW w' b (.slice none 0 0) s.toNat q.toNat q.toNat []∧w.heap.size<=b) ∨
   (Rg.fits s q=false∧e=.returned (.tuple #[.pointer none,.int .i64 1]))):=by
 have B0:=qh (Below.refl w.heap.size w)
 by_cases p1:s<1
 ·have HF:=qh (show Rg.fits s q=false by unfold Rg.fits; rw [decide_eq_false (show ¬ 1<=s by omega)]; rfl)
  have d1:decide (s<1)=true:=decide_eq_true p1
  clear p1
  go_enter Tryz.func77,Tryz.ntmps77
  go_wp2_with fail
  go_ret2
  exact ⟨B0.out,.inr ⟨HF.out,rfl⟩⟩
 have d1:decide (s<1)=false:=decide_eq_false p1
 by_cases p2:16<s
 ·have HF:=qh (show Rg.fits s q=false by unfold Rg.fits; rw [decide_eq_false (show ¬ s<=16 by omega),Bool.false_and,Bool.and_false])
  have d2:decide (16<s)=true:=decide_eq_true p2
  clear p1 p2
  go_enter Tryz.func77,Tryz.ntmps77
  go_wp2_with fail
  go_ret2
  exact ⟨B0.out,.inr ⟨HF.out,rfl⟩⟩
 have d2:decide (16<s)=false:=decide_eq_false p2
 by_cases p3:q<0
 ·have HF:=qh (show Rg.fits s q=false by unfold Rg.fits; rw [decide_eq_false (show ¬ 0<=q by omega),Bool.false_and,Bool.and_false,Bool.and_false])
  have d3:decide (q<0)=true:=decide_eq_true p3
  clear p1 p2 p3
  go_enter Tryz.func77,Tryz.ntmps77
  go_wp2_with fail
  go_ret2
  exact ⟨B0.out,.inr ⟨HF.out,rfl⟩⟩
 have d3:decide (q<0)=false:=decide_eq_false p3
 by_cases p4:1073741824<q
 ·have HF:=qh (show Rg.fits s q=false by unfold Rg.fits; rw [decide_eq_false (show ¬ q<=1073741824 by omega),Bool.and_false,Bool.and_false,Bool.and_false])
  have d4:decide (1073741824<q)=true:=decide_eq_true p4
  clear p1 p2 p3 p4
  go_enter Tryz.func77,Tryz.ntmps77
  go_wp2_with fail
  go_ret2
  exact ⟨B0.out,.inr ⟨HF.out,rfl⟩⟩
 have d4:decide (1073741824<q)=false:=decide_eq_false p4
 have HF:=qh (show Rg.fits s q=true by
  unfold Rg.fits; rw [decide_eq_true (show 1<=s by omega),decide_eq_true (show s<=16 by omega),decide_eq_true (show 0<=q by omega),decide_eq_true (show q<=1073741824 by omega)]; rfl)
 have es:=qh (show s=(s.toNat:Int) by omega)
 have eq:=qh (show q=(q.toNat:Int) by omega)
 have PN:=qh (new_prw (z:=s.toNat) (g:=q.toNat) w rfl)
 rw [<-es.out,<-eq.out] at PN
 have B1:=qh ((Below.refl w.heap.size w).alloc (Nat.le_refl _) (.cells ([.int .i64 s,.int .i64 q,.int .i64 q,.slice none 0 0]:List Value).toArray 159))
 clear p1 p2 p3 p4
 go_enter Tryz.func77,Tryz.ntmps77
 go_wp2_with fail
 go_ret2
 exact ⟨B1.out,.inl ⟨HF.out,_,rfl,PN.out,Nat.le_refl _⟩⟩

end Go.Proofs.YtoljhoabbaigdaaGreat
