/- Proved parts: T9y T9ya T9yw T9yx. Conditions: each theorem's own. -/
import Derived.Test.YtoljhoabbaigdaaGreatM35
import Derived.RangeFuncNested
import Derived.RangeFuncBound
import Derived.RangeFuncCalls
import Derived.RangeFuncLeaves
import Derived.RangeFuncBox
import Derived.Shelf.Abstract
import Derived.Shelf.RegionOpen
import Derived.WalkKit
import Derived.OwnWalkIn
import Derived.TacticsInMore
import Derived.LoopNIn
import Derived.LoopIn
import Derived.Test.YtoljhoabbaigdaaGreatQ1
import Derived.Test.YtoljhoabbaigdaaGreatQ2
set_option maxRecDepth 100000
set_option maxHeartbeats 8000000
namespace Go.Proofs.YtoljhoabbaigdaaGreat
open Go.RowKit Go.Shelf

theorem xTold (w:World) (x:ByteArray × Int) (hk:x.1.size<=1000000) :
  Calls Tryz.prog 155 #[.agg #[.string x.1,.int .i64 x.2]] w fun e w'=>e=.returned (.tuple #[.string x.1,.int .i64 x.2,.bool true])∧Below w.heap.size w w':=by
 obtain ⟨q,hq⟩:=nmq (w.heap.size)
 obtain ⟨w1,hw1⟩:=nmq (w.alloc (.cells #[.string x.1,.int .i64 x.2] 221))
 have B1:=qh (show Below w.heap.size w w1 by rw [hw1]; exact (Below.refl _ _).alloc (Nat.le_refl _) _)
 have r1:RowAt w1 q [.string x.1,.int .i64 x.2] 221:=by rw [hw1,hq]; exact RowAt.new w _ _
 have c0:=r1.cell 0
 have c1:=r1.cell 1
 simp only [geS] at c0 c1
 have KC:=qh (lclone x.1 w1.drew (by omega))
 have KS:=qh (show ∀ w2,Below w1.drew.heap.size w1.drew w2->w2.cell? ⟨q,0,none⟩=some (.string x.1)∧w2.cell? ⟨q,1,none⟩=some (.int .i64 x.2) from fun w2 hb=>by
  have r2:RowAt w2 q _ _:=(show RowAt w1.drew q _ _ from r1).below hb
  exact ⟨r2.cell 0,r2.cell 1⟩)
 have HW1:=qh hw1
 have HQ:=qh hq
 clear hw1 hq r1 hk
 go_enter Tryz.func155,Tryz.ntmps155
 go_wp2_with fail
 rw [<-HW1.out,<-HQ.out]
 refine wp_region_held_drew (S:=(fun w'=>w'.cell? ⟨q,0,none⟩=some (.string x.1)∧w'.cell? ⟨q,1,none⟩=some (.int .i64 x.2))) (by kernel_rfl) (⟨c0,c1⟩) (fun gH=>?_)
 refine rgT 0 (v:=?v1) ?y1 gH ?_
 case y1=>(intro v hSw; go_simp<;>rfl)
 refine rgT 1 (v:=?v2) ?y2 gH ?_
 case y2=>(intro v hSw; go_simp<;>rfl)
 refine rgT 3 (v:=?v3) ?y3 gH ?_
 case y3=>(intro v hSw; go_simp<;>rfl)
 try simp only [putS]
 refine rgT 4 (v:=?v4) ?y4 gH ?_
 case y4=>(intro v hSw; go_simp<;>rfl)
 try simp only [putS]
 refine rgO 2 fun K hK=>?_
 go_simp
 refine KC.out.mono ?_
 rintro r w2 ⟨rfl,hb⟩
 have HB:=qh hb
 refine hK.out _ _ ((KS.out w2 hb)) (fun gH=>?_)
 clear hK K
 refine rgT 5 (v:=?v5) ?y5 gH ?_
 case y5=>(intro v hSw; go_simp<;>rfl)
 refine rgT 6 (v:=?v6) ?y6 gH ?_
 case y6=>(intro v hSw; go_simp<;>rfl)
 try simp only [putS]
 refine rgT 7 (v:=?v7) ?y7 gH ?_
 case y7=>(intro v hSw; go_simp<;>rfl)
 try simp only [putS]
 refine rgD ?_
 go_wp2_with fail
 go_ret3
 exact ⟨rfl,Below.then2 B1.out (Below.then2 (Below.refl _ w1).drew HB.out (Nat.le_refl _)) B1.out.size⟩

theorem xFrom (w:World) (pt:Option Addr) (k:ByteArray):Calls Tryz.prog 154 #[.pointer pt,.string k] w fun e w'=>e=.returned (.func (.func 165) #[] #[.pointer (some ⟨w.heap.size,0,none⟩),.pointer (some ⟨w.heap.size+1,0,none⟩)])∧w'=(w.alloc (.cells #[.pointer pt] 196)).alloc (.cells #[.string k] 9):=by
 go_enter Tryz.func154,Tryz.ntmps154
 go_wp2_with fail
 go_ret
 exact ⟨rfl,rfl⟩
abbrev Itm:={ x:ByteArray × Int // x.1.size<=1000000 }
def encI (x:Itm):Array Value:=#[.agg #[.string x.1.1,.int .i64 x.1.2]]
def Iter (w:World) (pt:Option Addr) (k:ByteArray) (xs:List Itm):Prop:=∀ (w2:World) (q n:Nat),Below w.heap.size w w2->w.heap.size<=q->q+1<w2.heap.size->w2.cell? ⟨q,0,none⟩=some (.pointer pt)->w2.cell? ⟨q+1,0,none⟩=some (.string k)->3<=n →
 SeqStopsK Fence.wide n Tryz.prog 165 #[.pointer (some ⟨q,0,none⟩),.pointer (some ⟨q+1,0,none⟩)] encI (Below w.heap.size) (fun ys=>ys=xs) (fun pre=>pre <+: xs) xs.length w2
theorem keepsFrom_below {B:Nat} {W W':World} (h:Below W.heap.size W W'):KeepsFrom B W W':=⟨h.size,fun k _ _ hk _=>(h.block k (Array.getElem?_eq_some_iff.1 hk).1).trans hk⟩
theorem boxed_below {W W':World} {B:Nat} {t:TypeId} {v:Value} (h:Boxed W B t v) (hb:Below W.heap.size W W'):Boxed W' B t v:=(hb.block B (Boxed.lt h)).trans h
theorem boxed_kept {X Y:World} {row:Option Nat} {B:Nat} {t:TypeId} {v:Value} (h:Boxed X B t v) (hg:X.grownBy Y row) (hr:∀ r,row=some r->∃ o:Obj,X.heap[r]?=some o∧o.isCells=false):Boxed Y B t v :=
 boxed_own B t (fun (_:Unit)=>v) () X Y row h hg hr
theorem rowAt_kept {X Y:World} {row:Option Nat} {B:Nat} {cs:List Value} {t:TypeId} (h:RowAt X B cs t) (hg:X.grownBy Y row) (hr:∀ r,row=some r->∃ o:Obj,X.heap[r]?=some o∧o.isCells=false):RowAt Y B cs t:=by
 refine (hg.block B h.lt (fun e=>?_)).trans h
 obtain ⟨o,ho,hc⟩:=hr B e.symm
 have h2:X.heap[B]?=some (.cells cs.toArray t):=h
 rw [h2] at ho
 injection ho with ho
 rw [<-ho] at hc
 cases hc
def firstK (xs:List Itm):ByteArray:=(xs.head?.map (·.1.1)).getD ⟨#[]⟩
def firstN (xs:List Itm):Int:=(xs.head?.map (·.1.2)).getD 0

attribute [local go_sem] Oper.semAt_some
theorem xSeekI (w:World) (pt:Option Addr) (k:ByteArray) (xs:List Itm) (hI:Iter w pt k xs) :
  Calls Tryz.prog 139 #[.pointer pt,.string k] w fun e w'=>e=.returned (.tuple #[.string (firstK xs),.int .i64 (firstN xs),.bool (decide (xs≠[]))])∧Below w.heap.size w w':=by
 refine (callsIn_wide (n:=6)).1 ?_
 refine callsIn_of_wp_marks Tryz.func139 rfl trivial ?_ rfl
 simp only [Tryz.ntmps139,List.size_toArray,List.length_cons,List.length_nil,Nat.reduceAdd,Nat.reduceSub,Array.replicate_succ,Array.replicate_zero,List.push_toArray,List.append_toArray,List.nil_append,List.cons_append]
 gi_wp2_with (refine ⟨trivial,?_⟩; gi_at_call 154; refine (callsIn_wide.2 (xFrom _ _ _)).mono ?_; rintro e w' ⟨rfl,rfl⟩)
 obtain ⟨B,hB⟩:=nmq (w.heap.size)
 have b0:=(((((Boxed.new w 9 (.string ⟨#[]⟩)).alloc (.cells #[.int .i64 0] 3)).alloc (.cells #[.bool false] 4)).alloc (.cells #[.pointer pt] 196)).alloc (.cells #[.string k] 9))
 have b1:=((((Boxed.new (w.alloc (.cells #[.string ⟨#[]⟩] 9)) 3 (.int .i64 0)).alloc (.cells #[.bool false] 4)).alloc (.cells #[.pointer pt] 196)).alloc (.cells #[.string k] 9))
 have b2:=(((Boxed.new ((w.alloc (.cells #[.string ⟨#[]⟩] 9)).alloc (.cells #[.int .i64 0] 3)) 4 (.bool false)).alloc (.cells #[.pointer pt] 196)).alloc (.cells #[.string k] 9))
 have b3:=((Boxed.new (((w.alloc (.cells #[.string ⟨#[]⟩] 9)).alloc (.cells #[.int .i64 0] 3)).alloc (.cells #[.bool false] 4)) 196 (.pointer pt)).alloc (.cells #[.string k] 9))
 have b4:=(Boxed.new ((((w.alloc (.cells #[.string ⟨#[]⟩] 9)).alloc (.cells #[.int .i64 0] 3)).alloc (.cells #[.bool false] 4)).alloc (.cells #[.pointer pt] 196)) 9 (.string k))
 have hb:Below w.heap.size w (((((w.alloc (.cells #[.string ⟨#[]⟩] 9)).alloc (.cells #[.int .i64 0] 3)).alloc (.cells #[.bool false] 4)).alloc (.cells #[.pointer pt] 196)).alloc (.cells #[.string k] 9)):=(((((Below.refl _ w).alloc (Nat.le_refl _) _).alloc (by simp) _).alloc (by simp; omega) _).alloc (by simp; omega) _).alloc (by simp; omega) _
 have hsz:(((((w.alloc (.cells #[.string ⟨#[]⟩] 9)).alloc (.cells #[.int .i64 0] 3)).alloc (.cells #[.bool false] 4)).alloc (.cells #[.pointer pt] 196)).alloc (.cells #[.string k] 9)).heap.size=w.heap.size+5:=by simp
 simp only [World.size_alloc] at b1 b2 b3 b4
 obtain ⟨W0,hW0⟩:∃ W0,(((((w.alloc (.cells #[.string ⟨#[]⟩] 9)).alloc (.cells #[.int .i64 0] 3)).alloc (.cells #[.bool false] 4)).alloc (.cells #[.pointer pt] 196)).alloc (.cells #[.string k] 9))=W0:=⟨_,rfl⟩
 rw [hW0] at b0 b1 b2 b3 b4 hb hsz ⊢
 clear hW0
 have hc:=hI W0 (w.heap.size+1+1+1) (6-1) hb (by omega) (by omega) b3.cell b4.cell (by decide)
 rw [<-hB] at b0 b1 b2 b3 b4 hb hsz hc ⊢
 have HBS:=qh hB
 refine wpIn_rangeFunc_ownH rfl (by decide) (gf:=165) (lb:=#[.pointer (some ⟨B+1+1+1,0,none⟩),.pointer (some ⟨B+1+1+1+1,0,none⟩)]) rfl trivial (enters_of Tryz.func165 (by kernel_rfl) rfl)
  hc belowK_t (belowK_b (by omega)) (Below.refl _ _) (fun _=>rfl)
  (fun pre W=>(pre=[]∧B+5<=W.heap.size∧Boxed W B 9 (.string ⟨#[]⟩)∧Boxed W (B+1) 3 (.int .i64 0)∧Boxed W (B+1+1) 4 (.bool false))∧Below B w W)
  (fun c pre W=>(∃ x:Itm,c=.ret∧pre=[x]∧Boxed W B 9 (.string x.1.1)∧Boxed W (B+1) 3 (.int .i64 x.1.2)∧Boxed W (B+1+1) 4 (.bool true))∧Below B w W)
  (OwnFrom.and (Own.from (fun s X Y row hs hg hr=>⟨hs.1,Nat.le_trans hs.2.1 hg.size,boxed_kept hs.2.2.1 hg hr,boxed_kept hs.2.2.2.1 hg hr,boxed_kept hs.2.2.2.2 hg hr⟩) _) (ownFrom_below (by omega) (by omega)))
  (fun c=>OwnFrom.and (Own.from (fun s X Y row hs hg hr=>by obtain ⟨x,h1,h2,h3,h4,h5⟩:=hs; exact ⟨x,h1,h2,boxed_kept h3 hg hr,boxed_kept h4 hg hr,boxed_kept h5 hg hr⟩) _) (ownFrom_below (by omega) (by omega)))
  ⟨⟨rfl,by omega,b0,b1,b2⟩,hb⟩
  (fun x a' W=>∃ Bx,B+4<Bx∧RowAt W Bx [.string x.1.1,.int .i64 x.1.2] 221∧a'={ tmps:=#[.pointer pt,.string k,undef,undef,.pointer (some ⟨B,0,none⟩),.pointer (some ⟨B+1,0,none⟩),.pointer (some ⟨B+1+1,0,none⟩),.pointer (some ⟨Bx,0,none⟩),.pointer pt,.string k,.func (.func 165) #[] #[.pointer (some ⟨B+1+1+1,0,none⟩),.pointer (some ⟨B+1+1+1+1,0,none⟩)],.agg #[.string x.1.1,.int .i64 x.1.2],undef,undef,undef,undef,undef],defers:=[] })
  (fun x a' _ X Y row hs hg hr=>by obtain ⟨Bx,h1,h2,h3⟩:=hs; exact ⟨Bx,h1,rowAt_kept h2 hg (fun r e=>(hr r e).2),h3⟩)
  ?assign ?body ?done ?stop
 case assign =>
  clear hB
  rintro l pre x W K ⟨⟨rfl,hs5,c0,c1,c2⟩,hW⟩ hK
  dsimp only [encI]
  gi_wp2
  have hBW:B<=W.heap.size:=by omega
  exact hK _ _ ((KeepsOthers.alloc _ _).from _) ((Below.refl _ W).alloc hBW _) ⟨⟨(by first | trivial | rfl),by simp; omega,c0.alloc _,c1.alloc _,c2.alloc _⟩,hW.alloc hBW _⟩ ⟨W.heap.size,by omega,RowAt.new W _ _,rfl⟩
 case body =>
  clear hB
  rintro l pre x a' W hl ⟨r,hr⟩ ⟨⟨rfl,hs5,c0,c1,c2⟩,hW⟩ ⟨Bx,hBx,bX,rfl⟩ hlt
  have x0:=bX.cell 0
  have x1:=bX.cell 1
  simp only [geS] at x0 x1
  have TC:=qh (xTold W x.1 x.2)
  have C0:=qh c0
  have C1:=qh c1
  have C2:=qh c2
  have HW:=qh hW
  have h1':1<=6-1-1:=by decide
  clear b0 b1 b2 b3 b4 c0 c1 c2 hW hc
  gi_wp2_with (refine ⟨trivial,?_⟩; gi_at_call 155; refine (CallsIn.inRound l (callsIn_wide.2 TC.out)).mono ?_; rintro e w' ⟨rfl,hb'⟩; have HB':=qh hb'; have e0:=boxed_below C0.out hb'; have e1:=boxed_below C1.out hb'; have e2:=boxed_below C2.out hb'; have E0:=qh e0; have E1:=qh e1; have E2:=qh e2; have t0:=e0.cell; have t1:=e1.cell; have t2:=e2.cell; have f0:=e0.frozen; have f1:=e1.frozen; have f2:=e2.frozen; clear e0 e1 e2 hb')
  have hBW:B<=W.heap.size:=by omega
  have hB1:=Below.then2 HW.out HB'.out hBW
  refine ⟨(keepsFrom_below HB'.out).trans (((KeepsOthers.setCell _ _ _).from _).trans (((KeepsOthers.setCell _ _ _).from _).trans ((KeepsOthers.setCell _ _ _).from _))),⟨x,rfl,rfl,?_,?_,?_⟩,?_⟩
  ·exact ((E0.out.set _).other (by omega) _).other (by omega) _
  ·exact ((E1.out.other (by omega) _).set _).other (by omega) _
  ·exact ((E2.out.other (by omega) _).other (by omega) _).set _
  ·exact ((hB1.setCell (p:=⟨B,0,none⟩) (Nat.le_refl _) _).setCell (p:=⟨B+1,0,none⟩) (by show B<=B+1; omega) _).setCell (p:=⟨B+1+1,0,none⟩) (by show B<=B+1+1; omega) _
 case done =>
  clear hB
  rintro D ys W hD rfl ⟨⟨rfl,hs5,c0,c1,c2⟩,hW⟩ hK
  have C0:=qh c0
  have C1:=qh c1
  have C2:=qh c2
  have HW:=qh hW
  have t0:=c0.cell
  have t1:=c1.cell
  have t2:=c2.cell
  have f0:=c0.frozen
  have f1:=c1.frozen
  have f2:=c2.frozen
  clear b0 b1 b2 b3 b4 c0 c1 c2 hW hc
  gi_wp2
  obtain ⟨W3,hW3⟩:=nmq (((W.setCell ⟨B,0,none⟩ (.string ⟨#[]⟩)).setCell ⟨B+1,0,none⟩ (.int .i64 0)).setCell ⟨B+1+1,0,none⟩ (.bool false))
  have e0:Boxed W3 B 9 (.string ⟨#[]⟩):=by rw [hW3]; exact ((C0.out.set _).other (by omega) _).other (by omega) _
  have e1:Boxed W3 (B+1) 3 (.int .i64 0):=by rw [hW3]; exact ((C1.out.other (by omega) _).set _).other (by omega) _
  have e2:Boxed W3 (B+1+1) 4 (.bool false):=by rw [hW3]; exact ((C2.out.other (by omega) _).other (by omega) _).set _
  have eb:Below B w W3:=by rw [hW3]; exact ((HW.out.setCell (p:=⟨B,0,none⟩) (Nat.le_refl _) _).setCell (p:=⟨B+1,0,none⟩) (by show B<=B+1; omega) _).setCell (p:=⟨B+1+1,0,none⟩) (by show B<=B+1+1; omega) _
  have hK':W3.heap[D]?=some (.deferred (some [])):=by rw [hW3]; exact (KeepsOthers.setCell _ _ _).same D _ ((KeepsOthers.setCell _ _ _).same D _ ((KeepsOthers.setCell _ _ _).same D _ hK rfl) rfl) rfl
  rw [<-hW3]
  refine ⟨by simp,.inl ⟨_,_,rfl,run_takeDeferred hK',?_⟩⟩
  have g0:=(boxed_kept e0 (grownBy_putObj' _ D (.deferred none)) (fun r e=>by cases e; exact ⟨_,hK',rfl⟩)).cell
  have g1:=(boxed_kept e1 (grownBy_putObj' _ D (.deferred none)) (fun r e=>by cases e; exact ⟨_,hK',rfl⟩)).cell
  have g2:=(boxed_kept e2 (grownBy_putObj' _ D (.deferred none)) (fun r e=>by cases e; exact ⟨_,hK',rfl⟩)).cell
  refine ⟨.tuple #[.string ⟨#[]⟩,.int .i64 0,.bool false],?_,rfl,by rw [<-HBS.out]; exact eb.trans (belowK_b (w:=W0) (n₀:=B) (by omega) _ D _ _ hD hK' rfl rfl)⟩
  simp [results,Tryz.f139,go_sem,g0,g1,g2]
 case stop =>
  clear hB
  rintro D c pre W hD hpre ⟨⟨x,rfl,rfl,c0,c1,c2⟩,hW⟩ hK
  have e:xs=x :: xs.tail:=by
   obtain ⟨z,rfl⟩:=hpre
   rfl
  gi_wp2
  refine ⟨by simp,.inl ⟨_,_,rfl,run_takeDeferred hK,?_⟩⟩
  have g0:=(boxed_kept c0 (grownBy_putObj' _ D (.deferred none)) (fun r e=>by cases e; exact ⟨_,hK,rfl⟩)).cell
  have g1:=(boxed_kept c1 (grownBy_putObj' _ D (.deferred none)) (fun r e=>by cases e; exact ⟨_,hK,rfl⟩)).cell
  have g2:=(boxed_kept c2 (grownBy_putObj' _ D (.deferred none)) (fun r e=>by cases e; exact ⟨_,hK,rfl⟩)).cell
  refine ⟨.tuple #[.string x.1.1,.int .i64 x.1.2,.bool true],?_,?_,by rw [<-HBS.out]; exact hW.trans (belowK_b (w:=W0) (n₀:=B) (by omega) _ D _ _ hD hK rfl rfl)⟩
  ·simp [results,Tryz.f139,go_sem,g0,g1,g2]
  ·rw [e]; rfl

end Go.Proofs.YtoljhoabbaigdaaGreat

namespace Go.Proofs.YtoljhoabbaigdaaGreat
open Go.RowKit Go.Shelf

def aftI (k:ByteArray) (xs:List Itm):List Itm:=xs.dropWhile fun y=>decide (y.1.1=k)
theorem aft_none {k:ByteArray}:∀ {xs:List Itm},(∀ y,y ∈ xs->y.1.1=k)->aftI k xs=[]
 | [],_=>rfl
 | y :: xs,h=>by
  have e:aftI k (y :: xs)=if decide (y.1.1=k) then aftI k xs else y :: xs:=by unfold aftI; rw [List.dropWhile_cons]
  rw [e,if_pos (decide_eq_true (h y (by simp))),aft_none fun z hz=>h z (by simp [hz])]
theorem aft_some {k:ByteArray} {x:Itm}:∀ {p0 xs:List Itm},(∀ y,y ∈ p0->y.1.1=k)->x.1.1≠k->p0++[x] <+: xs->∃ z,aftI k xs=x :: z
 | [],xs,_,hx,hp=>by
  obtain ⟨z,rfl⟩:=hp
  refine ⟨z,?_⟩
  unfold aftI
  simp only [List.nil_append,List.cons_append]
  rw [List.dropWhile_cons,if_neg (by simp; exact hx)]
 | y :: p0,xs,h,hx,hp=>by
  obtain ⟨z,rfl⟩:=hp
  obtain ⟨u,hu⟩:=aft_some (p0:=p0) (xs:=p0++[x]++z) (fun w hw=>h w (by simp [hw])) hx ⟨z,rfl⟩
  refine ⟨u,?_⟩
  rw [<-hu]
  unfold aftI
  simp only [List.cons_append]
  rw [List.dropWhile_cons,if_pos (by simp; exact h y (by simp))]

attribute [local go_sem] Oper.semAt_some
theorem xAfterI (w:World) (pt:Option Addr) (k:ByteArray) (xs:List Itm) (hI:Iter w pt k xs) :
  Calls Tryz.prog 140 #[.pointer pt,.string k] w fun e w'=>e=.returned (.tuple #[.string (firstK (aftI k xs)),.int .i64 (firstN (aftI k xs)),.bool (decide (aftI k xs≠[]))])∧Below w.heap.size w w':=by
 refine (callsIn_wide (n:=6)).1 ?_
 refine callsIn_of_wp_marks Tryz.func140 rfl trivial ?_ rfl
 simp only [Tryz.ntmps140,List.size_toArray,List.length_cons,List.length_nil,Nat.reduceAdd,Nat.reduceSub,Array.replicate_succ,Array.replicate_zero,List.push_toArray,List.append_toArray,List.nil_append,List.cons_append]
 gi_wp2_with (refine ⟨trivial,?_⟩; gi_at_call 154; refine (callsIn_wide.2 (xFrom _ _ _)).mono ?_; rintro e w' ⟨rfl,rfl⟩)
 obtain ⟨B,hB⟩:=nmq (w.heap.size)
 have bk:=((((((Boxed.new w 9 (.string k)).alloc (.cells #[.string ⟨#[]⟩] 9)).alloc (.cells #[.int .i64 0] 3)).alloc (.cells #[.bool false] 4)).alloc (.cells #[.pointer pt] 196)).alloc (.cells #[.string k] 9))
 have b0:=(((((Boxed.new (w.alloc (.cells #[.string k] 9)) 9 (.string ⟨#[]⟩)).alloc (.cells #[.int .i64 0] 3)).alloc (.cells #[.bool false] 4)).alloc (.cells #[.pointer pt] 196)).alloc (.cells #[.string k] 9))
 have b1:=((((Boxed.new ((w.alloc (.cells #[.string k] 9)).alloc (.cells #[.string ⟨#[]⟩] 9)) 3 (.int .i64 0)).alloc (.cells #[.bool false] 4)).alloc (.cells #[.pointer pt] 196)).alloc (.cells #[.string k] 9))
 have b2:=(((Boxed.new (((w.alloc (.cells #[.string k] 9)).alloc (.cells #[.string ⟨#[]⟩] 9)).alloc (.cells #[.int .i64 0] 3)) 4 (.bool false)).alloc (.cells #[.pointer pt] 196)).alloc (.cells #[.string k] 9))
 have b3:=((Boxed.new ((((w.alloc (.cells #[.string k] 9)).alloc (.cells #[.string ⟨#[]⟩] 9)).alloc (.cells #[.int .i64 0] 3)).alloc (.cells #[.bool false] 4)) 196 (.pointer pt)).alloc (.cells #[.string k] 9))
 have b4:=(Boxed.new (((((w.alloc (.cells #[.string k] 9)).alloc (.cells #[.string ⟨#[]⟩] 9)).alloc (.cells #[.int .i64 0] 3)).alloc (.cells #[.bool false] 4)).alloc (.cells #[.pointer pt] 196)) 9 (.string k))
 have hb:Below w.heap.size w ((((((w.alloc (.cells #[.string k] 9)).alloc (.cells #[.string ⟨#[]⟩] 9)).alloc (.cells #[.int .i64 0] 3)).alloc (.cells #[.bool false] 4)).alloc (.cells #[.pointer pt] 196)).alloc (.cells #[.string k] 9)):=((((((Below.refl _ w).alloc (Nat.le_refl _) _).alloc (by simp) _).alloc (by simp; omega) _).alloc (by simp; omega) _).alloc (by simp; omega) _).alloc (by simp; omega) _
 have hsz:((((((w.alloc (.cells #[.string k] 9)).alloc (.cells #[.string ⟨#[]⟩] 9)).alloc (.cells #[.int .i64 0] 3)).alloc (.cells #[.bool false] 4)).alloc (.cells #[.pointer pt] 196)).alloc (.cells #[.string k] 9)).heap.size=w.heap.size+6:=by simp
 simp only [World.size_alloc] at b0 b1 b2 b3 b4
 obtain ⟨W0,hW0⟩:∃ W0,((((((w.alloc (.cells #[.string k] 9)).alloc (.cells #[.string ⟨#[]⟩] 9)).alloc (.cells #[.int .i64 0] 3)).alloc (.cells #[.bool false] 4)).alloc (.cells #[.pointer pt] 196)).alloc (.cells #[.string k] 9))=W0:=⟨_,rfl⟩
 rw [hW0] at bk b0 b1 b2 b3 b4 hb hsz ⊢
 clear hW0
 have hc:=hI W0 (w.heap.size+1+1+1+1) (6-1) hb (by omega) (by omega) b3.cell b4.cell (by decide)
 rw [<-hB] at bk b0 b1 b2 b3 b4 hb hsz hc ⊢
 have HBS:=qh hB
 refine wpIn_rangeFunc_ownH rfl (by decide) (gf:=165) (lb:=#[.pointer (some ⟨B+1+1+1+1,0,none⟩),.pointer (some ⟨B+1+1+1+1+1,0,none⟩)]) rfl trivial (enters_of Tryz.func165 (by kernel_rfl) rfl)
  hc belowK_t (belowK_b (by omega)) (Below.refl _ _) (fun _=>rfl)
  (fun pre W=>((∀ y,y ∈ pre->y.1.1=k)∧B+6<=W.heap.size∧Boxed W B 9 (.string k)∧Boxed W (B+1) 9 (.string ⟨#[]⟩)∧Boxed W (B+1+1) 3 (.int .i64 0)∧Boxed W (B+1+1+1) 4 (.bool false))∧Below B w W)
  (fun c pre W=>(∃ x:Itm,c=.ret∧(∃ p0:List Itm,pre=p0++[x]∧(∀ y,y ∈ p0->y.1.1=k)∧x.1.1≠k)∧Boxed W (B+1) 9 (.string x.1.1)∧Boxed W (B+1+1) 3 (.int .i64 x.1.2)∧Boxed W (B+1+1+1) 4 (.bool true))∧Below B w W)
  (OwnFrom.and (Own.from (fun s X Y row hs hg hr=>⟨hs.1,Nat.le_trans hs.2.1 hg.size,boxed_kept hs.2.2.1 hg hr,boxed_kept hs.2.2.2.1 hg hr,boxed_kept hs.2.2.2.2.1 hg hr,boxed_kept hs.2.2.2.2.2 hg hr⟩) _) (ownFrom_below (by omega) (by omega)))
  (fun c=>OwnFrom.and (Own.from (fun s X Y row hs hg hr=>by obtain ⟨x,h1,h2,h3,h4,h5⟩:=hs; exact ⟨x,h1,h2,boxed_kept h3 hg hr,boxed_kept h4 hg hr,boxed_kept h5 hg hr⟩) _) (ownFrom_below (by omega) (by omega)))
  ⟨⟨(fun y hy=>(by cases hy)),by omega,bk,b0,b1,b2⟩,hb⟩
  (fun x a' W=>∃ Bx,B+5<Bx∧RowAt W Bx [.string x.1.1,.int .i64 x.1.2] 221∧a'={ tmps:=#[.pointer pt,.string k,undef,.pointer (some ⟨B,0,none⟩),.pointer (some ⟨B+1,0,none⟩),.pointer (some ⟨B+1+1,0,none⟩),.pointer (some ⟨B+1+1+1,0,none⟩),.pointer (some ⟨Bx,0,none⟩),.pointer pt,.string k,.func (.func 165) #[] #[.pointer (some ⟨B+1+1+1+1,0,none⟩),.pointer (some ⟨B+1+1+1+1+1,0,none⟩)],  .agg #[.string x.1.1,.int .i64 x.1.2],undef,undef,undef,undef,undef,undef,undef,undef,undef],defers:=[] })
  (fun x a' _ X Y row hs hg hr=>by obtain ⟨Bx,h1,h2,h3⟩:=hs; exact ⟨Bx,h1,rowAt_kept h2 hg (fun r e=>(hr r e).2),h3⟩)
  ?assign ?body ?done ?stop
 case assign =>
  clear hB
  rintro l pre x W K ⟨⟨hp,hs5,ck,c0,c1,c2⟩,hW⟩ hK
  dsimp only [encI]
  gi_wp2
  have hBW:B<=W.heap.size:=by omega
  exact hK _ _ ((KeepsOthers.alloc _ _).from _) ((Below.refl _ W).alloc hBW _) ⟨⟨hp,by simp; omega,ck.alloc _,c0.alloc _,c1.alloc _,c2.alloc _⟩,hW.alloc hBW _⟩ ⟨W.heap.size,by omega,RowAt.new W _ _,rfl⟩
 case body =>
  clear hB
  rintro l pre x a' W hl ⟨r,hr⟩ ⟨⟨hp,hs5,ck,c0,c1,c2⟩,hW⟩ ⟨Bx,hBx,bX,rfl⟩ hlt
  have x0:=bX.cell 0
  have x1:=bX.cell 1
  simp only [geS] at x0 x1
  have TC:=qh (xTold W x.1 x.2)
  have C0:=qh c0
  have C1:=qh c1
  have C2:=qh c2
  have CK:=qh ck
  have HP:=qh hp
  have HW:=qh hW
  have q0:=ck.cell
  have h1':1<=6-1-1:=by decide
  clear bk b0 b1 b2 b3 b4 c0 c1 c2 ck hW hc hp
  have hBW:B<=W.heap.size:=by omega
  by_cases hx:x.1.1=k
  ·have hx':(x.1.1.toList == k.toList)=true:=str_eq hx
   have HX:=qh hx
   clear hx
   gi_wp2
   refine ⟨KeepsFrom.refl _ _,Below.refl _ _,⟨fun y hy=>?_,hs5,CK.out,C0.out,C1.out,C2.out⟩,HW.out⟩
   rcases List.mem_append.1 hy with t | t
   ·exact HP.out y t
   ·simp at t; rw [t]; exact HX.out
  have hx':(x.1.1.toList == k.toList)=false:=str_ne hx
  have HX:=qh hx
  clear hx
  gi_wp2_with (refine ⟨trivial,?_⟩; gi_at_call 155; refine (CallsIn.inRound l (callsIn_wide.2 TC.out)).mono ?_; rintro e w' ⟨rfl,hb'⟩; have HB':=qh hb'; have e0:=boxed_below C0.out hb'; have e1:=boxed_below C1.out hb'; have e2:=boxed_below C2.out hb'; have E0:=qh e0; have E1:=qh e1; have E2:=qh e2; have t0:=e0.cell; have t1:=e1.cell; have t2:=e2.cell; have f0:=e0.frozen; have f1:=e1.frozen; have f2:=e2.frozen; clear e0 e1 e2 hb')
  have hBo:=Below.then2 HW.out HB'.out hBW
  refine ⟨(keepsFrom_below HB'.out).trans (((KeepsOthers.setCell _ _ _).from _).trans (((KeepsOthers.setCell _ _ _).from _).trans ((KeepsOthers.setCell _ _ _).from _))),⟨x,rfl,⟨_,rfl,HP.out,HX.out⟩,?_,?_,?_⟩,?_⟩
  ·exact ((E0.out.set _).other (by omega) _).other (by omega) _
  ·exact ((E1.out.other (by omega) _).set _).other (by omega) _
  ·exact ((E2.out.other (by omega) _).other (by omega) _).set _
  ·exact ((hBo.setCell (p:=⟨B+1,0,none⟩) (by show B<=B+1; omega) _).setCell (p:=⟨B+1+1,0,none⟩) (by show B<=B+1+1; omega) _).setCell (p:=⟨B+1+1+1,0,none⟩) (by show B<=B+1+1+1; omega) _
 case done =>
  clear hB
  rintro D ys W hD rfl ⟨⟨hp,hs5,ck,c0,c1,c2⟩,hW⟩ hK
  have HA:=qh (aft_none hp)
  have C0:=qh c0
  have C1:=qh c1
  have C2:=qh c2
  have HW:=qh hW
  have t0:=c0.cell
  have t1:=c1.cell
  have t2:=c2.cell
  have f0:=c0.frozen
  have f1:=c1.frozen
  have f2:=c2.frozen
  clear bk b0 b1 b2 b3 b4 c0 c1 c2 ck hW hc hp
  gi_wp2
  obtain ⟨W3,hW3⟩:=nmq (((W.setCell ⟨B+1,0,none⟩ (.string ⟨#[]⟩)).setCell ⟨B+1+1,0,none⟩ (.int .i64 0)).setCell ⟨B+1+1+1,0,none⟩ (.bool false))
  have e0:Boxed W3 (B+1) 9 (.string ⟨#[]⟩):=by rw [hW3]; exact ((C0.out.set _).other (by omega) _).other (by omega) _
  have e1:Boxed W3 (B+1+1) 3 (.int .i64 0):=by rw [hW3]; exact ((C1.out.other (by omega) _).set _).other (by omega) _
  have e2:Boxed W3 (B+1+1+1) 4 (.bool false):=by rw [hW3]; exact ((C2.out.other (by omega) _).other (by omega) _).set _
  have eb:Below B w W3:=by rw [hW3]; exact ((HW.out.setCell (p:=⟨B+1,0,none⟩) (by show B<=B+1; omega) _).setCell (p:=⟨B+1+1,0,none⟩) (by show B<=B+1+1; omega) _).setCell (p:=⟨B+1+1+1,0,none⟩) (by show B<=B+1+1+1; omega) _
  have hK':W3.heap[D]?=some (.deferred (some [])):=by rw [hW3]; exact (KeepsOthers.setCell _ _ _).same D _ ((KeepsOthers.setCell _ _ _).same D _ ((KeepsOthers.setCell _ _ _).same D _ hK rfl) rfl) rfl
  rw [<-hW3]
  refine ⟨by simp,.inl ⟨_,_,rfl,run_takeDeferred hK',?_⟩⟩
  have g0:=(boxed_kept e0 (grownBy_putObj' _ D (.deferred none)) (fun r e=>by cases e; exact ⟨_,hK',rfl⟩)).cell
  have g1:=(boxed_kept e1 (grownBy_putObj' _ D (.deferred none)) (fun r e=>by cases e; exact ⟨_,hK',rfl⟩)).cell
  have g2:=(boxed_kept e2 (grownBy_putObj' _ D (.deferred none)) (fun r e=>by cases e; exact ⟨_,hK',rfl⟩)).cell
  refine ⟨.tuple #[.string ⟨#[]⟩,.int .i64 0,.bool false],?_,by rw [HA.out]; rfl,by rw [<-HBS.out]; exact eb.trans (belowK_b (w:=W0) (n₀:=B) (by omega) _ D _ _ hD hK' rfl rfl)⟩
  simp [results,Tryz.f140,go_sem,g0,g1,g2]
 case stop =>
  clear hB
  rintro D c pre W hD hpre ⟨⟨x,rfl,⟨p0,rfl,hp,hx⟩,c0,c1,c2⟩,hW⟩ hK
  obtain ⟨z,e⟩:=aft_some hp hx hpre
  gi_wp2
  refine ⟨by simp,.inl ⟨_,_,rfl,run_takeDeferred hK,?_⟩⟩
  have g0:=(boxed_kept c0 (grownBy_putObj' _ D (.deferred none)) (fun r e=>by cases e; exact ⟨_,hK,rfl⟩)).cell
  have g1:=(boxed_kept c1 (grownBy_putObj' _ D (.deferred none)) (fun r e=>by cases e; exact ⟨_,hK,rfl⟩)).cell
  have g2:=(boxed_kept c2 (grownBy_putObj' _ D (.deferred none)) (fun r e=>by cases e; exact ⟨_,hK,rfl⟩)).cell
  refine ⟨.tuple #[.string x.1.1,.int .i64 x.1.2,.bool true],?_,?_,by rw [<-HBS.out]; exact hW.trans (belowK_b (w:=W0) (n₀:=B) (by omega) _ D _ _ hD hK rfl rfl)⟩
  ·simp [results,Tryz.f140,go_sem,g0,g1,g2]
  ·rw [e]; rfl

end Go.Proofs.YtoljhoabbaigdaaGreat

namespace Go.Proofs.YtoljhoabbaigdaaGreat
open Go.RowKit Go.Shelf

theorem t_room_of_none {F:Fence} (hd:F.depth=none) (k:Nat):F.room k:=fun d h=>by rw [hd] at h; cases h
theorem round_anyDepth {F:Fence} (hd:F.depth=none) {m m':Nat} {P:Program} {l:Nat} {f:FuncId} {tmps:Array Value} {assign body:Code} {w:World} {R:Ending->World->Prop}
  (h:RoundIn F m P l f tmps assign body w R):RoundIn F m' P l f tmps assign body w R:=⟨h.1,fun c cs _=>h.2 c cs (t_room_of_none hd _)⟩
theorem yield_anyDepth {F:Fence} (hd:F.depth=none) {m:Nat} (m':Nat) {P:Program} {l:Nat} {args:Array Value} {W:World} {R:Ending->World->Prop} (h:YieldAt F m P l args W R):YieldAt F m' P l args W R:=by
 obtain ⟨fn,tmps,assign,body,hy,hR⟩:=h
 exact ⟨fn,tmps,assign,body,hy,round_anyDepth hd hR⟩

def Tab.give (s:Tab) (k:ByteArray):Nat->Nat->KV
 | 0,p=>(s.nd p).drop ((s.nd p).pos k)
 | h+1,p=>((s.nd p).drop ((s.nd p).kid k)).flatMap fun x=>s.give k h x.2.toNat
def Tab.Sound (s:Tab):Nat->Nat->Prop
 | 0,p=>p<s.nds.length∧(s.nd p).length<=1000∧∀ x,x ∈ s.nd p->x.1.size<=1000000
 | h+1,p=>p<s.nds.length∧(s.nd p).length<=1000∧∀ x,x ∈ s.nd p->∃ q:Nat,x.2=q∧s.Sound h q
def toI (x:ByteArray × Int):Itm:=if h:x.1.size<=1000000 then ⟨x,h⟩ else ⟨(⟨#[]⟩,0),by decide⟩
theorem toI_val {x:ByteArray × Int} (h:x.1.size<=1000000):(toI x).1=x:=by unfold toI; rw [dif_pos h]
theorem encI_toI {x:ByteArray × Int} (h:x.1.size<=1000000):encI (toI x)=#[.agg #[.string x.1,.int .i64 x.2]]:=by unfold encI; rw [toI_val h]
theorem take_snoc {z:KV} {i:Nat} (h:i<z.length):(z.take (i+1)).map toI=(z.take i).map toI++[toI z[i]]:=by
 rw [List.take_succ_eq_append_getElem h,List.map_append]; rfl

attribute [local go_sem] Oper.semAt_some
theorem xWalk0 (w:World) (T:Nat) (E:Nat->Prop) (s:Tab) (rv fv:Value) (vs:List Value) (k:ByteArray) (hv:TabV w T E s rv fv vs) (l N B0:Nat) (J Jx:List Itm->World->Prop)
  (hJ:AbidesFrom B0 J) (hY:∀ m pre x W,J pre W->pre.length<N->YieldAt Fence.wide m Tryz.prog l (encI x) W fun e W'=>(e=.returned (.bool true)∧J (pre++[x]) W'∧Below w.heap.size W W')∨(e=.returned (.bool false)∧Jx (pre++[x]) W'))
  (n p:Nat) (pre:List Itm) (W:World) (hs:s.Sound 0 p) (hb:Below w.heap.size w W) (h0:J pre W) (hN:pre.length+(s.give k 0 p).length<=N) :
  CallsIn Fence.wide n Tryz.prog 166 #[Ptr T,.int .i64 p,.int .i64 1,.string k,.func (.yield l) #[] #[]] W fun e W' =>
   (e=.returned (.bool true)∧J (pre++(s.give k 0 p).map toI) W'∧Below w.heap.size W W')∨(e=.returned (.bool false)∧∃ q,q <+: (s.give k 0 p).map toI∧Jx (pre++q) W'):=by
 obtain ⟨hp,hlen,hsz⟩:=hs
 have hW:=hv.below hb
 have hp':p<vs.length:=by rw [hv.len]; exact hp
 obtain ⟨g,c,hrv,_,_,_⟩:=hW.rowAt (by omega)
 obtain ⟨A,cp,ev,hi⟩:=(hW.node p hp').form
 have d0:=hW.row.cell 0
 simp only [List.getElem?_cons_zero] at d0
 have d1:=(hW.eq_win hrv hp').1
 rw [hrv] at d0
 rw [ev] at d1
 have BC:=qh (xBelow W (.slice A (s.nd p).length cp) (s.nd p) k (by rw [<-ev]; exact hW.node p hp') (by omega))
 have pl:=KV.pos_le k (s.nd p)
 have gv:s.give k 0 p=(s.nd p).drop ((s.nd p).pos k):=rfl
 rw [gv] at hN ⊢
 obtain ⟨P,hP⟩:=nmq ((s.nd p).pos k)
 obtain ⟨Z,hZ⟩:=nmq ((s.nd p).length)
 obtain ⟨zs,hzs⟩:=nmq (s.nd p)
 obtain ⟨M,hM⟩:=nmq (vs.length)
 have hZc:Z<=cp:=by
  rw [hZ]
  rcases hW.node p hp' with ⟨e,e0⟩ | ⟨b,o,c,e,k⟩
  ·rw [e0]; exact Nat.zero_le _
  ·rw [ev] at e
   injection e with _ _ e3
   rw [e3]; exact k.fit
 have IT:=qh (show ∀ W',Below w.heap.size W W'->∀ j,j<Z->∃ b o,A=some ⟨b,o,none⟩∧W'.cell? ⟨b,o+j * 2,none⟩=some (.string (zs.key j))∧W'.cell? ⟨b,o+j * 2+1,none⟩=some (.int .i64 (zs.num j)) from fun W' hb' j hj=>by
  obtain ⟨A',cp',ev',hi'⟩:=((hv.below (hb.trans hb')).node p hp').form
  rw [ev] at ev'
  injection ev' with e1 _ _
  obtain ⟨b,o,e,a1,a2⟩:=hi' j (by rw [<-hZ]; exact hj)
  exact ⟨b,o,by rw [e1]; exact e,by rw [hzs]; exact a1,by rw [hzs]; exact a2⟩)
 have SZ:=qh (show ∀ j (hj:j<zs.length),(zs[j]).1.size<=1000000 from fun j hj=>by subst hzs; exact hsz _ (List.getElem_mem hj))
 have zl:zs.length=Z:=by rw [hzs,hZ]
 rw [<-hZ] at d1 BC pl hlen
 rw [<-hP] at BC pl hN ⊢
 rw [<-hzs] at hN ⊢
 rw [<-hM] at d0 hp'
 have HB:=qh hb
 have ZL:=qh zl
 have HN:=qh hN
 have H0:=qh h0
 have HY:=qh hY
 have HJ:=qh hJ
 have sb:=hb.size
 clear hv hW hi hP hZ hzs hM hsz hb zl hN h0 hY hJ ev gv hrv hp
 have hJA:∀ s' W' cs t,J s' W'->J s' (W'.alloc (.cells cs t)):=fun s' W' cs t h=>HJ.out s' W' _ none h (World.grownBy_alloc W' _ none) (fun r e=>by cases e)
 have HJA:=qh hJA
 clear hJA
 refine callsIn_of_wp Tryz.func166 rfl trivial ?_ rfl
 simp only [Tryz.ntmps166,List.size_toArray,List.length_cons,List.length_nil,Nat.reduceAdd,Nat.reduceSub,Array.replicate_succ,Array.replicate_zero,List.push_toArray,List.append_toArray,List.nil_append,List.cons_append]
 have p0z:(0:Int)<=(P:Int):=by omega
 have plz:(P:Int)<=(Z:Int):=by omega
 have plc:(P:Int)<=(cp:Int):=by omega
 have zcz:(Z:Int)<=(cp:Int):=by omega
 by_cases q:P<Z
 ·obtain ⟨b,o,rfl,_⟩:=IT.out W (Below.refl _ _) P q
  have hcp:¬ cp=P:=by omega
  gi_wp2_with (refine ⟨trivial,(fun h=>by cases h),?_⟩; gi_at_call 146; refine (callsIn_wide.2 BC.out).mono ?_; rintro e w' ⟨rfl,rfl⟩)
  obtain ⟨m,hm⟩:=nmq (Z-P)
  rw [<-hm]
  have mz:m<=1000:=by omega
  have HM:=qh hm
  clear hm
  gi_loopw [51] (fun vi wr=>∃ i:Nat,i<=m∧vi=.int .i64 i∧Hid (J (pre++((zs.drop P).take i).map toI) wr)∧Hid (Below w.heap.size w' wr)) (fun vi _=>m-(intOf vi).toNat)
  case atStart=>exact ⟨0,Nat.zero_le _,rfl,qh (by simpa using H0.out),qh (Below.refl _ _)⟩
  case round =>
   obtain ⟨i,him,rfl,HJi,HBi⟩:=hrel
   by_cases q2:i<m
   ·have hPi:P+i<Z:=by have:=HM.out; omega
    obtain ⟨b',o',e',a0,a1⟩:=IT.out wr HBi.out (P+i) hPi
    injection e' with e'
    injection e' with e1 e2 _
    subst e1; subst e2
    rw [show o+(P+i) * 2=o+P * 2+i * 2 by omega] at a0 a1
    have hzl:P+i<zs.length:=by rw [ZL.out]; exact hPi
    have sx:=SZ.out (P+i) hzl
    have hx:zs[P+i]=(zs.key (P+i),zs.num (P+i)):=KV.getE _ _ hzl
    have hdl:i<(zs.drop P).length:=by rw [List.length_drop]; omega
    have hsn:=take_snoc (z:=zs.drop P) hdl
    have hgx:(zs.drop P)[i]=zs[P+i]:=by rw [List.getElem_drop]
    rw [hgx] at hsn
    have hlt:(pre++((zs.drop P).take i).map toI).length<N:=by
     have:=HN.out
     rw [List.length_drop] at this
     rw [List.length_append,List.length_map,List.length_take,List.length_drop]; omega
    obtain ⟨fn,tmps,assign,body,hy,hR⟩:=HY.out (n-1) _ (toI zs[P+i]) (wr.alloc (.cells #[.string (zs.key (P+i)),.int .i64 (zs.num (P+i))] 221)) (HJA.out _ _ _ _ HJi.out) hlt
    rw [encI_toI sx,hx] at hy
    obtain ⟨X0,hX0⟩:=nmq (zs.key (P+i))
    obtain ⟨X1,hX1⟩:=nmq (zs.num (P+i))
    rw [<-hX0] at a0 hy hR
    rw [<-hX1] at a1 hy hR
    simp only at hy
    have HSN:=qh hsn
    have bw:=Below.then2 HBi.out ((Below.refl wr.heap.size wr).alloc (Nat.le_refl _) (.cells #[.string X0,.int .i64 X1] 221)) (Nat.le_trans sb HBi.out.size)
    have BW:=qh bw
    have HR:=qh hR
    clear hsn hgx hx hX0 hX1 sx hR bw hlt
    gi_wp2_with (refine ⟨(fun h=>by cases h),?_⟩; refine HR.out.mono ?_; rintro e W3 (⟨rfl,hJ3,hk3⟩ | ⟨rfl,hJx3⟩))
    ·refine ⟨⟨i+1,by omega,(by go_num),qh ?_,qh (BW.out.trans hk3)⟩,by simp [intOf]; omega⟩
     rw [HSN.out,<-List.append_assoc]; exact hJ3
    ·go_ret
     refine .inr ⟨rfl,((zs.drop P).take (i+1)).map toI,?_,?_⟩
     ·rw [List.map_take]; exact List.take_prefix _ _
     ·rw [HSN.out,<-List.append_assoc]; exact hJx3
   ·obtain rfl:i=m:=by omega
    gi_wp2
    go_ret
    refine .inl ⟨rfl,?_,HBi.out⟩
    have:=HJi.out
    rw [List.take_of_length_le (by rw [List.length_drop,ZL.out,HM.out]; exact Nat.le_refl _)] at this
    exact this
 ·obtain rfl:P=Z:=by omega
  have hz:zs.drop P=[]:=List.drop_of_length_le (by rw [ZL.out]; exact Nat.le_refl _)
  rw [hz]
  have HZ0:=qh hz
  by_cases hcp:cp=P
  ·subst hcp
   gi_wp2_with (refine ⟨trivial,(fun h=>by cases h),?_⟩; gi_at_call 146; refine (callsIn_wide.2 BC.out).mono ?_; rintro e w' ⟨rfl,rfl⟩)
   gi_loopw [51] (fun vi wr=>vi=.int .i64 0∧Hid (J pre wr)∧Hid (Below w.heap.size w' wr)) (fun _ _=>0)
   case atStart=>exact ⟨rfl,H0,qh (Below.refl _ _)⟩
   case round =>
    obtain ⟨rfl,HJi,HBi⟩:=hrel
    gi_wp2
    go_ret
    exact .inl ⟨rfl,by simpa using HJi.out,HBi.out⟩
  ·gi_wp2_with (refine ⟨trivial,(fun h=>by cases h),?_⟩; gi_at_call 146; refine (callsIn_wide.2 BC.out).mono ?_; rintro e w' ⟨rfl,rfl⟩)
   gi_loopw [51] (fun vi wr=>vi=.int .i64 0∧Hid (J pre wr)∧Hid (Below w.heap.size w' wr)) (fun _ _=>0)
   case atStart=>exact ⟨rfl,H0,qh (Below.refl _ _)⟩
   case round =>
    obtain ⟨rfl,HJi,HBi⟩:=hrel
    gi_wp2
    go_ret
    exact .inl ⟨rfl,by simpa using HJi.out,HBi.out⟩

end Go.Proofs.YtoljhoabbaigdaaGreat

namespace Go.Proofs.YtoljhoabbaigdaaGreat
open Go.RowKit Go.Shelf

theorem fm_take_le {G:ByteArray × Int->KV} (z:KV) (i:Nat):((z.take i).flatMap G).length<=(z.flatMap G).length:=by
 have e:z.flatMap G=(z.take i).flatMap G++(z.drop i).flatMap G:=by rw [<-List.flatMap_append,List.take_append_drop]
 rw [e,List.length_append]; omega
theorem fm_take_prefix {G:ByteArray × Int->KV} (z:KV) (i:Nat):((z.take i).flatMap G).map toI <+: (z.flatMap G).map toI:=by
 have e:z.flatMap G=(z.take i).flatMap G++(z.drop i).flatMap G:=by rw [<-List.flatMap_append,List.take_append_drop]
 rw [e,List.map_append]; exact ⟨_,rfl⟩
theorem fm_snoc {G:ByteArray × Int->KV} {z:KV} {i:Nat} (h:i<z.length):(z.take (i+1)).flatMap G=(z.take i).flatMap G++G z[i]:=by
 rw [List.take_succ_eq_append_getElem h,List.flatMap_append]; simp
theorem kid_le {z:KV} {k:ByteArray}:z.kid k<=z.length:=by
 have:=KV.pos_le k z
 unfold KV.kid; split<;>omega

attribute [local go_sem] Oper.semAt_some
theorem xWalkS (w:World) (T:Nat) (E:Nat->Prop) (s:Tab) (rv fv:Value) (vs:List Value) (k:ByteArray) (hv:TabV w T E s rv fv vs) (l N B0:Nat) (J Jx:List Itm->World->Prop)
  (hJ:AbidesFrom B0 J)
  (h:Nat) (IH:∀ (n q:Nat) (pre:List Itm) (W:World),s.Sound h q->Below w.heap.size w W->J pre W->pre.length+(s.give k h q).length<=N->CallsIn Fence.wide n Tryz.prog 166 #[Ptr T,.int .i64 q,.int .i64 ((h:Int)+1),.string k,.func (.yield l) #[] #[]] W fun e W'=>(e=.returned (.bool true)∧J (pre++(s.give k h q).map toI) W'∧Below w.heap.size W W')∨(e=.returned (.bool false)∧∃ q',q' <+: (s.give k h q).map toI∧Jx (pre++q') W'))
  (hh:h<=1000) (n p:Nat) (pre:List Itm) (W:World) (hs:s.Sound (h+1) p) (hb:Below w.heap.size w W) (h0:J pre W) (hN:pre.length+(s.give k (h+1) p).length<=N) :
  CallsIn Fence.wide n Tryz.prog 166 #[Ptr T,.int .i64 p,.int .i64 ((h:Int)+1+1),.string k,.func (.yield l) #[] #[]] W fun e W' =>
   (e=.returned (.bool true)∧J (pre++(s.give k (h+1) p).map toI) W'∧Below w.heap.size W W')∨(e=.returned (.bool false)∧∃ q,q <+: (s.give k (h+1) p).map toI∧Jx (pre++q) W'):=by
 obtain ⟨hp,hlen,hsz⟩:=hs
 have hW:=hv.below hb
 have hp':p<vs.length:=by rw [hv.len]; exact hp
 obtain ⟨g,c,hrv,_,_,_⟩:=hW.rowAt (by omega)
 obtain ⟨A,cp,ev,hi⟩:=(hW.node p hp').form
 have d0:=hW.row.cell 0
 simp only [List.getElem?_cons_zero] at d0
 have d1:=(hW.eq_win hrv hp').1
 rw [hrv] at d0
 rw [ev] at d1
 have BC:=qh (xKid W (.slice A (s.nd p).length cp) (s.nd p) k (by rw [<-ev]; exact hW.node p hp') (by omega))
 have pl:=kid_le (z:=s.nd p) (k:=k)
 obtain ⟨G,hG⟩:∃ G:ByteArray × Int->KV,G=fun x=>s.give k h x.2.toNat:=⟨_,rfl⟩
 have gv:s.give k (h+1) p=((s.nd p).drop ((s.nd p).kid k)).flatMap G:=by rw [hG]; rfl
 rw [gv] at hN ⊢
 obtain ⟨P,hP⟩:=nmq ((s.nd p).kid k)
 obtain ⟨Z,hZ⟩:=nmq ((s.nd p).length)
 obtain ⟨zs,hzs⟩:=nmq (s.nd p)
 obtain ⟨M,hM⟩:=nmq (vs.length)
 have hZc:Z<=cp:=by
  rw [hZ]
  rcases hW.node p hp' with ⟨e,e0⟩ | ⟨b,o,c,e,k⟩
  ·rw [e0]; exact Nat.zero_le _
  ·rw [ev] at e
   injection e with _ _ e3
   rw [e3]; exact k.fit
 have IT:=qh (show ∀ W',Below w.heap.size W W'->∀ j,j<Z->∃ b o,A=some ⟨b,o,none⟩∧W'.cell? ⟨b,o+j * 2,none⟩=some (.string (zs.key j))∧W'.cell? ⟨b,o+j * 2+1,none⟩=some (.int .i64 (zs.num j)) from fun W' hb' j hj=>by
  obtain ⟨A',cp',ev',hi'⟩:=((hv.below (hb.trans hb')).node p hp').form
  rw [ev] at ev'
  injection ev' with e1 _ _
  obtain ⟨b,o,e,a1,a2⟩:=hi' j (by rw [<-hZ]; exact hj)
  exact ⟨b,o,by rw [e1]; exact e,by rw [hzs]; exact a1,by rw [hzs]; exact a2⟩)
 have SZ:=qh (show ∀ j,j<zs.length->∃ q:Nat,zs.num j=q∧s.Sound h q from fun j hj=>by
  subst hzs
  have:=hsz _ (List.getElem_mem hj)
  rw [KV.getE _ _ hj] at this
  exact this)
 have zl:zs.length=Z:=by rw [hzs,hZ]
 rw [<-hZ] at d1 BC pl hlen
 rw [<-hP] at BC pl hN ⊢
 rw [<-hzs] at hN ⊢
 rw [<-hM] at d0 hp'
 have HB:=qh hb
 have ZL:=qh zl
 have HN:=qh hN
 have H0:=qh h0
 have HIH:=qh IH
 have HGG:=qh hG
 have HJ:=qh hJ
 have sb:=hb.size
 clear hv hW hi hP hZ hzs hM hsz hb zl hN h0 IH hJ ev gv hrv hp hG
 have hJA:∀ s' W' cs t,J s' W'->J s' (W'.alloc (.cells cs t)):=fun s' W' cs t h=>HJ.out s' W' _ none h (World.grownBy_alloc W' _ none) (fun r e=>by cases e)
 have HJA:=qh hJA
 clear hJA
 refine callsIn_of_wp Tryz.func166 rfl trivial ?_ rfl
 simp only [Tryz.ntmps166,List.size_toArray,List.length_cons,List.length_nil,Nat.reduceAdd,Nat.reduceSub,Array.replicate_succ,Array.replicate_zero,List.push_toArray,List.append_toArray,List.nil_append,List.cons_append]
 have hlv:(1:Int)<(h:Int)+1+1:=by omega
 have hlw:(h:Int)+1+1-1=(h:Int)+1:=by omega
 have p0z:(0:Int)<=(P:Int):=by omega
 have plz:(P:Int)<=(Z:Int):=by omega
 have plc:(P:Int)<=(cp:Int):=by omega
 have zcz:(Z:Int)<=(cp:Int):=by omega
 by_cases q:P<Z
 ·obtain ⟨b,o,rfl,_⟩:=IT.out W (Below.refl _ _) P q
  have hcp:¬ cp=P:=by omega
  gi_wp2_with (refine ⟨trivial,(fun h=>by cases h),?_⟩; gi_at_call 145; refine (callsIn_wide.2 BC.out).mono ?_; rintro e w' ⟨rfl,rfl⟩)
  obtain ⟨m,hm⟩:=nmq (Z-P)
  rw [<-hm]
  have mz:m<=1000:=by omega
  have HM:=qh hm
  clear hm
  gi_loopw [31] (fun vi wr=>∃ i:Nat,i<=m∧vi=.int .i64 i∧Hid (J (pre++(((zs.drop P).take i).flatMap G).map toI) wr)∧Hid (Below w.heap.size w' wr)) (fun vi _=>m-(intOf vi).toNat)
  case atStart=>exact ⟨0,Nat.zero_le _,rfl,qh (by simpa using H0.out),qh (Below.refl _ _)⟩
  case round =>
   obtain ⟨i,him,rfl,HJi,HBi⟩:=hrel
   by_cases q2:i<m
   ·have hPi:P+i<Z:=by have:=HM.out; omega
    obtain ⟨b',o',e',a0,a1⟩:=IT.out wr HBi.out (P+i) hPi
    injection e' with e'
    injection e' with e1 e2 _
    subst e1; subst e2
    rw [show o+(P+i) * 2=o+P * 2+i * 2 by omega] at a0 a1
    have hzl:P+i<zs.length:=by rw [ZL.out]; exact hPi
    obtain ⟨qn,hqn,hso⟩:=SZ.out (P+i) hzl
    have hx:zs[P+i]=(zs.key (P+i),zs.num (P+i)):=KV.getE _ _ hzl
    have hdl:i<(zs.drop P).length:=by rw [List.length_drop]; omega
    have hgx:(zs.drop P)[i]=(zs.key (P+i),(qn:Int)):=by rw [List.getElem_drop,hx,hqn]
    have hGx:G ((zs.drop P)[i])=s.give k h qn:=by rw [hgx,HGG.out]; rfl
    have hsn:=fm_snoc (G:=G) hdl
    rw [hGx] at hsn
    have hlt:(pre++(((zs.drop P).take i).flatMap G).map toI).length+(s.give k h qn).length<=N:=by
     have a1:=HN.out
     have a2:=fm_take_le (G:=G) (zs.drop P) (i+1)
     rw [hsn,List.length_append] at a2
     rw [List.length_append,List.length_map]; omega
    rw [hqn] at a1
    obtain ⟨X0,hX0⟩:=nmq (zs.key (P+i))
    rw [<-hX0] at a0
    have bw:=Below.then2 HBi.out ((Below.refl wr.heap.size wr).alloc (Nat.le_refl _) (.cells #[.string X0,.int .i64 qn] 221)) (Nat.le_trans sb HBi.out.size)
    have RC:=qh (HIH.out (n-1) qn _ (wr.alloc (.cells #[.string X0,.int .i64 qn] 221)) hso (HB.out.trans bw) (HJA.out _ _ _ _ HJi.out) hlt)
    have HSN:=qh hsn
    have BW:=qh bw
    clear hsn hgx hGx hx hX0 bw hlt hqn hso
    gi_wp2_with (refine ⟨trivial,(fun h=>by cases h),?_⟩; gi_at_call 166; refine RC.out.mono ?_; rintro e W3 (⟨rfl,hJ3,hk3⟩ | ⟨rfl,q',hq',hJx3⟩))
    ·refine ⟨⟨i+1,by omega,(by go_num),qh ?_,qh (BW.out.trans hk3)⟩,by simp [intOf]; omega⟩
     rw [HSN.out,List.map_append,<-List.append_assoc]; exact hJ3
    ·go_ret
     refine .inr ⟨rfl,(((zs.drop P).take i).flatMap G).map toI++q',?_,?_⟩
     ·refine List.IsPrefix.trans ?_ (fm_take_prefix (G:=G) (zs.drop P) (i+1))
      rw [HSN.out,List.map_append]
      exact (List.prefix_append_right_inj _).2 hq'
     ·rw [<-List.append_assoc]; exact hJx3
   ·obtain rfl:i=m:=by omega
    gi_wp2
    go_ret
    refine .inl ⟨rfl,?_,HBi.out⟩
    have:=HJi.out
    rw [List.take_of_length_le (by rw [List.length_drop,ZL.out,HM.out]; exact Nat.le_refl _)] at this
    exact this
 ·obtain rfl:P=Z:=by omega
  have hz:zs.drop P=[]:=List.drop_of_length_le (by rw [ZL.out]; exact Nat.le_refl _)
  rw [hz]
  have HZ0:=qh hz
  by_cases hcp:cp=P
  ·subst hcp
   gi_wp2_with (refine ⟨trivial,(fun h=>by cases h),?_⟩; gi_at_call 145; refine (callsIn_wide.2 BC.out).mono ?_; rintro e w' ⟨rfl,rfl⟩)
   gi_loopw [31] (fun vi wr=>vi=.int .i64 0∧Hid (J pre wr)∧Hid (Below w.heap.size w' wr)) (fun _ _=>0)
   case atStart=>exact ⟨rfl,H0,qh (Below.refl _ _)⟩
   case round =>
    obtain ⟨rfl,HJi,HBi⟩:=hrel
    gi_wp2
    go_ret
    exact .inl ⟨rfl,by simpa using HJi.out,HBi.out⟩
  ·gi_wp2_with (refine ⟨trivial,(fun h=>by cases h),?_⟩; gi_at_call 145; refine (callsIn_wide.2 BC.out).mono ?_; rintro e w' ⟨rfl,rfl⟩)
   gi_loopw [31] (fun vi wr=>vi=.int .i64 0∧Hid (J pre wr)∧Hid (Below w.heap.size w' wr)) (fun _ _=>0)
   case atStart=>exact ⟨rfl,H0,qh (Below.refl _ _)⟩
   case round =>
    obtain ⟨rfl,HJi,HBi⟩:=hrel
    gi_wp2
    go_ret
    exact .inl ⟨rfl,by simpa using HJi.out,HBi.out⟩


end Go.Proofs.YtoljhoabbaigdaaGreat
