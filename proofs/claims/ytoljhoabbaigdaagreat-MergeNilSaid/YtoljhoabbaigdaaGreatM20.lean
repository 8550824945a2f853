/- Proved parts: D2f H2n. Conditions: each theorem's own. -/
import Derived.Test.YtoljhoabbaigdaaGreatM15
import Derived.Test.YtoljhoabbaigdaaGreatM19
import Derived.Test.YtoljhoabbaigdaaGreatM18
import Derived.Test.YtoljhoabbaigdaaGreatM10
import Derived.Laws.Rows
import Derived.Test.YtoljhoabbaigdaaGreatQ2
set_option maxRecDepth 100000
set_option maxHeartbeats 8000000
namespace Go.Proofs.YtoljhoabbaigdaaGreat
open Go.RowKit

structure OkWl (L:Wl):Prop where
 rise:L.Rise
 len:L.length<=16
 may:∀ x,x ∈ L->Wl.may x=true∧x.val.bits<18446744073709551616
theorem may_parts {x:Wr} (h:Wl.may x=true):x.key.size<=32∧x.val.txt.size<=64:=by
 unfold Wl.may keyOk at h
 simp only [Bool.and_eq_true,decide_eq_true_eq] at h
 refine ⟨h.1.2,?_⟩
 have o:=h.2
 unfold Val.ok at o
 split at o
 ·simp only [Bool.and_eq_true,decide_eq_true_eq] at o; omega
 ·simp only [Bool.and_eq_true,decide_eq_true_eq] at o; omega
theorem OkWl.at {L:Wl} (h:OkWl L) {i:Nat} (hi:i<L.length):(L.getD i Wr.Z).key.size<=32∧(L.getD i Wr.Z).val.txt.size<=64:=by
 rw [<-Wl.get hi]
 exact may_parts (h.may _ (List.getElem_mem hi)).1

theorem results_cell_oneW {P:Program} {fn:Func} {p:Tmp} {ty:TypeId} (h:fn.results=#[.cell p ty]) (tmps:Array Value) (w:World) (g:Nat) (t:TypeId) (cs:List Value) (d:TypeDesc)
  (hp:tmps.getD p undef=.pointer (some ⟨g,0,none⟩)) (hg:RowAt w g cs t)
  (hu:P.underlying ty=some d) (hd:(match d with | .struct _ | .array _ _=>true | _=>false)=true) (hi:(P.info? ty).map (·.size)=some cs.toArray.size) :
  (results fn tmps).run P w=.ok (.agg cs.toArray) w :=
 results_cell_row h tmps w g t cs.toArray _ d hp hg hu hd hi
def setW (w:World) (g:Nat) (x:Wr):World:=((((w.setCell ⟨g,0,none⟩ (.string x.key)).setCell ⟨g,1,none⟩ (.bool x.gone)).setCell ⟨g,2,none⟩ (.bool x.val.num)).setCell ⟨g,3,none⟩ (.string x.val.txt)).setCell ⟨g,4,none⟩ (.int .u64 (x.val.bits:Int))
theorem setW_row {w:World} {g:Nat} {x y:Wr} {t:TypeId} (h:RowAt w g y.cs t):RowAt (setW w g x) g x.cs t:=((((h.set 0 (.string x.key)).set 1 (.bool x.gone)).set 2 (.bool x.val.num)).set 3 (.string x.val.txt)).set 4 (.int .u64 (x.val.bits:Int))
theorem setW_below {w0 w:World} {B g:Nat} {x:Wr} (h:Below B w0 w) (hg:B<=g):Below B w0 (setW w g x):=((((h.setCell hg _).setCell hg _).setCell hg _).setCell hg _).setCell hg _
theorem wrF {w:World} {g:Nat} {t:TypeId} {x:Wr} (h:RowAt w g x.cs t):w.cell? ⟨g,0,none⟩=some (.string x.key)∧w.cell? ⟨g,1,none⟩=some (.bool x.gone)∧w.cell? ⟨g,2,none⟩=some (.bool x.val.num)∧w.cell? ⟨g,3,none⟩=some (.string x.val.txt)∧w.cell? ⟨g,4,none⟩=some (.int .u64 (x.val.bits:Int)) :=
 ⟨h.cell 0,h.cell 1,h.cell 2,h.cell 3,h.cell 4⟩
theorem wrZ {w:World} {g:Nat} {t:TypeId} (h:RowAt w g Wr.Z.cs t):w.frozen? ⟨g,0,none⟩=false∧w.frozen? ⟨g,1,none⟩=false∧w.frozen? ⟨g,2,none⟩=false∧w.frozen? ⟨g,3,none⟩=false∧w.frozen? ⟨g,4,none⟩=false ∧
  w.cell? ⟨g,0,none⟩=some (.string ⟨#[]⟩)∧w.cell? ⟨g,1,none⟩=some (.bool false)∧w.cell? ⟨g,2,none⟩=some (.bool false)∧w.cell? ⟨g,3,none⟩=some (.string ⟨#[]⟩)∧w.cell? ⟨g,4,none⟩=some (.int .u64 0) :=
 ⟨h.frozen 0,h.frozen 1,h.frozen 2,h.frozen 3,h.frozen 4,h.cell 0,h.cell 1,h.cell 2,h.cell 3,h.cell 4⟩

theorem xFindNil13 (k:ByteArray) (w:World):Calls Tryz.prog 64 #[.pointer none,.string k] w fun e w'=>e=.returned (.tuple #[.int .i64 0,.bool false])∧w'=w:=by
 go_enter Tryz.func64,Tryz.ntmps64
 go_wp2_with fail
 go_ret2
 exact ⟨rfl,rfl⟩
theorem xLenNil13 (w:World):Calls Tryz.prog 136 #[.pointer none] w fun e w'=>e=.returned (.int .i64 0)∧w'=w:=by
 go_enter Tryz.func136,Tryz.ntmps136
 go_wp2_with fail
 go_ret
 exact ⟨rfl,rfl⟩
theorem xToldNil13 (w:World):Calls Tryz.prog 119 #[.pointer none,.int .i64 0] w fun e w'=>e=.returned (.tuple #[Wr.Z.v,.bool false])∧Below w.heap.size w w':=by
 obtain ⟨B,hB⟩:=nmq (w.heap.size)
 obtain ⟨W0,hW0⟩:=nmq (w.alloc (.cells #[.string ⟨#[]⟩,.bool false,.bool false,.string ⟨#[]⟩,.int .u64 0] 61))
 have b0:Below w.heap.size w W0:=by rw [hW0]; exact (Below.refl _ _).alloc (Nat.le_refl _) _
 have R0:RowAt W0 w.heap.size Wr.Z.cs 61:=by rw [hW0]; exact RowAt.new w Wr.Z.cs 61
 rw [<-hB] at b0 R0 ⊢
 have HB:=qh hB
 have HW:=qh hW0
 obtain ⟨g0,g1,g2,g3,g4,e0,e1,e2,e3,e4⟩:=wrZ R0
 have F1:=qh (show Below B w (setW W0 B Wr.Z) from setW_below b0 (Nat.le_refl _))
 have F2:=qh (show RowAt (setW W0 B Wr.Z) B Wr.Z.cs _ from setW_row R0)
 clear hB hW0 b0 R0
 go_enter Tryz.func119,Tryz.ntmps119
 go_wp2_with fail
 rw [<-HW.out,<-HB.out]
 refine (xLenNil13 _).mono ?_
 rintro e w1 ⟨rfl,hw⟩
 obtain rfl:W0=w1:=hw.symm
 go_wp2_with fail
 refine bodyPost_ret (results_cell_tmp rfl _ (setW W0 B Wr.Z) B _ _ _ rfl F2.out Tryz.underlying61 rfl (by kernel_rfl)) rfl ?_
 exact ⟨rfl,F1.out⟩
theorem xAfterNil13 (k:ByteArray) (w:World):Calls Tryz.prog 87 #[.pointer none,.string k] w fun e w'=>e=.returned (.tuple #[Wr.Z.v,.bool false])∧Below w.heap.size w w':=by
 obtain ⟨B,hB⟩:=nmq (w.heap.size)
 obtain ⟨W0,hW0⟩:=nmq (w.alloc (.cells #[.string ⟨#[]⟩,.bool false,.bool false,.string ⟨#[]⟩,.int .u64 0] 61))
 have b0:Below w.heap.size w W0:=by rw [hW0]; exact (Below.refl _ _).alloc (Nat.le_refl _) _
 have R0:RowAt W0 w.heap.size Wr.Z.cs 61:=by rw [hW0]; exact RowAt.new w Wr.Z.cs 61
 rw [<-hB] at b0 R0 ⊢
 have HB:=qh hB
 have HW:=qh hW0
 have KT:Hid (∀ W,Calls Tryz.prog 119 #[.pointer none,.int .i64 0] W fun e w'=>e=.returned (.tuple #[.agg #[.string ⟨#[]⟩,.bool false,.bool false,.string ⟨#[]⟩,.int .u64 0],.bool false])∧Below W.heap.size W w'):=qh (fun W=>xToldNil13 W)
 have B0:=qh b0
 have R0:=qh R0
 clear hB hW0 b0
 go_enter Tryz.func87,Tryz.ntmps87
 go_wp2_with fail
 rw [<-HW.out,<-HB.out]
 refine (xFindNil13 k _).mono ?_
 rintro e w1 ⟨rfl,hw⟩
 obtain rfl:W0=w1:=hw.symm
 go_wp2_with fail
 refine (KT.out _).mono ?_
 rintro e w2 ⟨rfl,hb2⟩
 have R2:=R0.out.below hb2
 have b2:Below B w w2:=B0.out.trans (hb2.mono (by have:=B0.out.size; have:=HB.out; omega))
 obtain ⟨g0,g1,g2,g3,g4,e0,e1,e2,e3,e4⟩:=wrZ R2
 have F1:=qh (show Below B w (setW w2 B Wr.Z) from setW_below b2 (Nat.le_refl _))
 have F2:=qh (show RowAt (setW w2 B Wr.Z) B Wr.Z.cs _ from setW_row R2)
 clear hb2 R2 b2 KT
 go_wp2_with fail
 refine bodyPost_ret (results_cell_tmp rfl _ (setW w2 B Wr.Z) B _ _ _ rfl F2.out Tryz.underlying61 rfl (by kernel_rfl)) rfl ?_
 exact ⟨rfl,F1.out⟩
theorem xSeekNil13 (k:ByteArray) (w:World):Calls Tryz.prog 86 #[.pointer none,.string k] w fun e w'=>e=.returned (.tuple #[Wr.Z.v,.bool false])∧Below w.heap.size w w':=by
 obtain ⟨B,hB⟩:=nmq (w.heap.size)
 obtain ⟨W0,hW0⟩:=nmq (w.alloc (.cells #[.string ⟨#[]⟩,.bool false,.bool false,.string ⟨#[]⟩,.int .u64 0] 61))
 have b0:Below w.heap.size w W0:=by rw [hW0]; exact (Below.refl _ _).alloc (Nat.le_refl _) _
 have R0:RowAt W0 w.heap.size Wr.Z.cs 61:=by rw [hW0]; exact RowAt.new w Wr.Z.cs 61
 rw [<-hB] at b0 R0 ⊢
 have HB:=qh hB
 have HW:=qh hW0
 have KT:Hid (∀ W,Calls Tryz.prog 119 #[.pointer none,.int .i64 0] W fun e w'=>e=.returned (.tuple #[.agg #[.string ⟨#[]⟩,.bool false,.bool false,.string ⟨#[]⟩,.int .u64 0],.bool false])∧Below W.heap.size W w'):=qh (fun W=>xToldNil13 W)
 have B0:=qh b0
 have R0:=qh R0
 clear hB hW0 b0
 go_enter Tryz.func86,Tryz.ntmps86
 go_wp2_with fail
 rw [<-HW.out,<-HB.out]
 refine (xFindNil13 k _).mono ?_
 rintro e w1 ⟨rfl,hw⟩
 obtain rfl:W0=w1:=hw.symm
 go_wp2_with fail
 refine (KT.out _).mono ?_
 rintro e w2 ⟨rfl,hb2⟩
 have R2:=R0.out.below hb2
 have b2:Below B w w2:=B0.out.trans (hb2.mono (by have:=B0.out.size; have:=HB.out; omega))
 obtain ⟨g0,g1,g2,g3,g4,e0,e1,e2,e3,e4⟩:=wrZ R2
 have F1:=qh (show Below B w (setW w2 B Wr.Z) from setW_below b2 (Nat.le_refl _))
 have F2:=qh (show RowAt (setW w2 B Wr.Z) B Wr.Z.cs _ from setW_row R2)
 clear hb2 R2 b2 KT
 go_wp2_with fail
 refine bodyPost_ret (results_cell_tmp rfl _ (setW w2 B Wr.Z) B _ _ _ rfl F2.out Tryz.underlying61 rfl (by kernel_rfl)) rfl ?_
 exact ⟨rfl,F1.out⟩
end Go.Proofs.YtoljhoabbaigdaaGreat
