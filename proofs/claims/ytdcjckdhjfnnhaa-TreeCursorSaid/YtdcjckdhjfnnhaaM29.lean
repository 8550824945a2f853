/- Proved parts: T9y. Conditions: each theorem's own. -/
import Derived.Test.YtdcjckdhjfnnhaaM28
import Derived.RangeFuncNested
import Derived.RangeFuncBound
import Derived.RangeFuncCalls
import Derived.RangeFuncLeaves
import Derived.RangeFuncBox
import Derived.Shelf.Abstract
import Derived.Shelf.RegionOpen
import Derived.WalkKit
import Derived.OwnWalkIn
import Derived.TacticsInMore
import Derived.LoopNIn
import Derived.LoopIn
namespace Go.Proofs.Ytdcjckdhjfnnhaa
open Go.RowKit Go.Shelf

set_option maxHeartbeats 1000000 in
set_option maxRecDepth 100000 in
/-- told -/
theorem xTold (w : World) (x : ByteArray × Int) (hk : x.1.size ≤ 1000000) :
    Calls Try.prog 29 #[.agg #[.string x.1, .int .i64 x.2]] w fun e w' => e = .returned (.tuple #[.string x.1, .int .i64 x.2, .bool true]) ∧ Below w.heap.size w w' := by
  obtain ⟨q, hq⟩ : ∃ q, q = w.heap.size := ⟨_, rfl⟩
  obtain ⟨w1, hw1⟩ : ∃ w1, w1 = w.alloc (.cells #[.string x.1, .int .i64 x.2] 56) := ⟨_, rfl⟩
  have B1 := Lib.hid (show Below w.heap.size w w1 by rw [hw1]; exact (Below.refl _ _).alloc (Nat.le_refl _) _)
  have r1 : RowAt w1 q [.string x.1, .int .i64 x.2] 56 := by rw [hw1, hq]; exact RowAt.new w _ _
  have c0 := r1.cell 0
  have c1 := r1.cell 1
  simp only [List.getElem?_cons_zero, List.getElem?_cons_succ] at c0 c1
  have KC := Lib.hid (lclone x.1 w1.drew (by omega))
  have KS := Lib.hid (show ∀ w2, Below w1.drew.heap.size w1.drew w2 → w2.cell? ⟨q, 0, none⟩ = some (.string x.1) ∧ w2.cell? ⟨q, 1, none⟩ = some (.int .i64 x.2) from fun w2 hb => by
    have r2 : RowAt w2 q _ _ := (show RowAt w1.drew q _ _ from r1).below hb
    exact ⟨r2.cell 0, r2.cell 1⟩)
  have HW1 := Lib.hid hw1
  have HQ := Lib.hid hq
  clear hw1 hq r1 hk
  go_enter Try.func29, Try.ntmps29
  go_wp2_with fail
  rw [← HW1.out, ← HQ.out]
  refine wp_region_held_drew (S := (fun w' => w'.cell? ⟨q, 0, none⟩ = some (.string x.1) ∧ w'.cell? ⟨q, 1, none⟩ = some (.int .i64 x.2))) (by kernel_rfl) (⟨c0, c1⟩) (fun hHeld => ?_)
  refine rgnTake 0 rfl (by kernel_rfl) (by kernel_rfl) (by kernel_rfl) (fun _ _ _ h => h) (by rfl) (v := ?v1) ?hy1 hHeld ?rest1
  case hy1 => (intro v hSw; obtain ⟨y0, y1⟩ := hSw; first | (go_simp; done) | (go_simp; with_reducible rfl))
  try simp only [Act.put, List.setIfInBounds_toArray, List.set_cons_zero, List.set_cons_succ]
  refine rgnTake 1 rfl (by kernel_rfl) (by kernel_rfl) (by kernel_rfl) (fun _ _ _ h => h) (by rfl) (v := ?v2) ?hy2 hHeld ?rest2
  case hy2 => (intro v hSw; obtain ⟨y0, y1⟩ := hSw; first | (go_simp; done) | (go_simp; with_reducible rfl))
  try simp only [Act.put, List.setIfInBounds_toArray, List.set_cons_zero, List.set_cons_succ]
  refine rgnTake 3 rfl (by kernel_rfl) (by kernel_rfl) (by kernel_rfl) (fun _ _ _ h => h) (by rfl) (v := ?v3) ?hy3 hHeld ?rest3
  case hy3 => (intro v hSw; obtain ⟨y0, y1⟩ := hSw; first | (go_simp; done) | (go_simp; with_reducible rfl))
  try simp only [Act.put, List.setIfInBounds_toArray, List.set_cons_zero, List.set_cons_succ]
  refine rgnTake 4 rfl (by kernel_rfl) (by kernel_rfl) (by kernel_rfl) (fun _ _ _ h => h) (by rfl) (v := ?v4) ?hy4 hHeld ?rest4
  case hy4 => (intro v hSw; obtain ⟨y0, y1⟩ := hSw; first | (go_simp; done) | (go_simp; with_reducible rfl))
  try simp only [Act.put, List.setIfInBounds_toArray, List.set_cons_zero, List.set_cons_succ]
  refine rgnOne 2 rfl (by kernel_rfl) (fun K hK => ?_)
  go_simp
  refine KC.out.mono ?_
  rintro r w2 ⟨rfl, hb⟩
  have HB := Lib.hid hb
  refine hK.out _ _ ((KS.out w2 hb)) (fun hHeld => ?_)
  clear hK K
  try simp only [Act.put, List.setIfInBounds_toArray, List.set_cons_zero, List.set_cons_succ]
  refine rgnTake 5 rfl (by kernel_rfl) (by kernel_rfl) (by kernel_rfl) (fun _ _ _ h => h) (by rfl) (v := ?v5) ?hy5 hHeld ?rest5
  case hy5 => (intro v hSw; obtain ⟨y0, y1⟩ := hSw; first | (go_simp; done) | (go_simp; with_reducible rfl))
  try simp only [Act.put, List.setIfInBounds_toArray, List.set_cons_zero, List.set_cons_succ]
  refine rgnTake 6 rfl (by kernel_rfl) (by kernel_rfl) (by kernel_rfl) (fun _ _ _ h => h) (by rfl) (v := ?v6) ?hy6 hHeld ?rest6
  case hy6 => (intro v hSw; obtain ⟨y0, y1⟩ := hSw; first | (go_simp; done) | (go_simp; with_reducible rfl))
  try simp only [Act.put, List.setIfInBounds_toArray, List.set_cons_zero, List.set_cons_succ]
  refine rgnTake 7 rfl (by kernel_rfl) (by kernel_rfl) (by kernel_rfl) (fun _ _ _ h => h) (by rfl) (v := ?v7) ?hy7 hHeld ?rest7
  case hy7 => (intro v hSw; obtain ⟨y0, y1⟩ := hSw; first | (go_simp; done) | (go_simp; with_reducible rfl))
  try simp only [Act.put, List.setIfInBounds_toArray, List.set_cons_zero, List.set_cons_succ]
  refine wpAnyH_done (by kernel_rfl) ?_ _
  go_wp2_with fail
  go_ret3
  exact ⟨rfl, Below.then2 B1.out (Below.then2 (Below.refl _ w1).drew HB.out (Nat.le_refl _)) B1.out.size⟩

/-- from: what is captured lies in two boxes -/
theorem xFrom (w : World) (pt : Option Addr) (k : ByteArray) : Calls Try.prog 28 #[.pointer pt, .string k] w fun e w' => e = .returned (.func (.func 40) #[] #[.pointer (some ⟨w.heap.size, 0, none⟩), .pointer (some ⟨w.heap.size + 1, 0, none⟩)]) ∧ w' = (w.alloc (.cells #[.pointer pt] 24)).alloc (.cells #[.string k] 9) := by
  go_enter Try.func28, Try.ntmps28
  go_wp2_with fail
  go_ret
  exact ⟨rfl, rfl⟩
/-- an item whose key is no giant -/
abbrev Itm := { x : ByteArray × Int // x.1.size ≤ 1000000 }
/-- an item, as yield is handed it -/
def encI (x : Itm) : Array Value := #[.agg #[.string x.1.1, .int .i64 x.1.2]]
/-- what from's closure gives, at whatever place its two boxes lie -/
def Iter (w : World) (pt : Option Addr) (k : ByteArray) (xs : List Itm) : Prop := ∀ (w2 : World) (q n : Nat), Below w.heap.size w w2 → w.heap.size ≤ q → q + 1 < w2.heap.size → w2.cell? ⟨q, 0, none⟩ = some (.pointer pt) → w2.cell? ⟨q + 1, 0, none⟩ = some (.string k) → 3 ≤ n →
  SeqStopsK Fence.wide n Try.prog 40 #[.pointer (some ⟨q, 0, none⟩), .pointer (some ⟨q + 1, 0, none⟩)] encI (Below w.heap.size) (fun ys => ys = xs) (fun pre => pre <+: xs) xs.length w2
theorem keepsFrom_below {B : Nat} {W W' : World} (h : Below W.heap.size W W') : KeepsFrom B W W' := ⟨h.size, fun k _ _ hk _ => (h.block k (Array.getElem?_eq_some_iff.1 hk).1).trans hk⟩
theorem boxed_below {W W' : World} {B : Nat} {t : TypeId} {v : Value} (h : Boxed W B t v) (hb : Below W.heap.size W W') : Boxed W' B t v := (hb.block B (Boxed.lt h)).trans h
theorem boxed_kept {X Y : World} {row : Option Nat} {B : Nat} {t : TypeId} {v : Value} (h : Boxed X B t v) (hg : X.grownBy Y row) (hr : ∀ r, row = some r → ∃ o : Obj, X.heap[r]? = some o ∧ o.isCells = false) : Boxed Y B t v :=
  boxed_own B t (fun (_ : Unit) => v) () X Y row h hg hr
theorem rowAt_kept {X Y : World} {row : Option Nat} {B : Nat} {cs : List Value} {t : TypeId} (h : RowAt X B cs t) (hg : X.grownBy Y row) (hr : ∀ r, row = some r → ∃ o : Obj, X.heap[r]? = some o ∧ o.isCells = false) : RowAt Y B cs t := by
  refine (hg.block B h.lt (fun e => ?_)).trans h
  obtain ⟨o, ho, hc⟩ := hr B e.symm
  have h2 : X.heap[B]? = some (.cells cs.toArray t) := h
  rw [h2] at ho
  injection ho with ho
  rw [← ho] at hc
  cases hc
def firstK (xs : List Itm) : ByteArray := (xs.head?.map (·.1.1)).getD ⟨#[]⟩
def firstN (xs : List Itm) : Int := (xs.head?.map (·.1.2)).getD 0

attribute [local go_sem] Oper.semAt_some
set_option maxHeartbeats 4000000 in
set_option maxRecDepth 100000 in
/-- Seek -/
theorem xSeekI (w : World) (pt : Option Addr) (k : ByteArray) (xs : List Itm) (hI : Iter w pt k xs) :
    Calls Try.prog 15 #[.pointer pt, .string k] w fun e w' => e = .returned (.tuple #[.string (firstK xs), .int .i64 (firstN xs), .bool (decide (xs ≠ []))]) ∧ Below w.heap.size w w' := by
  refine (callsIn_wide (n := 6)).1 ?_
  refine callsIn_of_wp_marks Try.func15 rfl trivial ?_ rfl
  simp only [Try.ntmps15, List.size_toArray, List.length_cons, List.length_nil, Nat.reduceAdd, Nat.reduceSub, Array.replicate_succ, Array.replicate_zero, List.push_toArray, List.append_toArray, List.nil_append, List.cons_append]
  gi_wp2_with (refine ⟨trivial, ?_⟩; gi_at_call 28; refine (callsIn_wide.2 (xFrom _ _ _)).mono ?_; rintro e w' ⟨rfl, rfl⟩)
  obtain ⟨B, hB⟩ : ∃ B, B = w.heap.size := ⟨_, rfl⟩
  have b0 := (((((Boxed.new w 9 (.string ⟨#[]⟩)).alloc (.cells #[.int .i64 0] 3)).alloc (.cells #[.bool false] 4)).alloc (.cells #[.pointer pt] 24)).alloc (.cells #[.string k] 9))
  have b1 := ((((Boxed.new (w.alloc (.cells #[.string ⟨#[]⟩] 9)) 3 (.int .i64 0)).alloc (.cells #[.bool false] 4)).alloc (.cells #[.pointer pt] 24)).alloc (.cells #[.string k] 9))
  have b2 := (((Boxed.new ((w.alloc (.cells #[.string ⟨#[]⟩] 9)).alloc (.cells #[.int .i64 0] 3)) 4 (.bool false)).alloc (.cells #[.pointer pt] 24)).alloc (.cells #[.string k] 9))
  have b3 := ((Boxed.new (((w.alloc (.cells #[.string ⟨#[]⟩] 9)).alloc (.cells #[.int .i64 0] 3)).alloc (.cells #[.bool false] 4)) 24 (.pointer pt)).alloc (.cells #[.string k] 9))
  have b4 := (Boxed.new ((((w.alloc (.cells #[.string ⟨#[]⟩] 9)).alloc (.cells #[.int .i64 0] 3)).alloc (.cells #[.bool false] 4)).alloc (.cells #[.pointer pt] 24)) 9 (.string k))
  have hb : Below w.heap.size w (((((w.alloc (.cells #[.string ⟨#[]⟩] 9)).alloc (.cells #[.int .i64 0] 3)).alloc (.cells #[.bool false] 4)).alloc (.cells #[.pointer pt] 24)).alloc (.cells #[.string k] 9)) := (((((Below.refl _ w).alloc (Nat.le_refl _) _).alloc (by simp) _).alloc (by simp; omega) _).alloc (by simp; omega) _).alloc (by simp; omega) _
  have hsz : (((((w.alloc (.cells #[.string ⟨#[]⟩] 9)).alloc (.cells #[.int .i64 0] 3)).alloc (.cells #[.bool false] 4)).alloc (.cells #[.pointer pt] 24)).alloc (.cells #[.string k] 9)).heap.size = w.heap.size + 5 := by simp
  simp only [World.size_alloc] at b1 b2 b3 b4
  obtain ⟨W0, hW0⟩ : ∃ W0, (((((w.alloc (.cells #[.string ⟨#[]⟩] 9)).alloc (.cells #[.int .i64 0] 3)).alloc (.cells #[.bool false] 4)).alloc (.cells #[.pointer pt] 24)).alloc (.cells #[.string k] 9)) = W0 := ⟨_, rfl⟩
  rw [hW0] at b0 b1 b2 b3 b4 hb hsz ⊢
  clear hW0
  have hc := hI W0 (w.heap.size + 1 + 1 + 1) (6 - 1) hb (by omega) (by omega) b3.cell b4.cell (by decide)
  rw [← hB] at b0 b1 b2 b3 b4 hb hsz hc ⊢
  have HBS := Lib.hid hB
  refine wpIn_rangeFunc_ownH rfl (by decide) (gf := 40) (lb := #[.pointer (some ⟨B + 1 + 1 + 1, 0, none⟩), .pointer (some ⟨B + 1 + 1 + 1 + 1, 0, none⟩)]) rfl trivial (enters_of Try.func40 (by kernel_rfl) rfl)
    hc belowK_t (belowK_b (by omega)) (Below.refl _ _) (fun _ => rfl)
    (fun pre W => (pre = [] ∧ B + 5 ≤ W.heap.size ∧ Boxed W B 9 (.string ⟨#[]⟩) ∧ Boxed W (B + 1) 3 (.int .i64 0) ∧ Boxed W (B + 1 + 1) 4 (.bool false)) ∧ Below B w W)
    (fun c pre W => (∃ x : Itm, c = .ret ∧ pre = [x] ∧ Boxed W B 9 (.string x.1.1) ∧ Boxed W (B + 1) 3 (.int .i64 x.1.2) ∧ Boxed W (B + 1 + 1) 4 (.bool true)) ∧ Below B w W)
    (OwnFrom.and (Own.from (fun s X Y row hs hg hr => ⟨hs.1, Nat.le_trans hs.2.1 hg.size, boxed_kept hs.2.2.1 hg hr, boxed_kept hs.2.2.2.1 hg hr, boxed_kept hs.2.2.2.2 hg hr⟩) _) (ownFrom_below (by omega) (by omega)))
    (fun c => OwnFrom.and (Own.from (fun s X Y row hs hg hr => by obtain ⟨x, h1, h2, h3, h4, h5⟩ := hs; exact ⟨x, h1, h2, boxed_kept h3 hg hr, boxed_kept h4 hg hr, boxed_kept h5 hg hr⟩) _) (ownFrom_below (by omega) (by omega)))
    ⟨⟨rfl, by omega, b0, b1, b2⟩, hb⟩
    (fun x a' W => ∃ Bx, B + 4 < Bx ∧ RowAt W Bx [.string x.1.1, .int .i64 x.1.2] 56 ∧ a' = { tmps := #[.pointer pt, .string k, undef, undef, .pointer (some ⟨B, 0, none⟩), .pointer (some ⟨B + 1, 0, none⟩), .pointer (some ⟨B + 1 + 1, 0, none⟩), .pointer (some ⟨Bx, 0, none⟩), .pointer pt, .string k, .func (.func 40) #[] #[.pointer (some ⟨B + 1 + 1 + 1, 0, none⟩), .pointer (some ⟨B + 1 + 1 + 1 + 1, 0, none⟩)], .agg #[.string x.1.1, .int .i64 x.1.2], undef, undef, undef, undef, undef], defers := [] })
    (fun x a' _ X Y row hs hg hr => by obtain ⟨Bx, h1, h2, h3⟩ := hs; exact ⟨Bx, h1, rowAt_kept h2 hg (fun r e => (hr r e).2), h3⟩)
    ?assign ?body ?done ?stop
  case assign =>
    clear hB
    rintro l pre x W K ⟨⟨rfl, hs5, c0, c1, c2⟩, hW⟩ hK
    dsimp only [encI]
    gi_wp2
    have hBW : B ≤ W.heap.size := by omega
    exact hK _ _ ((KeepsOthers.alloc _ _).from _) ((Below.refl _ W).alloc hBW _) ⟨⟨(by first | trivial | rfl), by simp; omega, c0.alloc _, c1.alloc _, c2.alloc _⟩, hW.alloc hBW _⟩ ⟨W.heap.size, by omega, RowAt.new W _ _, rfl⟩
  case body =>
    clear hB
    rintro l pre x a' W hl ⟨r, hr⟩ ⟨⟨rfl, hs5, c0, c1, c2⟩, hW⟩ ⟨Bx, hBx, bX, rfl⟩ hlt
    have x0 := bX.cell 0
    have x1 := bX.cell 1
    simp only [List.getElem?_cons_zero, List.getElem?_cons_succ] at x0 x1
    have TC := Lib.hid (xTold W x.1 x.2)
    have C0 := Lib.hid c0
    have C1 := Lib.hid c1
    have C2 := Lib.hid c2
    have HW := Lib.hid hW
    have h1' : 1 ≤ 6 - 1 - 1 := by decide
    clear b0 b1 b2 b3 b4 c0 c1 c2 hW hc
    gi_wp2_with (refine ⟨trivial, ?_⟩; gi_at_call 29; refine (CallsIn.inRound l (callsIn_wide.2 TC.out)).mono ?_; rintro e w' ⟨rfl, hb'⟩; have HB' := Lib.hid hb'; have e0 := boxed_below C0.out hb'; have e1 := boxed_below C1.out hb'; have e2 := boxed_below C2.out hb'; have E0 := Lib.hid e0; have E1 := Lib.hid e1; have E2 := Lib.hid e2; have t0 := e0.cell; have t1 := e1.cell; have t2 := e2.cell; have f0 := e0.frozen; have f1 := e1.frozen; have f2 := e2.frozen; clear e0 e1 e2 hb')
    have hBW : B ≤ W.heap.size := by omega
    have hB1 := Below.then2 HW.out HB'.out hBW
    refine ⟨(keepsFrom_below HB'.out).trans (((KeepsOthers.setCell _ _ _).from _).trans (((KeepsOthers.setCell _ _ _).from _).trans ((KeepsOthers.setCell _ _ _).from _))), ⟨x, rfl, rfl, ?_, ?_, ?_⟩, ?_⟩
    · exact ((E0.out.set _).other (by omega) _).other (by omega) _
    · exact ((E1.out.other (by omega) _).set _).other (by omega) _
    · exact ((E2.out.other (by omega) _).other (by omega) _).set _
    · exact ((hB1.setCell (p := ⟨B, 0, none⟩) (Nat.le_refl _) _).setCell (p := ⟨B + 1, 0, none⟩) (by show B ≤ B + 1; omega) _).setCell (p := ⟨B + 1 + 1, 0, none⟩) (by show B ≤ B + 1 + 1; omega) _
  case done =>
    clear hB
    rintro D ys W hD rfl ⟨⟨rfl, hs5, c0, c1, c2⟩, hW⟩ hK
    have C0 := Lib.hid c0
    have C1 := Lib.hid c1
    have C2 := Lib.hid c2
    have HW := Lib.hid hW
    have t0 := c0.cell
    have t1 := c1.cell
    have t2 := c2.cell
    have f0 := c0.frozen
    have f1 := c1.frozen
    have f2 := c2.frozen
    clear b0 b1 b2 b3 b4 c0 c1 c2 hW hc
    gi_wp2
    obtain ⟨W3, hW3⟩ : ∃ W3, W3 = ((W.setCell ⟨B, 0, none⟩ (.string ⟨#[]⟩)).setCell ⟨B + 1, 0, none⟩ (.int .i64 0)).setCell ⟨B + 1 + 1, 0, none⟩ (.bool false) := ⟨_, rfl⟩
    have e0 : Boxed W3 B 9 (.string ⟨#[]⟩) := by rw [hW3]; exact ((C0.out.set _).other (by omega) _).other (by omega) _
    have e1 : Boxed W3 (B + 1) 3 (.int .i64 0) := by rw [hW3]; exact ((C1.out.other (by omega) _).set _).other (by omega) _
    have e2 : Boxed W3 (B + 1 + 1) 4 (.bool false) := by rw [hW3]; exact ((C2.out.other (by omega) _).other (by omega) _).set _
    have eb : Below B w W3 := by rw [hW3]; exact ((HW.out.setCell (p := ⟨B, 0, none⟩) (Nat.le_refl _) _).setCell (p := ⟨B + 1, 0, none⟩) (by show B ≤ B + 1; omega) _).setCell (p := ⟨B + 1 + 1, 0, none⟩) (by show B ≤ B + 1 + 1; omega) _
    have hK' : W3.heap[D]? = some (.deferred (some [])) := by rw [hW3]; exact (KeepsOthers.setCell _ _ _).same D _ ((KeepsOthers.setCell _ _ _).same D _ ((KeepsOthers.setCell _ _ _).same D _ hK rfl) rfl) rfl
    rw [← hW3]
    refine ⟨by simp, .inl ⟨_, _, rfl, run_takeDeferred hK', ?_⟩⟩
    have g0 := (boxed_kept e0 (grownBy_putObj' _ D (.deferred none)) (fun r e => by cases e; exact ⟨_, hK', rfl⟩)).cell
    have g1 := (boxed_kept e1 (grownBy_putObj' _ D (.deferred none)) (fun r e => by cases e; exact ⟨_, hK', rfl⟩)).cell
    have g2 := (boxed_kept e2 (grownBy_putObj' _ D (.deferred none)) (fun r e => by cases e; exact ⟨_, hK', rfl⟩)).cell
    refine ⟨.tuple #[.string ⟨#[]⟩, .int .i64 0, .bool false], ?_, rfl, by rw [← HBS.out]; exact eb.trans (belowK_b (w := W0) (n₀ := B) (by omega) _ D _ _ hD hK' rfl rfl)⟩
    simp [results, Try.f15, go_sem, g0, g1, g2]
  case stop =>
    clear hB
    rintro D c pre W hD hpre ⟨⟨x, rfl, rfl, c0, c1, c2⟩, hW⟩ hK
    have e : xs = x :: xs.tail := by
      obtain ⟨z, rfl⟩ := hpre
      rfl
    gi_wp2
    refine ⟨by simp, .inl ⟨_, _, rfl, run_takeDeferred hK, ?_⟩⟩
    have g0 := (boxed_kept c0 (grownBy_putObj' _ D (.deferred none)) (fun r e => by cases e; exact ⟨_, hK, rfl⟩)).cell
    have g1 := (boxed_kept c1 (grownBy_putObj' _ D (.deferred none)) (fun r e => by cases e; exact ⟨_, hK, rfl⟩)).cell
    have g2 := (boxed_kept c2 (grownBy_putObj' _ D (.deferred none)) (fun r e => by cases e; exact ⟨_, hK, rfl⟩)).cell
    refine ⟨.tuple #[.string x.1.1, .int .i64 x.1.2, .bool true], ?_, ?_, by rw [← HBS.out]; exact hW.trans (belowK_b (w := W0) (n₀ := B) (by omega) _ D _ _ hD hK rfl rfl)⟩
    · simp [results, Try.f15, go_sem, g0, g1, g2]
    · rw [e]; rfl

end Go.Proofs.Ytdcjckdhjfnnhaa
