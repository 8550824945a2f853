/- Proved parts: S6p. Conditions: each theorem's own. -/
import Derived.Test.YtfodclafkdkjbaaDoorM6
import Derived.Laws.MakeOwn
import Derived.Deep.Cut
import Derived.Deep.CutRange
import Derived.Deep.CutBlock
namespace Go.Proofs.YtfodclafkdkjbaaDoor
open Go.RowKit

/-- block g holds 64 bytes: f -/
def RowF (w : World) (g : Nat) (f : Nat → Int) : Prop := ∃ t : TypeId, RowAt w g ((List.range 64).map fun j => Value.int .u8 (f j)) t
def upd (f : Nat → Int) (j : Nat) (v : Int) : Nat → Int := fun k => if k = j then v else f k
theorem RowF.cell {w : World} {g : Nat} {f : Nat → Int} (h : RowF w g f) {j : Nat} (hj : j < 64) : w.cell? ⟨g, j, none⟩ = some (.int .u8 (f j)) := by
  obtain ⟨t, h⟩ := h
  rw [RowAt.cell h, List.getElem?_map, List.getElem?_range hj]; rfl
theorem RowF.frozen {w : World} {g : Nat} {f : Nat → Int} (h : RowF w g f) (j : Nat) : w.frozen? ⟨g, j, none⟩ = false := by
  obtain ⟨t, h⟩ := h
  exact RowAt.frozen h j
theorem RowF.lt {w : World} {g : Nat} {f : Nat → Int} (h : RowF w g f) : g < w.heap.size := by
  obtain ⟨t, h⟩ := h
  exact RowAt.lt h
theorem RowF.drewN {w : World} {g : Nat} {f : Nat → Int} (h : RowF w g f) (n : Nat) : RowF (w.drewN n) g f := h
theorem RowF.below {w w' : World} {g : Nat} {f : Nat → Int} (h : RowF w g f) (hb : Below w.heap.size w w') : RowF w' g f := by
  obtain ⟨t, h⟩ := h
  exact ⟨t, h.below hb⟩
theorem RowF.set {w : World} {g : Nat} {f : Nat → Int} (h : RowF w g f) (j : Nat) (v : Int) : RowF (w.setCell ⟨g, j, none⟩ (.int .u8 v)) g (upd f j v) := by
  obtain ⟨t, h⟩ := h
  have h2 := RowAt.set h j (.int .u8 v)
  have e : ((List.range 64).map fun k => Value.int .u8 (f k)).set j (.int .u8 v) = (List.range 64).map fun k => Value.int .u8 (upd f j v k) := by
    apply List.ext_getElem (by simp)
    intro i h1 h2
    rw [List.getElem_set, List.getElem_map, List.getElem_map, List.getElem_range]
    unfold upd
    by_cases hi : j = i
    · subst hi; rw [if_pos rfl, if_pos rfl]
    · rw [if_neg hi, if_neg (fun e => hi e.symm)]
  rw [e] at h2; exact ⟨t, h2⟩
theorem RowF.congr {w : World} {g : Nat} {f f' : Nat → Int} (h : RowF w g f) (e : ∀ j, j < 64 → f j = f' j) : RowF w g f' := by
  obtain ⟨t, h⟩ := h
  refine ⟨t, ?_⟩
  rw [show (List.range 64).map (fun j => Value.int .u8 (f' j)) = (List.range 64).map fun j => Value.int .u8 (f j) from List.map_congr_left fun j hj => by rw [e j (List.mem_range.1 hj)]]
  exact h
theorem infoB8 : (Tryd.prog.info? 5).map (fun i => (i.zero, i.size, i.bytes)) = some (some (.int .u8 0), 1, 1) := by kernel_rfl
/-- make([]byte, 64) -/
def mk64 (W : World) : World := W.alloc (.cells ((List.range 64).map fun _ => Value.int .u8 0).toArray 5)
theorem made64 : madeCells (Value.int IntKind.u8 0).cells (Int.toNat 64 * 1) = ((List.range 64).map fun _ => Value.int .u8 0).toArray := by kernel_rfl
theorem make64 : ∀ W : World, (Instr.makeSlice 113 (.int .i64 64) (.int .i64 64)).run Tryd.prog W = .ok (.slice (some ⟨W.heap.size, 0, none⟩) 64 64) (mk64 W) := by
  obtain ⟨i0, hi, hz0, hz1, hz2⟩ := info_parts infoB8
  intro W
  have h := run_make (P := Tryd.prog) W 113 5 i0 _ Tryd.underlying113 hi hz0 .i64 .i64 64 64 (by omega) (by omega) (by rw [hz2]; omega) (by omega)
  rw [hz1, made64] at h
  exact h
/-- the number behind i rounds -/
def dg (g : Int) (i : Nat) : Int := if i = 0 then g else if i = 1 then g / 256 else if i = 2 then g / 65536 else if i = 3 then g / 16777216 else g / 4294967296
/-- the row behind i rounds -/
def fi (g l : Int) (i j : Nat) : Int := if j = 0 then 193 else if j ≤ 4 ∧ 4 < j + i then dg g (4 - j) % 256 else if 7 ≤ j ∧ j ≤ 10 ∧ 10 < j + i then dg l (10 - j) % 256 else 0
theorem fi_step (g l : Int) (k : Nat) (hk : k < 4) (v1 v2 : Int) (h1 : v1 = dg g k % 256) (h2 : v2 = dg l k % 256) : ∀ j, j < 64 → upd (upd (fi g l k) (4 - k) v1) (10 - k) v2 j = fi g l (k + 1) j := by
  intro j _
  unfold upd fi
  by_cases e1 : j = 10 - k
  · subst e1; rw [if_pos rfl, if_neg (by omega), if_neg (by omega), if_pos ⟨by omega, by omega, by omega⟩, h2, show 10 - (10 - k) = k by omega]
  rw [if_neg e1]
  by_cases e2 : j = 4 - k
  · subst e2; rw [if_pos rfl, if_neg (by omega), if_pos (by omega), h1, show 4 - (4 - k) = k by omega]
  rw [if_neg e2]
  by_cases e3 : j = 0
  · simp only [if_pos e3]
  simp only [if_neg e3]
  by_cases e4 : j ≤ 4 ∧ 4 < j + k
  · have e6 : j ≤ 4 ∧ 4 < j + (k + 1) := by omega
    simp only [if_pos e4, if_pos e6]
  have e6 : ¬ (j ≤ 4 ∧ 4 < j + (k + 1)) := by omega
  simp only [if_neg e4, if_neg e6]
  by_cases e5 : 7 ≤ j ∧ j ≤ 10 ∧ 10 < j + k
  · have e7 : 7 ≤ j ∧ j ≤ 10 ∧ 10 < j + (k + 1) := by omega
    simp only [if_pos e5, if_pos e7]
  have e7 : ¬ (7 ≤ j ∧ j ≤ 10 ∧ 10 < j + (k + 1)) := by omega
  simp only [if_neg e5, if_neg e7]
/-- the row behind k bytes of the data -/
def secK (x : Stp) (d : ByteArray) (k j : Nat) : Int := if j < 14 then secF x d j else if j < 14 + k then (bN d (j - 14) : Int) else 0
theorem secK_all (x : Stp) (d : ByteArray) (j : Nat) : secK x d d.size j = secF x d j := by
  unfold secK
  by_cases h : j < 14
  · rw [if_pos h]
  · rw [if_neg h]
    unfold secF
    simp only [if_neg (show ¬ j = 0 by omega), if_neg (show ¬ j = 1 by omega), if_neg (show ¬ j = 2 by omega), if_neg (show ¬ j = 3 by omega), if_neg (show ¬ j = 4 by omega), if_neg (show ¬ j = 5 by omega), if_neg (show ¬ j = 6 by omega), if_neg (show ¬ j = 7 by omega), if_neg (show ¬ j = 8 by omega), if_neg (show ¬ j = 9 by omega), if_neg (show ¬ j = 10 by omega), if_neg (show ¬ j = 11 by omega), if_neg (show ¬ j = 12 by omega), if_neg (show ¬ j = 13 by omega)]
theorem secK_step (x : Stp) (d : ByteArray) (k : Nat) (v : Int) (hv : v = bN d k) (j : Nat) : upd (secK x d k) (14 + k) v j = secK x d (k + 1) j := by
  unfold upd secK
  by_cases e : j = 14 + k
  · subst e
    rw [if_pos rfl, if_neg (by omega), if_pos (by omega), hv, show 14 + k - 14 = k by omega]
  · rw [if_neg e]
    by_cases h : j < 14
    · simp only [if_pos h]
    · simp only [if_neg h]
      by_cases h2 : j < 14 + k
      · rw [if_pos h2, if_pos (by omega)]
      · rw [if_neg h2, if_neg (by omega)]
theorem secK_zero (x : Stp) (d : ByteArray) (j : Nat) (hj : j < 64) : upd (upd (upd (upd (upd (fi x.gen x.life 4) 5 (x.index / 256)) 6 (x.index % 256)) 11 x.part) 12 x.parts) 13 (d.size : Int) j = secK x d 0 j := by
  by_cases h : 14 ≤ j
  · have e : upd (upd (upd (upd (upd (fi x.gen x.life 4) 5 (x.index / 256)) 6 (x.index % 256)) 11 x.part) 12 x.parts) 13 (d.size : Int) j = fi x.gen x.life 4 j := by
      unfold upd
      rw [if_neg (by omega), if_neg (by omega), if_neg (by omega), if_neg (by omega), if_neg (by omega)]
    rw [e]
    unfold fi secK
    rw [if_neg (by omega), if_neg (by omega), if_neg (by omega), if_neg (by omega), if_neg (by omega)]
  · have : j = 0 ∨ j = 1 ∨ j = 2 ∨ j = 3 ∨ j = 4 ∨ j = 5 ∨ j = 6 ∨ j = 7 ∨ j = 8 ∨ j = 9 ∨ j = 10 ∨ j = 11 ∨ j = 12 ∨ j = 13 := by omega
    rcases this with rfl | rfl | rfl | rfl | rfl | rfl | rfl | rfl | rfl | rfl | rfl | rfl | rfl | rfl <;> simp [upd, fi, dg, secK, secF]
theorem conv64 (w : World) (g : Nat) (f : Nat → Int) (h : RowF w g f) : (convert 113 9 (.slice (some ⟨g, 0, none⟩) 64 64)).run Tryd.prog w = .ok (.string (strOfNums ((List.range 64).map f))) w :=
  run_convert_bytes_arg w 113 5 (by kernel_rfl) (by kernel_rfl) g 0 64 64 ((List.range 64).map f) (by simp) (by
    intro i hi
    rw [Nat.zero_add, RowF.cell h (by simpa using hi), List.getD_eq_getElem?_getD, List.getElem?_map, List.getElem?_range (by simpa using hi)]; rfl) 9 (by kernel_rfl)
theorem BoxS.other {w : World} {q G : Nat} {g i l p n : Int} (h : BoxS w q g i l p n) (hq : ¬ q = G) (j : Nat) (v : Value) : BoxS (w.setCell ⟨G, j, none⟩ v) q g i l p n := by
  have e : ∀ k, (w.setCell ⟨G, j, none⟩ v).cell? ⟨q, k, none⟩ = w.cell? ⟨q, k, none⟩ := fun k => World.cell?_of_block (Below.heap_setCell _ _ _ _ hq)
  exact ⟨(e 0).trans h.c0, (e 1).trans h.c1, (e 2).trans h.c2, (e 3).trans h.c3, (e 4).trans h.c4⟩
theorem BoxS.drewN {w : World} {q : Nat} {g i l p n : Int} (h : BoxS w q g i l p n) (k : Nat) : BoxS (w.drewN k) q g i l p n := ⟨h.c0, h.c1, h.c2, h.c3, h.c4⟩
set_option maxRecDepth 100000 in
set_option maxHeartbeats 2000000 in
/-- cloisonneref06.Pack -/
theorem srPack (x : Stp) (d : ByteArray) (w : World) (hx : x.ok = true) (hd : d.size ≤ 50) : Calls Tryd.prog 54 #[x.v, .string d] w fun e w' => e = .returned (.string (pack6 x d)) ∧ Below w.heap.size w w' := by
  obtain ⟨g, i, l, p, n⟩ := x
  have h := (Stp.ok_iff _).1 hx
  simp only at h
  obtain ⟨g0, g1, l0, l1, i0, i1, n0, n1, p0, p1⟩ := h
  have MK := make64
  have HX := Lib.hid hx
  clear hx
  show Calls Tryd.prog 54 #[.agg #[.int .i64 g, .int .i64 i, .int .i64 l, .int .i64 p, .int .i64 n], .string d] w _
  go_enter Tryd.func54, Tryd.ntmps54
  go_upto_region 2 with fail
  obtain ⟨wm, hwm⟩ : ∃ wm, wm = mk64 (w.alloc (.cells #[.int .i64 g, .int .i64 i, .int .i64 l, .int .i64 p, .int .i64 n] 110)) := ⟨_, rfl⟩
  obtain ⟨q, hq⟩ : ∃ q, q = w.heap.size := ⟨_, rfl⟩
  obtain ⟨G, hG⟩ : ∃ G, G = q + 1 := ⟨_, rfl⟩
  have RB := (RowAt.new w [.int .i64 g, .int .i64 i, .int .i64 l, .int .i64 p, .int .i64 n] 110).alloc (.cells ((List.range 64).map fun _ => Value.int .u8 0).toArray 5)
  have RF := RowAt.new (w.alloc (.cells #[.int .i64 g, .int .i64 i, .int .i64 l, .int .i64 p, .int .i64 n] 110)) ((List.range 64).map fun _ => Value.int .u8 0) 5
  have BL := ((Below.refl w.heap.size w).alloc (Nat.le_refl _) (.cells #[.int .i64 g, .int .i64 i, .int .i64 l, .int .i64 p, .int .i64 n] 110)).alloc (by simp) (.cells ((List.range 64).map fun _ => Value.int .u8 0).toArray 5)
  change RowAt (mk64 _) _ _ _ at RB
  change RowAt (mk64 _) _ _ _ at RF
  change Below _ _ (mk64 _) at BL
  rw [show (w.alloc (.cells #[.int .i64 g, .int .i64 i, .int .i64 l, .int .i64 p, .int .i64 n] 110)).heap.size = w.heap.size + 1 by simp] at RF
  rw [← hwm] at RB RF BL ⊢
  rw [← hq] at RB RF BL ⊢
  rw [← hG] at RF ⊢
  have R0 := Lib.hid (show RowF wm G (fun _ => 0) from ⟨_, RF⟩)
  have X0 := Lib.hid (show BoxS wm q g i l p n from BoxS.of_row RB)
  have B0 := Lib.hid (show Below q w wm from BL)
  have QG : ¬ q = G := by omega
  have HQ := Lib.hid hq
  have HG := Lib.hid (show q ≤ G by omega)
  have c0 := R0.out.cell (j := 0) (by omega)
  have f0 := RowF.frozen R0.out 0
  obtain ⟨b0, b1, b2, b3, b4⟩ := X0.out
  clear hwm RF RB BL hq hG MK
  go_wp2_with fail
  go_quiet (fail)
  go_wp2_with fail
  go_loopw [6, 7, 8] (fun vg vl vi wr => ∃ (k : Nat) (a b : Int), k ≤ 4 ∧ vi = .int .i64 k ∧ vg = .int .i64 a ∧ vl = .int .i64 b ∧ 0 ≤ a ∧ a ≤ 2147483647 ∧ 0 ≤ b ∧ b ≤ 2147483647 ∧ Hid (a = dg g k) ∧ Hid (b = dg l k) ∧ Hid (RowF wr G (fi g l k)) ∧ Hid (BoxS wr q g i l p n) ∧ Hid (Below q w wr)) (fun _ _ vi _ => 4 - (intOf vi).toNat)
  case atStart =>
    refine ⟨0, g, l, by omega, rfl, rfl, rfl, by omega, by omega, by omega, by omega, Lib.hid rfl, Lib.hid rfl, Lib.hid ((R0.out.set 0 193).congr fun j hj => ?_), Lib.hid ?_, Lib.hid ?_⟩
    · simp only [upd, fi]; (repeat' split) <;> omega
    · exact (X0.out.other QG 0 _).drewN _
    · exact below_drewN (B0.out.setCell HG.out _) _
  case round =>
    obtain ⟨k, a, b, k4, rfl, rfl, rfl, a0, a1, b0', b1', HA, HB, HR, HX2, HW⟩ := hrel
    by_cases kk : k < 4
    · have C1 := HR.out.cell (j := 4 - k) (by omega)
      have C2 := HR.out.cell (j := 10 - k) (by omega)
      have F1 := RowF.frozen HR.out (4 - k)
      have F2 := RowF.frozen HR.out (10 - k)
      have A1 := HA.out
      have A2 := HB.out
      rcases (show k = 0 ∨ k = 1 ∨ k = 2 ∨ k = 3 by omega) with rfl | rfl | rfl | rfl
      · simp only [Nat.sub_zero] at C1 C2 F1 F2
        have DA := Lib.hid (show a / 256 = dg g 1 by rw [A1]; simp only [dg, Nat.reduceEqDiff, if_false, if_true]; try omega)
        have DB := Lib.hid (show b / 256 = dg l 1 by rw [A2]; simp only [dg, Nat.reduceEqDiff, if_false, if_true]; try omega)
        clear A1 A2
        go_wp2_with fail
        go_roundw
        case rel =>
          refine ⟨1, a / 256, b / 256, by omega, by go_num, rfl, rfl, by omega, by omega, by omega, by omega, DA, DB, Lib.hid (((HR.out.set 4 _).set 10 _).congr (fi_step g l 0 (by omega) _ _ ?_ ?_)), Lib.hid ((HX2.out.other QG _ _).other QG _ _), Lib.hid ((HW.out.setCell HG.out _).setCell HG.out _)⟩
          · rw [← HA.out]
          · rw [← HB.out]
        case measure => simp [intOf]
      · simp only [Nat.reduceSub] at C1 C2 F1 F2
        have DA := Lib.hid (show a / 256 = dg g 2 by rw [A1]; simp only [dg, Nat.reduceEqDiff, if_false, if_true]; try omega)
        have DB := Lib.hid (show b / 256 = dg l 2 by rw [A2]; simp only [dg, Nat.reduceEqDiff, if_false, if_true]; try omega)
        clear A1 A2
        go_wp2_with fail
        go_roundw
        case rel =>
          refine ⟨2, a / 256, b / 256, by omega, by go_num, rfl, rfl, by omega, by omega, by omega, by omega, DA, DB, Lib.hid (((HR.out.set 3 _).set 9 _).congr (fi_step g l 1 (by omega) _ _ ?_ ?_)), Lib.hid ((HX2.out.other QG _ _).other QG _ _), Lib.hid ((HW.out.setCell HG.out _).setCell HG.out _)⟩
          · rw [← HA.out]
          · rw [← HB.out]
        case measure => simp [intOf]
      · simp only [Nat.reduceSub] at C1 C2 F1 F2
        have DA := Lib.hid (show a / 256 = dg g 3 by rw [A1]; simp only [dg, Nat.reduceEqDiff, if_false, if_true]; try omega)
        have DB := Lib.hid (show b / 256 = dg l 3 by rw [A2]; simp only [dg, Nat.reduceEqDiff, if_false, if_true]; try omega)
        clear A1 A2
        go_wp2_with fail
        go_roundw
        case rel =>
          refine ⟨3, a / 256, b / 256, by omega, by go_num, rfl, rfl, by omega, by omega, by omega, by omega, DA, DB, Lib.hid (((HR.out.set 2 _).set 8 _).congr (fi_step g l 2 (by omega) _ _ ?_ ?_)), Lib.hid ((HX2.out.other QG _ _).other QG _ _), Lib.hid ((HW.out.setCell HG.out _).setCell HG.out _)⟩
          · rw [← HA.out]
          · rw [← HB.out]
        case measure => simp [intOf]
      · simp only [Nat.reduceSub] at C1 C2 F1 F2
        have DA := Lib.hid (show a / 256 = dg g 4 by rw [A1]; simp only [dg, Nat.reduceEqDiff, if_false, if_true]; try omega)
        have DB := Lib.hid (show b / 256 = dg l 4 by rw [A2]; simp only [dg, Nat.reduceEqDiff, if_false, if_true]; try omega)
        clear A1 A2
        go_wp2_with fail
        go_roundw
        case rel =>
          refine ⟨4, a / 256, b / 256, by omega, by go_num, rfl, rfl, by omega, by omega, by omega, by omega, DA, DB, Lib.hid (((HR.out.set 1 _).set 7 _).congr (fi_step g l 3 (by omega) _ _ ?_ ?_)), Lib.hid ((HX2.out.other QG _ _).other QG _ _), Lib.hid ((HW.out.setCell HG.out _).setCell HG.out _)⟩
          · rw [← HA.out]
          · rw [← HB.out]
        case measure => simp [intOf]
    · obtain rfl : k = 4 := by omega
      have W5 := Lib.hid (HR.out)
      have C5 := HR.out.cell (j := 5) (by omega)
      have C6 := HR.out.cell (j := 6) (by omega)
      have C11 := HR.out.cell (j := 11) (by omega)
      have C12 := HR.out.cell (j := 12) (by omega)
      have C13 := HR.out.cell (j := 13) (by omega)
      have F5 := RowF.frozen HR.out 5
      have F6 := RowF.frozen HR.out 6
      have F11 := RowF.frozen HR.out 11
      have F12 := RowF.frozen HR.out 12
      have F13 := RowF.frozen HR.out 13
      clear b0 b1 b2 b3 b4 c0 f0
      obtain ⟨b0, b1, b2, b3, b4⟩ := HX2.out
      go_upto_block 2 with fail
      obtain ⟨wv, hwv⟩ : ∃ wv, wv = ((((wr.setCell ⟨G, 5, none⟩ (.int .u8 (i / 256))).setCell ⟨G, 6, none⟩ (.int .u8 (i % 256))).setCell ⟨G, 11, none⟩ (.int .u8 p)).setCell ⟨G, 12, none⟩ (.int .u8 n)).setCell ⟨G, 13, none⟩ (.int .u8 (d.size : Int)) := ⟨_, rfl⟩
      have RV := (((((HR.out.set 5 (i / 256)).set 6 (i % 256)).set 11 p).set 12 n).set 13 (d.size : Int)).congr (secK_zero ⟨g, i, l, p, n⟩ d)
      have BV := ((((HW.out.setCell (p := ⟨G, 5, none⟩) HG.out (.int .u8 (i / 256))).setCell (p := ⟨G, 6, none⟩) HG.out (.int .u8 (i % 256))).setCell (p := ⟨G, 11, none⟩) HG.out (.int .u8 p)).setCell (p := ⟨G, 12, none⟩) HG.out (.int .u8 n)).setCell (p := ⟨G, 13, none⟩) HG.out (.int .u8 (d.size : Int))
      rw [← hwv] at RV BV ⊢
      have RV' := Lib.hid RV
      have BV' := Lib.hid BV
      clear RV BV hwv C5 C6 C11 C12 C13 F5 F6 F11 F12 F13 b0 b1 b2 b3 b4 W5 HR HX2 HW HA HB
      go_wp2_with fail
      go_loopw [9] (fun vj wr => ∃ k : Nat, k ≤ d.size ∧ vj = .int .i64 k ∧ Hid (RowF wr G (secK ⟨g, i, l, p, n⟩ d k)) ∧ Hid (Below q w wr)) (fun vj _ => d.size - (intOf vj).toNat)
      case atStart => exact ⟨0, Nat.zero_le _, rfl, RV', BV'⟩
      case round =>
        obtain ⟨k, kd, rfl, HR, HW⟩ := hrel
        by_cases kk : k < d.size
        · have C1 := HR.out.cell (j := 14 + k) (by omega)
          have F1 := RowF.frozen HR.out (14 + k)
          have BY := Lib.hid (show ((d[k]'kk).toNat : Int) = bN d k by unfold bN; rw [byte_at d k kk])
          go_wp2_with fail
          go_roundw
          case rel => exact ⟨k + 1, by omega, by go_num, Lib.hid ((HR.out.set (14 + k) _).congr fun j _ => secK_step _ _ _ _ BY.out j), Lib.hid (HW.out.setCell HG.out _)⟩
          case measure => simp [intOf]; omega
        · obtain rfl : k = d.size := by omega
          have CV := conv64 _ _ _ (HR.out.congr fun j _ => secK_all _ _ j)
          have PP := Lib.hid (show strOfNums ((List.range 64).map (secF ⟨g, i, l, p, n⟩ d)) = pack6 ⟨g, i, l, p, n⟩ d from rfl)
          rw [PP.out] at CV
          go_wp2_with fail
          go_ret
          exact ⟨rfl, by rw [← HQ.out]; exact HW.out⟩

end Go.Proofs.YtfodclafkdkjbaaDoor
