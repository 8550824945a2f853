/- cloisonneref06.Pack: walked. -/
import Derived.Test.YtjhmgkelmllnjaaS6r
import Derived.Laws.MakeOwn
import Derived.Deep.Cut
import Derived.Deep.CutRange
import Derived.Deep.CutBlock
namespace Go.Proofs.Ytjhmgkelmllnjaa
open Go.RowKit

/-- block g holds 64 bytes: f -/
def RowF (w : World) (g : Nat) (f : Nat → Int) : Prop := ∃ t : TypeId, RowAt w g ((List.range 64).map fun j => Value.int .u8 (f j)) t
def upd (f : Nat → Int) (j : Nat) (v : Int) : Nat → Int := fun k => if k = j then v else f k
theorem RowF.cell {w : World} {g : Nat} {f : Nat → Int} (h : RowF w g f) {j : Nat} (hj : j < 64) : w.cell? ⟨g, j, none⟩ = some (.int .u8 (f j)) := by
  obtain ⟨t, h⟩ := h
  rw [RowAt.cell h, List.getElem?_map, List.getElem?_range hj]; rfl
theorem RowF.frozen {w : World} {g : Nat} {f : Nat → Int} (h : RowF w g f) (j : Nat) : w.frozen? ⟨g, j, none⟩ = false := by
  obtain ⟨t, h⟩ := h
  exact RowAt.frozen h j
theorem RowF.lt {w : World} {g : Nat} {f : Nat → Int} (h : RowF w g f) : g < w.heap.size := by
  obtain ⟨t, h⟩ := h
  exact RowAt.lt h
theorem RowF.drewN {w : World} {g : Nat} {f : Nat → Int} (h : RowF w g f) (n : Nat) : RowF (w.drewN n) g f := h
theorem RowF.below {w w' : World} {g : Nat} {f : Nat → Int} (h : RowF w g f) (hb : Below w.heap.size w w') : RowF w' g f := by
  obtain ⟨t, h⟩ := h
  exact ⟨t, h.below hb⟩
theorem RowF.set {w : World} {g : Nat} {f : Nat → Int} (h : RowF w g f) (j : Nat) (v : Int) : RowF (w.setCell ⟨g, j, none⟩ (.int .u8 v)) g (upd f j v) := by
  obtain ⟨t, h⟩ := h
  have h2 := RowAt.set h j (.int .u8 v)
  have e : ((List.range 64).map fun k => Value.int .u8 (f k)).set j (.int .u8 v) = (List.range 64).map fun k => Value.int .u8 (upd f j v k) := by
    apply List.ext_getElem (by simp)
    intro i h1 h2
    rw [List.getElem_set, List.getElem_map, List.getElem_map, List.getElem_range]
    unfold upd
    by_cases hi : j = i
    · subst hi; rw [if_pos rfl, if_pos rfl]
    · rw [if_neg hi, if_neg (fun e => hi e.symm)]
  rw [e] at h2; exact ⟨t, h2⟩
theorem RowF.congr {w : World} {g : Nat} {f f' : Nat → Int} (h : RowF w g f) (e : ∀ j, j < 64 → f j = f' j) : RowF w g f' := by
  obtain ⟨t, h⟩ := h
  refine ⟨t, ?_⟩
  rw [show (List.range 64).map (fun j => Value.int .u8 (f' j)) = (List.range 64).map fun j => Value.int .u8 (f j) from List.map_congr_left fun j hj => by rw [e j (List.mem_range.1 hj)]]
  exact h
theorem infoB8 : (Try.prog.info? 5).map (fun i => (i.zero, i.size, i.bytes)) = some (some (.int .u8 0), 1, 1) := by kernel_rfl
/-- make([]byte, 64) -/
def mk64 (W : World) : World := W.alloc (.cells ((List.range 64).map fun _ => Value.int .u8 0).toArray 5)
theorem made64 : madeCells (Value.int IntKind.u8 0).cells (Int.toNat 64 * 1) = ((List.range 64).map fun _ => Value.int .u8 0).toArray := by kernel_rfl
theorem make64 : ∀ W : World, (Instr.makeSlice 36 (.int .i64 64) (.int .i64 64)).run Try.prog W = .ok (.slice (some ⟨W.heap.size, 0, none⟩) 64 64) (mk64 W) := by
  obtain ⟨i0, hi, hz0, hz1, hz2⟩ := info_parts infoB8
  intro W
  have h := run_make (P := Try.prog) W 36 5 i0 _ Try.underlying36 hi hz0 .i64 .i64 64 64 (by omega) (by omega) (by rw [hz2]; omega) (by omega)
  rw [hz1, made64] at h
  exact h
/-- the number behind i rounds -/
def dg (g : Int) (i : Nat) : Int := if i = 0 then g else if i = 1 then g / 256 else if i = 2 then g / 65536 else if i = 3 then g / 16777216 else g / 4294967296
/-- the row behind i rounds -/
def fi (g l : Int) (i j : Nat) : Int := if j = 0 then 193 else if j ≤ 4 ∧ 4 < j + i then dg g (4 - j) % 256 else if 7 ≤ j ∧ j ≤ 10 ∧ 10 < j + i then dg l (10 - j) % 256 else 0
theorem fi_step (g l : Int) (k : Nat) (hk : k < 4) (v1 v2 : Int) (h1 : v1 = dg g k % 256) (h2 : v2 = dg l k % 256) : ∀ j, j < 64 → upd (upd (fi g l k) (4 - k) v1) (10 - k) v2 j = fi g l (k + 1) j := by
  intro j _
  unfold upd fi
  by_cases e1 : j = 10 - k
  · subst e1; rw [if_pos rfl, if_neg (by omega), if_neg (by omega), if_pos ⟨by omega, by omega, by omega⟩, h2, show 10 - (10 - k) = k by omega]
  rw [if_neg e1]
  by_cases e2 : j = 4 - k
  · subst e2; rw [if_pos rfl, if_neg (by omega), if_pos (by omega), h1, show 4 - (4 - k) = k by omega]
  rw [if_neg e2]
  by_cases e3 : j = 0
  · simp only [if_pos e3]
  simp only [if_neg e3]
  by_cases e4 : j ≤ 4 ∧ 4 < j + k
  · have e6 : j ≤ 4 ∧ 4 < j + (k + 1) := by omega
    simp only [if_pos e4, if_pos e6]
  have e6 : ¬ (j ≤ 4 ∧ 4 < j + (k + 1)) := by omega
  simp only [if_neg e4, if_neg e6]
  by_cases e5 : 7 ≤ j ∧ j ≤ 10 ∧ 10 < j + k
  · have e7 : 7 ≤ j ∧ j ≤ 10 ∧ 10 < j + (k + 1) := by omega
    simp only [if_pos e5, if_pos e7]
  have e7 : ¬ (7 ≤ j ∧ j ≤ 10 ∧ 10 < j + (k + 1)) := by omega
  simp only [if_neg e5, if_neg e7]
/-- the row behind k bytes of the data -/
def secK (x : Stp) (d : ByteArray) (k j : Nat) : Int := if j < 14 then secF x d j else if j < 14 + k then (bN d (j - 14) : Int) else 0
theorem secK_all (x : Stp) (d : ByteArray) (j : Nat) : secK x d d.size j = secF x d j := by
  unfold secK
  by_cases h : j < 14
  · rw [if_pos h]
  · rw [if_neg h]
    unfold secF
    simp only [if_neg (show ¬ j = 0 by omega), if_neg (show ¬ j = 1 by omega), if_neg (show ¬ j = 2 by omega), if_neg (show ¬ j = 3 by omega), if_neg (show ¬ j = 4 by omega), if_neg (show ¬ j = 5 by omega), if_neg (show ¬ j = 6 by omega), if_neg (show ¬ j = 7 by omega), if_neg (show ¬ j = 8 by omega), if_neg (show ¬ j = 9 by omega), if_neg (show ¬ j = 10 by omega), if_neg (show ¬ j = 11 by omega), if_neg (show ¬ j = 12 by omega), if_neg (show ¬ j = 13 by omega)]
theorem secK_step (x : Stp) (d : ByteArray) (k : Nat) (v : Int) (hv : v = bN d k) (j : Nat) : upd (secK x d k) (14 + k) v j = secK x d (k + 1) j := by
  unfold upd secK
  by_cases e : j = 14 + k
  · subst e
    rw [if_pos rfl, if_neg (by omega), if_pos (by omega), hv, show 14 + k - 14 = k by omega]
  · rw [if_neg e]
    by_cases h : j < 14
    · simp only [if_pos h]
    · simp only [if_neg h]
      by_cases h2 : j < 14 + k
      · rw [if_pos h2, if_pos (by omega)]
      · rw [if_neg h2, if_neg (by omega)]
theorem secK_zero (x : Stp) (d : ByteArray) (j : Nat) (hj : j < 64) : upd (upd (upd (upd (upd (fi x.gen x.life 4) 5 (x.index / 256)) 6 (x.index % 256)) 11 x.part) 12 x.parts) 13 (d.size : Int) j = secK x d 0 j := by
  by_cases h : 14 ≤ j
  · have e : upd (upd (upd (upd (upd (fi x.gen x.life 4) 5 (x.index / 256)) 6 (x.index % 256)) 11 x.part) 12 x.parts) 13 (d.size : Int) j = fi x.gen x.life 4 j := by
      unfold upd
      rw [if_neg (by omega), if_neg (by omega), if_neg (by omega), if_neg (by omega), if_neg (by omega)]
    rw [e]
    unfold fi secK
    rw [if_neg (by omega), if_neg (by omega), if_neg (by omega), if_neg (by omega), if_neg (by omega)]
  · have : j = 0 ∨ j = 1 ∨ j = 2 ∨ j = 3 ∨ j = 4 ∨ j = 5 ∨ j = 6 ∨ j = 7 ∨ j = 8 ∨ j = 9 ∨ j = 10 ∨ j = 11 ∨ j = 12 ∨ j = 13 := by omega
    rcases this with rfl | rfl | rfl | rfl | rfl | rfl | rfl | rfl | rfl | rfl | rfl | rfl | rfl | rfl <;> simp [upd, fi, dg, secK, secF]
theorem conv64 (w : World) (g : Nat) (f : Nat → Int) (h : RowF w g f) : (convert 36 9 (.slice (some ⟨g, 0, none⟩) 64 64)).run Try.prog w = .ok (.string (strOfNums ((List.range 64).map f))) w :=
  run_convert_bytes_arg w 36 5 (by kernel_rfl) (by kernel_rfl) g 0 64 64 ((List.range 64).map f) (by simp) (by
    intro i hi
    rw [Nat.zero_add, RowF.cell h (by simpa using hi), List.getD_eq_getElem?_getD, List.getElem?_map, List.getElem?_range (by simpa using hi)]; rfl) 9 (by kernel_rfl)
theorem BoxS.other {w : World} {q G : Nat} {g i l p n : Int} (h : BoxS w q g i l p n) (hq : ¬ q = G) (j : Nat) (v : Value) : BoxS (w.setCell ⟨G, j, none⟩ v) q g i l p n := by
  have e : ∀ k, (w.setCell ⟨G, j, none⟩ v).cell? ⟨q, k, none⟩ = w.cell? ⟨q, k, none⟩ := fun k => World.cell?_of_block (Below.heap_setCell _ _ _ _ hq)
  exact ⟨(e 0).trans h.c0, (e 1).trans h.c1, (e 2).trans h.c2, (e 3).trans h.c3, (e 4).trans h.c4⟩
theorem BoxS.drewN {w : World} {q : Nat} {g i l p n : Int} (h : BoxS w q g i l p n) (k : Nat) : BoxS (w.drewN k) q g i l p n := ⟨h.c0, h.c1, h.c2, h.c3, h.c4⟩
end Go.Proofs.Ytjhmgkelmllnjaa
