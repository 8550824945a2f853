/- A row of uint64 that is sorted in place: what the world is while it is. -/
import Derived.Test.YtodindfchkpecaaLs
import Derived.Test.YtodindfchkpecaaOw
import Derived.Sort.AssemblyPlain
import Derived.Sort.Row
import Derived.BigRegion
import Derived.RegionTactic
import Derived.Deep.LoopGhost
namespace Go.Proofs.Ytodindfchkpecaa
open Go.RowKit Go.Sort

/-- block g holds d, and behind it Z; all other blocks of w0 are as they were -/
structure Sw (w0 w : World) (g : Nat) (Z : List Value) (d : Array Int) : Prop where
  grown : w0.grownBy w (some g)
  lt : g < w.heap.size
  row : w.heap[g]? = some (.cells (d.toList.map (Value.int .u64) ++ Z).toArray 23 (0, 0))

section
variable {w0 w w' : World} {g : Nat} {Z : List Value} {d : Array Int}
theorem Sw.cell (h : Sw w0 w g Z d) (i : Nat) (hi : i < d.size) : w.cell? ⟨g, i, none⟩ = some (.int .u64 d[i]!) := by
  rw [cell_of_row w g i _ 23 (0, 0) h.row]
  simp [List.getElem?_append_left (show i < (d.toList.map (Value.int .u64)).length by simpa using hi), hi]
theorem Sw.frozen (h : Sw w0 w g Z d) (i : Nat) : w.frozen? ⟨g, i, none⟩ = false := by simp [World.frozen?, h.row]
theorem Sw.drewN (h : Sw w0 w g Z d) (n : Nat) : Sw w0 (w.drewN n) g Z d := ⟨⟨h.grown.os, h.grown.tape, h.grown.output, h.grown.size, h.grown.block⟩, h.lt, h.row⟩
theorem Sw.drew (h : Sw w0 w g Z d) : Sw w0 w.drew g Z d := ⟨⟨h.grown.os, h.grown.tape, h.grown.output, h.grown.size, h.grown.block⟩, h.lt, h.row⟩
theorem Sw.set (h : Sw w0 w g Z d) (i : Nat) (x : Int) (hi : i < d.size) : Sw w0 (w.setCell ⟨g, i, none⟩ (.int .u64 x)) g Z (d.setIfInBounds i x) := by
  refine ⟨⟨h.grown.os, h.grown.tape, h.grown.output, by simpa [World.setCell] using h.grown.size, fun k hk hne => ?_⟩, by simpa [World.setCell] using h.lt, ?_⟩
  · rw [Below.heap_setCell _ _ _ _ (fun e => hne (by rw [e]))]
    exact h.grown.block k hk hne
  · have e : (d.toList.map (Value.int .u64) ++ Z).toArray.setIfInBounds i (.int .u64 x) = ((d.setIfInBounds i x).toList.map (Value.int .u64) ++ Z).toArray := by
      apply Array.ext'
      simp [hi]
    rw [← e]
    simp [World.setCell, Array.getElem?_modify, h.row]
theorem Sw.swap (h : Sw w0 w g Z d) (i j : Nat) (hi : i < d.size) (hj : j < d.size) :
    Sw w0 ((w.setCell ⟨g, i, none⟩ (.int .u64 d[j]!)).setCell ⟨g, j, none⟩ (.int .u64 d[i]!)) g Z (swp d i j) :=
  (h.set i d[j]! hi).set j d[i]! (by simpa using hj)
theorem Sw.alloc (h : Sw w0 w g Z d) (o : Obj) : Sw w0 (w.alloc o) g Z d :=
  ⟨⟨h.grown.os, h.grown.tape, h.grown.output, by have := h.grown.size; simp; omega, fun k hk hne => (Below.heap_alloc w o k (Nat.lt_of_lt_of_le hk h.grown.size)).trans (h.grown.block k hk hne)⟩, by have := h.lt; simp; omega,
    (Below.heap_alloc w o g h.lt).trans h.row⟩
/-- a store into a block that is none of w0's -/
theorem Sw.far (h : Sw w0 w g Z d) {p : Addr} (hp : w0.heap.size ≤ p.block) (hg : p.block ≠ g) (u : Value) : Sw w0 (w.setCell p u) g Z d :=
  ⟨⟨h.grown.os, h.grown.tape, h.grown.output, by simpa [World.setCell] using h.grown.size, fun k hk hne => (Below.heap_setCell w p u k (by omega)).trans (h.grown.block k hk hne)⟩, by simpa [World.setCell] using h.lt,
    (Below.heap_setCell w p u g (fun e => hg e.symm)).trans h.row⟩
/-- from a world on the way to a world further on -/
theorem Sw.trans {w1 : World} {d1 : Array Int} (h : Sw w0 w1 g Z d1) (k : Sw w1 w g Z d) : Sw w0 w g Z d :=
  ⟨⟨k.grown.os.trans h.grown.os, k.grown.tape.trans h.grown.tape, k.grown.output.trans h.grown.output, Nat.le_trans h.grown.size k.grown.size,
    fun i hi hne => (k.grown.block i (Nat.lt_of_lt_of_le hi h.grown.size) hne).trans (h.grown.block i hi hne)⟩, k.lt, k.row⟩
theorem Sw.self (h : Sw w0 w g Z d) : Sw w w g Z d := ⟨⟨rfl, rfl, rfl, Nat.le_refl _, fun _ _ _ => rfl⟩, h.lt, h.row⟩
/-- another block of the world on the way is as it was -/
theorem Sw.other (h : Sw w0 w g Z d) {p : Addr} (hp : p.block < w0.heap.size) (hg : p.block ≠ g) : w.cell? p = w0.cell? p := World.cell?_of_block (h.grown.block p.block hp (fun e => hg (by injection e)))
theorem Sw.otherF (h : Sw w0 w g Z d) {p : Addr} (hp : p.block < w0.heap.size) (hg : p.block ≠ g) : w.frozen? p = w0.frozen? p := World.frozen?_of_block (h.grown.block p.block hp (fun e => hg (by injection e)))
end

theorem ret0 : Ending.returned (.tuple #[]) = Ending.returned (.tuple #[]) := rfl

/-- what a function leaves that moves the places a to b among themselves -/
def PermPost (g : Nat) (Z : List Value) (a b : Nat) (d : Array Int) (w : World) (e : Ending) (w' : World) : Prop := e = .returned (.tuple #[]) ∧ ∃ d', PermIn a b d d' ∧ Sw w w' g Z d'

set_option maxHeartbeats 1000000 in
set_option maxRecDepth 100000 in
/-- slices.reverseRangeOrdered -/
theorem oreverse (g cap : Nat) (Z : List Value) (d : Array Int) (a b : Nat) (w : World) (h : Sw w w g Z d) (hab : a ≤ b) (hb : b ≤ d.size) (hsz : d.size ≤ 1024) :
    Calls Try.prog 57 #[.slice (some ⟨g, 0, none⟩) d.size cap, .int .i64 a, .int .i64 b] w (PermPost g Z a b d w) := by
  have H := Lib.hid h
  clear h
  go_enter Try.func57, Try.ntmps57
  go_wp2
  go_loopw [6, 7] (fun vi vj wr => ∃ (i : Nat) (z : Int) (dk : Array Int), vi = .int .i64 i ∧ vj = .int .i64 z ∧ a ≤ i ∧ z < b ∧ -1 ≤ z ∧ i ≤ b ∧ Hid (dk.size = d.size) ∧ Hid (PermIn a b d dk) ∧ Hid (Sw w wr g Z dk)) (fun vi vj _ => (intOf vj - intOf vi).toNat)
  case atStart => exact ⟨a, (b : Int) - 1, d, rfl, rfl, Nat.le_refl _, by omega, by omega, hab, rfl, permIn_refl _ _ _, H⟩
  case round =>
    obtain ⟨i, z, dk, rfl, rfl, ai, zb, z1, ib, DS, PM, HW⟩ := hrel
    by_cases hlt : (i : Int) < z
    · obtain ⟨j, rfl⟩ : ∃ j : Nat, z = j := ⟨z.toNat, by omega⟩
      have hi : i < d.size := by omega
      have hj : j < d.size := by omega
      have ci := HW.out.cell i (by rw [DS.out]; exact hi)
      have cj := HW.out.cell j (by rw [DS.out]; exact hj)
      have fi := HW.out.frozen i
      have fj := HW.out.frozen j
      have SW := Lib.hid (HW.out.swap i j (by rw [DS.out]; exact hi) (by rw [DS.out]; exact hj))
      obtain ⟨x, hx⟩ : ∃ x, dk[i]! = x := ⟨_, rfl⟩
      obtain ⟨y, hy⟩ : ∃ y, dk[j]! = y := ⟨_, rfl⟩
      rw [hx, hy] at SW
      rw [hx] at ci
      rw [hy] at cj
      have PM2 := Lib.hid (permIn_trans _ _ _ _ _ PM.out (swp_permIn dk a b i j (by omega) (by omega) (by omega) (by omega) (by rw [DS.out]; exact hb)))
      clear hx hy
      go_wp2_with fail
      go_region
      go_wp2
      go_roundw
      case rel => exact ⟨i + 1, (j : Int) - 1, swp dk i j, by go_num, rfl, by omega, by omega, by omega, by omega, (by rw [size_swp]; exact DS.out : (swp dk i j).size = d.size), PM2.out, SW.out.drew⟩
      case measure => simp [intOf]; omega
    · go_wp2
      go_end0
      exact ⟨rfl, dk, PM.out, HW.out⟩

end Go.Proofs.Ytodindfchkpecaa
