/- The chapter's example of layer 2 holds: the statements' own 'awake' answers true. -/
import Derived.Test.YtodindfchkpecaaJo
import Derived.Test.YtodindfchkpecaaPk
namespace Go.Proofs.Ytodindfchkpecaa
open Go.RowKit

theorem sl_of_cells {w : World} {B : Nat} {zs : List Int} (hB : B < w.heap.size) (h : w.heap[B]? = some (.cells (zs.map (Value.int .u64)).toArray 23 (0, 0))) : Sl w (some ⟨B, 0, none⟩) zs := fun _ => by
  refine ⟨B, 0, rfl, hB, fun j hj => ?_⟩
  rw [Nat.zero_add, cell_of_row w B j _ 23 (0, 0) h]
  simp [List.getD, hj]

set_option maxRecDepth 100000 in
/-- cloisonnelaw02.awake -/
theorem awake (w : World) : Calls Try.prog 8 #[] w fun e w' => e = .returned (.bool true) ∧ Below w.heap.size w w' := by
  have e1 : joC [1, 3] [2, 3] = 0 := by decide
  have e2 : joV [1, 3] [2, 3] = [1, 2, 3] := by decide
  have e3 : pkC [1, 2, 3] = 0 := by decide
  have e4 : (pkS [1, 2, 3]).size = 25 := by decide
  have E1 := Lib.hid e1
  have E2 := Lib.hid e2
  have E3 := Lib.hid e3
  have E4 := Lib.hid e4
  clear e1 e2 e3 e4
  go_enter Try.func8, Try.ntmps8
  go_wp2_with fail
  have b0 : Below w.heap.size w ((w.alloc (.cells #[.int .u64 1, .int .u64 3] 23)).alloc (.cells #[.int .u64 2, .int .u64 3] 23)) := ((Below.refl _ _).alloc (Nat.le_refl _) _).alloc (by simp) _
  have s1 : Sl ((w.alloc (.cells #[.int .u64 1, .int .u64 3] 23)).alloc (.cells #[.int .u64 2, .int .u64 3] 23)) (some ⟨w.heap.size, 0, none⟩) [1, 3] :=
    (sl_of_cells (w := w.alloc (.cells #[.int .u64 1, .int .u64 3] 23)) (by simp) (heap_alloc_new w _)).alloc _
  have s2 : Sl ((w.alloc (.cells #[.int .u64 1, .int .u64 3] 23)).alloc (.cells #[.int .u64 2, .int .u64 3] 23)) (some ⟨w.heap.size + 1, 0, none⟩) [2, 3] :=
    sl_of_cells (zs := [2, 3]) (by simp) (by have := heap_alloc_new (w.alloc (.cells #[.int .u64 1, .int .u64 3] 23)) (.cells #[.int .u64 2, .int .u64 3] 23); simpa using this)
  have B0 := Lib.hid b0
  clear b0
  refine (ljoin (some ⟨w.heap.size, 0, none⟩) (some ⟨w.heap.size + 1, 0, none⟩) 2 2 [1, 3] [2, 3] _ s1 s2 (fun e => by cases e) (fun e => by cases e) (by simp [maxLen]) (by simp [maxLen])).mono ?_
  rintro e w1 ⟨v1, rfl, hown1, hb1⟩
  rw [E1.out]
  rw [E2.out] at hown1
  obtain ⟨A1, c1, rfl, _, hsl, _, _⟩ := hown1.form
  have SL := Lib.hid hsl
  have HB1 := Lib.hid (below_then B0.out hb1)
  clear hown1 hsl hb1 s1 s2
  go_wp2_with fail
  refine (lpack A1 c1 [1, 2, 3] _ SL.out (by simp [maxLen]) (by intro x hx; simp at hx; omega)).mono ?_
  rintro e w2 ⟨rfl, hb2⟩
  rw [E3.out]
  have HB2 := Lib.hid (below_then HB1.out hb2)
  obtain ⟨S, hS⟩ : ∃ S, S = pkS [1, 2, 3] := ⟨_, rfl⟩
  rw [← hS]
  have S25 : S.size = 25 := by rw [hS]; exact E4.out
  clear hb2 hS
  go_wp2
  go_ret
  exact ⟨rfl, HB2.out⟩

end Go.Proofs.Ytodindfchkpecaa
