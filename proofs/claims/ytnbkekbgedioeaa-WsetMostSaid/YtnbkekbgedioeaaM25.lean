/- Proved parts: Ow. Conditions: each theorem's own. -/
import Derived.Test.YtnbkekbgedioeaaM2
import Derived.Test.YtnbkekbgedioeaaProg
import Derived.Laws.AppendOwn
import Derived.Laws.AppendOwnNone
import Derived.KernelRfl
namespace Go.Proofs.Ytnbkekbgedioeaa
open Go.RowKit

/-- v is a row of the call's own, from block B on, and holds zs -/
def Own (w : World) (B : Nat) (v : Value) (zs : List Int) : Prop := w.ownsRow B 32 1 v zs.length (zs.map (Value.int .u64))

section
variable {w w' : World} {B : Nat} {v : Value} {zs : List Int}
theorem Own.nil (w : World) (B : Nat) : Own w B (.slice none 0 0) [] := World.ownsRow_nil _ _ _ _
theorem Own.form (h : Own w B v zs) : ∃ A c, v = .slice A zs.length c ∧ zs.length ≤ c ∧ Sl w A zs ∧ (A = none → c = 0 ∧ zs = []) ∧ (∀ a, A = some a → ∃ g, a = ⟨g, 0, none⟩ ∧ B ≤ g) := by
  rcases h.2 with ⟨rfl, hn⟩ | ⟨g, cap, cur, rfl, hB, hg, hnc, _, hs, ht⟩
  · have hz : zs = [] := List.eq_nil_of_length_eq_zero hn
    subst hz
    exact ⟨none, 0, rfl, Nat.zero_le _, Sl.nil _ _, fun _ => ⟨rfl, rfl⟩, (fun a e => by cases e)⟩
  · refine ⟨some ⟨g, 0, none⟩, cap, rfl, hnc, fun hp => ⟨g, 0, rfl, ?_, fun j hj => ?_⟩, (fun e => by cases e), fun a e => ?_⟩
    · rcases Nat.lt_or_ge g w.heap.size with hlt | hge
      · exact hlt
      · rw [Array.getElem?_eq_none hge] at hg; cases hg
    · have hj2 : j < zs.length * 1 := by omega
      rw [Nat.zero_add, World.ownsRow.cellAt (w := w) (base := B) (e := 32) (size := 1) (xs := zs.map (Value.int .u64)) h j hj2, List.getElem?_map, List.getElem?_eq_getElem hj, List.getD, List.getElem?_eq_getElem hj]; rfl
    · injection e with e; exact ⟨g, e.symm, hB⟩
theorem Own.drew (h : Own w B v zs) : Own w.drew B v zs := h
theorem Own.drewN (h : Own w B v zs) (n : Nat) : Own (w.drewN n) B v zs := h
theorem Own.alloc (h : Own w B v zs) (o : Obj) : Own (w.alloc o) B v zs := World.ownsRow.alloc h o
theorem Own.below (h : Own w B v zs) (hb : Below w.heap.size w w') : Own w' B v zs := by
  refine ⟨h.1, ?_⟩
  rcases h.2 with hn | ⟨g, cap, cur, rfl, hB, hg, r⟩
  · exact .inl hn
  · refine .inr ⟨g, cap, cur, rfl, hB, ?_, r⟩
    rw [hb.block g (by
      rcases Nat.lt_or_ge g w.heap.size with hlt | hge
      · exact hlt
      · rw [Array.getElem?_eq_none hge] at hg; cases hg)]
    exact hg
theorem Own.more {B' : Nat} (h : Own w B v zs) (hB : B' ≤ B) : Own w B' v zs := by
  refine ⟨h.1, ?_⟩
  rcases h.2 with hn | ⟨g, cap, cur, hv, hg, r⟩
  · exact .inl hn
  · exact .inr ⟨g, cap, cur, hv, by omega, r⟩
/-- a new row written out -/
theorem Own.made (w : World) (B : Nat) (hB : B ≤ w.heap.size) (zs : List Int) (hl : zs.length ≤ maxLen) :
    Own (w.alloc (.cells (zs.map (Value.int .u64)).toArray 32)) B (.slice (some ⟨w.heap.size, 0, none⟩) zs.length zs.length) zs :=
  ⟨by simp, .inr ⟨w.heap.size, zs.length, _, rfl, hB, heap_alloc_new w _, Nat.le_refl _, hl, by simp, by simp [List.take_of_length_le]⟩⟩

end

end Go.Proofs.Ytnbkekbgedioeaa
