/- Frames: which blocks may turn; blocks written out; rows of elements of one width. -/
import Derived.Test.YtoljhoabbaigdaaSl
namespace Go.Proofs.Ytoljhoabbaigdaa
open Go.RowKit

/-- all blocks but F's, and but new ones, are as they were -/
structure Chg (F : Nat → Prop) (w w' : World) : Prop where
  os : w'.os = w.os
  tape : w'.tape = w.tape
  output : w'.output = w.output
  size : w.heap.size ≤ w'.heap.size
  block : ∀ k, k < w.heap.size → ¬ F k → w'.heap[k]? = w.heap[k]?
section
variable {F G : Nat → Prop} {a b c w w' : World}
theorem Chg.refl (F : Nat → Prop) (w : World) : Chg F w w := ⟨rfl, rfl, rfl, Nat.le_refl _, fun _ _ _ => rfl⟩
/-- two steps; the second one may turn what the first one made -/
theorem Chg.trans (h : Chg F a b) (k : Chg G b c) (hg : ∀ i, G i → F i ∨ a.heap.size ≤ i) : Chg F a c :=
  ⟨k.os.trans h.os, k.tape.trans h.tape, k.output.trans h.output, Nat.le_trans h.size k.size, fun i hi hn => (k.block i (Nat.lt_of_lt_of_le hi h.size) (fun e => by
    rcases hg i e with q | q
    · exact hn q
    · omega)).trans (h.block i hi hn)⟩
theorem Chg.then (h : Chg F a b) (k : Chg F b c) : Chg F a c := h.trans k fun _ e => .inl e
theorem Chg.mono (h : Chg F w w') (hg : ∀ i, F i → G i) : Chg G w w' := ⟨h.os, h.tape, h.output, h.size, fun i hi hn => h.block i hi fun e => hn (hg i e)⟩
theorem Chg.of_below (h : Below w.heap.size w w') : Chg F w w' := ⟨h.os, h.tape, h.output, h.size, fun i hi _ => h.block i hi⟩
theorem Chg.below {B : Nat} (h : Chg F w w') (hF : ∀ i, F i → B ≤ i) (hB : B ≤ w.heap.size) : Below B w w' := ⟨h.os, h.tape, h.output, h.size, fun i hi => h.block i (by omega) fun e => by have := hF i e; omega⟩
theorem Chg.drew (h : Chg F a w) : Chg F a w.drew := ⟨h.os, h.tape, h.output, h.size, h.block⟩
theorem Chg.drewN (h : Chg F a w) (n : Nat) : Chg F a (w.drewN n) := ⟨h.os, h.tape, h.output, h.size, h.block⟩
theorem Chg.alloc (h : Chg F a w) (o : Obj) : Chg F a (w.alloc o) :=
  h.trans (G := fun _ => False) ⟨rfl, rfl, rfl, by simp, fun k hk _ => Below.heap_alloc _ _ _ hk⟩ (fun _ e => e.elim)
theorem Chg.setCell (h : Chg F a w) {p : Addr} (hp : F p.block ∨ a.heap.size ≤ p.block) (u : Value) : Chg F a (w.setCell p u) :=
  h.trans (G := fun i => i = p.block) ⟨rfl, rfl, rfl, by simp [World.setCell], fun k _ hk => Below.heap_setCell _ _ _ _ hk⟩ (fun i e => by subst e; exact hp)
theorem Chg.grown {row : Option Nat} (h : Chg F a w) (hg : w.grownBy w' row) (hr : ∀ k, row = some k → F k ∨ a.heap.size ≤ k) : Chg F a w' :=
  h.trans (G := fun i => row = some i) ⟨hg.os, hg.tape, hg.output, hg.size, fun k hk hn => hg.block k hk fun e => hn e.symm⟩ (fun i e => hr i e)
theorem Chg.cell (h : Chg F w w') {p : Addr} {v : Value} (hc : w.cell? p = some v) (hn : ¬ F p.block) : w'.cell? p = some v :=
  (World.cell?_of_block (w := w) (h.block p.block (World.block_lt_of_cell? w p hc) hn)).trans hc
end

/-- block g holds cs -/
def RowAt (w : World) (g : Nat) (cs : List Value) (t : TypeId) : Prop := w.heap[g]? = some (.cells cs.toArray t)
section
variable {F : Nat → Prop} {w w' : World} {g : Nat} {cs : List Value} {t : TypeId}
theorem RowAt.lt (h : RowAt w g cs t) : g < w.heap.size := (Array.getElem?_eq_some_iff.1 h).1
theorem RowAt.cell (h : RowAt w g cs t) (i : Nat) : w.cell? ⟨g, i, none⟩ = cs[i]? := by
  unfold World.cell?
  rw [show w.heap[(⟨g, i, none⟩ : Addr).block]? = some (.cells cs.toArray t) from h]
  simp
theorem RowAt.frozen (h : RowAt w g cs t) (i : Nat) : w.frozen? ⟨g, i, none⟩ = false := by
  unfold World.frozen?
  rw [show w.heap[(⟨g, i, none⟩ : Addr).block]? = some (.cells cs.toArray t) from h]
  simp
theorem RowAt.keep (h : RowAt w g cs t) (hc : Chg F w w') (hn : ¬ F g) : RowAt w' g cs t := (hc.block g h.lt hn).trans h
theorem RowAt.below (h : RowAt w g cs t) (hb : Below w.heap.size w w') : RowAt w' g cs t := (hb.block g h.lt).trans h
theorem RowAt.drewN (h : RowAt w g cs t) (n : Nat) : RowAt (w.drewN n) g cs t := h
theorem RowAt.new (w : World) (cs : List Value) (t : TypeId) : RowAt (w.alloc (.cells cs.toArray t)) w.heap.size cs t := heap_alloc_new w _
theorem RowAt.alloc (h : RowAt w g cs t) (o : Obj) : RowAt (w.alloc o) g cs t := h.below ((Below.refl _ _).alloc (Nat.le_refl _) o)
theorem RowAt.set (h : RowAt w g cs t) (i : Nat) (v : Value) : RowAt (w.setCell ⟨g, i, none⟩ v) g (cs.set i v) t := by
  unfold RowAt World.setCell
  simp only [Array.getElem?_modify]
  rw [show w.heap[g]? = some (.cells cs.toArray t) from h]
  simp
theorem RowAt.other (h : RowAt w g cs t) {p : Addr} (hp : p.block ≠ g) (v : Value) : RowAt (w.setCell p v) g cs t := (Below.heap_setCell _ _ _ _ (Ne.symm hp)).trans h
end

section
variable {α : Type} {f : α → List Value} {n : Nat}
theorem flat_len (hf : ∀ x, (f x).length = n) : ∀ l : List α, (l.flatMap f).length = l.length * n
  | [] => by simp
  | x :: l => by rw [List.flatMap_cons, List.length_append, hf, flat_len hf l, List.length_cons, Nat.add_mul]; omega
theorem flat_at (hf : ∀ x, (f x).length = n) : ∀ (l : List α) (i j : Nat) (hi : i < l.length), j < n → (l.flatMap f)[i * n + j]? = (f l[i])[j]?
  | [], i, j, hi, _ => by simp at hi
  | x :: l, 0, j, _, hj => by
    rw [List.flatMap_cons, Nat.zero_mul, Nat.zero_add, List.getElem?_append_left (by rw [hf]; exact hj)]; rfl
  | x :: l, i + 1, j, hi, hj => by
    have h := flat_at hf l i j (by simpa using hi) hj
    rw [List.flatMap_cons, List.getElem?_append_right (by rw [hf, Nat.add_mul]; omega), hf, show (i + 1) * n + j - n = i * n + j by rw [Nat.add_mul]; omega, h]
    rfl
theorem flat_set (hf : ∀ x, (f x).length = n) : ∀ (l : List α) (i j : Nat) (v : Value) (y : α) (hi : i < l.length), j < n → (f l[i]).set j v = f y → (l.flatMap f).set (i * n + j) v = (l.set i y).flatMap f
  | [], i, j, v, y, hi, _, _ => by simp at hi
  | x :: l, 0, j, v, y, _, hj, hy => by
    rw [List.flatMap_cons, Nat.zero_mul, Nat.zero_add, List.set_append_left _ _ (by rw [hf]; exact hj)]
    rw [show (f x).set j v = f y from hy]
    rfl
  | x :: l, i + 1, j, v, y, hi, hj, hy => by
    have h := flat_set hf l i j v y (by simpa using hi) hj hy
    rw [List.flatMap_cons, List.set_append_right _ _ (by rw [hf, Nat.add_mul]; omega), hf, show (i + 1) * n + j - n = i * n + j by rw [Nat.add_mul]; omega, h]
    rfl
end

end Go.Proofs.Ytoljhoabbaigdaa
