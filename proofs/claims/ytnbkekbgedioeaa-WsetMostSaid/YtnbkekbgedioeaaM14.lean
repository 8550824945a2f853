/- Proved parts: D2o. Conditions: each theorem's own. -/
import Derived.Test.YtnbkekbgedioeaaM13
import Derived.Test.YtnbkekbgedioeaaM8
namespace Go.Proofs.Ytnbkekbgedioeaa
open Go.RowKit

section
variable {w w' : World} {v : Value} {l : Wl}
theorem NodeAtW.keep (h : NodeAtW w v l) (hk : ∀ k, v.ownBlock = some k → w'.heap[k]? = w.heap[k]?) : NodeAtW w' v l := by
  rcases h with ⟨rfl, rfl⟩ | ⟨b, o, c, rfl, h⟩
  · exact .inl ⟨rfl, rfl⟩
  · have e : w'.heap[b]? = w.heap[b]? := hk b rfl
    have ce : ∀ j, w'.cell? ⟨b, j, none⟩ = w.cell? ⟨b, j, none⟩ := fun j => World.cell?_of_block (a := ⟨b, j, none⟩) e
    exact .inr ⟨b, o, c, rfl, h.fit, h.cap, h.pos, fun j u hj => (ce _).trans (h.row j u hj), fun j hj => by rw [ce]; exact h.there j hj, by
      obtain ⟨cur, hc⟩ := h.plain
      exact ⟨cur, e.trans hc⟩⟩
theorem NodeAtW.lt (h : NodeAtW w v l) {k : Nat} (e : v.ownBlock = some k) : k < w.heap.size := by
  rcases h with ⟨rfl, rfl⟩ | ⟨b, o, c, rfl, h⟩
  · cases e
  · injection e with e
    subst e
    exact h.plain.lt
theorem NodeAtW.below (h : NodeAtW w v l) (hb : Below w.heap.size w w') : NodeAtW w' v l := h.keep fun k e => hb.block k (h.lt e)
/-- a row of one's own is one -/
theorem NodeAtW.own {B : Nat} (h : w.ownsRow B 42 5 v l.length (wcs l)) : NodeAtW w v l := by
  rcases h with ⟨h1, ⟨rfl, h0⟩ | ⟨g, cap, cur, rfl, hB, hg, hc, hm, hs, ht⟩⟩
  · exact .inl ⟨rfl, List.length_eq_zero_iff.1 h0⟩
  · have row : RowAt w g cur.toList 42 := by unfold RowAt; simpa using hg
    refine .inr ⟨g, 0, cap, rfl, hc, hm, Nat.zero_le _, fun j u hj => ?_, fun j hj => ?_, ⟨cur, hg⟩⟩
    · have hl := (List.getElem?_eq_some_iff.1 hj).1
      rw [wcs_len] at hl
      rw [RowAt.cell row, Nat.zero_add, ← hj, ← ht, List.getElem?_take, if_pos hl]
    · rw [RowAt.cell row, Nat.zero_add, List.getElem?_eq_getElem (by rw [Array.length_toList]; omega)]; rfl
/-- one write in a block of its own -/
theorem NodeAtW.one {g : Nat} {x : Wr} (h : RowAt w g x.cs 42) : NodeAtW w (.slice (some ⟨g, 0, none⟩) 1 1) [x] := by
  refine .inr ⟨g, 0, 1, rfl, Nat.le_refl _, by unfold maxLen; omega, Nat.zero_le _, fun j u hj => ?_, fun j hj => ?_, ⟨_, h⟩⟩
  · rw [RowAt.cell h, Nat.zero_add]; simpa [wcs] using hj
  · rw [RowAt.cell h, Nat.zero_add, List.getElem?_eq_getElem (show j < x.cs.length from hj)]; rfl
/-- none, in a block of its own -/
theorem NodeAtW.made (w : World) : NodeAtW (w.alloc (.cells #[] 42)) (.slice (some ⟨w.heap.size, 0, none⟩) 0 0) [] :=
  .inr ⟨w.heap.size, 0, 0, rfl, Nat.le_refl _, by unfold maxLen; omega, Nat.zero_le _, fun j u hj => by simp [wcs] at hj, fun j hj => by omega, ⟨_, RowAt.new w [] _⟩⟩
theorem Chg.below_of {F : Nat → Prop} {B : Nat} (h : Chg F w w') (hF : ∀ k, F k → B ≤ k) (hB : B ≤ w.heap.size) : Below B w w' :=
  ⟨h.os, h.tape, h.output, h.size, fun k hk => h.block k (by omega) fun e => by have := hF k e; omega⟩
theorem MovedW.chg {v' : Value} (h : MovedW w v l v' w') : NodeAtW w' v' l ∧ Chg (fun k => v.ownBlock = some k) w w' ∧ (∀ k, v'.ownBlock = some k → v.ownBlock = some k ∨ w.heap.size ≤ k) := by
  obtain ⟨h1, h2, h3, h4⟩ := h
  refine ⟨h1, h2.chg fun k j e => ?_, h3⟩
  obtain ⟨o, n, c, rfl, _, _⟩ := e
  rfl
theorem infoW : (Try.prog.info? 42).map (fun i => (i.zero, i.size, i.bytes)) = some (some Wr.Z.v, 5, 56) := by kernel_rfl
set_option maxRecDepth 100000 in
/-- append(v, y...) -/
theorem app_row (t ty : TypeId) (ht : Try.prog.underlying t = some (.slice 42)) (h : NodeAtW w v l) {y : Value} {ys : Wl} (hy : NodeAtW w y ys) (hl : l.length + ys.length ≤ 1000000) :
    ∃ v' w', (Builtin.append_ #[t, t] ty #[v, y]).run Try.prog w = .ok v' w' ∧ NodeAtW w' v' (l ++ ys) ∧ Chg (fun k => v.ownBlock = some k) w w' ∧ (∀ k, v'.ownBlock = some k → v.ownBlock = some k ∨ w.heap.size ≤ k) := by
  obtain ⟨i0, hi, hz0, hz1, hz2⟩ := info_parts infoW
  rcases hy with ⟨rfl, rfl⟩ | ⟨g, p, cx, rfl, hy⟩
  · refine ⟨v, w, ?_, by rw [List.append_nil]; exact h, Chg.refl _ _, fun k e => .inl e⟩
    rcases h with ⟨rfl, rfl⟩ | ⟨b, o, c, rfl, h⟩
    · simp [Builtin.append_, run_underlying ht, sizeOf, typeInfo, hi, Builtin.lenOf, Builtin.firstCells]
    · have hf := h.fit
      simp [Builtin.append_, run_underlying ht, sizeOf, typeInfo, hi, Builtin.lenOf, Builtin.firstCells, hf, storeCells]
  · rcases h with ⟨rfl, rfl⟩ | ⟨b, o, c, rfl, h⟩
    · obtain ⟨v', w', hr, h2, h3, _, h5⟩ := run_append_own_at (P := Try.prog) w 0 t ty 42 i0 _ 5 56 ht hi hz0 hz1 hz2 rfl (by decide) (.slice none 0 0) 0 [] ⟨rfl, .inl ⟨rfl, rfl⟩⟩ ⟨g, p, none⟩ ys.length cx (wcs ys) (wcs_len ys)
        (add_midW hy.row) (fun u hu => wcs_one ys u hu) (by unfold maxLen; omega) (by omega) (Nat.zero_le _)
      rw [List.nil_append, Nat.zero_add] at h2
      refine ⟨v', w', hr, NodeAtW.own h2, (Chg.refl _ _).grown h3 fun k e => .inl e, fun k e => ?_⟩
      rcases h5 with z | z
      · rw [z] at e; cases e
      · rw [z] at e; injection e with e; exact .inr (Nat.le_of_eq e)
    · obtain ⟨v', w', hr, hm, _⟩ := run_appW w t t ty ht ht b o c l ys h g p cx hy.row hl
      obtain ⟨k1, k2, k3⟩ := hm.chg
      exact ⟨v', w', hr, k1, k2, k3⟩
end

end Go.Proofs.Ytnbkekbgedioeaa
