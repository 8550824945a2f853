/- Proved parts: Str. Conditions: each theorem's own. -/
import Derived.Test.YtdcjckdhjfnnhaaM0
import Derived.Test.YtdcjckdhjfnnhaaProg
import Derived.KernelRfl
import Derived.Laws.MakeOwn
import Derived.Maps.AppendAt
namespace Go.Proofs.Ytdcjckdhjfnnhaa
open Go.RowKit

theorem infoStr : (Try.prog.info? 9).map (fun i => (i.zero, i.size, i.bytes)) = some (some (.string ⟨#[]⟩), 1, 16) := by kernel_rfl
/-- v is a row of strings of the call's own, from block B on -/
def OwnS (w : World) (B : Nat) (v : Value) (zs : List ByteArray) : Prop := w.ownsRow B 9 1 v zs.length (zs.map Value.string)
section
variable {B : Nat} {w w' : World} {v : Value} {zs : List ByteArray}
theorem OwnS.lt (h : OwnS w B v zs) : ∀ k, v.ownBlock = some k → B ≤ k ∧ k < w.heap.size := World.ownsRow.lt h
theorem OwnS.below (h : OwnS w B v zs) (hb : Below w.heap.size w w') : OwnS w' B v zs := by
  rcases h with ⟨h1, h2⟩
  refine ⟨h1, ?_⟩
  rcases h2 with ⟨rfl, h0⟩ | ⟨g, cap, cur, rfl, hB, hg, r⟩
  · exact .inl ⟨rfl, h0⟩
  · refine .inr ⟨g, cap, cur, rfl, hB, ?_, r⟩
    have hl : g < w.heap.size := (Array.getElem?_eq_some_iff.1 hg).1
    rw [hb.block g hl]; exact hg
theorem OwnS.alloc (h : OwnS w B v zs) (o : Obj) : OwnS (w.alloc o) B v zs := World.ownsRow.alloc h o
theorem OwnS.drewN (h : OwnS w B v zs) (n : Nat) : OwnS (w.drewN n) B v zs := h
theorem OwnS.mono {C : Nat} (h : OwnS w B v zs) (hc : C ≤ B) : OwnS w C v zs := by
  rcases h with ⟨h1, h2⟩
  refine ⟨h1, ?_⟩
  rcases h2 with q | ⟨g, cap, cur, e, hB, r⟩
  · exact .inl q
  · exact .inr ⟨g, cap, cur, e, Nat.le_trans hc hB, r⟩
/-- where the row lies -/
theorem OwnS.form (h : OwnS w B v zs) : ∃ A c, v = .slice A zs.length c ∧ ∀ j, j < zs.length → ∃ g, A = some ⟨g, 0, none⟩ ∧ w.cell? ⟨g, j, none⟩ = some (.string (zs.getD j ⟨#[]⟩)) := by
  rcases h.2 with ⟨rfl, hn⟩ | ⟨g, cap, cur, rfl, hB, hg, hnc, _, hs, ht⟩
  · exact ⟨none, 0, by rw [hn], fun j hj => absurd hj (by omega)⟩
  · refine ⟨some ⟨g, 0, none⟩, cap, rfl, fun j hj => ⟨g, rfl, ?_⟩⟩
    have hj2 : j < zs.length * 1 := by omega
    rw [World.ownsRow.cellAt (w := w) (base := B) (e := 9) (size := 1) (xs := zs.map Value.string) h j hj2, List.getElem?_map, List.getElem?_eq_getElem hj, List.getD, List.getElem?_eq_getElem hj]; rfl
theorem OwnS.open_ (h : OwnS w B v zs) (hz : 0 < zs.length) : ∃ g c, v = .slice (some ⟨g, 0, none⟩) zs.length c := by
  obtain ⟨A, c, hv, hj⟩ := h.form
  obtain ⟨g, rfl, _⟩ := hj 0 hz
  exact ⟨g, c, hv⟩
theorem OwnS.cell {g n c : Nat} (h : OwnS w B (.slice (some ⟨g, 0, none⟩) n c) zs) {j : Nat} (hj : j < zs.length) : w.cell? ⟨g, j, none⟩ = some (.string (zs.getD j ⟨#[]⟩)) := by
  obtain ⟨A, c', hv, hc⟩ := h.form
  obtain ⟨g', rfl, h1⟩ := hc j hj
  injection hv with h2 _ _
  injection h2 with h2
  injection h2 with h2 _ _
  rw [h2]; exact h1
/-- []string{} -/
theorem OwnS.made (w : World) (hB : B ≤ w.heap.size) : OwnS (w.alloc (.cells #[] 9)) B (.slice (some ⟨w.heap.size, 0, none⟩) 0 0) [] := World.ownsRow_made w #[] 0 hB (Nat.zero_le _) (by simp)
/-- make([]string, 0, c) -/
theorem makeS (w : World) (c : Nat) (hc : c ≤ 1000000) : ∃ w', (Instr.makeSlice 27 (.int .i64 0) (.int .i64 (c : Int))).run Try.prog w = .ok (.slice (some ⟨w.heap.size, 0, none⟩) 0 c) w' ∧ OwnS w' w.heap.size (.slice (some ⟨w.heap.size, 0, none⟩) 0 c) [] ∧ Below w.heap.size w w' := by
  obtain ⟨i0, hi, hz0, hz1, hz2⟩ := info_parts infoStr
  obtain ⟨w', h1, h2, h3⟩ := run_make_own (P := Try.prog) w w.heap.size 27 9 i0 _ 1 Try.underlying27 hi hz0 hz1 .i64 .i64 c (by rw [hz2]; omega) (by unfold maxLen; omega) (Nat.le_refl _)
  exact ⟨w', h1, h2, (Below.refl _ _).grown h3 (Nat.le_refl _) (fun k e => by cases e)⟩
set_option maxRecDepth 100000 in
/-- append(v, s): the row with one more -/
theorem wp_putS {ops : Array Oper} {rest : List Oper} {o : Oper} {a : Act} {Q : Exit → Act → World → Prop} (hgd : o.guard = none) (s x : Operand)
    (ho : o.op = .call { callee := .builtin .append, args := #[s, x], argTypes := #[27, 27] })
    (B : Nat) (v : Value) (zs : List ByteArray) (hs : a.eval s = v) (hown : OwnS w B v zs) (g : Nat) (y : ByteArray) (hx : a.eval x = .slice (some ⟨g, 0, none⟩) 1 1)
    (hc : w.cell? ⟨g, 0, none⟩ = some (.string y)) (hl : zs.length + 1 ≤ 1000000) (hB : B ≤ w.heap.size)
    (h : ∀ v' w', OwnS w' B v' (zs ++ [y]) → Below B w w' → wpList Try.prog ops Q rest (a.put o.dst v') w') : wpList Try.prog ops Q (o :: rest) a w := by
  obtain ⟨i0, hi, hz0, hz1, hz2⟩ := info_parts infoStr
  refine wpList_append_own_at w hgd s x 27 ho B 9 i0 _ 1 16 Try.underlying27 hi hz0 hz1 hz2 rfl (by decide) v zs.length _ hs hown ⟨g, 0, none⟩ 1 1 [.string y] hx rfl ?_ ?_
    (by unfold maxLen; omega) (by omega) hB ?_
  · intro j u hj
    cases j with
    | zero => simp at hj; subst hj; exact hc
    | succ j => simp at hj
  · intro u hu; simp at hu; subst hu; rfl
  · intro v' w' h1 h2 _ _
    refine h v' w' ?_ ((Below.refl _ _).grown h2 hB (fun k hk => (hown.lt k hk).1))
    unfold OwnS
    simpa using h1
end

end Go.Proofs.Ytdcjckdhjfnnhaa
