/- The program's insert into a tree without keys: walked. -/
import Derived.Test.YtdcjckdhjfnnhaaT9n
namespace Go.Proofs.Ytdcjckdhjfnnhaa
open Go.RowKit

set_option maxHeartbeats 1000000 in
set_option maxRecDepth 100000 in
/-- insert, of no way -/
theorem xInsert0 (w : World) (T : Nat) (E : Nat → Prop) (s : Tab) (v : Value) (k : ByteArray) (n : Int) (h : TabG w T E s) (hv : SlW w v []) (hf : ∀ p, p ∈ s.free → p < s.nds.length) (hn : s.nds.length ≤ 100000) (hn2 : s.free.length ≤ 100000) :
    Calls Try.prog 24 #[Ptr T, v, .agg #[.string k, .int .i64 n]] w fun r w' => r = .returned (.tuple #[]) ∧ LeftP w T E { s.take [(k, n)] with root := s.place, depth := 1 } w' := by
  obtain ⟨rv, fv, vs, h⟩ := h
  obtain ⟨A, c, rfl, _⟩ := hv
  obtain ⟨q, hq⟩ : ∃ q, q = w.heap.size := ⟨_, rfl⟩
  obtain ⟨w1, hw1⟩ : ∃ w1, w1 = (w.alloc (.cells #[.string k, .int .i64 n] 56)).alloc (.cells #[.string k, .int .i64 n] 56) := ⟨_, rfl⟩
  have B1 : Below w.heap.size w w1 := by rw [hw1]; exact ((Below.refl _ _).alloc (Nat.le_refl _) _).alloc (by simp) _
  have s1 : w1.heap.size = q + 2 := by rw [hw1, hq]; simp
  have r1 : RowAt w1 (q + 1) [.string k, .int .i64 n] 56 := by
    rw [hw1, hq]
    have := RowAt.new (w.alloc (.cells #[.string k, .int .i64 n] 56)) [.string k, .int .i64 n] 56
    simpa using this
  have v1 : TabV w1 T (fun i => E i ∨ i = q + 1) s rv fv vs := (h.below B1).grow (fun i e => .inl e) (fun i e => by
    rcases e with e | e
    · have := h.lt i e; omega
    · omega)
  have wn : WinAt w1 (q + 1) 0 1 [(k, n)] := by
    refine ⟨Nat.le_refl _, by decide, by decide, fun j u hj => ?_, fun j hj => ?_, ⟨_, r1⟩⟩
    · rw [Nat.zero_add, r1.cell]; exact hj
    · rw [Nat.zero_add, r1.cell, List.getElem?_eq_getElem hj]; rfl
  have TC := Lib.hid (xTake w1 T (fun i => E i ∨ i = q + 1) s rv fv vs (some ⟨q + 1, 0, none⟩) 1 1 [(k, n)] v1 wn.node (fun i j ⟨_, _, _, e, _⟩ => by
    injection e with e _ _
    injection e with e
    injection e with e _ _
    have e : i = q + 1 := e.symm
    refine ⟨⟨.inr e, fun t => ?_, fun t => ?_, fun t => ?_⟩, fun m hm f => ?_⟩
    · have := h.lt T h.eT; omega
    · have := h.lt i (h.eN i t).1; omega
    · have := h.lt i (h.eF i t).1; omega
    · have := h.lt i (h.eW m i j hm f).1; omega) hf hn hn2)
  have FIN := Lib.hid (show ∀ w3, TookP w1 T (fun i => E i ∨ i = q + 1) s rv fv [(k, n)] w3 → LeftP w T E { s.take [(k, n)] with root := s.place, depth := 1 } ((w3.setCell ⟨T, 2, none⟩ (.int .i64 s.place)).setCell ⟨T, 3, none⟩ (.int .i64 1)) from fun w3 ⟨⟨E3, ⟨rv3, fv3, vs3, h3⟩, a3, c3⟩, _⟩ => by
    have h4 := h3.field (s' := { s.take [(k, n)] with root := s.place }) (u := .int .i64 s.place) 2 rfl rfl rfl
    have h5 := h4.field (s' := { s.take [(k, n)] with root := s.place, depth := 1 }) (u := .int .i64 1) 3 rfl rfl rfl
    refine ⟨E3, ⟨rv3, fv3, vs3, h5⟩, fun i e => ?_, ?_⟩
    · rcases a3 i e with (f | f) | f
      · exact .inl f
      · exact .inr (by omega)
      · exact .inr (by omega)
    · refine Chg.setCell (Chg.setCell ((Chg.of_below B1).trans c3 fun i e => ?_) (.inl h.eT) _) (.inl h.eT) _
      rcases e with e | e
      · exact .inl e
      · exact .inr (by omega))
  have ST := Lib.hid (show ∀ w3, TookP w1 T (fun i => E i ∨ i = q + 1) s rv fv [(k, n)] w3 → (∃ u, w3.cell? ⟨T, 2, none⟩ = some u) ∧ (∃ u, w3.cell? ⟨T, 3, none⟩ = some u) ∧ ∀ j, w3.frozen? ⟨T, j, none⟩ = false from fun w3 ⟨⟨E3, ⟨rv3, fv3, vs3, h3⟩, _, _⟩, _⟩ => ⟨⟨_, h3.row.cell 2⟩, ⟨_, h3.row.cell 3⟩, fun j => h3.row.frozen j⟩)
  have HW1 := Lib.hid hw1
  have HQ := Lib.hid hq
  clear h v1 wn r1 s1 B1 hw1 hq hn hn2 hf
  go_enter Try.func24, Try.ntmps24
  go_wp2_with (go_at_call 32; rw [← HW1.out, ← HQ.out]; refine TC.out.mono ?_; rintro r w3 ⟨rfl, ht⟩; obtain ⟨⟨u2, e2⟩, ⟨u3, e3⟩, z⟩ := ST.out w3 ht; have z2 := z 2; have z3 := z 3; have T3 := Lib.hid ht; clear ht z)
  (try simp only [Exit.inBlock, Exit.then])
  refine bodyPost_ret (results_none rfl _ _ _) rfl ?_
  exact ⟨rfl, FIN.out w3 T3.out⟩

end Go.Proofs.Ytdcjckdhjfnnhaa
