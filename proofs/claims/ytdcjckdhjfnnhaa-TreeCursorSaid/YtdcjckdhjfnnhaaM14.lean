/- Proved parts: T9p. Conditions: each theorem's own. -/
import Derived.Test.YtdcjckdhjfnnhaaM13
namespace Go.Proofs.Ytdcjckdhjfnnhaa
open Go.RowKit

set_option maxHeartbeats 1000000 in
set_option maxRecDepth 100000 in
/-- part -/
theorem xPart (w : World) (T : Nat) (E : Nat → Prop) (s : Tab) (p : Nat) (h : TabG w T E s) (hp : p < s.nds.length) (h3 : 3 < (s.nd p).length) (hf : ∀ q, q ∈ s.free → q < s.nds.length) (hn : s.nds.length ≤ 100000) (hn2 : s.free.length ≤ 100000) :
    Calls Try.prog 35 #[Ptr T, .int .i64 p] w fun x w' => x = .returned (.agg #[.string ((s.nd p).key 3), .int .i64 s.place]) ∧ LeftP w T E ((s.put p ((s.nd p).take 3)).take ((s.nd p).drop 3)) w' := by
  obtain ⟨rv, fv, vs, h⟩ := h
  have hp' : p < vs.length := by rw [h.len]; exact hp
  obtain ⟨g, c, hrv, hg, gT, hc⟩ := h.rowAt (by omega)
  obtain ⟨b, o, cp, ev, hw⟩ := h.win hp' (by omega)
  have hW := h.eW p b o hp' ⟨o, _, cp, ev, Nat.le_refl _, by have := hw.pos; omega⟩
  have hfit := hw.fit
  have hcm := hw.cap
  unfold maxLen at hcm
  obtain ⟨q, hq⟩ : ∃ q, q = w.heap.size := ⟨_, rfl⟩
  obtain ⟨w1, hw1⟩ : ∃ w1, w1 = w.alloc (.cells #[.string ⟨#[]⟩, .int .i64 0] 56) := ⟨_, rfl⟩
  have B1 : Below w.heap.size w w1 := by rw [hw1]; exact (Below.refl _ _).alloc (Nat.le_refl _) _
  have s1 : w1.heap.size = q + 1 := by rw [hw1, hq]; simp
  have r1 : RowAt w1 q [.string ⟨#[]⟩, .int .i64 0] 56 := by rw [hw1, hq]; exact RowAt.new w _ _
  have v1 := h.below B1
  have cg1 : w1.cell? ⟨g, p, none⟩ = some (.slice (some ⟨b, o, none⟩) (s.nd p).length cp) := by
    have e := (B1.cell (p := ⟨g, p, none⟩) (h.lt g hg)).trans (hc p hp').1
    rw [ev] at e; exact e
  have fg1 : w1.frozen? ⟨g, p, none⟩ = false := (World.frozen?_of_block (a := ⟨g, p, none⟩) (B1.block g (h.lt g hg))).trans (hc p hp').2
  have c01 := v1.row.cell 0
  simp only [List.getElem?_cons_zero] at c01
  rw [hrv] at c01
  have bg : b ≠ g := fun e => hW.2.2.1 (by rw [hrv, e]; rfl)
  have c00 := h.row.cell 0
  simp only [List.getElem?_cons_zero] at c00
  rw [hrv] at c00
  have cg0 := (hc p hp').1
  rw [ev] at cg0
  have e3 : ((s.nd p).take 3).length = 3 := by rw [List.length_take]; omega
  have n3 : NodeAt w1 (.slice (some ⟨b, o, none⟩) 3 3) ((s.nd p).take 3) := by
    have hw1' : NodeAt w1 _ _ := v1.node p hp'
    rw [ev] at hw1'
    rcases hw1' with ⟨e, _⟩ | ⟨b', o', c', e, k⟩
    · cases e
    · injection e with a1 a2 a3
      injection a1 with a1
      injection a1 with a1 a4 _
      subst a1; subst a4; subst a3
      refine .inr ⟨b, o, 3, by rw [e3], by rw [e3]; exact Nat.le_refl _, by decide, by decide, (rangeAt_part k.row 3 (by omega)).1, fun j hj => k.there j (by omega), k.plain⟩
  have n4 : NodeAt w1 (.slice (some ⟨b, o + 3 * 2, none⟩) ((s.nd p).length - 3) (cp - 3)) ((s.nd p).drop 3) := by
    have hw1' : NodeAt w1 _ _ := v1.node p hp'
    rw [ev] at hw1'
    rcases hw1' with ⟨e, _⟩ | ⟨b', o', c', e, k⟩
    · cases e
    · injection e with a1 a2 a3
      injection a1 with a1
      injection a1 with a1 a4 _
      subst a1; subst a4; subst a3
      refine .inr ⟨b, o + 3 * 2, cp - 3, by rw [List.length_drop], by rw [List.length_drop]; omega, by unfold maxLen; omega, by omega, (rangeAt_part k.row 3 (by omega)).2, fun j hj => ?_, k.plain⟩
      have := k.there (3 * 2 + j) (by omega)
      rwa [← Nat.add_assoc] at this
  have inw : ∀ k j, InWin (.slice (some ⟨b, o, none⟩) 3 3) k j → InWin (nv vs p) k j := fun k j ⟨_, _, _, e, h1, h2⟩ => by
    injection e with a1 a2 a3
    injection a1 with a1
    injection a1 with a1 a4 _
    rw [ev, ← a1]; exact ⟨o, _, cp, rfl, by omega, by omega⟩
  have inw4 : ∀ k j, InWin (.slice (some ⟨b, o + 3 * 2, none⟩) ((s.nd p).length - 3) (cp - 3)) k j → InWin (nv vs p) k j ∧ ¬ InWin (.slice (some ⟨b, o, none⟩) 3 3) k j := fun k j ⟨_, _, _, e, h1, h2⟩ => by
    injection e with a1 a2 a3
    injection a1 with a1
    injection a1 with a1 a4 _
    rw [ev, ← a1]; refine ⟨⟨o, _, cp, rfl, by omega, by omega⟩, fun ⟨_, _, _, e, k1, k2⟩ => ?_⟩
    injection e with c1 c2 c3
    injection c1 with c1
    injection c1 with c1 c4 _
    omega
  obtain ⟨w2, hw2⟩ : ∃ w2, w2 = (w1.setCell ⟨g, p, none⟩ (.slice (some ⟨b, o, none⟩) 3 3)).drew.drew := ⟨_, rfl⟩
  have v2 : TabV w2 T E (s.put p ((s.nd p).take 3)) rv fv (vs.set p (.slice (some ⟨b, o, none⟩) 3 3)) := by
    rw [hw2]
    refine TabV.below (w := w1.setCell ⟨g, p, none⟩ (.slice (some ⟨b, o, none⟩) 3 3)) ?_ (Below.refl _ _).drew.drew
    exact v1.putV hp' hrv n3 fun k j e => ⟨h.eW p k j hp' (inw k j e), fun i hi hne f => hne (h.apart i p k j hi hp' f (inw k j e))⟩
  have k2 : ∀ k, k ≠ g → w2.heap[k]? = w1.heap[k]? := fun k hk => by rw [hw2]; exact Below.heap_setCell w1 _ _ _ hk
  have s2 : w2.heap.size = q + 1 := by rw [hw2]; show (w1.setCell _ _).heap.size = _; simp [World.setCell, s1]
  have qg : q ≠ g := by have := h.lt g hg; omega
  have bq : b ≠ q := by have := h.lt b hW.1; omega
  have qT : q ≠ T := by have := h.lt T h.eT; omega
  have r2 : RowAt w2 q [.string ⟨#[]⟩, .int .i64 0] 56 := (k2 q qg).trans r1
  obtain ⟨K, hK⟩ : ∃ K, K = (s.nd p).key 3 := ⟨_, rfl⟩
  have ck : w2.cell? ⟨b, o + 3 * 2, none⟩ = some (.string K) := by
    rw [World.cell?_of_block (a := ⟨b, o + 3 * 2, none⟩) (k2 b bg), World.cell?_of_block (a := ⟨b, o + 3 * 2, none⟩) (B1.block b (h.lt b hW.1)), hK]
    exact (hw.cells 3 h3).1
  have TC := Lib.hid (xTake w2 T E _ rv fv _ _ _ _ _ v2 (n4.keep (w' := w2) fun k j e => k2 k (fun t => (h.eW p k j hp' (inw4 k j e).1).2.2.1 (by rw [hrv, t]; rfl))) (fun k j e => ⟨h.eW p k j hp' (inw4 k j e).1, fun i hi f => by
      rw [List.length_set] at hi
      rw [nv_set hp'] at f
      by_cases t : i = p
      · rw [if_pos t] at f; exact (inw4 k j e).2 f
      · rw [if_neg t] at f; exact t (h.apart i p k j hi hp' f (inw4 k j e).1)⟩) (fun q hq => by show q < (s.nds.set p _).length; rw [List.length_set]; exact hf q hq) (by show (s.nds.set p _).length ≤ _; rw [List.length_set]; exact hn) hn2)
  have pl : (s.put p ((s.nd p).take 3)).place = s.place := by
    have e : (s.put p ((s.nd p).take 3)).nds.length = s.nds.length := List.length_set
    unfold Tab.place
    rw [e]; rfl
  rw [pl] at TC
  have FIN := Lib.hid (show ∀ w3, TookP w2 T E (s.put p ((s.nd p).take 3)) rv fv ((s.nd p).drop 3) w3 → ∀ u1 u2, LeftP w T E ((s.put p ((s.nd p).take 3)).take ((s.nd p).drop 3)) ((w3.setCell ⟨q, 0, none⟩ u1).setCell ⟨q, 1, none⟩ u2) from fun w3 ⟨⟨E3, h3, a3, c3⟩, _⟩ u1 u2 => by
    have nq : ∀ k, E3 k → k ≠ q := fun k e t => by
      rcases a3 k e with f | f
      · have := h.lt k f; omega
      · omega
    refine ⟨E3, h3.keep (fun k e => (Below.heap_setCell _ _ _ _ (by exact nq k e)).trans (Below.heap_setCell _ _ _ _ (by exact nq k e))) (by simp [World.setCell]), fun k e => ?_, ?_⟩
    · rcases a3 k e with f | f
      · exact .inl f
      · exact .inr (by omega)
    · refine Chg.setCell (Chg.setCell (Chg.then ?_ c3) (.inr (by show w.heap.size ≤ q; omega)) _) (.inr (by show w.heap.size ≤ q; omega)) _
      rw [hw2]; exact (Chg.setCell (Chg.of_below B1) (.inl hg) _).drew.drew)
  have S2 := Lib.hid (show ∀ w3, TookP w2 T E (s.put p ((s.nd p).take 3)) rv fv ((s.nd p).drop 3) w3 → w3.cell? ⟨b, o + 3 * 2, none⟩ = some (.string K) ∧ RowAt w3 q [.string ⟨#[]⟩, .int .i64 0] 56 from fun w3 h3 => by
    refine ⟨(World.cell?_of_block (a := ⟨b, o + 3 * 2, none⟩) (h3.2 b (by rw [s2]; have := h.lt b hW.1; omega) hW.2.1 hW.2.2.1 hW.2.2.2)).trans ck, (h3.2 q (by omega) qT (fun e => ?_) (fun e => ?_)).trans r2⟩
    · have := h.lt q (h.eN q e).1; omega
    · have := h.lt q (h.eF q e).1; omega)
  have c02 : w2.cell? ⟨T, 0, none⟩ = some (.slice (some ⟨g, 0, none⟩) vs.length c) := by
    have := v2.row.cell 0
    simp only [List.getElem?_cons_zero] at this
    rw [hrv] at this; exact this
  obtain ⟨n, hn'⟩ : ∃ n, n = vs.length := ⟨_, rfl⟩
  obtain ⟨m, hm⟩ : ∃ m, m = (s.nd p).length := ⟨_, rfl⟩
  rw [← hn'] at c00 c01 c02 hp'
  rw [← hm] at cg0 cg1 TC h3 hfit
  rw [← hK]
  have m3 : 3 ≤ m := by omega
  have c3 : 3 ≤ cp := by omega
  have c3z : (3 : Int) ≤ (cp : Int) := by omega
  have m3z : (3 : Int) ≤ (m : Int) := by omega
  have m3y : (3 : Int) < (m : Int) := by omega
  have mcz : (m : Int) ≤ (cp : Int) := by omega
  have c3' : ¬ (cp = 3) := by omega
  have C01 := Lib.hid c01
  have C02 := Lib.hid c02
  have HW1 := Lib.hid hw1
  have HW2 := Lib.hid hw2
  have HQ := Lib.hid hq
  have R2 := Lib.hid r2
  have CK := Lib.hid ck
  have CG1 := Lib.hid cg1
  rw [hw1] at c01 cg1
  clear hw1 hw2 hq
  clear v1 v2 h hw hc hW ev inw inw4 n3 n4 e3 k2 r1 B1 s1 hn' hm pl hK hn hn2 hf hp s2 r2
  have G3 : ((3 : Int)).toNat = 3 := rfl
  go_enter Try.func35, Try.ntmps35
  go_wp2_with fail
  rw [← HW1.out]
  try rw [← HQ.out]
  have c1 := C01.out
  have cg2 := CG1.out
  refine wp_region_held_drew (S := (fun w' => w'.cell? ⟨T, 0, none⟩ = some (.slice (some ⟨g, 0, none⟩) n c))) (by kernel_rfl) (c1) (fun hHeld => ?_)
  have hHeld' := hHeld
  refine rgnTake 0 rfl (by kernel_rfl) (by kernel_rfl) (by kernel_rfl) (fun _ _ _ h => h) (by rfl) (v := ?v1) ?hy1 hHeld ?rest1
  case hy1 => (intro v hSw; first | (go_simp; done) | (go_simp; with_reducible rfl))
  try simp only [Act.put, List.setIfInBounds_toArray, List.set_cons_zero, List.set_cons_succ]
  refine rgnTake 1 rfl (by kernel_rfl) (by kernel_rfl) (by kernel_rfl) (fun _ _ _ h => h) (by rfl) (v := ?v2) ?hy2 hHeld ?rest2
  case hy2 => (intro v hSw; first | (go_simp; done) | (go_simp; with_reducible rfl))
  try simp only [Act.put, List.setIfInBounds_toArray, List.set_cons_zero, List.set_cons_succ]
  refine rgnTake 2 rfl (by kernel_rfl) (by kernel_rfl) (by kernel_rfl) (fun _ _ _ h => h) (by rfl) (v := ?v3) ?hy3 hHeld ?rest3
  case hy3 => (intro v hSw; first | (go_simp; done) | (go_simp; with_reducible rfl))
  try simp only [Act.put, List.setIfInBounds_toArray, List.set_cons_zero, List.set_cons_succ]
  refine rgnTake 3 rfl (by kernel_rfl) (by kernel_rfl) (by kernel_rfl) (fun _ _ _ h => h) (by rfl) (v := ?v4) ?hy4 hHeld ?rest4
  case hy4 => (intro v hSw; first | (go_simp; done) | (go_simp; with_reducible rfl))
  try simp only [Act.put, List.setIfInBounds_toArray, List.set_cons_zero, List.set_cons_succ]
  refine rgnTake 4 rfl (by kernel_rfl) (by kernel_rfl) (by kernel_rfl) (fun _ _ _ h => h) (by rfl) (v := ?v5) ?hy5 hHeld ?rest5
  case hy5 => (intro v hSw; first | (go_simp; done) | (go_simp; with_reducible rfl))
  try simp only [Act.put, List.setIfInBounds_toArray, List.set_cons_zero, List.set_cons_succ]
  refine rgnTake 5 rfl (by kernel_rfl) (by kernel_rfl) (by kernel_rfl) (fun _ _ _ h => h) (by rfl) (v := ?v6) ?hy6 hHeld ?rest6
  case hy6 => (intro v hSw; first | (go_simp; done) | (go_simp; with_reducible rfl))
  try simp only [Act.put, List.setIfInBounds_toArray, List.set_cons_zero, List.set_cons_succ]
  refine rgnTake 6 rfl (by kernel_rfl) (by kernel_rfl) (by kernel_rfl) (fun _ _ _ h => h) (by rfl) (v := ?v7) ?hy7 hHeld ?rest7
  case hy7 => (intro v hSw; first | (go_simp; done) | (go_simp; with_reducible rfl))
  try simp only [Act.put, List.setIfInBounds_toArray, List.set_cons_zero, List.set_cons_succ]
  refine rgnTake 7 rfl (by kernel_rfl) (by kernel_rfl) (by kernel_rfl) (fun _ _ _ h => h) (by rfl) (v := ?v8) ?hy8 hHeld ?rest8
  case hy8 => (intro v hSw; first | (go_simp; done) | (go_simp; with_reducible rfl))
  try simp only [Act.put, List.setIfInBounds_toArray, List.set_cons_zero, List.set_cons_succ]
  refine rgnOne 8 rfl (by kernel_rfl) (fun K hK => ?_)
  go_simp
  refine hK.out _ _ ((by have := C02.out; rw [HW2.out] at this; exact this)) (fun hHeld => ?_)
  clear hK K
  try simp only [Act.put, List.setIfInBounds_toArray, List.set_cons_zero, List.set_cons_succ]
  refine wpAnyH_done (by kernel_rfl) ?_ _
  go_wp2_with fail
  have c3n : (if cp = 3 then (some ⟨b, o, none⟩ : Option Addr) else some ⟨b, o + 3 * 2, none⟩) = some ⟨b, o + 3 * 2, none⟩ := if_neg c3'
  have S0 : (w1.setCell ⟨g, p, none⟩ (.slice (some ⟨b, o, none⟩) 3 3)).drew.cell? ⟨b, o + 3 * 2, none⟩ = some (.string K) := by have := CK.out; rw [HW2.out] at this; exact this
  clear cg2 c1 cg1 cg0 c01 c00 fg1 hHeld'
  refine wp_region_held_drew (S := (fun w' => w'.cell? ⟨b, o + 3 * 2, none⟩ = some (.string K))) (by kernel_rfl) (S0) (fun hHeld => ?_)
  rw [← HW2.out] at hHeld ⊢
  refine rgnTake 0 rfl (by kernel_rfl) (by kernel_rfl) (by kernel_rfl) (fun _ _ _ h => h) (by rfl) (v := ?v9) ?hy9 hHeld ?rest9
  case hy9 => (intro v hSw; first | (go_simp; done) | (go_simp; with_reducible rfl))
  try simp only [Act.put, List.setIfInBounds_toArray, List.set_cons_zero, List.set_cons_succ]
  refine rgnTake 1 rfl (by kernel_rfl) (by kernel_rfl) (by kernel_rfl) (fun _ _ _ h => h) (by rfl) (v := ?v10) ?hy10 hHeld ?rest10
  case hy10 => (intro v hSw; first | (go_simp; done) | (go_simp; with_reducible rfl))
  try simp only [Act.put, List.setIfInBounds_toArray, List.set_cons_zero, List.set_cons_succ]
  refine rgnTake 2 rfl (by kernel_rfl) (by kernel_rfl) (by kernel_rfl) (fun _ _ _ h => h) (by rfl) (v := ?v11) ?hy11 hHeld ?rest11
  case hy11 => (intro v hSw; first | (go_simp; done) | (go_simp; with_reducible rfl))
  try simp only [Act.put, List.setIfInBounds_toArray, List.set_cons_zero, List.set_cons_succ]
  refine rgnTake 3 rfl (by kernel_rfl) (by kernel_rfl) (by kernel_rfl) (fun _ _ _ h => h) (by rfl) (v := ?v12) ?hy12 hHeld ?rest12
  case hy12 => (intro v hSw; first | (go_simp; done) | (go_simp; with_reducible rfl))
  try simp only [Act.put, List.setIfInBounds_toArray, List.set_cons_zero, List.set_cons_succ]
  refine rgnTake 4 rfl (by kernel_rfl) (by kernel_rfl) (by kernel_rfl) (fun _ _ _ h => h) (by rfl) (v := ?v13) ?hy13 hHeld ?rest13
  case hy13 => (intro v hSw; first | (go_simp; done) | (go_simp; with_reducible rfl))
  try simp only [Act.put, List.setIfInBounds_toArray, List.set_cons_zero, List.set_cons_succ]
  refine rgnTake 5 rfl (by kernel_rfl) (by kernel_rfl) (by kernel_rfl) (fun _ _ _ h => h) (by rfl) (v := ?v14) ?hy14 hHeld ?rest14
  case hy14 => (intro v hSw; first | (go_simp; done) | (go_simp; with_reducible rfl))
  try simp only [Act.put, List.setIfInBounds_toArray, List.set_cons_zero, List.set_cons_succ]
  refine rgnTake 6 rfl (by kernel_rfl) (by kernel_rfl) (by kernel_rfl) (fun _ _ _ h => h) (by rfl) (v := ?v15) ?hy15 hHeld ?rest15
  case hy15 => (intro v hSw; first | (go_simp; done) | (go_simp; with_reducible rfl))
  try simp only [Act.put, List.setIfInBounds_toArray, List.set_cons_zero, List.set_cons_succ]
  refine rgnOne 7 rfl (by kernel_rfl) (fun K hK => ?_)
  go_simp
  refine TC.out.mono ?_
  rintro r w3 ⟨rfl, ht⟩
  have T3 := Lib.hid ht
  have R3 := Lib.hid (S2.out w3 ht).2
  clear ht
  refine hK.out _ _ ((S2.out w3 T3.out).1) (fun hHeld => ?_)
  clear hK K
  try simp only [Act.put, List.setIfInBounds_toArray, List.set_cons_zero, List.set_cons_succ]
  refine rgnTake 8 rfl (by kernel_rfl) (by kernel_rfl) (by kernel_rfl) (fun _ _ _ h => h) (by rfl) (v := ?v16) ?hy16 hHeld ?rest16
  case hy16 => (intro v hSw; first | (go_simp; done) | (go_simp; with_reducible rfl))
  try simp only [Act.put, List.setIfInBounds_toArray, List.set_cons_zero, List.set_cons_succ]
  have q0 := R3.out.cell 0
  have q1 := R3.out.cell 1
  have z0 := R3.out.frozen 0
  have z1 := R3.out.frozen 1
  simp only [List.getElem?_cons_zero, List.getElem?_cons_succ] at q0 q1
  have k3 : ∀ u1 u2, ((w3.setCell ⟨q, 0, none⟩ u1).setCell ⟨q, 1, none⟩ u2).cell? ⟨b, o + 3 * 2, none⟩ = some (.string K) := fun u1 u2 => by
    rw [World.cell?_of_block (a := ⟨b, o + 3 * 2, none⟩) (Below.heap_setCell _ _ _ _ (by exact bq)), World.cell?_of_block (a := ⟨b, o + 3 * 2, none⟩) (Below.heap_setCell _ _ _ _ (by exact bq))]
    exact (S2.out w3 T3.out).1
  refine rgnOne 9 rfl (by kernel_rfl) (fun K hK => ?_)
  go_simp
  refine hK.out _ _ ((k3 _ _)) (fun hHeld => ?_)
  clear hK K
  try simp only [Act.put, List.setIfInBounds_toArray, List.set_cons_zero, List.set_cons_succ]
  refine wpAnyH_done (by kernel_rfl) ?_ _
  go_wp2_with fail
  have rr : RowAt ((w3.setCell ⟨q, 0, none⟩ (.string K)).setCell ⟨q, 1, none⟩ (.int .i64 s.place)) q [.string K, .int .i64 s.place] 56 := (R3.out.set 0 _).set 1 _
  (try simp only [Exit.inBlock, Exit.then])
  refine bodyPost_ret (results_cell_row rfl _ _ q _ _ _ _ rfl rr Try.underlying56 rfl (by kernel_rfl)) rfl ?_
  exact ⟨rfl, FIN.out w3 T3.out _ _⟩

end Go.Proofs.Ytdcjckdhjfnnhaa
