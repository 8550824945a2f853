/- Proved parts: T9d T8o. Conditions: each theorem's own. -/
import Derived.Test.YtdcjckdhjfnnhaaM10
import Derived.Test.YtdcjckdhjfnnhaaM8
import Derived.Laws.OwnMore
namespace Go.Proofs.Ytdcjckdhjfnnhaa
open Go.RowKit

set_option maxHeartbeats 1000000 in
set_option maxRecDepth 100000 in
/-- drop -/
theorem xDrop (w : World) (T : Nat) (E : Nat → Prop) (s : Tab) (p i : Nat) (h : TabG w T E s) (hp : p < s.nds.length) (hi : i < (s.nd p).length) (hl : (s.nd p).length ≤ 100000) :
    Calls Try.prog 37 #[Ptr T, .agg #[.int .i64 p, .int .i64 i]] w fun r w' => r = .returned (.tuple #[]) ∧ LeftP w T E (s.put p ((s.nd p).take i ++ (s.nd p).drop (i + 1))) w' := by
  obtain ⟨rv, fv, vs, h⟩ := h
  have hp' : p < vs.length := by rw [h.len]; exact hp
  obtain ⟨g, c, hrv, hg, gT, hc⟩ := h.rowAt (by omega)
  obtain ⟨b, o, cp, ev, hw⟩ : ∃ b o cp, nv vs p = .slice (some ⟨b, o, none⟩) (s.nd p).length cp ∧ WinAt w b o cp (s.nd p) := by
    rcases h.node p hp' with ⟨_, e⟩ | h
    · rw [e] at hi; exact absurd hi (by simp)
    · exact h
  have bE := h.eW p b o hp' ⟨o, _, cp, ev, Nat.le_refl _, by have := hw.pos; omega⟩
  obtain ⟨q4, hq4⟩ : ∃ q4, q4 = w.heap.size := ⟨_, rfl⟩
  have lT := h.lt T h.eT
  have lg := h.lt g hg
  have lb := h.lt b bE.1
  obtain ⟨w1, hw1⟩ : ∃ w1, w1 = w.alloc (.cells #[.int .i64 p, .int .i64 i] 69) := ⟨_, rfl⟩
  have b1 : Below w.heap.size w w1 := by rw [hw1]; exact (Below.refl _ _).alloc (Nat.le_refl _) _
  have s1 : w1.heap.size = q4 + 1 := by rw [hw1, hq4]; simp
  have r4 : RowAt w1 q4 [.int .i64 p, .int .i64 i] 69 := by rw [hw1, hq4]; exact RowAt.new w _ _
  have hW1 : WinAt w1.drew b o cp (s.nd p) := by
    have t : Turn (fun _ _ => False) w w1.drew := Turn.of_below b1.drew
    exact hw.turn t fun _ _ _ e => e
  have v1 := h.below b1
  obtain ⟨ns, hns⟩ : ∃ ns, ns = (s.nd p).take i ++ (s.nd p).drop (i + 1) := ⟨_, rfl⟩
  obtain ⟨m, hm⟩ : ∃ m, m = (s.nd p).length := ⟨_, rfl⟩
  obtain ⟨n, hn⟩ : ∃ n, n = vs.length := ⟨_, rfl⟩
  have IC : Calls Try.prog 43 #[.slice (some ⟨b, o, none⟩) m cp, .int .i64 i, .int .i64 ((i : Int) + 1)] w1.drew (MvPost w1.drew (.slice (some ⟨b, o, none⟩) m cp) ns) := by
    rw [hm, hns]
    exact xDelete _ b o cp i (s.nd p) hW1 hi hl
  have IC' := Lib.hid IC
  have HV1 := Lib.hid v1
  have HV := Lib.hid h
  have B1 := Lib.hid b1
  have BE := Lib.hid bE
  have HRV := Lib.hid hrv
  have EV := Lib.hid ev
  have HM := Lib.hid hm
  have HN := Lib.hid hn
  have S1 := Lib.hid s1
  have HQ := Lib.hid hq4
  have C1 := Lib.hid (show w1.cell? ⟨T, 0, none⟩ = some (.slice (some ⟨g, 0, none⟩) n c) ∧ w1.cell? ⟨q4, 0, none⟩ = some (.int .i64 p) ∧ w1.cell? ⟨q4, 1, none⟩ = some (.int .i64 i) from
    ⟨by have := v1.row.cell 0; rw [hrv, ← hn] at this; exact this, r4.cell 0, r4.cell 1⟩)
  have CG := Lib.hid (show w1.cell? ⟨g, p, none⟩ = some (.slice (some ⟨b, o, none⟩) m cp) from by
    have e := (b1.cell (p := ⟨g, p, none⟩) lg).trans (hc p hp').1
    rw [ev, ← hm] at e; exact e)
  have LT := Lib.hid (show T < q4 ∧ g < q4 ∧ b < q4 from ⟨by omega, by omega, by omega⟩)
  have wi : IntKind.i64.wrap ((i : Int) + 1) = (i : Int) + 1 := by rw [IntKind.wrap_i64]; omega
  rw [← hns]
  rw [← hn] at hp'
  have HW1 := Lib.hid hw1
  clear hc h hw bE lT lg lb b1 s1 r4 v1 hW1 hm hn IC hi hl hp ev hns
  go_enter Try.func37, Try.ntmps37
  go_wp2_with fail
  rw [← HW1.out, ← HQ.out]
  clear hw1 hq4
  have g4 : g ≠ q4 := by have := LT.out; omega
  have c0 := C1.out.1
  have c1 := C1.out.2.1
  have c2 := C1.out.2.2
  have cg := CG.out
  have ss := S1.out
  refine wp_region_held_drew (S := (fun w' => w'.cell? ⟨T, 0, none⟩ = some (.slice (some ⟨g, 0, none⟩) n c) ∧ w'.cell? ⟨q4, 0, none⟩ = some (.int .i64 p) ∧ w'.cell? ⟨q4, 1, none⟩ = some (.int .i64 i))) (by kernel_rfl) (C1.out) (fun hHeld => ?_)
  have keep2 : ∀ w2 : World, Turn (InWin (.slice (some ⟨b, o, none⟩) m cp)) w1.drew w2 → ∀ k, k < q4 + 1 → k ≠ b → w2.heap[k]? = w1.heap[k]? := fun w2 t k hk hn =>
    t.block k (by rw [heap_drew, S1.out]; omega) (fun j ⟨_, _, _, e, _⟩ => hn (by injection e with e _ _; injection e with e; injection e with e _ _; exact e.symm))
  have bT := BE.out.2.1
  have bg : b ≠ g := fun e => BE.out.2.2.1 (by rw [HRV.out, e]; rfl)
  have K2 := Lib.hid keep2
  have HS2 := Lib.hid (show ∀ w2 : World, Turn (InWin (.slice (some ⟨b, o, none⟩) m cp)) w1.drew w2 → w2.cell? ⟨T, 0, none⟩ = some (.slice (some ⟨g, 0, none⟩) n c) ∧ w2.cell? ⟨q4, 0, none⟩ = some (.int .i64 p) ∧ w2.cell? ⟨q4, 1, none⟩ = some (.int .i64 i) from fun w2 t => by
    have L := LT.out
    exact ⟨(World.cell?_of_block (a := ⟨T, 0, none⟩) (K2.out w2 t T (by omega) (fun e => bT e.symm))).trans C1.out.1, (World.cell?_of_block (a := ⟨q4, 0, none⟩) (K2.out w2 t q4 (by omega) (by omega))).trans C1.out.2.1, (World.cell?_of_block (a := ⟨q4, 1, none⟩) (K2.out w2 t q4 (by omega) (by omega))).trans C1.out.2.2⟩)
  have HG2 := Lib.hid (show ∀ w2 : World, Turn (InWin (.slice (some ⟨b, o, none⟩) m cp)) w1.drew w2 → w2.cell? ⟨g, p, none⟩ = some (.slice (some ⟨b, o, none⟩) m cp) ∧ w2.frozen? ⟨g, p, none⟩ = false from fun w2 t => by
    have L := LT.out
    have e := K2.out w2 t g (by omega) (fun e => bg e.symm)
    refine ⟨(World.cell?_of_block (a := ⟨g, p, none⟩) e).trans CG.out, ?_⟩
    rw [World.frozen?_of_block (a := ⟨g, p, none⟩) e]
    have HP := HV1.out.rowAt (by rw [← HN.out]; omega)
    obtain ⟨g', c', e1, _, _, hc⟩ := HP
    rw [HRV.out] at e1
    injection e1 with e1 _ _
    injection e1 with e1
    injection e1 with e1 _ _
    subst e1
    exact (hc p (by rw [← HN.out]; exact hp')).2)
  have FIN := Lib.hid (show ∀ (v' : Value) (w2 : World), Moved w1.drew (.slice (some ⟨b, o, none⟩) m cp) ns v' w2 → LeftP w T E (s.put p ns) (w2.setCell ⟨g, p, none⟩ v') from fun v' w2 hm => by
    obtain ⟨W, hW⟩ : ∃ W, W = w1.drew := ⟨_, rfl⟩
    rw [← hW] at hm
    have bW : Below w.heap.size w W := by rw [hW]; exact B1.out.drew
    have sW : W.heap.size = q4 + 1 := by rw [hW, heap_drew, S1.out]
    have ev : .slice (some ⟨b, o, none⟩) m cp = nv vs p := by rw [EV.out, HM.out]
    rw [ev] at hm
    obtain ⟨h1, h2, h3, _⟩ := hm
    have hp : p < vs.length := by rw [← HN.out]; exact hp'
    have q := HQ.out
    refine ⟨fun k => k < w2.heap.size ∧ (E k ∨ W.heap.size ≤ k), ⟨_, _, _, (HV.out.below bW).moved hp HRV.out h1 h2 h3 (fun k e => ⟨?_, .inl e⟩) (fun k e f => ⟨f, .inr e⟩) (fun k e => e.1)⟩, fun k e => ?_, ?_⟩
    · have := HV.out.lt k e
      have := h2.size
      omega
    · rcases e.2 with f | f
      · exact .inl f
      · exact .inr (by omega)
    · refine Chg.setCell ?_ (.inl ?_) _
      · exact (Chg.of_below bW).then (h2.chg fun k j e => (HV.out.eW p k j hp e).1)
      · exact (HV.out.eN g (by rw [HRV.out]; rfl)).1)
  clear keep2
  have HS3 := Lib.hid (show ∀ (w2 : World) (v' : Value), (w2.cell? ⟨T, 0, none⟩ = some (.slice (some ⟨g, 0, none⟩) n c) ∧ w2.cell? ⟨q4, 0, none⟩ = some (.int .i64 p) ∧ w2.cell? ⟨q4, 1, none⟩ = some (.int .i64 i)) → (w2.setCell ⟨g, p, none⟩ v').cell? ⟨T, 0, none⟩ = some (.slice (some ⟨g, 0, none⟩) n c) ∧ (w2.setCell ⟨g, p, none⟩ v').cell? ⟨q4, 0, none⟩ = some (.int .i64 p) ∧ (w2.setCell ⟨g, p, none⟩ v').cell? ⟨q4, 1, none⟩ = some (.int .i64 i) from fun w2 v' h => by
    have e := fun k (hk : k ≠ g) => Below.heap_setCell w2 ⟨g, p, none⟩ v' k hk
    exact ⟨(World.cell?_of_block (a := ⟨T, 0, none⟩) (e T (Ne.symm gT))).trans h.1, (World.cell?_of_block (a := ⟨q4, 0, none⟩) (e q4 (Ne.symm g4))).trans h.2.1, (World.cell?_of_block (a := ⟨q4, 1, none⟩) (e q4 (Ne.symm g4))).trans h.2.2⟩)
  refine rgnTake 0 rfl (by kernel_rfl) (by kernel_rfl) (by kernel_rfl) (fun _ _ _ h => h) (by rfl) (v := ?v1) ?hy1 hHeld ?rest1
  case hy1 => (intro v hSw; obtain ⟨y0, y1, y2⟩ := hSw; first | (go_simp; done) | (go_simp; with_reducible rfl))
  try simp only [Act.put, List.setIfInBounds_toArray, List.set_cons_zero, List.set_cons_succ]
  refine rgnTake 1 rfl (by kernel_rfl) (by kernel_rfl) (by kernel_rfl) (fun _ _ _ h => h) (by rfl) (v := ?v2) ?hy2 hHeld ?rest2
  case hy2 => (intro v hSw; obtain ⟨y0, y1, y2⟩ := hSw; first | (go_simp; done) | (go_simp; with_reducible rfl))
  try simp only [Act.put, List.setIfInBounds_toArray, List.set_cons_zero, List.set_cons_succ]
  refine rgnTake 2 rfl (by kernel_rfl) (by kernel_rfl) (by kernel_rfl) (fun _ _ _ h => h) (by rfl) (v := ?v3) ?hy3 hHeld ?rest3
  case hy3 => (intro v hSw; obtain ⟨y0, y1, y2⟩ := hSw; first | (go_simp; done) | (go_simp; with_reducible rfl))
  try simp only [Act.put, List.setIfInBounds_toArray, List.set_cons_zero, List.set_cons_succ]
  refine rgnTake 3 rfl (by kernel_rfl) (by kernel_rfl) (by kernel_rfl) (fun _ _ _ h => h) (by rfl) (v := ?v4) ?hy4 hHeld ?rest4
  case hy4 => (intro v hSw; obtain ⟨y0, y1, y2⟩ := hSw; first | (go_simp; done) | (go_simp; with_reducible rfl))
  try simp only [Act.put, List.setIfInBounds_toArray, List.set_cons_zero, List.set_cons_succ]
  refine rgnTake 4 rfl (by kernel_rfl) (by kernel_rfl) (by kernel_rfl) (fun _ _ _ h => h) (by rfl) (v := ?v5) ?hy5 hHeld ?rest5
  case hy5 => (intro v hSw; obtain ⟨y0, y1, y2⟩ := hSw; first | (go_simp; done) | (go_simp; with_reducible rfl))
  try simp only [Act.put, List.setIfInBounds_toArray, List.set_cons_zero, List.set_cons_succ]
  refine rgnTake 5 rfl (by kernel_rfl) (by kernel_rfl) (by kernel_rfl) (fun _ _ _ h => h) (by rfl) (v := ?v6) ?hy6 hHeld ?rest6
  case hy6 => (intro v hSw; obtain ⟨y0, y1, y2⟩ := hSw; first | (go_simp; done) | (go_simp; with_reducible rfl))
  try simp only [Act.put, List.setIfInBounds_toArray, List.set_cons_zero, List.set_cons_succ]
  refine rgnTake 6 rfl (by kernel_rfl) (by kernel_rfl) (by kernel_rfl) (fun _ _ _ h => h) (by rfl) (v := ?v7) ?hy7 hHeld ?rest7
  case hy7 => (intro v hSw; obtain ⟨y0, y1, y2⟩ := hSw; first | (go_simp; done) | (go_simp; with_reducible rfl))
  try simp only [Act.put, List.setIfInBounds_toArray, List.set_cons_zero, List.set_cons_succ]
  refine rgnTake 7 rfl (by kernel_rfl) (by kernel_rfl) (by kernel_rfl) (fun _ _ _ h => h) (by rfl) (v := ?v8) ?hy8 hHeld ?rest8
  case hy8 => (intro v hSw; obtain ⟨y0, y1, y2⟩ := hSw; first | (go_simp; done) | (go_simp; with_reducible rfl))
  try simp only [Act.put, List.setIfInBounds_toArray, List.set_cons_zero, List.set_cons_succ]
  refine rgnTake 8 rfl (by kernel_rfl) (by kernel_rfl) (by kernel_rfl) (fun _ _ _ h => h) (by rfl) (v := ?v9) ?hy9 hHeld ?rest9
  case hy9 => (intro v hSw; obtain ⟨y0, y1, y2⟩ := hSw; first | (go_simp; done) | (go_simp; with_reducible rfl))
  try simp only [Act.put, List.setIfInBounds_toArray, List.set_cons_zero, List.set_cons_succ]
  refine rgnTake 9 rfl (by kernel_rfl) (by kernel_rfl) (by kernel_rfl) (fun _ _ _ h => h) (by rfl) (v := ?v10) ?hy10 hHeld ?rest10
  case hy10 => (intro v hSw; obtain ⟨y0, y1, y2⟩ := hSw; first | (go_simp; done) | (go_simp; with_reducible rfl))
  try simp only [Act.put, List.setIfInBounds_toArray, List.set_cons_zero, List.set_cons_succ]
  refine rgnTake 10 rfl (by kernel_rfl) (by kernel_rfl) (by kernel_rfl) (fun _ _ _ h => h) (by rfl) (v := ?v11) ?hy11 hHeld ?rest11
  case hy11 => (intro v hSw; obtain ⟨y0, y1, y2⟩ := hSw; first | (go_simp; done) | (go_simp; with_reducible rfl))
  try simp only [Act.put, List.setIfInBounds_toArray, List.set_cons_zero, List.set_cons_succ]
  refine rgnTake 11 rfl (by kernel_rfl) (by kernel_rfl) (by kernel_rfl) (fun _ _ _ h => h) (by rfl) (v := ?v12) ?hy12 hHeld ?rest12
  case hy12 => (intro v hSw; obtain ⟨y0, y1, y2⟩ := hSw; first | (go_simp; done) | (go_simp; with_reducible rfl))
  try simp only [Act.put, List.setIfInBounds_toArray, List.set_cons_zero, List.set_cons_succ]
  refine rgnTake 12 rfl (by kernel_rfl) (by kernel_rfl) (by kernel_rfl) (fun _ _ _ h => h) (by rfl) (v := ?v13) ?hy13 hHeld ?rest13
  case hy13 => (intro v hSw; obtain ⟨y0, y1, y2⟩ := hSw; first | (go_simp; done) | (go_simp; with_reducible rfl))
  try simp only [Act.put, List.setIfInBounds_toArray, List.set_cons_zero, List.set_cons_succ]
  refine rgnTake 14 rfl (by kernel_rfl) (by kernel_rfl) (by kernel_rfl) (fun _ _ _ h => h) (by rfl) (v := ?v14) ?hy14 hHeld ?rest14
  case hy14 => (intro v hSw; obtain ⟨y0, y1, y2⟩ := hSw; first | (go_simp; done) | (go_simp; with_reducible rfl))
  try simp only [Act.put, List.setIfInBounds_toArray, List.set_cons_zero, List.set_cons_succ]
  refine rgnTake 15 rfl (by kernel_rfl) (by kernel_rfl) (by kernel_rfl) (fun _ _ _ h => h) (by rfl) (v := ?v15) ?hy15 hHeld ?rest15
  case hy15 => (intro v hSw; obtain ⟨y0, y1, y2⟩ := hSw; first | (go_simp; done) | (go_simp; with_reducible rfl))
  try simp only [Act.put, List.setIfInBounds_toArray, List.set_cons_zero, List.set_cons_succ]
  refine rgnTake 16 rfl (by kernel_rfl) (by kernel_rfl) (by kernel_rfl) (fun _ _ _ h => h) (by rfl) (v := ?v16) ?hy16 hHeld ?rest16
  case hy16 => (intro v hSw; obtain ⟨y0, y1, y2⟩ := hSw; first | (go_simp; done) | (go_simp; with_reducible rfl))
  try simp only [Act.put, List.setIfInBounds_toArray, List.set_cons_zero, List.set_cons_succ]
  refine rgnTake 17 rfl (by kernel_rfl) (by kernel_rfl) (by kernel_rfl) (fun _ _ _ h => h) (by rfl) (v := ?v17) ?hy17 hHeld ?rest17
  case hy17 => (intro v hSw; obtain ⟨y0, y1, y2⟩ := hSw; first | (go_simp; done) | (go_simp; with_reducible rfl))
  try simp only [Act.put, List.setIfInBounds_toArray, List.set_cons_zero, List.set_cons_succ]
  refine rgnTake 18 rfl (by kernel_rfl) (by kernel_rfl) (by kernel_rfl) (fun _ _ _ h => h) (by rfl) (v := ?v18) ?hy18 hHeld ?rest18
  case hy18 => (intro v hSw; obtain ⟨y0, y1, y2⟩ := hSw; first | (go_simp; done) | (go_simp; with_reducible rfl))
  try simp only [Act.put, List.setIfInBounds_toArray, List.set_cons_zero, List.set_cons_succ]
  refine rgnOne 13 rfl (by kernel_rfl) (fun K hK => ?_)
  go_simp
  refine hK.out _ _ (C1.out) (fun hHeld => ?_)
  clear hK K
  try simp only [Act.put, List.setIfInBounds_toArray, List.set_cons_zero, List.set_cons_succ]
  refine rgnOne 19 rfl (by kernel_rfl) (fun K hK => ?_)
  go_simp
  refine IC'.out.mono ?_
  rintro r w2 ⟨v', rfl, hmv⟩
  obtain ⟨A2, c2, rfl, _⟩ := hmv.1.form
  have MV := Lib.hid hmv
  clear hmv
  refine hK.out _ _ ((HS2.out w2 MV.out.2.1)) (fun hHeld => ?_)
  clear hK K
  try simp only [Act.put, List.setIfInBounds_toArray, List.set_cons_zero, List.set_cons_succ]
  refine rgnTake 20 rfl (by kernel_rfl) (by kernel_rfl) (by kernel_rfl) (fun _ _ _ h => h) (by rfl) (v := ?v19) ?hy19 hHeld ?rest19
  case hy19 => (intro v hSw; obtain ⟨y0, y1, y2⟩ := hSw; first | (go_simp; done) | (go_simp; with_reducible rfl))
  try simp only [Act.put, List.setIfInBounds_toArray, List.set_cons_zero, List.set_cons_succ]
  have cg2 := (HG2.out w2 MV.out.2.1).1
  have fz2 := (HG2.out w2 MV.out.2.1).2
  refine rgnOne 21 rfl (by kernel_rfl) (fun K hK => ?_)
  go_simp
  refine hK.out _ _ ((HS3.out w2 _ (HS2.out w2 MV.out.2.1))) (fun hHeld => ?_)
  clear hK K
  try simp only [Act.put, List.setIfInBounds_toArray, List.set_cons_zero, List.set_cons_succ]
  refine wpAnyH_done (by kernel_rfl) ?_ _
  go_wp2_with fail
  exact bodyPost_end (results_none rfl _ _ _) rfl ⟨rfl, FIN.out _ w2 MV.out⟩

end Go.Proofs.Ytdcjckdhjfnnhaa

namespace Go.Proofs.Ytdcjckdhjfnnhaa
open Go.RowKit

theorem KV.put_old_ks {l : KV} {k : ByteArray} (n : Int) (h : l.has k = true) : (l.put k n).ks = l.ks ∧ (l.put k n).ns = l.ns.set (l.pos k) n := by
  obtain ⟨hp, hk⟩ := (KV.has_iff l k).1 h
  unfold KV.put KV.ks KV.ns
  rw [if_pos h]
  refine ⟨?_, by rw [List.map_set]⟩
  rw [List.map_set]
  refine List.ext_getElem (by simp) fun i h1 h2 => ?_
  rw [List.getElem_set]
  split
  · rename_i e
    subst e
    rw [List.getElem_map]
    have q : l[l.pos k].1 = l.key (l.pos k) := by unfold KV.key; rw [List.getD_eq_getElem?_getD, List.getElem?_eq_getElem hp]; rfl
    rw [q, hk]
  · rfl
theorem OwnJ.set {w : World} {B g n c : Nat} {zs : List Int} (h : OwnJ w B (.slice (some ⟨g, 0, none⟩) n c) zs) (hn : n = zs.length) (j : Nat) (y : Int) : OwnJ (w.setCell ⟨g, j, none⟩ (.int .i64 y)) B (.slice (some ⟨g, 0, none⟩) n c) (zs.set j y) := by
  subst hn
  have := (World.ownsRow.stored h j (.int .i64 y)).1
  unfold OwnJ
  rw [List.length_set, List.map_set]
  exact this
set_option maxRecDepth 100000 in
set_option maxHeartbeats 2000000 in
/-- Put of a key that is there -/
theorem rPutOld (p : Nat) (G : Nat → Prop) (l : KV) (k : ByteArray) (y : Int) (w : World) (h : RefT w G p l) (hl : l.length ≤ 100000) (hh : l.has k = true) :
    Calls Try.prog 9 #[.pointer (some ⟨p, 0, none⟩), .string k, .int .i64 y] w fun x w' => x = .returned (.tuple #[.int .i64 (l.num (l.pos k)), .bool true]) ∧ LeftT w G p (l.put k y) w' := by
  have AT := Lib.hid (rAt p G l k w h (by omega))
  rw [hh] at AT
  have hp := ((KV.has_iff l k).1 hh).1
  obtain ⟨DK, DN⟩ := KV.put_old_ks y hh
  have h7 : ∀ k, G k → k < w.heap.size := by obtain ⟨_, _, _, _, _, _, _, _, h7⟩ := h; exact h7
  obtain ⟨g, c, g2, c2, h1, h2, h3, h4, h2', hg, hg2, Gp, Gg, Gg2, n1, n2, nc1, nc2⟩ := h.opened (by omega)
  obtain ⟨P, hP⟩ : ∃ P, P = l.pos k := ⟨_, rfl⟩
  obtain ⟨n, hn⟩ : ∃ n, n = l.length := ⟨_, rfl⟩
  rw [← hP] at AT DN hp ⊢
  rw [← hn] at hp hl h1 nc1 nc2 h3 h2'
  have lk : l.ks.length = n := by rw [KV.ks_len, hn]
  have ln : l.ns.length = n := by rw [KV.ns_len, hn]
  have c2v : w.cell? ⟨g2, P, none⟩ = some (.int .i64 (l.num P)) := by
    obtain ⟨b, o, e, _, hc⟩ := h4 (by omega)
    injection e with e
    injection e with e1 e2 _
    subst e1; subst e2
    have := hc P (by omega)
    rw [Nat.zero_add] at this
    rw [this, List.getD_eq_getElem?_getD]
    unfold KV.ns KV.num
    rw [List.getElem?_map, List.getD_eq_getElem?_getD, List.getElem?_eq_getElem (by omega)]; rfl
  have fz : w.frozen? ⟨g2, P, none⟩ = false := by
    rcases h3.2 with ⟨e, _⟩ | ⟨g', _, cur, e, _, hgb, _⟩
    · cases e
    · injection e with e _ _
      injection e with e
      injection e with e
      subst e
      simp [World.frozen?, hgb]
  have FINL := Lib.hid (show ∀ m, LeftT w G p (l.put k y) ((w.drewN m).setCell ⟨g2, P, none⟩ (.int .i64 y)) from fun m => by
    have ne : g ≠ g2 := fun e => ownSJ_ne h2' h3 (k := g) rfl (by rw [e]; rfl)
    have KS : OwnS ((w.drewN m).setCell ⟨g2, P, none⟩ (.int .i64 y)) 0 (.slice (some ⟨g, 0, none⟩) n c) (l.put k y).ks := by
      rw [DK]
      refine h2'.keepV fun j e => ?_
      obtain rfl : g = j := by simpa [Value.ownBlock] using e
      exact Below.heap_setCell (w.drewN m) _ _ _ ne
    have KN : OwnJ ((w.drewN m).setCell ⟨g2, P, none⟩ (.int .i64 y)) 0 (.slice (some ⟨g2, 0, none⟩) n c2) (l.put k y).ns := by
      rw [DN]
      exact (show OwnJ (w.drewN m) 0 _ _ from h3).set (by omega) P y
    refine ⟨G, ⟨_, _, ?_, KS, KN, Gp, ?_, ?_, ?_⟩, fun _ e => .inl e, ?_⟩
    · exact (Below.heap_setCell (w.drewN m) _ _ _ n2.symm).trans h1
    · intro j e
      obtain rfl : g = j := by simpa [Value.ownBlock] using e
      exact ⟨Gg, n1⟩
    · intro j e
      obtain rfl : g2 = j := by simpa [Value.ownBlock] using e
      exact ⟨Gg2, n2⟩
    · intro j e
      rw [World.size_setCell]
      exact h7 j e
    · exact (Chg.of_below (show Below w.heap.size w (w.drewN m) from ⟨rfl, rfl, rfl, Nat.le_refl _, fun _ _ => rfl⟩)).setCell (.inl Gg2) _)
  have CF := Lib.hid (show w.cell? ⟨g2, P, none⟩ = some (.int .i64 (l.num P)) ∧ w.frozen? ⟨g2, P, none⟩ = false from ⟨c2v, fz⟩)
  have R1 := Lib.hid h1
  clear hh DK DN h1 h2 h3 h4 h2' Gg Gg2 hP hn h lk ln c2v fz h7 nc1 nc2 n1 n2 hg hg2 Gp
  go_enter Try.func9, Try.ntmps9
  go_wp2_with fail
  refine AT.out.mono ?_
  rintro x w1 ⟨rfl, m1, hw1⟩
  have R2 := Lib.hid (show RowAt w1 p _ _ from by rw [hw1]; exact R1.out)
  have d0 := R2.out.cell 0
  have d1 := R2.out.cell 1
  simp only [List.getElem?_cons_succ, List.getElem?_cons_zero] at d0 d1
  have pl : p < w1.heap.size := R2.out.lt
  have c3 : w1.cell? ⟨g2, P, none⟩ = some (.int .i64 (l.num P)) := by rw [hw1]; exact CF.out.1
  have f3 : w1.frozen? ⟨g2, P, none⟩ = false := by rw [hw1]; exact CF.out.2
  have HW1 := Lib.hid hw1
  clear hw1
  have i1 : (0 : Int) ≤ (P : Int) := by omega
  have i2 : (P : Int) < (n : Int) := by omega
  go_wp2_with fail
  go_ret2
  exact ⟨rfl, by rw [HW1.out]; exact FINL.out m1⟩

end Go.Proofs.Ytdcjckdhjfnnhaa
