/- Proved parts: T9l. Conditions: each theorem's own. -/
import Derived.Test.YtiiokmfnohifmaaGreatM24
import Derived.Test.YtiiokmfnohifmaaGreatM6
import Derived.Test.YtiiokmfnohifmaaGreatM25
namespace Go.Proofs.YtiiokmfnohifmaaGreat
open Go.RowKit

abbrev Ptr (T : Nat) : Value := .pointer (some ⟨T, 0, none⟩)
set_option maxRecDepth 100000 in
/-- least -/
theorem xLeast (w : World) (T : Nat) (E : Nat → Prop) (s : Tab) (rv fv : Value) (vs : List Value) (p : Nat) (h : TabV w T E s rv fv vs) (hp : p < vs.length) (h0 : 0 < (s.nd p).length) :
    Calls Tryz.prog 146 #[Ptr T, .int .i64 p] w fun x w' => x = .returned (.string ((s.nd p).key 0)) ∧ w' = w := by
  obtain ⟨g, c, rfl, _, _, hc⟩ := h.rowAt (by omega)
  have c0 := h.row.cell 0
  simp only [List.getElem?_cons_zero] at c0
  have c1 := (hc p hp).1
  obtain ⟨A, cp, e, hi⟩ := (h.node p hp).form
  obtain ⟨b, o, rfl, c2, _⟩ := hi 0 h0
  rw [e] at c1
  rw [Nat.zero_mul, Nat.add_zero] at c2
  obtain ⟨n, hn⟩ : ∃ n, n = vs.length := ⟨_, rfl⟩
  obtain ⟨m, hm⟩ : ∃ m, m = (s.nd p).length := ⟨_, rfl⟩
  obtain ⟨K, hK⟩ : ∃ K, K = (s.nd p).key 0 := ⟨_, rfl⟩
  rw [← hn] at c0 hp
  rw [← hm] at c1 h0
  rw [← hK] at c2 ⊢
  clear hi hc h e hn hm hK
  go_enter Tryz.func146, Tryz.ntmps146
  go_wp2_with fail
  go_ret
  exact ⟨rfl, rfl⟩

set_option maxHeartbeats 1000000 in
set_option maxRecDepth 100000 in
/-- lay -/
theorem xLay (w : World) (T : Nat) (E : Nat → Prop) (s : Tab) (p i : Nat) (x : ByteArray × Int) (h : TabG w T E s) (hp : p < s.nds.length) (hi : i ≤ (s.nd p).length) (hne : 0 < (s.nd p).length) (hl : (s.nd p).length ≤ 100000) :
    Calls Tryz.prog 145 #[Ptr T, .agg #[.int .i64 p, .int .i64 i], .agg #[.string x.1, .int .i64 x.2]] w fun r w' => r = .returned (.tuple #[]) ∧ LeftP w T E (s.put p (ins (s.nd p) i x)) w' := by
  obtain ⟨rv, fv, vs, h⟩ := h
  have hp' : p < vs.length := by rw [h.len]; exact hp
  obtain ⟨g, c, hrv, hg, gT, hc⟩ := h.rowAt (by omega)
  obtain ⟨b, o, cp, ev, hw⟩ : ∃ b o cp, tnv vs p = .slice (some ⟨b, o, none⟩) (s.nd p).length cp ∧ WinAt w b o cp (s.nd p) := by
    rcases h.node p hp' with ⟨_, e⟩ | h
    · rw [e] at hne; exact absurd hne (by simp)
    · exact h
  have bE := h.eW p b o hp' ⟨o, _, cp, ev, Nat.le_refl _, by have := hw.pos; omega⟩
  obtain ⟨q4, hq4⟩ : ∃ q4, q4 = w.heap.size := ⟨_, rfl⟩
  have lT := h.lt T h.eT
  have lg := h.lt g hg
  have lb := h.lt b bE.1
  obtain ⟨w1, hw1⟩ : ∃ w1, w1 = (w.alloc (.cells #[.int .i64 p, .int .i64 i] 190)).alloc (.cells #[.string x.1, .int .i64 x.2] 162) := ⟨_, rfl⟩
  have b1 : Below w.heap.size w w1 := by rw [hw1]; exact ((Below.refl _ _).alloc (Nat.le_refl _) _).alloc (by simp) _
  have s1 : w1.heap.size = q4 + 2 := by rw [hw1, hq4]; simp
  have r4 : RowAt w1 q4 [.int .i64 p, .int .i64 i] 190 := by rw [hw1, hq4]; exact (RowAt.new w _ _).alloc _
  have r5 : RowAt w1 (q4 + 1) [.string x.1, .int .i64 x.2] 162 := by
    rw [hw1, hq4]
    have := RowAt.new (w.alloc (.cells #[.int .i64 p, .int .i64 i] 190)) [.string x.1, .int .i64 x.2] 162
    simpa using this
  have v1 := h.below b1
  have hW1 : WinAt w1 b o cp (s.nd p) := by
    have := (v1.node p hp')
    rw [ev] at this
    rcases this with ⟨e, _⟩ | ⟨b', o', c', e, q⟩
    · cases e
    · injection e with e1 e2 e3
      injection e1 with e1
      injection e1 with e1 e4 _
      subst e1; subst e4; subst e3; exact q
  obtain ⟨m, hm⟩ : ∃ m, m = (s.nd p).length := ⟨_, rfl⟩
  obtain ⟨n, hn⟩ : ∃ n, n = vs.length := ⟨_, rfl⟩
  have IC : Calls Tryz.prog 150 #[.slice (some ⟨b, o, none⟩) m cp, .int .i64 i, .slice (some ⟨q4 + 2, 0, none⟩) 1 1] (w1.alloc (.cells #[.string x.1, .int .i64 x.2] 162)).drew (MvPost (w1.alloc (.cells #[.string x.1, .int .i64 x.2] 162)).drew (.slice (some ⟨b, o, none⟩) m cp) (ins (s.nd p) i x)) := by
    rw [hm, ← s1]
    have t : Turn (fun _ _ => False) w1 (w1.alloc (.cells #[.string x.1, .int .i64 x.2] 162)).drew := Turn.of_below ((Below.refl _ _).alloc (Nat.le_refl _) _).drew
    exact xInsert _ b o cp w1.heap.size i (s.nd p) x (hW1.turn t fun _ _ _ e => e) hi hl (heap_alloc_new w1 _) (by omega)
  have IC' := Lib.hid IC
  have HV1 := Lib.hid v1
  have HV := Lib.hid h
  have B1 := Lib.hid b1
  have BE := Lib.hid bE
  have HRV := Lib.hid hrv
  have EV := Lib.hid ev
  have HM := Lib.hid hm
  have HN := Lib.hid hn
  have S1 := Lib.hid s1
  have HQ := Lib.hid hq4
  have HI := Lib.hid hi
  have C1 := Lib.hid (show w1.cell? ⟨T, 0, none⟩ = some (.slice (some ⟨g, 0, none⟩) n c) ∧ w1.cell? ⟨q4, 0, none⟩ = some (.int .i64 p) ∧ w1.cell? ⟨q4, 1, none⟩ = some (.int .i64 i) ∧ w1.cell? ⟨q4 + 1, 0, none⟩ = some (.string x.1) ∧ w1.cell? ⟨q4 + 1, 1, none⟩ = some (.int .i64 x.2) from
    ⟨by have := v1.row.cell 0; rw [hrv, ← hn] at this; exact this, r4.cell 0, r4.cell 1, r5.cell 0, r5.cell 1⟩)
  have CG := Lib.hid (show w1.cell? ⟨g, p, none⟩ = some (.slice (some ⟨b, o, none⟩) m cp) from by
    have e := (b1.cell (p := ⟨g, p, none⟩) lg).trans (hc p hp').1
    rw [ev, ← hm] at e; exact e)
  have LT := Lib.hid (show T < q4 ∧ g < q4 ∧ b < q4 from ⟨by omega, by omega, by omega⟩)
  rw [← hn] at hp'
  have R4 := Lib.hid r4
  have R5 := Lib.hid r5
  have HW1 := Lib.hid hw1
  clear hc h hw bE lT lg lb b1 s1 r4 r5 v1 hW1 hm hn IC hi hl hne hp ev
  go_enter Tryz.func145, Tryz.ntmps145
  go_wp2_with fail
  rw [← HW1.out, ← HQ.out]
  clear hw1 hq4
  have g4 : g ≠ q4 := by have := LT.out; omega
  have g5 : g ≠ q4 + 1 := by have := LT.out; omega
  have c0 := C1.out.1
  have c1 := C1.out.2.1
  have c2 := C1.out.2.2.1
  have c3 := C1.out.2.2.2.1
  have c4 := C1.out.2.2.2.2
  have cg := CG.out
  have ss := S1.out
  refine wp_region_held_drew (S := (fun w' => w'.cell? ⟨T, 0, none⟩ = some (.slice (some ⟨g, 0, none⟩) n c) ∧ w'.cell? ⟨q4, 0, none⟩ = some (.int .i64 p) ∧ w'.cell? ⟨q4, 1, none⟩ = some (.int .i64 i) ∧ w'.cell? ⟨q4 + 1, 0, none⟩ = some (.string x.1) ∧ w'.cell? ⟨q4 + 1, 1, none⟩ = some (.int .i64 x.2))) (by kernel_rfl) (C1.out) (fun hHeld => ?_)
  have keep2 : ∀ w2 : World, Turn (InWin (.slice (some ⟨b, o, none⟩) m cp)) (w1.alloc (.cells #[.string x.1, .int .i64 x.2] 162)).drew w2 → ∀ k, k < q4 + 2 → k ≠ b → w2.heap[k]? = w1.heap[k]? := fun w2 t k hk hn =>
    (t.block k (by rw [heap_drew, World.size_alloc, S1.out]; omega) (fun j ⟨_, _, _, e, _⟩ => hn (by injection e with e _ _; injection e with e; injection e with e _ _; exact e.symm))).trans (Below.heap_alloc w1 _ k (by rw [S1.out]; exact hk))
  have bT := BE.out.2.1
  have bg : b ≠ g := fun e => BE.out.2.2.1 (by rw [HRV.out, e]; rfl)
  have K2 := Lib.hid keep2
  have HS2 := Lib.hid (show ∀ w2 : World, Turn (InWin (.slice (some ⟨b, o, none⟩) m cp)) (w1.alloc (.cells #[.string x.1, .int .i64 x.2] 162)).drew w2 → w2.cell? ⟨T, 0, none⟩ = some (.slice (some ⟨g, 0, none⟩) n c) ∧ w2.cell? ⟨q4, 0, none⟩ = some (.int .i64 p) ∧ w2.cell? ⟨q4, 1, none⟩ = some (.int .i64 i) ∧ w2.cell? ⟨q4 + 1, 0, none⟩ = some (.string x.1) ∧ w2.cell? ⟨q4 + 1, 1, none⟩ = some (.int .i64 x.2) from fun w2 t => by
    have L := LT.out
    exact ⟨(World.cell?_of_block (a := ⟨T, 0, none⟩) (K2.out w2 t T (by omega) (fun e => bT e.symm))).trans C1.out.1, (World.cell?_of_block (a := ⟨q4, 0, none⟩) (K2.out w2 t q4 (by omega) (by omega))).trans C1.out.2.1, (World.cell?_of_block (a := ⟨q4, 1, none⟩) (K2.out w2 t q4 (by omega) (by omega))).trans C1.out.2.2.1,
      (World.cell?_of_block (a := ⟨q4 + 1, 0, none⟩) (K2.out w2 t (q4 + 1) (by omega) (by omega))).trans C1.out.2.2.2.1, (World.cell?_of_block (a := ⟨q4 + 1, 1, none⟩) (K2.out w2 t (q4 + 1) (by omega) (by omega))).trans C1.out.2.2.2.2⟩)
  have HG2 := Lib.hid (show ∀ w2 : World, Turn (InWin (.slice (some ⟨b, o, none⟩) m cp)) (w1.alloc (.cells #[.string x.1, .int .i64 x.2] 162)).drew w2 → w2.cell? ⟨g, p, none⟩ = some (.slice (some ⟨b, o, none⟩) m cp) ∧ w2.frozen? ⟨g, p, none⟩ = false from fun w2 t => by
    have L := LT.out
    have e := K2.out w2 t g (by omega) (fun e => bg e.symm)
    refine ⟨(World.cell?_of_block (a := ⟨g, p, none⟩) e).trans CG.out, ?_⟩
    rw [World.frozen?_of_block (a := ⟨g, p, none⟩) e]
    have HP := HV1.out.rowAt (by rw [← HN.out]; omega)
    obtain ⟨g', c', e1, _, _, hc⟩ := HP
    rw [HRV.out] at e1
    injection e1 with e1 _ _
    injection e1 with e1
    injection e1 with e1 _ _
    subst e1
    exact (hc p (by rw [← HN.out]; exact hp')).2)
  have FIN := Lib.hid (show ∀ (v' : Value) (w2 : World), Moved (w1.alloc (.cells #[.string x.1, .int .i64 x.2] 162)).drew (.slice (some ⟨b, o, none⟩) m cp) (ins (s.nd p) i x) v' w2 → LeftP w T E (s.put p (ins (s.nd p) i x)) (w2.setCell ⟨g, p, none⟩ v') from fun v' w2 hm => by
    obtain ⟨W, hW⟩ : ∃ W, W = (w1.alloc (.cells #[.string x.1, .int .i64 x.2] 162)).drew := ⟨_, rfl⟩
    rw [← hW] at hm
    have bW : Below w.heap.size w W := by rw [hW]; exact (B1.out.alloc B1.out.size _).drew
    have sW : W.heap.size = q4 + 3 := by rw [hW, heap_drew, World.size_alloc, S1.out]
    have ev : .slice (some ⟨b, o, none⟩) m cp = tnv vs p := by rw [EV.out, HM.out]
    rw [ev] at hm
    obtain ⟨h1, h2, h3, _⟩ := hm
    have hp : p < vs.length := by rw [← HN.out]; exact hp'
    have q := HQ.out
    refine ⟨fun k => k < w2.heap.size ∧ (E k ∨ W.heap.size ≤ k), ⟨_, _, _, (HV.out.below bW).moved hp HRV.out h1 h2 h3 (fun k e => ⟨?_, .inl e⟩) (fun k e f => ⟨f, .inr e⟩) (fun k e => e.1)⟩, fun k e => ?_, ?_⟩
    · have := HV.out.lt k e
      have := h2.size
      omega
    · rcases e.2 with f | f
      · exact .inl f
      · exact .inr (by omega)
    · refine Chg.setCell ?_ (.inl ?_) _
      · exact (Chg.of_below bW).then (h2.chg fun k j e => (HV.out.eW p k j hp e).1)
      · exact (HV.out.eN g (by rw [HRV.out]; rfl)).1)
  clear keep2
  refine rgnTake 0 rfl (by kernel_rfl) (by kernel_rfl) (by kernel_rfl) (fun _ _ _ h => h) (by rfl) (v := ?v1) ?hy1 hHeld ?rest1
  case hy1 => (intro v hSw; obtain ⟨y0, y1, y2, y3, y4⟩ := hSw; first | (go_simp; done) | (go_simp; with_reducible rfl))
  try simp only [Act.put, List.setIfInBounds_toArray, List.set_cons_zero, List.set_cons_succ]
  refine rgnTake 1 rfl (by kernel_rfl) (by kernel_rfl) (by kernel_rfl) (fun _ _ _ h => h) (by rfl) (v := ?v2) ?hy2 hHeld ?rest2
  case hy2 => (intro v hSw; obtain ⟨y0, y1, y2, y3, y4⟩ := hSw; first | (go_simp; done) | (go_simp; with_reducible rfl))
  try simp only [Act.put, List.setIfInBounds_toArray, List.set_cons_zero, List.set_cons_succ]
  refine rgnTake 2 rfl (by kernel_rfl) (by kernel_rfl) (by kernel_rfl) (fun _ _ _ h => h) (by rfl) (v := ?v3) ?hy3 hHeld ?rest3
  case hy3 => (intro v hSw; obtain ⟨y0, y1, y2, y3, y4⟩ := hSw; first | (go_simp; done) | (go_simp; with_reducible rfl))
  try simp only [Act.put, List.setIfInBounds_toArray, List.set_cons_zero, List.set_cons_succ]
  refine rgnTake 3 rfl (by kernel_rfl) (by kernel_rfl) (by kernel_rfl) (fun _ _ _ h => h) (by rfl) (v := ?v4) ?hy4 hHeld ?rest4
  case hy4 => (intro v hSw; obtain ⟨y0, y1, y2, y3, y4⟩ := hSw; first | (go_simp; done) | (go_simp; with_reducible rfl))
  try simp only [Act.put, List.setIfInBounds_toArray, List.set_cons_zero, List.set_cons_succ]
  refine rgnTake 4 rfl (by kernel_rfl) (by kernel_rfl) (by kernel_rfl) (fun _ _ _ h => h) (by rfl) (v := ?v5) ?hy5 hHeld ?rest5
  case hy5 => (intro v hSw; obtain ⟨y0, y1, y2, y3, y4⟩ := hSw; first | (go_simp; done) | (go_simp; with_reducible rfl))
  try simp only [Act.put, List.setIfInBounds_toArray, List.set_cons_zero, List.set_cons_succ]
  refine rgnTake 5 rfl (by kernel_rfl) (by kernel_rfl) (by kernel_rfl) (fun _ _ _ h => h) (by rfl) (v := ?v6) ?hy6 hHeld ?rest6
  case hy6 => (intro v hSw; obtain ⟨y0, y1, y2, y3, y4⟩ := hSw; first | (go_simp; done) | (go_simp; with_reducible rfl))
  try simp only [Act.put, List.setIfInBounds_toArray, List.set_cons_zero, List.set_cons_succ]
  refine rgnTake 6 rfl (by kernel_rfl) (by kernel_rfl) (by kernel_rfl) (fun _ _ _ h => h) (by rfl) (v := ?v7) ?hy7 hHeld ?rest7
  case hy7 => (intro v hSw; obtain ⟨y0, y1, y2, y3, y4⟩ := hSw; first | (go_simp; done) | (go_simp; with_reducible rfl))
  try simp only [Act.put, List.setIfInBounds_toArray, List.set_cons_zero, List.set_cons_succ]
  refine rgnTake 7 rfl (by kernel_rfl) (by kernel_rfl) (by kernel_rfl) (fun _ _ _ h => h) (by rfl) (v := ?v8) ?hy8 hHeld ?rest8
  case hy8 => (intro v hSw; obtain ⟨y0, y1, y2, y3, y4⟩ := hSw; first | (go_simp; done) | (go_simp; with_reducible rfl))
  try simp only [Act.put, List.setIfInBounds_toArray, List.set_cons_zero, List.set_cons_succ]
  refine rgnTake 8 rfl (by kernel_rfl) (by kernel_rfl) (by kernel_rfl) (fun _ _ _ h => h) (by rfl) (v := ?v9) ?hy9 hHeld ?rest9
  case hy9 => (intro v hSw; obtain ⟨y0, y1, y2, y3, y4⟩ := hSw; first | (go_simp; done) | (go_simp; with_reducible rfl))
  try simp only [Act.put, List.setIfInBounds_toArray, List.set_cons_zero, List.set_cons_succ]
  refine rgnTake 9 rfl (by kernel_rfl) (by kernel_rfl) (by kernel_rfl) (fun _ _ _ h => h) (by rfl) (v := ?v10) ?hy10 hHeld ?rest10
  case hy10 => (intro v hSw; obtain ⟨y0, y1, y2, y3, y4⟩ := hSw; first | (go_simp; done) | (go_simp; with_reducible rfl))
  try simp only [Act.put, List.setIfInBounds_toArray, List.set_cons_zero, List.set_cons_succ]
  refine rgnTake 10 rfl (by kernel_rfl) (by kernel_rfl) (by kernel_rfl) (fun _ _ _ h => h) (by rfl) (v := ?v11) ?hy11 hHeld ?rest11
  case hy11 => (intro v hSw; obtain ⟨y0, y1, y2, y3, y4⟩ := hSw; first | (go_simp; done) | (go_simp; with_reducible rfl))
  try simp only [Act.put, List.setIfInBounds_toArray, List.set_cons_zero, List.set_cons_succ]
  refine rgnTake 11 rfl (by kernel_rfl) (by kernel_rfl) (by kernel_rfl) (fun _ _ _ h => h) (by rfl) (v := ?v12) ?hy12 hHeld ?rest12
  case hy12 => (intro v hSw; obtain ⟨y0, y1, y2, y3, y4⟩ := hSw; first | (go_simp; done) | (go_simp; with_reducible rfl))
  try simp only [Act.put, List.setIfInBounds_toArray, List.set_cons_zero, List.set_cons_succ]
  refine rgnTake 12 rfl (by kernel_rfl) (by kernel_rfl) (by kernel_rfl) (fun _ _ _ h => h) (by rfl) (v := ?v13) ?hy13 hHeld ?rest13
  case hy13 => (intro v hSw; obtain ⟨y0, y1, y2, y3, y4⟩ := hSw; first | (go_simp; done) | (go_simp; with_reducible rfl))
  try simp only [Act.put, List.setIfInBounds_toArray, List.set_cons_zero, List.set_cons_succ]
  refine rgnTake 14 rfl (by kernel_rfl) (by kernel_rfl) (by kernel_rfl) (fun _ _ _ h => h) (by rfl) (v := ?v14) ?hy14 hHeld ?rest14
  case hy14 => (intro v hSw; obtain ⟨y0, y1, y2, y3, y4⟩ := hSw; first | (go_simp; done) | (go_simp; with_reducible rfl))
  try simp only [Act.put, List.setIfInBounds_toArray, List.set_cons_zero, List.set_cons_succ]
  refine rgnTake 15 rfl (by kernel_rfl) (by kernel_rfl) (by kernel_rfl) (fun _ _ _ h => h) (by rfl) (v := ?v15) ?hy15 hHeld ?rest15
  case hy15 => (intro v hSw; obtain ⟨y0, y1, y2, y3, y4⟩ := hSw; first | (go_simp; done) | (go_simp; with_reducible rfl))
  try simp only [Act.put, List.setIfInBounds_toArray, List.set_cons_zero, List.set_cons_succ]
  refine rgnTake 16 rfl (by kernel_rfl) (by kernel_rfl) (by kernel_rfl) (fun _ _ _ h => h) (by rfl) (v := ?v16) ?hy16 hHeld ?rest16
  case hy16 => (intro v hSw; obtain ⟨y0, y1, y2, y3, y4⟩ := hSw; first | (go_simp; done) | (go_simp; with_reducible rfl))
  try simp only [Act.put, List.setIfInBounds_toArray, List.set_cons_zero, List.set_cons_succ]
  have SA := Lib.hid (show (w1.alloc (.cells #[.string x.1, .int .i64 x.2] 162)).drew.cell? ⟨T, 0, none⟩ = some (.slice (some ⟨g, 0, none⟩) n c) ∧ (w1.alloc (.cells #[.string x.1, .int .i64 x.2] 162)).drew.cell? ⟨q4, 0, none⟩ = some (.int .i64 p) ∧ (w1.alloc (.cells #[.string x.1, .int .i64 x.2] 162)).drew.cell? ⟨q4, 1, none⟩ = some (.int .i64 i) ∧ (w1.alloc (.cells #[.string x.1, .int .i64 x.2] 162)).drew.cell? ⟨q4 + 1, 0, none⟩ = some (.string x.1) ∧ (w1.alloc (.cells #[.string x.1, .int .i64 x.2] 162)).drew.cell? ⟨q4 + 1, 1, none⟩ = some (.int .i64 x.2) from
    HS2.out _ (Turn.refl _ _))
  have HS3 := Lib.hid (show ∀ (w2 : World) (v' : Value), (w2.cell? ⟨T, 0, none⟩ = some (.slice (some ⟨g, 0, none⟩) n c) ∧ w2.cell? ⟨q4, 0, none⟩ = some (.int .i64 p) ∧ w2.cell? ⟨q4, 1, none⟩ = some (.int .i64 i) ∧ w2.cell? ⟨q4 + 1, 0, none⟩ = some (.string x.1) ∧ w2.cell? ⟨q4 + 1, 1, none⟩ = some (.int .i64 x.2)) → (w2.setCell ⟨g, p, none⟩ v').cell? ⟨T, 0, none⟩ = some (.slice (some ⟨g, 0, none⟩) n c) ∧ (w2.setCell ⟨g, p, none⟩ v').cell? ⟨q4, 0, none⟩ = some (.int .i64 p) ∧ (w2.setCell ⟨g, p, none⟩ v').cell? ⟨q4, 1, none⟩ = some (.int .i64 i) ∧ (w2.setCell ⟨g, p, none⟩ v').cell? ⟨q4 + 1, 0, none⟩ = some (.string x.1) ∧ (w2.setCell ⟨g, p, none⟩ v').cell? ⟨q4 + 1, 1, none⟩ = some (.int .i64 x.2) from fun w2 v' h => by
    have e := fun k (hk : k ≠ g) => Below.heap_setCell w2 ⟨g, p, none⟩ v' k hk
    exact ⟨(World.cell?_of_block (a := ⟨T, 0, none⟩) (e T (Ne.symm gT))).trans h.1, (World.cell?_of_block (a := ⟨q4, 0, none⟩) (e q4 (Ne.symm g4))).trans h.2.1, (World.cell?_of_block (a := ⟨q4, 1, none⟩) (e q4 (Ne.symm g4))).trans h.2.2.1, (World.cell?_of_block (a := ⟨q4 + 1, 0, none⟩) (e _ (Ne.symm g5))).trans h.2.2.2.1, (World.cell?_of_block (a := ⟨q4 + 1, 1, none⟩) (e _ (Ne.symm g5))).trans h.2.2.2.2⟩)
  refine rgnTwo 13 17 rfl rfl (by kernel_rfl) (fun K hK => ?_) (fun K hK => ?_)
  · go_simp
    refine hK.out _ _ (C1.out) (fun hHeld => ?_)
    clear hK K
    try simp only [Act.put, List.setIfInBounds_toArray, List.set_cons_zero, List.set_cons_succ]
    refine rgnOne 17 rfl (by kernel_rfl) (fun K hK => ?_)
    go_simp
    refine hK.out _ _ (SA.out) (fun hHeld => ?_)
    clear hK K
    try simp only [Act.put, List.setIfInBounds_toArray, List.set_cons_zero, List.set_cons_succ]
    refine rgnOne 18 rfl (by kernel_rfl) (fun K hK => ?_)
    go_simp
    refine IC'.out.mono ?_
    rintro r w2 ⟨v', rfl, hmv⟩
    obtain ⟨A2, c2, rfl, _⟩ := hmv.1.form
    have MV := Lib.hid hmv
    clear hmv
    refine hK.out _ _ ((HS2.out w2 MV.out.2.1)) (fun hHeld => ?_)
    clear hK K
    try simp only [Act.put, List.setIfInBounds_toArray, List.set_cons_zero, List.set_cons_succ]
    refine rgnTake 19 rfl (by kernel_rfl) (by kernel_rfl) (by kernel_rfl) (fun _ _ _ h => h) (by rfl) (v := ?v17) ?hy17 hHeld ?rest17
    case hy17 => (intro v hSw; obtain ⟨y0, y1, y2, y3, y4⟩ := hSw; first | (go_simp; done) | (go_simp; with_reducible rfl))
    try simp only [Act.put, List.setIfInBounds_toArray, List.set_cons_zero, List.set_cons_succ]
    have cg2 := (HG2.out w2 MV.out.2.1).1
    have fz2 := (HG2.out w2 MV.out.2.1).2
    refine rgnOne 20 rfl (by kernel_rfl) (fun K hK => ?_)
    go_simp
    refine hK.out _ _ ((HS3.out w2 _ (HS2.out w2 MV.out.2.1))) (fun hHeld => ?_)
    clear hK K
    try simp only [Act.put, List.setIfInBounds_toArray, List.set_cons_zero, List.set_cons_succ]
    refine wpAnyH_done (by kernel_rfl) ?_ _
    go_wp2_with fail
    exact bodyPost_end (results_none rfl _ _ _) rfl ⟨rfl, FIN.out _ w2 MV.out⟩
  · go_simp
    refine hK.out _ _ (SA.out) (fun hHeld => ?_)
    clear hK K
    try simp only [Act.put, List.setIfInBounds_toArray, List.set_cons_zero, List.set_cons_succ]
    have cg1 : (w1.alloc (.cells #[.string x.1, .int .i64 x.2] 162)).drew.cell? ⟨g, p, none⟩ = some (.slice (some ⟨b, o, none⟩) m cp) := (HG2.out _ (Turn.refl _ _)).1
    refine rgnOne 13 rfl (by kernel_rfl) (fun K hK => ?_)
    go_simp
    refine hK.out _ _ (SA.out) (fun hHeld => ?_)
    clear hK K
    try simp only [Act.put, List.setIfInBounds_toArray, List.set_cons_zero, List.set_cons_succ]
    clear cg1
    refine rgnOne 18 rfl (by kernel_rfl) (fun K hK => ?_)
    go_simp
    refine IC'.out.mono ?_
    rintro r w2 ⟨v', rfl, hmv⟩
    obtain ⟨A2, c2, rfl, _⟩ := hmv.1.form
    have MV := Lib.hid hmv
    clear hmv
    refine hK.out _ _ ((HS2.out w2 MV.out.2.1)) (fun hHeld => ?_)
    clear hK K
    try simp only [Act.put, List.setIfInBounds_toArray, List.set_cons_zero, List.set_cons_succ]
    refine rgnTake 19 rfl (by kernel_rfl) (by kernel_rfl) (by kernel_rfl) (fun _ _ _ h => h) (by rfl) (v := ?v18) ?hy18 hHeld ?rest18
    case hy18 => (intro v hSw; obtain ⟨y0, y1, y2, y3, y4⟩ := hSw; first | (go_simp; done) | (go_simp; with_reducible rfl))
    try simp only [Act.put, List.setIfInBounds_toArray, List.set_cons_zero, List.set_cons_succ]
    have cg2 := (HG2.out w2 MV.out.2.1).1
    have fz2 := (HG2.out w2 MV.out.2.1).2
    refine rgnOne 20 rfl (by kernel_rfl) (fun K hK => ?_)
    go_simp
    refine hK.out _ _ ((HS3.out w2 _ (HS2.out w2 MV.out.2.1))) (fun hHeld => ?_)
    clear hK K
    try simp only [Act.put, List.setIfInBounds_toArray, List.set_cons_zero, List.set_cons_succ]
    refine wpAnyH_done (by kernel_rfl) ?_ _
    go_wp2_with fail
    exact bodyPost_end (results_none rfl _ _ _) rfl ⟨rfl, FIN.out _ w2 MV.out⟩

end Go.Proofs.YtiiokmfnohifmaaGreat
