/- Proved parts: T9l T9d T9k T9r T9p T9s. Conditions: each theorem's own. -/
import Derived.Test.YtbfgpdgiaclphaaM24
import Derived.Test.YtbfgpdgiaclphaaM12
namespace Go.Proofs.Ytbfgpdgiaclphaa
open Go.RowKit

abbrev Ptr (T : Nat) : Value := .pointer (some ⟨T, 0, none⟩)
set_option maxRecDepth 100000 in
/-- least -/
theorem xLeast (w : World) (T : Nat) (E : Nat → Prop) (s : Tab) (rv fv : Value) (vs : List Value) (p : Nat) (h : TabV w T E s rv fv vs) (hp : p < vs.length) (h0 : 0 < (s.nd p).length) :
    Calls Try.prog 93 #[Ptr T, .int .i64 p] w fun x w' => x = .returned (.string ((s.nd p).key 0)) ∧ w' = w := by
  obtain ⟨g, c, rfl, _, _, hc⟩ := h.rowAt (by omega)
  have c0 := h.row.cell 0
  simp only [List.getElem?_cons_zero] at c0
  have c1 := (hc p hp).1
  obtain ⟨A, cp, e, hi⟩ := (h.node p hp).form
  obtain ⟨b, o, rfl, c2, _⟩ := hi 0 h0
  rw [e] at c1
  rw [Nat.zero_mul, Nat.add_zero] at c2
  obtain ⟨n, hn⟩ : ∃ n, n = vs.length := ⟨_, rfl⟩
  obtain ⟨m, hm⟩ : ∃ m, m = (s.nd p).length := ⟨_, rfl⟩
  obtain ⟨K, hK⟩ : ∃ K, K = (s.nd p).key 0 := ⟨_, rfl⟩
  rw [← hn] at c0 hp
  rw [← hm] at c1 h0
  rw [← hK] at c2 ⊢
  clear hi hc h e hn hm hK
  go_enter Try.func93, Try.ntmps93
  go_wp2_with fail
  go_ret
  exact ⟨rfl, rfl⟩

set_option maxHeartbeats 4000000 in
set_option maxRecDepth 100000 in
/-- lay -/
theorem xLay (w : World) (T : Nat) (E : Nat → Prop) (s : Tab) (p i : Nat) (x : ByteArray × Int) (h : TabG w T E s) (hp : p < s.nds.length) (hi : i ≤ (s.nd p).length) (hne : 0 < (s.nd p).length) (hl : (s.nd p).length ≤ 100000) :
    Calls Try.prog 92 #[Ptr T, .agg #[.int .i64 p, .int .i64 i], .agg #[.string x.1, .int .i64 x.2]] w fun r w' => r = .returned (.tuple #[]) ∧ LeftP w T E (s.put p (ins (s.nd p) i x)) w' := by
  obtain ⟨rv, fv, vs, h⟩ := h
  have hp' : p < vs.length := by rw [h.len]; exact hp
  obtain ⟨g, c, hrv, hg, gT, hc⟩ := h.rowAt (by omega)
  obtain ⟨b, o, cp, ev, hw⟩ : ∃ b o cp, tnv vs p = .slice (some ⟨b, o, none⟩) (s.nd p).length cp ∧ WinAt w b o cp (s.nd p) := by
    rcases h.node p hp' with ⟨_, e⟩ | h
    · rw [e] at hne; exact absurd hne (by simp)
    · exact h
  have bE := h.eW p b o hp' ⟨o, _, cp, ev, Nat.le_refl _, by have := hw.pos; omega⟩
  obtain ⟨q4, hq4⟩ : ∃ q4, q4 = w.heap.size := ⟨_, rfl⟩
  have lT := h.lt T h.eT
  have lg := h.lt g hg
  have lb := h.lt b bE.1
  obtain ⟨w1, hw1⟩ : ∃ w1, w1 = (w.alloc (.cells #[.int .i64 p, .int .i64 i] 150)).alloc (.cells #[.string x.1, .int .i64 x.2] 123) := ⟨_, rfl⟩
  have b1 : Below w.heap.size w w1 := by rw [hw1]; exact ((Below.refl _ _).alloc (Nat.le_refl _) _).alloc (by simp) _
  have s1 : w1.heap.size = q4 + 2 := by rw [hw1, hq4]; simp
  have r4 : RowAt w1 q4 [.int .i64 p, .int .i64 i] 150 := by rw [hw1, hq4]; exact (RowAt.new w _ _).alloc _
  have r5 : RowAt w1 (q4 + 1) [.string x.1, .int .i64 x.2] 123 := by
    rw [hw1, hq4]
    have := RowAt.new (w.alloc (.cells #[.int .i64 p, .int .i64 i] 150)) [.string x.1, .int .i64 x.2] 123
    simpa using this
  have v1 := h.below b1
  have hW1 : WinAt w1 b o cp (s.nd p) := by
    have := (v1.node p hp')
    rw [ev] at this
    rcases this with ⟨e, _⟩ | ⟨b', o', c', e, q⟩
    · cases e
    · injection e with e1 e2 e3
      injection e1 with e1
      injection e1 with e1 e4 _
      subst e1; subst e4; subst e3; exact q
  obtain ⟨m, hm⟩ : ∃ m, m = (s.nd p).length := ⟨_, rfl⟩
  obtain ⟨n, hn⟩ : ∃ n, n = vs.length := ⟨_, rfl⟩
  have IC : Calls Try.prog 97 #[.slice (some ⟨b, o, none⟩) m cp, .int .i64 i, .slice (some ⟨q4 + 2, 0, none⟩) 1 1] (w1.alloc (.cells #[.string x.1, .int .i64 x.2] 123)).drew (MvPost (w1.alloc (.cells #[.string x.1, .int .i64 x.2] 123)).drew (.slice (some ⟨b, o, none⟩) m cp) (ins (s.nd p) i x)) := by
    rw [hm, ← s1]
    have t : Turn (fun _ _ => False) w1 (w1.alloc (.cells #[.string x.1, .int .i64 x.2] 123)).drew := Turn.of_below ((Below.refl _ _).alloc (Nat.le_refl _) _).drew
    exact xInsert _ b o cp w1.heap.size i (s.nd p) x (hW1.turn t fun _ _ _ e => e) hi hl (heap_alloc_new w1 _) (by omega)
  have IC' := Lib.hid IC
  have HV1 := Lib.hid v1
  have HV := Lib.hid h
  have B1 := Lib.hid b1
  have BE := Lib.hid bE
  have HRV := Lib.hid hrv
  have EV := Lib.hid ev
  have HM := Lib.hid hm
  have HN := Lib.hid hn
  have S1 := Lib.hid s1
  have HQ := Lib.hid hq4
  have HI := Lib.hid hi
  have C1 := Lib.hid (show w1.cell? ⟨T, 0, none⟩ = some (.slice (some ⟨g, 0, none⟩) n c) ∧ w1.cell? ⟨q4, 0, none⟩ = some (.int .i64 p) ∧ w1.cell? ⟨q4, 1, none⟩ = some (.int .i64 i) ∧ w1.cell? ⟨q4 + 1, 0, none⟩ = some (.string x.1) ∧ w1.cell? ⟨q4 + 1, 1, none⟩ = some (.int .i64 x.2) from
    ⟨by have := v1.row.cell 0; rw [hrv, ← hn] at this; exact this, r4.cell 0, r4.cell 1, r5.cell 0, r5.cell 1⟩)
  have CG := Lib.hid (show w1.cell? ⟨g, p, none⟩ = some (.slice (some ⟨b, o, none⟩) m cp) from by
    have e := (b1.cell (p := ⟨g, p, none⟩) lg).trans (hc p hp').1
    rw [ev, ← hm] at e; exact e)
  have LT := Lib.hid (show T < q4 ∧ g < q4 ∧ b < q4 from ⟨by omega, by omega, by omega⟩)
  rw [← hn] at hp'
  have R4 := Lib.hid r4
  have R5 := Lib.hid r5
  have HW1 := Lib.hid hw1
  clear hc h hw bE lT lg lb b1 s1 r4 r5 v1 hW1 hm hn IC hi hl hne hp ev
  go_enter Try.func92, Try.ntmps92
  go_wp2_with fail
  rw [← HW1.out, ← HQ.out]
  clear hw1 hq4
  have g4 : g ≠ q4 := by have := LT.out; omega
  have g5 : g ≠ q4 + 1 := by have := LT.out; omega
  have c0 := C1.out.1
  have c1 := C1.out.2.1
  have c2 := C1.out.2.2.1
  have c3 := C1.out.2.2.2.1
  have c4 := C1.out.2.2.2.2
  have cg := CG.out
  have ss := S1.out
  refine wp_region_held_drew (S := (fun w' => w'.cell? ⟨T, 0, none⟩ = some (.slice (some ⟨g, 0, none⟩) n c) ∧ w'.cell? ⟨q4, 0, none⟩ = some (.int .i64 p) ∧ w'.cell? ⟨q4, 1, none⟩ = some (.int .i64 i) ∧ w'.cell? ⟨q4 + 1, 0, none⟩ = some (.string x.1) ∧ w'.cell? ⟨q4 + 1, 1, none⟩ = some (.int .i64 x.2))) (by kernel_rfl) (C1.out) (fun hHeld => ?_)
  have keep2 : ∀ w2 : World, Turn (InWin (.slice (some ⟨b, o, none⟩) m cp)) (w1.alloc (.cells #[.string x.1, .int .i64 x.2] 123)).drew w2 → ∀ k, k < q4 + 2 → k ≠ b → w2.heap[k]? = w1.heap[k]? := fun w2 t k hk hn =>
    (t.block k (by rw [heap_drew, World.size_alloc, S1.out]; omega) (fun j ⟨_, _, _, e, _⟩ => hn (by injection e with e _ _; injection e with e; injection e with e _ _; exact e.symm))).trans (Below.heap_alloc w1 _ k (by rw [S1.out]; exact hk))
  have bT := BE.out.2.1
  have bg : b ≠ g := fun e => BE.out.2.2.1 (by rw [HRV.out, e]; rfl)
  have K2 := Lib.hid keep2
  have HS2 := Lib.hid (show ∀ w2 : World, Turn (InWin (.slice (some ⟨b, o, none⟩) m cp)) (w1.alloc (.cells #[.string x.1, .int .i64 x.2] 123)).drew w2 → w2.cell? ⟨T, 0, none⟩ = some (.slice (some ⟨g, 0, none⟩) n c) ∧ w2.cell? ⟨q4, 0, none⟩ = some (.int .i64 p) ∧ w2.cell? ⟨q4, 1, none⟩ = some (.int .i64 i) ∧ w2.cell? ⟨q4 + 1, 0, none⟩ = some (.string x.1) ∧ w2.cell? ⟨q4 + 1, 1, none⟩ = some (.int .i64 x.2) from fun w2 t => by
    have L := LT.out
    exact ⟨(World.cell?_of_block (a := ⟨T, 0, none⟩) (K2.out w2 t T (by omega) (fun e => bT e.symm))).trans C1.out.1, (World.cell?_of_block (a := ⟨q4, 0, none⟩) (K2.out w2 t q4 (by omega) (by omega))).trans C1.out.2.1, (World.cell?_of_block (a := ⟨q4, 1, none⟩) (K2.out w2 t q4 (by omega) (by omega))).trans C1.out.2.2.1,
      (World.cell?_of_block (a := ⟨q4 + 1, 0, none⟩) (K2.out w2 t (q4 + 1) (by omega) (by omega))).trans C1.out.2.2.2.1, (World.cell?_of_block (a := ⟨q4 + 1, 1, none⟩) (K2.out w2 t (q4 + 1) (by omega) (by omega))).trans C1.out.2.2.2.2⟩)
  have HG2 := Lib.hid (show ∀ w2 : World, Turn (InWin (.slice (some ⟨b, o, none⟩) m cp)) (w1.alloc (.cells #[.string x.1, .int .i64 x.2] 123)).drew w2 → w2.cell? ⟨g, p, none⟩ = some (.slice (some ⟨b, o, none⟩) m cp) ∧ w2.frozen? ⟨g, p, none⟩ = false from fun w2 t => by
    have L := LT.out
    have e := K2.out w2 t g (by omega) (fun e => bg e.symm)
    refine ⟨(World.cell?_of_block (a := ⟨g, p, none⟩) e).trans CG.out, ?_⟩
    rw [World.frozen?_of_block (a := ⟨g, p, none⟩) e]
    have HP := HV1.out.rowAt (by rw [← HN.out]; omega)
    obtain ⟨g', c', e1, _, _, hc⟩ := HP
    rw [HRV.out] at e1
    injection e1 with e1 _ _
    injection e1 with e1
    injection e1 with e1 _ _
    subst e1
    exact (hc p (by rw [← HN.out]; exact hp')).2)
  have FIN := Lib.hid (show ∀ (v' : Value) (w2 : World), Moved (w1.alloc (.cells #[.string x.1, .int .i64 x.2] 123)).drew (.slice (some ⟨b, o, none⟩) m cp) (ins (s.nd p) i x) v' w2 → LeftP w T E (s.put p (ins (s.nd p) i x)) (w2.setCell ⟨g, p, none⟩ v') from fun v' w2 hm => by
    obtain ⟨W, hW⟩ : ∃ W, W = (w1.alloc (.cells #[.string x.1, .int .i64 x.2] 123)).drew := ⟨_, rfl⟩
    rw [← hW] at hm
    have bW : Below w.heap.size w W := by rw [hW]; exact (B1.out.alloc B1.out.size _).drew
    have sW : W.heap.size = q4 + 3 := by rw [hW, heap_drew, World.size_alloc, S1.out]
    have ev : .slice (some ⟨b, o, none⟩) m cp = tnv vs p := by rw [EV.out, HM.out]
    rw [ev] at hm
    obtain ⟨h1, h2, h3, _⟩ := hm
    have hp : p < vs.length := by rw [← HN.out]; exact hp'
    have q := HQ.out
    refine ⟨fun k => k < w2.heap.size ∧ (E k ∨ W.heap.size ≤ k), ⟨_, _, _, (HV.out.below bW).moved hp HRV.out h1 h2 h3 (fun k e => ⟨?_, .inl e⟩) (fun k e f => ⟨f, .inr e⟩) (fun k e => e.1)⟩, fun k e => ?_, ?_⟩
    · have := HV.out.lt k e
      have := h2.size
      omega
    · rcases e.2 with f | f
      · exact .inl f
      · exact .inr (by omega)
    · refine Chg.setCell ?_ (.inl ?_) _
      · exact (Chg.of_below bW).then (h2.chg fun k j e => (HV.out.eW p k j hp e).1)
      · exact (HV.out.eN g (by rw [HRV.out]; rfl)).1)
  clear keep2
  refine rgnTake 0 rfl (by kernel_rfl) (by kernel_rfl) (by kernel_rfl) (fun _ _ _ h => h) (by rfl) (v := ?v1) ?hy1 hHeld ?rest1
  case hy1 => (intro v hSw; obtain ⟨y0, y1, y2, y3, y4⟩ := hSw; first | (go_simp; done) | (go_simp; with_reducible rfl))
  try simp only [Act.put, List.setIfInBounds_toArray, List.set_cons_zero, List.set_cons_succ]
  refine rgnTake 1 rfl (by kernel_rfl) (by kernel_rfl) (by kernel_rfl) (fun _ _ _ h => h) (by rfl) (v := ?v2) ?hy2 hHeld ?rest2
  case hy2 => (intro v hSw; obtain ⟨y0, y1, y2, y3, y4⟩ := hSw; first | (go_simp; done) | (go_simp; with_reducible rfl))
  try simp only [Act.put, List.setIfInBounds_toArray, List.set_cons_zero, List.set_cons_succ]
  refine rgnTake 2 rfl (by kernel_rfl) (by kernel_rfl) (by kernel_rfl) (fun _ _ _ h => h) (by rfl) (v := ?v3) ?hy3 hHeld ?rest3
  case hy3 => (intro v hSw; obtain ⟨y0, y1, y2, y3, y4⟩ := hSw; first | (go_simp; done) | (go_simp; with_reducible rfl))
  try simp only [Act.put, List.setIfInBounds_toArray, List.set_cons_zero, List.set_cons_succ]
  refine rgnTake 3 rfl (by kernel_rfl) (by kernel_rfl) (by kernel_rfl) (fun _ _ _ h => h) (by rfl) (v := ?v4) ?hy4 hHeld ?rest4
  case hy4 => (intro v hSw; obtain ⟨y0, y1, y2, y3, y4⟩ := hSw; first | (go_simp; done) | (go_simp; with_reducible rfl))
  try simp only [Act.put, List.setIfInBounds_toArray, List.set_cons_zero, List.set_cons_succ]
  refine rgnTake 4 rfl (by kernel_rfl) (by kernel_rfl) (by kernel_rfl) (fun _ _ _ h => h) (by rfl) (v := ?v5) ?hy5 hHeld ?rest5
  case hy5 => (intro v hSw; obtain ⟨y0, y1, y2, y3, y4⟩ := hSw; first | (go_simp; done) | (go_simp; with_reducible rfl))
  try simp only [Act.put, List.setIfInBounds_toArray, List.set_cons_zero, List.set_cons_succ]
  refine rgnTake 5 rfl (by kernel_rfl) (by kernel_rfl) (by kernel_rfl) (fun _ _ _ h => h) (by rfl) (v := ?v6) ?hy6 hHeld ?rest6
  case hy6 => (intro v hSw; obtain ⟨y0, y1, y2, y3, y4⟩ := hSw; first | (go_simp; done) | (go_simp; with_reducible rfl))
  try simp only [Act.put, List.setIfInBounds_toArray, List.set_cons_zero, List.set_cons_succ]
  refine rgnTake 6 rfl (by kernel_rfl) (by kernel_rfl) (by kernel_rfl) (fun _ _ _ h => h) (by rfl) (v := ?v7) ?hy7 hHeld ?rest7
  case hy7 => (intro v hSw; obtain ⟨y0, y1, y2, y3, y4⟩ := hSw; first | (go_simp; done) | (go_simp; with_reducible rfl))
  try simp only [Act.put, List.setIfInBounds_toArray, List.set_cons_zero, List.set_cons_succ]
  refine rgnTake 7 rfl (by kernel_rfl) (by kernel_rfl) (by kernel_rfl) (fun _ _ _ h => h) (by rfl) (v := ?v8) ?hy8 hHeld ?rest8
  case hy8 => (intro v hSw; obtain ⟨y0, y1, y2, y3, y4⟩ := hSw; first | (go_simp; done) | (go_simp; with_reducible rfl))
  try simp only [Act.put, List.setIfInBounds_toArray, List.set_cons_zero, List.set_cons_succ]
  refine rgnTake 8 rfl (by kernel_rfl) (by kernel_rfl) (by kernel_rfl) (fun _ _ _ h => h) (by rfl) (v := ?v9) ?hy9 hHeld ?rest9
  case hy9 => (intro v hSw; obtain ⟨y0, y1, y2, y3, y4⟩ := hSw; first | (go_simp; done) | (go_simp; with_reducible rfl))
  try simp only [Act.put, List.setIfInBounds_toArray, List.set_cons_zero, List.set_cons_succ]
  refine rgnTake 9 rfl (by kernel_rfl) (by kernel_rfl) (by kernel_rfl) (fun _ _ _ h => h) (by rfl) (v := ?v10) ?hy10 hHeld ?rest10
  case hy10 => (intro v hSw; obtain ⟨y0, y1, y2, y3, y4⟩ := hSw; first | (go_simp; done) | (go_simp; with_reducible rfl))
  try simp only [Act.put, List.setIfInBounds_toArray, List.set_cons_zero, List.set_cons_succ]
  refine rgnTake 10 rfl (by kernel_rfl) (by kernel_rfl) (by kernel_rfl) (fun _ _ _ h => h) (by rfl) (v := ?v11) ?hy11 hHeld ?rest11
  case hy11 => (intro v hSw; obtain ⟨y0, y1, y2, y3, y4⟩ := hSw; first | (go_simp; done) | (go_simp; with_reducible rfl))
  try simp only [Act.put, List.setIfInBounds_toArray, List.set_cons_zero, List.set_cons_succ]
  refine rgnTake 11 rfl (by kernel_rfl) (by kernel_rfl) (by kernel_rfl) (fun _ _ _ h => h) (by rfl) (v := ?v12) ?hy12 hHeld ?rest12
  case hy12 => (intro v hSw; obtain ⟨y0, y1, y2, y3, y4⟩ := hSw; first | (go_simp; done) | (go_simp; with_reducible rfl))
  try simp only [Act.put, List.setIfInBounds_toArray, List.set_cons_zero, List.set_cons_succ]
  refine rgnTake 12 rfl (by kernel_rfl) (by kernel_rfl) (by kernel_rfl) (fun _ _ _ h => h) (by rfl) (v := ?v13) ?hy13 hHeld ?rest13
  case hy13 => (intro v hSw; obtain ⟨y0, y1, y2, y3, y4⟩ := hSw; first | (go_simp; done) | (go_simp; with_reducible rfl))
  try simp only [Act.put, List.setIfInBounds_toArray, List.set_cons_zero, List.set_cons_succ]
  refine rgnTake 14 rfl (by kernel_rfl) (by kernel_rfl) (by kernel_rfl) (fun _ _ _ h => h) (by rfl) (v := ?v14) ?hy14 hHeld ?rest14
  case hy14 => (intro v hSw; obtain ⟨y0, y1, y2, y3, y4⟩ := hSw; first | (go_simp; done) | (go_simp; with_reducible rfl))
  try simp only [Act.put, List.setIfInBounds_toArray, List.set_cons_zero, List.set_cons_succ]
  refine rgnTake 15 rfl (by kernel_rfl) (by kernel_rfl) (by kernel_rfl) (fun _ _ _ h => h) (by rfl) (v := ?v15) ?hy15 hHeld ?rest15
  case hy15 => (intro v hSw; obtain ⟨y0, y1, y2, y3, y4⟩ := hSw; first | (go_simp; done) | (go_simp; with_reducible rfl))
  try simp only [Act.put, List.setIfInBounds_toArray, List.set_cons_zero, List.set_cons_succ]
  refine rgnTake 16 rfl (by kernel_rfl) (by kernel_rfl) (by kernel_rfl) (fun _ _ _ h => h) (by rfl) (v := ?v16) ?hy16 hHeld ?rest16
  case hy16 => (intro v hSw; obtain ⟨y0, y1, y2, y3, y4⟩ := hSw; first | (go_simp; done) | (go_simp; with_reducible rfl))
  try simp only [Act.put, List.setIfInBounds_toArray, List.set_cons_zero, List.set_cons_succ]
  have SA := Lib.hid (show (w1.alloc (.cells #[.string x.1, .int .i64 x.2] 123)).drew.cell? ⟨T, 0, none⟩ = some (.slice (some ⟨g, 0, none⟩) n c) ∧ (w1.alloc (.cells #[.string x.1, .int .i64 x.2] 123)).drew.cell? ⟨q4, 0, none⟩ = some (.int .i64 p) ∧ (w1.alloc (.cells #[.string x.1, .int .i64 x.2] 123)).drew.cell? ⟨q4, 1, none⟩ = some (.int .i64 i) ∧ (w1.alloc (.cells #[.string x.1, .int .i64 x.2] 123)).drew.cell? ⟨q4 + 1, 0, none⟩ = some (.string x.1) ∧ (w1.alloc (.cells #[.string x.1, .int .i64 x.2] 123)).drew.cell? ⟨q4 + 1, 1, none⟩ = some (.int .i64 x.2) from
    HS2.out _ (Turn.refl _ _))
  have HS3 := Lib.hid (show ∀ (w2 : World) (v' : Value), (w2.cell? ⟨T, 0, none⟩ = some (.slice (some ⟨g, 0, none⟩) n c) ∧ w2.cell? ⟨q4, 0, none⟩ = some (.int .i64 p) ∧ w2.cell? ⟨q4, 1, none⟩ = some (.int .i64 i) ∧ w2.cell? ⟨q4 + 1, 0, none⟩ = some (.string x.1) ∧ w2.cell? ⟨q4 + 1, 1, none⟩ = some (.int .i64 x.2)) → (w2.setCell ⟨g, p, none⟩ v').cell? ⟨T, 0, none⟩ = some (.slice (some ⟨g, 0, none⟩) n c) ∧ (w2.setCell ⟨g, p, none⟩ v').cell? ⟨q4, 0, none⟩ = some (.int .i64 p) ∧ (w2.setCell ⟨g, p, none⟩ v').cell? ⟨q4, 1, none⟩ = some (.int .i64 i) ∧ (w2.setCell ⟨g, p, none⟩ v').cell? ⟨q4 + 1, 0, none⟩ = some (.string x.1) ∧ (w2.setCell ⟨g, p, none⟩ v').cell? ⟨q4 + 1, 1, none⟩ = some (.int .i64 x.2) from fun w2 v' h => by
    have e := fun k (hk : k ≠ g) => Below.heap_setCell w2 ⟨g, p, none⟩ v' k hk
    exact ⟨(World.cell?_of_block (a := ⟨T, 0, none⟩) (e T (Ne.symm gT))).trans h.1, (World.cell?_of_block (a := ⟨q4, 0, none⟩) (e q4 (Ne.symm g4))).trans h.2.1, (World.cell?_of_block (a := ⟨q4, 1, none⟩) (e q4 (Ne.symm g4))).trans h.2.2.1, (World.cell?_of_block (a := ⟨q4 + 1, 0, none⟩) (e _ (Ne.symm g5))).trans h.2.2.2.1, (World.cell?_of_block (a := ⟨q4 + 1, 1, none⟩) (e _ (Ne.symm g5))).trans h.2.2.2.2⟩)
  refine rgnTwo 13 17 rfl rfl (by kernel_rfl) (fun K hK => ?_) (fun K hK => ?_)
  · go_simp
    refine hK.out _ _ (C1.out) (fun hHeld => ?_)
    clear hK K
    try simp only [Act.put, List.setIfInBounds_toArray, List.set_cons_zero, List.set_cons_succ]
    refine rgnOne 17 rfl (by kernel_rfl) (fun K hK => ?_)
    go_simp
    refine hK.out _ _ (SA.out) (fun hHeld => ?_)
    clear hK K
    try simp only [Act.put, List.setIfInBounds_toArray, List.set_cons_zero, List.set_cons_succ]
    refine rgnOne 18 rfl (by kernel_rfl) (fun K hK => ?_)
    go_simp
    refine IC'.out.mono ?_
    rintro r w2 ⟨v', rfl, hmv⟩
    obtain ⟨A2, c2, rfl, _⟩ := hmv.1.form
    have MV := Lib.hid hmv
    clear hmv
    refine hK.out _ _ ((HS2.out w2 MV.out.2.1)) (fun hHeld => ?_)
    clear hK K
    try simp only [Act.put, List.setIfInBounds_toArray, List.set_cons_zero, List.set_cons_succ]
    refine rgnTake 19 rfl (by kernel_rfl) (by kernel_rfl) (by kernel_rfl) (fun _ _ _ h => h) (by rfl) (v := ?v17) ?hy17 hHeld ?rest17
    case hy17 => (intro v hSw; obtain ⟨y0, y1, y2, y3, y4⟩ := hSw; first | (go_simp; done) | (go_simp; with_reducible rfl))
    try simp only [Act.put, List.setIfInBounds_toArray, List.set_cons_zero, List.set_cons_succ]
    have cg2 := (HG2.out w2 MV.out.2.1).1
    have fz2 := (HG2.out w2 MV.out.2.1).2
    refine rgnOne 20 rfl (by kernel_rfl) (fun K hK => ?_)
    go_simp
    refine hK.out _ _ ((HS3.out w2 _ (HS2.out w2 MV.out.2.1))) (fun hHeld => ?_)
    clear hK K
    try simp only [Act.put, List.setIfInBounds_toArray, List.set_cons_zero, List.set_cons_succ]
    refine wpAnyH_done (by kernel_rfl) ?_ _
    go_wp2_with fail
    exact bodyPost_end (results_none rfl _ _ _) rfl ⟨rfl, FIN.out _ w2 MV.out⟩
  · go_simp
    refine hK.out _ _ (SA.out) (fun hHeld => ?_)
    clear hK K
    try simp only [Act.put, List.setIfInBounds_toArray, List.set_cons_zero, List.set_cons_succ]
    have cg1 : (w1.alloc (.cells #[.string x.1, .int .i64 x.2] 123)).drew.cell? ⟨g, p, none⟩ = some (.slice (some ⟨b, o, none⟩) m cp) := (HG2.out _ (Turn.refl _ _)).1
    refine rgnOne 13 rfl (by kernel_rfl) (fun K hK => ?_)
    go_simp
    refine hK.out _ _ (SA.out) (fun hHeld => ?_)
    clear hK K
    try simp only [Act.put, List.setIfInBounds_toArray, List.set_cons_zero, List.set_cons_succ]
    clear cg1
    refine rgnOne 18 rfl (by kernel_rfl) (fun K hK => ?_)
    go_simp
    refine IC'.out.mono ?_
    rintro r w2 ⟨v', rfl, hmv⟩
    obtain ⟨A2, c2, rfl, _⟩ := hmv.1.form
    have MV := Lib.hid hmv
    clear hmv
    refine hK.out _ _ ((HS2.out w2 MV.out.2.1)) (fun hHeld => ?_)
    clear hK K
    try simp only [Act.put, List.setIfInBounds_toArray, List.set_cons_zero, List.set_cons_succ]
    refine rgnTake 19 rfl (by kernel_rfl) (by kernel_rfl) (by kernel_rfl) (fun _ _ _ h => h) (by rfl) (v := ?v18) ?hy18 hHeld ?rest18
    case hy18 => (intro v hSw; obtain ⟨y0, y1, y2, y3, y4⟩ := hSw; first | (go_simp; done) | (go_simp; with_reducible rfl))
    try simp only [Act.put, List.setIfInBounds_toArray, List.set_cons_zero, List.set_cons_succ]
    have cg2 := (HG2.out w2 MV.out.2.1).1
    have fz2 := (HG2.out w2 MV.out.2.1).2
    refine rgnOne 20 rfl (by kernel_rfl) (fun K hK => ?_)
    go_simp
    refine hK.out _ _ ((HS3.out w2 _ (HS2.out w2 MV.out.2.1))) (fun hHeld => ?_)
    clear hK K
    try simp only [Act.put, List.setIfInBounds_toArray, List.set_cons_zero, List.set_cons_succ]
    refine wpAnyH_done (by kernel_rfl) ?_ _
    go_wp2_with fail
    exact bodyPost_end (results_none rfl _ _ _) rfl ⟨rfl, FIN.out _ w2 MV.out⟩

end Go.Proofs.Ytbfgpdgiaclphaa

namespace Go.Proofs.Ytbfgpdgiaclphaa
open Go.RowKit

set_option maxHeartbeats 4000000 in
set_option maxRecDepth 100000 in
/-- drop -/
theorem xDrop (w : World) (T : Nat) (E : Nat → Prop) (s : Tab) (p i : Nat) (h : TabG w T E s) (hp : p < s.nds.length) (hi : i < (s.nd p).length) (hl : (s.nd p).length ≤ 100000) :
    Calls Try.prog 86 #[Ptr T, .agg #[.int .i64 p, .int .i64 i]] w fun r w' => r = .returned (.tuple #[]) ∧ LeftP w T E (s.put p ((s.nd p).take i ++ (s.nd p).drop (i + 1))) w' := by
  obtain ⟨rv, fv, vs, h⟩ := h
  have hp' : p < vs.length := by rw [h.len]; exact hp
  obtain ⟨g, c, hrv, hg, gT, hc⟩ := h.rowAt (by omega)
  obtain ⟨b, o, cp, ev, hw⟩ : ∃ b o cp, tnv vs p = .slice (some ⟨b, o, none⟩) (s.nd p).length cp ∧ WinAt w b o cp (s.nd p) := by
    rcases h.node p hp' with ⟨_, e⟩ | h
    · rw [e] at hi; exact absurd hi (by simp)
    · exact h
  have bE := h.eW p b o hp' ⟨o, _, cp, ev, Nat.le_refl _, by have := hw.pos; omega⟩
  obtain ⟨q4, hq4⟩ : ∃ q4, q4 = w.heap.size := ⟨_, rfl⟩
  have lT := h.lt T h.eT
  have lg := h.lt g hg
  have lb := h.lt b bE.1
  obtain ⟨w1, hw1⟩ : ∃ w1, w1 = w.alloc (.cells #[.int .i64 p, .int .i64 i] 150) := ⟨_, rfl⟩
  have b1 : Below w.heap.size w w1 := by rw [hw1]; exact (Below.refl _ _).alloc (Nat.le_refl _) _
  have s1 : w1.heap.size = q4 + 1 := by rw [hw1, hq4]; simp
  have r4 : RowAt w1 q4 [.int .i64 p, .int .i64 i] 150 := by rw [hw1, hq4]; exact RowAt.new w _ _
  have hW1 : WinAt w1.drew b o cp (s.nd p) := by
    have t : Turn (fun _ _ => False) w w1.drew := Turn.of_below b1.drew
    exact hw.turn t fun _ _ _ e => e
  have v1 := h.below b1
  obtain ⟨ns, hns⟩ : ∃ ns, ns = (s.nd p).take i ++ (s.nd p).drop (i + 1) := ⟨_, rfl⟩
  obtain ⟨m, hm⟩ : ∃ m, m = (s.nd p).length := ⟨_, rfl⟩
  obtain ⟨n, hn⟩ : ∃ n, n = vs.length := ⟨_, rfl⟩
  have IC : Calls Try.prog 95 #[.slice (some ⟨b, o, none⟩) m cp, .int .i64 i, .int .i64 ((i : Int) + 1)] w1.drew (MvPost w1.drew (.slice (some ⟨b, o, none⟩) m cp) ns) := by
    rw [hm, hns]
    exact xDelete _ b o cp i (s.nd p) hW1 hi hl
  have IC' := Lib.hid IC
  have HV1 := Lib.hid v1
  have HV := Lib.hid h
  have B1 := Lib.hid b1
  have BE := Lib.hid bE
  have HRV := Lib.hid hrv
  have EV := Lib.hid ev
  have HM := Lib.hid hm
  have HN := Lib.hid hn
  have S1 := Lib.hid s1
  have HQ := Lib.hid hq4
  have C1 := Lib.hid (show w1.cell? ⟨T, 0, none⟩ = some (.slice (some ⟨g, 0, none⟩) n c) ∧ w1.cell? ⟨q4, 0, none⟩ = some (.int .i64 p) ∧ w1.cell? ⟨q4, 1, none⟩ = some (.int .i64 i) from
    ⟨by have := v1.row.cell 0; rw [hrv, ← hn] at this; exact this, r4.cell 0, r4.cell 1⟩)
  have CG := Lib.hid (show w1.cell? ⟨g, p, none⟩ = some (.slice (some ⟨b, o, none⟩) m cp) from by
    have e := (b1.cell (p := ⟨g, p, none⟩) lg).trans (hc p hp').1
    rw [ev, ← hm] at e; exact e)
  have LT := Lib.hid (show T < q4 ∧ g < q4 ∧ b < q4 from ⟨by omega, by omega, by omega⟩)
  have wi : IntKind.i64.wrap ((i : Int) + 1) = (i : Int) + 1 := by rw [IntKind.wrap_i64]; omega
  rw [← hns]
  rw [← hn] at hp'
  have HW1 := Lib.hid hw1
  clear hc h hw bE lT lg lb b1 s1 r4 v1 hW1 hm hn IC hi hl hp ev hns
  go_enter Try.func86, Try.ntmps86
  go_wp2_with fail
  rw [← HW1.out, ← HQ.out]
  clear hw1 hq4
  have g4 : g ≠ q4 := by have := LT.out; omega
  have c0 := C1.out.1
  have c1 := C1.out.2.1
  have c2 := C1.out.2.2
  have cg := CG.out
  have ss := S1.out
  refine wp_region_held_drew (S := (fun w' => w'.cell? ⟨T, 0, none⟩ = some (.slice (some ⟨g, 0, none⟩) n c) ∧ w'.cell? ⟨q4, 0, none⟩ = some (.int .i64 p) ∧ w'.cell? ⟨q4, 1, none⟩ = some (.int .i64 i))) (by kernel_rfl) (C1.out) (fun hHeld => ?_)
  have keep2 : ∀ w2 : World, Turn (InWin (.slice (some ⟨b, o, none⟩) m cp)) w1.drew w2 → ∀ k, k < q4 + 1 → k ≠ b → w2.heap[k]? = w1.heap[k]? := fun w2 t k hk hn =>
    t.block k (by rw [heap_drew, S1.out]; omega) (fun j ⟨_, _, _, e, _⟩ => hn (by injection e with e _ _; injection e with e; injection e with e _ _; exact e.symm))
  have bT := BE.out.2.1
  have bg : b ≠ g := fun e => BE.out.2.2.1 (by rw [HRV.out, e]; rfl)
  have K2 := Lib.hid keep2
  have HS2 := Lib.hid (show ∀ w2 : World, Turn (InWin (.slice (some ⟨b, o, none⟩) m cp)) w1.drew w2 → w2.cell? ⟨T, 0, none⟩ = some (.slice (some ⟨g, 0, none⟩) n c) ∧ w2.cell? ⟨q4, 0, none⟩ = some (.int .i64 p) ∧ w2.cell? ⟨q4, 1, none⟩ = some (.int .i64 i) from fun w2 t => by
    have L := LT.out
    exact ⟨(World.cell?_of_block (a := ⟨T, 0, none⟩) (K2.out w2 t T (by omega) (fun e => bT e.symm))).trans C1.out.1, (World.cell?_of_block (a := ⟨q4, 0, none⟩) (K2.out w2 t q4 (by omega) (by omega))).trans C1.out.2.1, (World.cell?_of_block (a := ⟨q4, 1, none⟩) (K2.out w2 t q4 (by omega) (by omega))).trans C1.out.2.2⟩)
  have HG2 := Lib.hid (show ∀ w2 : World, Turn (InWin (.slice (some ⟨b, o, none⟩) m cp)) w1.drew w2 → w2.cell? ⟨g, p, none⟩ = some (.slice (some ⟨b, o, none⟩) m cp) ∧ w2.frozen? ⟨g, p, none⟩ = false from fun w2 t => by
    have L := LT.out
    have e := K2.out w2 t g (by omega) (fun e => bg e.symm)
    refine ⟨(World.cell?_of_block (a := ⟨g, p, none⟩) e).trans CG.out, ?_⟩
    rw [World.frozen?_of_block (a := ⟨g, p, none⟩) e]
    have HP := HV1.out.rowAt (by rw [← HN.out]; omega)
    obtain ⟨g', c', e1, _, _, hc⟩ := HP
    rw [HRV.out] at e1
    injection e1 with e1 _ _
    injection e1 with e1
    injection e1 with e1 _ _
    subst e1
    exact (hc p (by rw [← HN.out]; exact hp')).2)
  have FIN := Lib.hid (show ∀ (v' : Value) (w2 : World), Moved w1.drew (.slice (some ⟨b, o, none⟩) m cp) ns v' w2 → LeftP w T E (s.put p ns) (w2.setCell ⟨g, p, none⟩ v') from fun v' w2 hm => by
    obtain ⟨W, hW⟩ : ∃ W, W = w1.drew := ⟨_, rfl⟩
    rw [← hW] at hm
    have bW : Below w.heap.size w W := by rw [hW]; exact B1.out.drew
    have sW : W.heap.size = q4 + 1 := by rw [hW, heap_drew, S1.out]
    have ev : .slice (some ⟨b, o, none⟩) m cp = tnv vs p := by rw [EV.out, HM.out]
    rw [ev] at hm
    obtain ⟨h1, h2, h3, _⟩ := hm
    have hp : p < vs.length := by rw [← HN.out]; exact hp'
    have q := HQ.out
    refine ⟨fun k => k < w2.heap.size ∧ (E k ∨ W.heap.size ≤ k), ⟨_, _, _, (HV.out.below bW).moved hp HRV.out h1 h2 h3 (fun k e => ⟨?_, .inl e⟩) (fun k e f => ⟨f, .inr e⟩) (fun k e => e.1)⟩, fun k e => ?_, ?_⟩
    · have := HV.out.lt k e
      have := h2.size
      omega
    · rcases e.2 with f | f
      · exact .inl f
      · exact .inr (by omega)
    · refine Chg.setCell ?_ (.inl ?_) _
      · exact (Chg.of_below bW).then (h2.chg fun k j e => (HV.out.eW p k j hp e).1)
      · exact (HV.out.eN g (by rw [HRV.out]; rfl)).1)
  clear keep2
  have HS3 := Lib.hid (show ∀ (w2 : World) (v' : Value), (w2.cell? ⟨T, 0, none⟩ = some (.slice (some ⟨g, 0, none⟩) n c) ∧ w2.cell? ⟨q4, 0, none⟩ = some (.int .i64 p) ∧ w2.cell? ⟨q4, 1, none⟩ = some (.int .i64 i)) → (w2.setCell ⟨g, p, none⟩ v').cell? ⟨T, 0, none⟩ = some (.slice (some ⟨g, 0, none⟩) n c) ∧ (w2.setCell ⟨g, p, none⟩ v').cell? ⟨q4, 0, none⟩ = some (.int .i64 p) ∧ (w2.setCell ⟨g, p, none⟩ v').cell? ⟨q4, 1, none⟩ = some (.int .i64 i) from fun w2 v' h => by
    have e := fun k (hk : k ≠ g) => Below.heap_setCell w2 ⟨g, p, none⟩ v' k hk
    exact ⟨(World.cell?_of_block (a := ⟨T, 0, none⟩) (e T (Ne.symm gT))).trans h.1, (World.cell?_of_block (a := ⟨q4, 0, none⟩) (e q4 (Ne.symm g4))).trans h.2.1, (World.cell?_of_block (a := ⟨q4, 1, none⟩) (e q4 (Ne.symm g4))).trans h.2.2⟩)
  refine rgnTake 0 rfl (by kernel_rfl) (by kernel_rfl) (by kernel_rfl) (fun _ _ _ h => h) (by rfl) (v := ?v1) ?hy1 hHeld ?rest1
  case hy1 => (intro v hSw; obtain ⟨y0, y1, y2⟩ := hSw; first | (go_simp; done) | (go_simp; with_reducible rfl))
  try simp only [Act.put, List.setIfInBounds_toArray, List.set_cons_zero, List.set_cons_succ]
  refine rgnTake 1 rfl (by kernel_rfl) (by kernel_rfl) (by kernel_rfl) (fun _ _ _ h => h) (by rfl) (v := ?v2) ?hy2 hHeld ?rest2
  case hy2 => (intro v hSw; obtain ⟨y0, y1, y2⟩ := hSw; first | (go_simp; done) | (go_simp; with_reducible rfl))
  try simp only [Act.put, List.setIfInBounds_toArray, List.set_cons_zero, List.set_cons_succ]
  refine rgnTake 2 rfl (by kernel_rfl) (by kernel_rfl) (by kernel_rfl) (fun _ _ _ h => h) (by rfl) (v := ?v3) ?hy3 hHeld ?rest3
  case hy3 => (intro v hSw; obtain ⟨y0, y1, y2⟩ := hSw; first | (go_simp; done) | (go_simp; with_reducible rfl))
  try simp only [Act.put, List.setIfInBounds_toArray, List.set_cons_zero, List.set_cons_succ]
  refine rgnTake 3 rfl (by kernel_rfl) (by kernel_rfl) (by kernel_rfl) (fun _ _ _ h => h) (by rfl) (v := ?v4) ?hy4 hHeld ?rest4
  case hy4 => (intro v hSw; obtain ⟨y0, y1, y2⟩ := hSw; first | (go_simp; done) | (go_simp; with_reducible rfl))
  try simp only [Act.put, List.setIfInBounds_toArray, List.set_cons_zero, List.set_cons_succ]
  refine rgnTake 4 rfl (by kernel_rfl) (by kernel_rfl) (by kernel_rfl) (fun _ _ _ h => h) (by rfl) (v := ?v5) ?hy5 hHeld ?rest5
  case hy5 => (intro v hSw; obtain ⟨y0, y1, y2⟩ := hSw; first | (go_simp; done) | (go_simp; with_reducible rfl))
  try simp only [Act.put, List.setIfInBounds_toArray, List.set_cons_zero, List.set_cons_succ]
  refine rgnTake 5 rfl (by kernel_rfl) (by kernel_rfl) (by kernel_rfl) (fun _ _ _ h => h) (by rfl) (v := ?v6) ?hy6 hHeld ?rest6
  case hy6 => (intro v hSw; obtain ⟨y0, y1, y2⟩ := hSw; first | (go_simp; done) | (go_simp; with_reducible rfl))
  try simp only [Act.put, List.setIfInBounds_toArray, List.set_cons_zero, List.set_cons_succ]
  refine rgnTake 6 rfl (by kernel_rfl) (by kernel_rfl) (by kernel_rfl) (fun _ _ _ h => h) (by rfl) (v := ?v7) ?hy7 hHeld ?rest7
  case hy7 => (intro v hSw; obtain ⟨y0, y1, y2⟩ := hSw; first | (go_simp; done) | (go_simp; with_reducible rfl))
  try simp only [Act.put, List.setIfInBounds_toArray, List.set_cons_zero, List.set_cons_succ]
  refine rgnTake 7 rfl (by kernel_rfl) (by kernel_rfl) (by kernel_rfl) (fun _ _ _ h => h) (by rfl) (v := ?v8) ?hy8 hHeld ?rest8
  case hy8 => (intro v hSw; obtain ⟨y0, y1, y2⟩ := hSw; first | (go_simp; done) | (go_simp; with_reducible rfl))
  try simp only [Act.put, List.setIfInBounds_toArray, List.set_cons_zero, List.set_cons_succ]
  refine rgnTake 8 rfl (by kernel_rfl) (by kernel_rfl) (by kernel_rfl) (fun _ _ _ h => h) (by rfl) (v := ?v9) ?hy9 hHeld ?rest9
  case hy9 => (intro v hSw; obtain ⟨y0, y1, y2⟩ := hSw; first | (go_simp; done) | (go_simp; with_reducible rfl))
  try simp only [Act.put, List.setIfInBounds_toArray, List.set_cons_zero, List.set_cons_succ]
  refine rgnTake 9 rfl (by kernel_rfl) (by kernel_rfl) (by kernel_rfl) (fun _ _ _ h => h) (by rfl) (v := ?v10) ?hy10 hHeld ?rest10
  case hy10 => (intro v hSw; obtain ⟨y0, y1, y2⟩ := hSw; first | (go_simp; done) | (go_simp; with_reducible rfl))
  try simp only [Act.put, List.setIfInBounds_toArray, List.set_cons_zero, List.set_cons_succ]
  refine rgnTake 10 rfl (by kernel_rfl) (by kernel_rfl) (by kernel_rfl) (fun _ _ _ h => h) (by rfl) (v := ?v11) ?hy11 hHeld ?rest11
  case hy11 => (intro v hSw; obtain ⟨y0, y1, y2⟩ := hSw; first | (go_simp; done) | (go_simp; with_reducible rfl))
  try simp only [Act.put, List.setIfInBounds_toArray, List.set_cons_zero, List.set_cons_succ]
  refine rgnTake 11 rfl (by kernel_rfl) (by kernel_rfl) (by kernel_rfl) (fun _ _ _ h => h) (by rfl) (v := ?v12) ?hy12 hHeld ?rest12
  case hy12 => (intro v hSw; obtain ⟨y0, y1, y2⟩ := hSw; first | (go_simp; done) | (go_simp; with_reducible rfl))
  try simp only [Act.put, List.setIfInBounds_toArray, List.set_cons_zero, List.set_cons_succ]
  refine rgnTake 12 rfl (by kernel_rfl) (by kernel_rfl) (by kernel_rfl) (fun _ _ _ h => h) (by rfl) (v := ?v13) ?hy13 hHeld ?rest13
  case hy13 => (intro v hSw; obtain ⟨y0, y1, y2⟩ := hSw; first | (go_simp; done) | (go_simp; with_reducible rfl))
  try simp only [Act.put, List.setIfInBounds_toArray, List.set_cons_zero, List.set_cons_succ]
  refine rgnTake 14 rfl (by kernel_rfl) (by kernel_rfl) (by kernel_rfl) (fun _ _ _ h => h) (by rfl) (v := ?v14) ?hy14 hHeld ?rest14
  case hy14 => (intro v hSw; obtain ⟨y0, y1, y2⟩ := hSw; first | (go_simp; done) | (go_simp; with_reducible rfl))
  try simp only [Act.put, List.setIfInBounds_toArray, List.set_cons_zero, List.set_cons_succ]
  refine rgnTake 15 rfl (by kernel_rfl) (by kernel_rfl) (by kernel_rfl) (fun _ _ _ h => h) (by rfl) (v := ?v15) ?hy15 hHeld ?rest15
  case hy15 => (intro v hSw; obtain ⟨y0, y1, y2⟩ := hSw; first | (go_simp; done) | (go_simp; with_reducible rfl))
  try simp only [Act.put, List.setIfInBounds_toArray, List.set_cons_zero, List.set_cons_succ]
  refine rgnTake 16 rfl (by kernel_rfl) (by kernel_rfl) (by kernel_rfl) (fun _ _ _ h => h) (by rfl) (v := ?v16) ?hy16 hHeld ?rest16
  case hy16 => (intro v hSw; obtain ⟨y0, y1, y2⟩ := hSw; first | (go_simp; done) | (go_simp; with_reducible rfl))
  try simp only [Act.put, List.setIfInBounds_toArray, List.set_cons_zero, List.set_cons_succ]
  refine rgnTake 17 rfl (by kernel_rfl) (by kernel_rfl) (by kernel_rfl) (fun _ _ _ h => h) (by rfl) (v := ?v17) ?hy17 hHeld ?rest17
  case hy17 => (intro v hSw; obtain ⟨y0, y1, y2⟩ := hSw; first | (go_simp; done) | (go_simp; with_reducible rfl))
  try simp only [Act.put, List.setIfInBounds_toArray, List.set_cons_zero, List.set_cons_succ]
  refine rgnTake 18 rfl (by kernel_rfl) (by kernel_rfl) (by kernel_rfl) (fun _ _ _ h => h) (by rfl) (v := ?v18) ?hy18 hHeld ?rest18
  case hy18 => (intro v hSw; obtain ⟨y0, y1, y2⟩ := hSw; first | (go_simp; done) | (go_simp; with_reducible rfl))
  try simp only [Act.put, List.setIfInBounds_toArray, List.set_cons_zero, List.set_cons_succ]
  refine rgnOne 13 rfl (by kernel_rfl) (fun K hK => ?_)
  go_simp
  refine hK.out _ _ (C1.out) (fun hHeld => ?_)
  clear hK K
  try simp only [Act.put, List.setIfInBounds_toArray, List.set_cons_zero, List.set_cons_succ]
  refine rgnOne 19 rfl (by kernel_rfl) (fun K hK => ?_)
  go_simp
  refine IC'.out.mono ?_
  rintro r w2 ⟨v', rfl, hmv⟩
  obtain ⟨A2, c2, rfl, _⟩ := hmv.1.form
  have MV := Lib.hid hmv
  clear hmv
  refine hK.out _ _ ((HS2.out w2 MV.out.2.1)) (fun hHeld => ?_)
  clear hK K
  try simp only [Act.put, List.setIfInBounds_toArray, List.set_cons_zero, List.set_cons_succ]
  refine rgnTake 20 rfl (by kernel_rfl) (by kernel_rfl) (by kernel_rfl) (fun _ _ _ h => h) (by rfl) (v := ?v19) ?hy19 hHeld ?rest19
  case hy19 => (intro v hSw; obtain ⟨y0, y1, y2⟩ := hSw; first | (go_simp; done) | (go_simp; with_reducible rfl))
  try simp only [Act.put, List.setIfInBounds_toArray, List.set_cons_zero, List.set_cons_succ]
  have cg2 := (HG2.out w2 MV.out.2.1).1
  have fz2 := (HG2.out w2 MV.out.2.1).2
  refine rgnOne 21 rfl (by kernel_rfl) (fun K hK => ?_)
  go_simp
  refine hK.out _ _ ((HS3.out w2 _ (HS2.out w2 MV.out.2.1))) (fun hHeld => ?_)
  clear hK K
  try simp only [Act.put, List.setIfInBounds_toArray, List.set_cons_zero, List.set_cons_succ]
  refine wpAnyH_done (by kernel_rfl) ?_ _
  go_wp2_with fail
  exact bodyPost_end (results_none rfl _ _ _) rfl ⟨rfl, FIN.out _ w2 MV.out⟩

end Go.Proofs.Ytbfgpdgiaclphaa

namespace Go.Proofs.Ytbfgpdgiaclphaa
open Go.RowKit

theorem infoNd : (Try.prog.info? 148).map (fun i => (i.zero, i.size, i.bytes)) = some (some (.slice none 0 0), 1, 24) := by kernel_rfl
section
variable {w : World} {ops : Array Oper} {rest : List Oper} {o : Oper} {a : Act} {Q : Exit → Act → World → Prop}
set_option maxRecDepth 100000 in
/-- append(nodes, l) -/
theorem wp_putNd (hgd : o.guard = none) (s x : Operand)
    (ho : o.op = .call { callee := .builtin .append, args := #[s, x], argTypes := #[134, 134] })
    (v : Value) (xs : List Value) (hs : a.eval s = v) (hown : w.ownsRow 0 148 1 v xs.length xs) (g : Nat) (y : Value) (hy : y.oneCell' = true) (hx : a.eval x = .slice (some ⟨g, 0, none⟩) 1 1)
    (hc : w.cell? ⟨g, 0, none⟩ = some y) (hl : xs.length + 1 ≤ 1000000)
    (h : ∀ g' c' w', w'.ownsRow 0 148 1 (.slice (some ⟨g', 0, none⟩) (xs.length + 1) c') (xs ++ [y]).length (xs ++ [y]) → w.grownBy w' v.ownBlock → (v.ownBlock = some g' ∨ g' = w.heap.size) → wpList Try.prog ops Q rest (a.put o.dst (.slice (some ⟨g', 0, none⟩) (xs.length + 1) c')) w') : wpList Try.prog ops Q (o :: rest) a w := by
  obtain ⟨i0, hi, hz0, hz1, hz2⟩ := info_parts infoNd
  refine wpList_append_own_at w hgd s x 134 ho 0 148 i0 _ 1 24 Try.underlying134 hi hz0 hz1 hz2 rfl (by decide) v xs.length _ hs hown ⟨g, 0, none⟩ 1 1 [y] hx rfl ?_ ?_
    (by unfold maxLen; omega) (by omega) (Nat.zero_le _) ?_
  · intro j u hj
    cases j with
    | zero => simp at hj; subst hj; exact hc
    | succ j => simp at hj
  · intro u hu; simp at hu; subst hu; exact hy
  · intro v' w' h1 h2 _ h3
    rcases h1.2 with ⟨_, e⟩ | ⟨g', cap, cur, rfl, hr⟩
    · omega
    · refine h g' cap w' ⟨by simp, .inr ⟨g', cap, cur, by simp, by simpa using hr⟩⟩ h2 ?_
      rcases h3 with e | e
      · exact .inl e.symm
      · injection e with e; exact .inr e
set_option maxRecDepth 100000 in
/-- append(ints, x): and where it lies -/
theorem wp_putJa (hgd : o.guard = none) (s x : Operand)
    (ho : o.op = .call { callee := .builtin .append, args := #[s, x], argTypes := #[32, 32] })
    (v : Value) (zs : List Int) (hs : a.eval s = v) (hown : OwnJ w 0 v zs) (g : Nat) (y : Int) (hx : a.eval x = .slice (some ⟨g, 0, none⟩) 1 1)
    (hc : w.cell? ⟨g, 0, none⟩ = some (.int .i64 y)) (hl : zs.length + 1 ≤ 1000000)
    (h : ∀ g' c' w', OwnJ w' 0 (.slice (some ⟨g', 0, none⟩) (zs.length + 1) c') (zs ++ [y]) → w.grownBy w' v.ownBlock → (v.ownBlock = some g' ∨ g' = w.heap.size) → wpList Try.prog ops Q rest (a.put o.dst (.slice (some ⟨g', 0, none⟩) (zs.length + 1) c')) w') : wpList Try.prog ops Q (o :: rest) a w := by
  obtain ⟨i0, hi, hz0, hz1, hz2⟩ := info_parts infoJ
  refine wpList_append_own_at w hgd s x 32 ho 0 3 i0 _ 1 8 Try.underlying32 hi hz0 hz1 hz2 rfl (by decide) v zs.length _ hs hown ⟨g, 0, none⟩ 1 1 [.int .i64 y] hx rfl ?_ ?_
    (by unfold maxLen; omega) (by omega) (Nat.zero_le _) ?_
  · intro j u hj
    cases j with
    | zero => simp at hj; subst hj; exact hc
    | succ j => simp at hj
  · intro u hu; simp at hu; subst hu; rfl
  · intro v' w' h1 h2 _ h3
    rcases h1.2 with ⟨_, e⟩ | ⟨g', cap, cur, rfl, hr⟩
    · omega
    · refine h g' cap w' ⟨by simp, .inr ⟨g', cap, cur, by simp, by simpa using hr⟩⟩ h2 ?_
      rcases h3 with e | e
      · exact .inl e.symm
      · injection e with e; exact .inr e
end
theorem OwnJ.cut {w : World} {g n c k : Nat} {zs : List Int} (h : OwnJ w 0 (.slice (some ⟨g, 0, none⟩) n c) zs) (hk : k ≤ zs.length) : OwnJ w 0 (.slice (some ⟨g, 0, none⟩) k c) (zs.take k) := by
  rcases h.2 with ⟨e, _⟩ | ⟨g', cap, cur, e, hB, hg, hnc, hcm, hcs, ht⟩
  · cases e
  · injection e with e1 e2 e3
    injection e1 with e1
    injection e1 with e1 _ _
    subst e1; subst e3
    have hl : (zs.take k).length = k := by rw [List.length_take]; omega
    refine ⟨by simp, .inr ⟨g, c, cur, by rw [hl], hB, hg, by omega, hcm, hcs, ?_⟩⟩
    rw [hl, List.map_take, ← ht, List.take_take]
    congr 1
    omega

section
variable {w w' : World} {T : Nat} {E : Nat → Prop} {s : Tab} {rv fv : Value} {vs : List Value}
/-- a node that lies loose is laid in the row -/
theorem TabV.putV {i g c : Nat} {v : Value} {zs : KV} (h : TabV w T E s rv fv vs) (hi : i < vs.length) (hr : rv = .slice (some ⟨g, 0, none⟩) vs.length c) (hm : NodeAt w v zs)
    (hl : ∀ k q, InWin v k q → (E k ∧ k ≠ T ∧ rv.ownBlock ≠ some k ∧ fv.ownBlock ≠ some k) ∧ ∀ j, j < vs.length → j ≠ i → ¬ InWin (tnv vs j) k q) :
    TabV (w.setCell ⟨g, i, none⟩ v) T E (s.put i zs) rv fv (vs.set i v) := by
  have eg := h.eN g (by rw [hr]; rfl)
  have k0 : ∀ k, k ≠ g → (w.setCell ⟨g, i, none⟩ v).heap[k]? = w.heap[k]? := fun k q => Below.heap_setCell _ _ _ _ q
  have gw : ∀ k, rv.ownBlock ≠ some k → k ≠ g := fun k e t => e (by rw [hr, t]; rfl)
  refine ⟨h.row.other (fun e => eg.2 e) _, ?_, own_keep h.free fun k e => k0 k (gw k (h.eF k e).2.2), by rw [List.length_set, h.len]; show _ = (s.nds.set i zs).length; rw [List.length_set], fun j hj => ?_, fun j l k q hj hl' e1 e2 => ?_, h.eT, h.eN, h.eF, fun j k q hj e => ?_, fun k e => ?_⟩
  · rw [List.length_set]
    have rN := h.nodes
    rw [hr] at rN ⊢
    exact (rN.stored i v).1
  · rw [List.length_set] at hj
    rw [nv_set hi, Tab.put_nd (by rw [← h.len]; exact hi)]
    by_cases e : j = i
    · rw [if_pos e, if_pos e]
      exact hm.keep fun k q f => k0 k (gw k (hl k q f).1.2.2.1)
    · rw [if_neg e, if_neg e]
      exact (h.node j hj).keep fun k q f => k0 k (gw k (h.eW j k q hj f).2.2.1)
  · rw [List.length_set] at hj hl'
    rw [nv_set hi] at e1 e2
    by_cases c1 : j = i
    · by_cases c2 : l = i
      · omega
      · rw [if_pos c1] at e1
        rw [if_neg c2] at e2
        exact absurd e2 ((hl k q e1).2 l hl' c2)
    · by_cases c2 : l = i
      · rw [if_neg c1] at e1
        rw [if_pos c2] at e2
        exact absurd e1 ((hl k q e2).2 j hj c1)
      · rw [if_neg c1] at e1
        rw [if_neg c2] at e2
        exact h.apart j l k q hj hl' e1 e2
  · rw [List.length_set] at hj
    rw [nv_set hi] at e
    by_cases c1 : j = i
    · rw [if_pos c1] at e; exact (hl k q e).1
    · rw [if_neg c1] at e; exact h.eW j k q hj e
  · have : (w.setCell ⟨g, i, none⟩ v).heap.size = w.heap.size := by simp [World.setCell]
    rw [this]; exact h.lt k e
theorem nv_push {vs : List Value} {v : Value} (j : Nat) (hj : j < (vs ++ [v]).length) : tnv (vs ++ [v]) j = if j < vs.length then tnv vs j else v := by
  unfold tnv
  rw [List.getD_eq_getElem?_getD, List.getD_eq_getElem?_getD]
  by_cases e : j < vs.length
  · rw [if_pos e, List.getElem?_append_left e]
  · have : j = vs.length := by simp at hj; omega
    subst this
    rw [if_neg e]; simp
/-- the row has grown by a node that lay loose -/
theorem TabV.pushed {E' : Nat → Prop} {v rv' : Value} {zs : KV} (h : TabV w T E s rv fv vs) (hm : NodeAt w v zs)
    (hl : ∀ k q, InWin v k q → (E k ∧ k ≠ T ∧ rv.ownBlock ≠ some k ∧ fv.ownBlock ≠ some k) ∧ ∀ j, j < vs.length → ¬ InWin (tnv vs j) k q)
    (ho : w'.ownsRow 0 148 1 rv' (vs ++ [v]).length (vs ++ [v])) (hg : w.grownBy w' rv.ownBlock) (hb : rv'.ownBlock = rv.ownBlock ∨ rv'.ownBlock = some w.heap.size)
    (hE : ∀ k, E k → E' k) (hE2 : ∀ k, w.heap.size ≤ k → k < w'.heap.size → E' k) (hlt : ∀ k, E' k → k < w'.heap.size) :
    TabV (w'.setCell ⟨T, 0, none⟩ rv') T E' { s with nds := s.nds ++ [zs] } rv' fv (vs ++ [v]) := by
  have k1 : ∀ k, E k → rv.ownBlock ≠ some k → w'.heap[k]? = w.heap[k]? := fun k e n => hg.block k (h.lt k e) (fun q => n q.symm)
  have k2 : ∀ k, k ≠ T → (w'.setCell ⟨T, 0, none⟩ rv').heap[k]? = w'.heap[k]? := fun k q => Below.heap_setCell _ _ _ _ q
  have nb : ∀ k, E k → rv.ownBlock ≠ some k → rv'.ownBlock ≠ some k := fun k e n q => by
    rcases hb with b | b
    · exact n (b.symm.trans q)
    · rw [b] at q
      injection q with q
      have := h.lt k e; omega
  have rT : RowAt w' T _ _ := (k1 T h.eT (fun e => (h.eN T e).2 rfl)).trans h.row
  have r := rT.set 0 rv'
  have ln := h.len
  have wk : ∀ j k q, j < (vs ++ [v]).length → InWin (tnv (vs ++ [v]) j) k q → E k ∧ k ≠ T ∧ rv.ownBlock ≠ some k ∧ fv.ownBlock ≠ some k := fun j k q hj e => by
    rw [nv_push j hj] at e
    by_cases c : j < vs.length
    · rw [if_pos c] at e; exact h.eW j k q c e
    · rw [if_neg c] at e; exact (hl k q e).1
  have nT : rv'.ownBlock ≠ some T := nb T h.eT (fun e => (h.eN T e).2 rfl)
  refine ⟨r, own_keep ho fun k e => k2 k (fun t => nT (by rw [← t]; exact e)), own_keep (own_keep h.free fun k e => k1 k (h.eF k e).1 (h.eF k e).2.2) fun k e => k2 k (h.eF k e).2.1, by simp [ln], fun j hj => ?_, fun j l k q hj hl' e1 e2 => ?_, hE T h.eT, fun k e => ⟨?_, fun t => nT (by rw [← t]; exact e)⟩, fun k e => ⟨hE k (h.eF k e).1, (h.eF k e).2.1, nb k (h.eF k e).1 (h.eF k e).2.2⟩, fun j k q hj e => ?_, fun k e => ?_⟩
  · have wj := wk j
    rw [nv_push j hj] at wj ⊢
    unfold Tab.nd
    show NodeAt _ _ ((s.nds ++ [zs]).getD j [])
    rw [List.getD_eq_getElem?_getD]
    by_cases c : j < vs.length
    · rw [if_pos c] at wj ⊢
      rw [List.getElem?_append_left (by omega)]
      have := (h.node j c).keep fun k q f => (k2 k (wj k q hj f).2.1).trans (k1 k (wj k q hj f).1 (wj k q hj f).2.2.1)
      rw [← List.getD_eq_getElem?_getD]; exact this
    · rw [if_neg c] at wj ⊢
      have : j = s.nds.length := by simp at hj; omega
      subst this
      simp only [List.getElem?_concat_length, Option.getD_some]
      exact hm.keep fun k q f => (k2 k (wj k q hj f).2.1).trans (k1 k (wj k q hj f).1 (wj k q hj f).2.2.1)
  · rw [nv_push j hj] at e1
    rw [nv_push l hl'] at e2
    by_cases c1 : j < vs.length
    · rw [if_pos c1] at e1
      by_cases c2 : l < vs.length
      · rw [if_pos c2] at e2; exact h.apart j l k q c1 c2 e1 e2
      · rw [if_neg c2] at e2; exact absurd e1 ((hl k q e2).2 j c1)
    · rw [if_neg c1] at e1
      by_cases c2 : l < vs.length
      · rw [if_pos c2] at e2; exact absurd e2 ((hl k q e1).2 l c2)
      · simp at hj hl'; omega
  · rcases hb with b | b
    · exact hE k (h.eN k (b.symm.trans e)).1
    · have := World.ownsRow.lt ho k e
      rw [b] at e
      injection e with e
      exact hE2 k (by omega) this.2
  · have := wk j k q hj e
    exact ⟨hE k this.1, this.2.1, nb k this.1 this.2.2.1, this.2.2.2⟩
  · have : (w'.setCell ⟨T, 0, none⟩ rv').heap.size = w'.heap.size := by simp [World.setCell]
    rw [this]; exact hlt k e
/-- the free places turn -/
theorem TabV.freed {E' : Nat → Prop} {fv' : Value} {l : List Nat} (h : TabV w T E s rv fv vs) (ho : OwnJ w' 0 fv' (frees l)) (hg : w.grownBy w' fv.ownBlock) (hb : fv'.ownBlock = fv.ownBlock ∨ fv'.ownBlock = some w.heap.size)
    (hE : ∀ k, E k → E' k) (hE2 : ∀ k, w.heap.size ≤ k → k < w'.heap.size → E' k) (hlt : ∀ k, E' k → k < w'.heap.size) :
    TabV (w'.setCell ⟨T, 1, none⟩ fv') T E' { s with free := l } rv fv' vs := by
  have k1 : ∀ k, E k → fv.ownBlock ≠ some k → w'.heap[k]? = w.heap[k]? := fun k e n => hg.block k (h.lt k e) (fun q => n q.symm)
  have k2 : ∀ k, k ≠ T → (w'.setCell ⟨T, 1, none⟩ fv').heap[k]? = w'.heap[k]? := fun k q => Below.heap_setCell _ _ _ _ q
  have nb : ∀ k, E k → fv.ownBlock ≠ some k → fv'.ownBlock ≠ some k := fun k e n q => by
    rcases hb with b | b
    · exact n (b.symm.trans q)
    · rw [b] at q
      injection q with q
      have := h.lt k e; omega
  have nT : fv'.ownBlock ≠ some T := nb T h.eT (fun e => (h.eF T e).2.1 rfl)
  have rT : RowAt w' T _ _ := (k1 T h.eT (fun e => (h.eF T e).2.1 rfl)).trans h.row
  have r := rT.set 1 fv'
  have fN : ∀ k, rv.ownBlock = some k → fv.ownBlock ≠ some k := fun k e q => (h.eF k q).2.2 e
  refine ⟨r, own_keep (own_keep h.nodes fun k e => k1 k (h.eN k e).1 (fN k e)) fun k e => k2 k (h.eN k e).2, own_keep ho fun k e => k2 k (fun t => nT (by rw [← t]; exact e)), h.len, fun j hj => (h.node j hj).keep fun k q f => (k2 k (h.eW j k q hj f).2.1).trans (k1 k (h.eW j k q hj f).1 (h.eW j k q hj f).2.2.2), h.apart, hE T h.eT,
    fun k e => ⟨hE k (h.eN k e).1, (h.eN k e).2⟩, fun k e => ⟨?_, fun t => nT (by rw [← t]; exact e), fun q => ?_⟩, fun j k q hj e => ⟨hE k (h.eW j k q hj e).1, (h.eW j k q hj e).2.1, (h.eW j k q hj e).2.2.1, nb k (h.eW j k q hj e).1 (h.eW j k q hj e).2.2.2⟩, fun k e => ?_⟩
  · rcases hb with b | b
    · exact hE k (h.eF k (b.symm.trans e)).1
    · have := World.ownsRow.lt ho k e
      rw [b] at e
      injection e with e
      exact hE2 k (by omega) this.2
  · exact nb k (h.eN k q).1 (fN k q) e
  · have : (w'.setCell ⟨T, 1, none⟩ fv').heap.size = w'.heap.size := by simp [World.setCell]
    rw [this]; exact hlt k e
theorem TabV.grow {E' : Nat → Prop} (h : TabV w T E s rv fv vs) (hE : ∀ k, E k → E' k) (hlt : ∀ k, E' k → k < w.heap.size) : TabV w T E' s rv fv vs :=
  ⟨h.row, h.nodes, h.free, h.len, h.node, h.apart, hE T h.eT, fun k e => ⟨hE k (h.eN k e).1, (h.eN k e).2⟩, fun k e => ⟨hE k (h.eF k e).1, (h.eF k e).2⟩, fun i k q hi e => ⟨hE k (h.eW i k q hi e).1, (h.eW i k q hi e).2⟩, hlt⟩
end

/-- a place for a node: one that is free, or a new one -/
def Tab.place (s : Tab) : Nat := match s.free.getLast? with
  | none => s.nds.length
  | some p => p
def Tab.take (s : Tab) (zs : KV) : Tab := match s.free.getLast? with
  | none => { s with nds := s.nds ++ [zs] }
  | some p => { s with nds := s.nds.set p zs, free := s.free.dropLast }
/-- what take leaves -/
def TookP (w : World) (T : Nat) (E : Nat → Prop) (s : Tab) (rv fv : Value) (zs : KV) (w' : World) : Prop :=
  LeftP w T E (s.take zs) w' ∧ ∀ k, k < w.heap.size → k ≠ T → rv.ownBlock ≠ some k → fv.ownBlock ≠ some k → w'.heap[k]? = w.heap[k]?

set_option maxHeartbeats 4000000 in
set_option maxRecDepth 100000 in
/-- take, a new place -/
theorem xTakeN (w : World) (T : Nat) (E : Nat → Prop) (s : Tab) (rv fv : Value) (vs : List Value) (A : Option Addr) (n c : Nat) (zs : KV) (h : TabV w T E s rv fv vs) (hm : NodeAt w (.slice A n c) zs)
    (hl : ∀ k q, InWin (.slice A n c) k q → (E k ∧ k ≠ T ∧ rv.ownBlock ≠ some k ∧ fv.ownBlock ≠ some k) ∧ ∀ j, j < vs.length → ¬ InWin (tnv vs j) k q) (hf : s.free = []) (hn : vs.length ≤ 900000) :
    Calls Try.prog 91 #[Ptr T, .slice A n c] w fun x w' => x = .returned (.int .i64 s.place) ∧ TookP w T E s rv fv zs w' := by
  have hp : s.place = vs.length := by unfold Tab.place; rw [hf, h.len]; rfl
  have ht : s.take zs = { s with nds := s.nds ++ [zs] } := by unfold Tab.take; rw [hf]; rfl
  have c0 := h.row.cell 0
  have c1 := h.row.cell 1
  simp only [List.getElem?_cons_zero, List.getElem?_cons_succ] at c0 c1
  have f0 := h.row.frozen 0
  obtain ⟨A1, cf, rfl, _⟩ := h.free.form
  rw [hf] at c1
  simp only [frees, List.map_nil, List.length_nil] at c1
  obtain ⟨A0, cn, hrv, _⟩ : ∃ A0 cn, rv = .slice A0 vs.length cn ∧ True := by
    rcases h.nodes.2 with ⟨e, e0⟩ | ⟨g, cap, cur, e, _⟩
    · exact ⟨none, 0, by rw [e, e0], trivial⟩
    · exact ⟨_, cap, e, trivial⟩
  subst hrv
  have H := Lib.hid h
  have HM := Lib.hid hm
  have HL := Lib.hid hl
  have lT := h.lt T h.eT
  unfold TookP
  rw [hp, ht]
  clear h hm hl hp ht hf
  obtain ⟨w1, hw1⟩ : ∃ w1, w1 = w.alloc (.cells #[.slice A n c] 148) := ⟨_, rfl⟩
  have B1 := Lib.hid (show Below w.heap.size w w1 by rw [hw1]; exact (Below.refl _ _).alloc (Nat.le_refl _) _)
  have S1 := Lib.hid (show w1.heap.size = w.heap.size + 1 by rw [hw1]; simp)
  have CQ := Lib.hid (show w1.cell? ⟨w.heap.size, 0, none⟩ = some (.slice A n c) by rw [hw1]; exact cell_new1 w _ _)
  have H1 := Lib.hid (H.out.below B1.out)
  have HM1 := Lib.hid (HM.out.keep (w' := w1) fun k q e => B1.out.block k (InWin.lt HM.out e))
  have HW1 := Lib.hid hw1
  obtain ⟨m, hm⟩ : ∃ m, m = vs.length := ⟨_, rfl⟩
  have HMM := Lib.hid hm
  rw [← hm] at c0 hn ⊢
  have nT : Value.ownBlock (.slice A0 vs.length cn) ≠ some T := fun e => (H.out.eN T e).2 rfl
  have NT := Lib.hid nT
  clear hw1 hm nT
  go_enter Try.func91, Try.ntmps91
  go_wp2_with (at_builtin; refine wp_putNd rfl (.tmp 19) (.tmp 21) rfl (.slice A0 vs.length cn) vs (by rw [← HMM.out]; rfl) (by rw [← HW1.out]; exact H1.out.nodes) w.heap.size (.slice A n c) rfl rfl (by rw [← HW1.out]; exact CQ.out) (by rw [← HMM.out]; omega) ?_; intro g' c' w2 ho hg hb; rw [← HW1.out] at hg hb; have HO := Lib.hid ho; have HG := Lib.hid hg; have HB := Lib.hid hb; have c0' : w2.cell? ⟨T, 0, none⟩ = some (.slice A0 m cn) := (World.cell?_of_block (a := ⟨T, 0, none⟩) (hg.block T (by rw [S1.out]; omega) (fun e => NT.out e.symm))).trans ((World.cell?_of_block (a := ⟨T, 0, none⟩) (B1.out.block T lT)).trans c0); have f0' : w2.frozen? ⟨T, 0, none⟩ = false := (World.frozen?_of_block (a := ⟨T, 0, none⟩) (hg.block T (by rw [S1.out]; omega) (fun e => NT.out e.symm))).trans ((World.frozen?_of_block (a := ⟨T, 0, none⟩) (B1.out.block T lT)).trans f0); clear ho hg hb; rw [← HMM.out])
  go_ret
  have hm := HMM.out
  have sz := HG.out.size
  have s1 := S1.out
  have hl : ∀ k q, InWin (.slice A n c) k q → (E k ∧ k ≠ T ∧ Value.ownBlock (.slice A0 vs.length cn) ≠ some k ∧ Value.ownBlock (.slice A1 (frees s.free).length cf) ≠ some k) ∧ ∀ j, j < vs.length → ¬ InWin (tnv vs j) k q := HL.out
  refine ⟨ret_int (by omega), ⟨fun k => k < w2.heap.size ∧ (E k ∨ w.heap.size ≤ k), ⟨_, _, _, H1.out.pushed (w' := w2) (E' := fun k => k < w2.heap.size ∧ (E k ∨ w.heap.size ≤ k)) HM1.out hl (by rw [hm]; exact HO.out) HG.out ?_ (fun k e => ⟨?_, .inl e⟩) (fun k e f => ⟨f, .inr (by omega)⟩) (fun k e => e.1)⟩, fun k e => e.2, ?_⟩, fun k hk kT kr _ => ?_⟩
  · rcases HB.out with e | e
    · exact .inl e.symm
    · exact .inr (by show some g' = _; rw [e])
  · have := H.out.lt k e; omega
  · refine Chg.setCell (Chg.grown (Chg.of_below B1.out) HG.out fun k e => .inl (H.out.eN k e).1) (.inl H.out.eT) _
  · exact ((Below.heap_setCell _ _ _ _ kT).trans (HG.out.block k (by omega) (fun e => kr (by rw [hm]; exact e.symm)))).trans (B1.out.block k hk)

set_option maxHeartbeats 4000000 in
set_option maxRecDepth 100000 in
/-- take, a free place -/
theorem xTakeF (w : World) (T : Nat) (E : Nat → Prop) (s : Tab) (rv fv : Value) (vs : List Value) (A : Option Addr) (n c : Nat) (zs : KV) (h : TabV w T E s rv fv vs) (hm : NodeAt w (.slice A n c) zs)
    (hl : ∀ k q, InWin (.slice A n c) k q → (E k ∧ k ≠ T ∧ rv.ownBlock ≠ some k ∧ fv.ownBlock ≠ some k) ∧ ∀ j, j < vs.length → ¬ InWin (tnv vs j) k q) (p : Nat) (fr : List Nat) (hf : s.free = fr ++ [p]) (hp : p < vs.length) (hn : s.free.length ≤ 900000) :
    Calls Try.prog 91 #[Ptr T, .slice A n c] w fun x w' => x = .returned (.int .i64 s.place) ∧ TookP w T E s rv fv zs w' := by
  have hpl : s.place = p := by unfold Tab.place; rw [hf, List.getLast?_concat]
  have ht : s.take zs = { s with nds := s.nds.set p zs, free := fr } := by unfold Tab.take; rw [hf, List.getLast?_concat, List.dropLast_concat]
  have c0 := h.row.cell 0
  have c1 := h.row.cell 1
  simp only [List.getElem?_cons_zero, List.getElem?_cons_succ] at c0 c1
  have f1 := h.row.frozen 1
  obtain ⟨g, cn, rfl, hg, gT, hc⟩ := h.rowAt (by omega)
  obtain ⟨cg, fg⟩ := hc p hp
  obtain ⟨m, hmm⟩ : ∃ m, m = fr.length := ⟨_, rfl⟩
  have lf : (frees s.free).length = m + 1 := by rw [hf]; simp [frees, hmm]
  obtain ⟨g2, cf, rfl, hmc, cm⟩ : ∃ g2 cf, fv = .slice (some ⟨g2, 0, none⟩) (m + 1) cf ∧ m + 1 ≤ cf ∧ w.cell? ⟨g2, m, none⟩ = some (.int .i64 p) := by
    have h2 := h.free
    rcases h2.2 with ⟨_, e⟩ | ⟨g2, cap, cur, e, _, _, hnc, _⟩
    · omega
    · refine ⟨g2, cap, by rw [e, lf], by omega, ?_⟩
      have h3 := h2
      unfold OwnJ at h3
      rw [e] at h3
      rw [h3.cellAt m (by omega), hf]
      simp [frees, hmm]
  have bg2 := h.eF g2 rfl
  have H := Lib.hid h
  have HM := Lib.hid hm
  have HL := Lib.hid hl
  unfold TookP
  have h1 : OwnJ w 0 (.slice (some ⟨g2, 0, none⟩) m cf) (frees fr) := by
    have h2 := (h.free).cut (k := m) (by omega)
    have e : (frees s.free).take m = frees fr := by rw [hf]; unfold frees; rw [List.map_append, List.take_append_of_le_length (by simp [hmm]), List.take_of_length_le (by simp [hmm])]
    rwa [e] at h2
  have v1 := Lib.hid (h.freed (w' := w) (E' := E) (fv' := .slice (some ⟨g2, 0, none⟩) m cf) (l := fr) h1 ⟨rfl, rfl, rfl, Nat.le_refl _, fun _ _ _ => rfl⟩ (.inl rfl) (fun _ e => e) (fun k e f => by omega) h.lt)
  have HNV := Lib.hid (show w.cell? ⟨g, p, none⟩ = some (tnv vs p) from cg)
  obtain ⟨N, hN⟩ : ∃ N, N = vs.length := ⟨_, rfl⟩
  have HN := Lib.hid hN
  obtain ⟨pv, hpv⟩ : ∃ pv, pv = tnv vs p := ⟨_, rfl⟩
  have mi : (m : Int) + 1 - 1 = (m : Int) := by omega
  rw [← hpv] at cg
  rw [hpl, ht]
  have HP := Lib.hid hp
  rw [← hN] at c0 hp
  have m0 : ¬ ((m : Int) < 0) := by omega
  have mc : m ≤ cf := by omega
  have HF := Lib.hid hf
  have cfm : cf ≤ maxLen := by
    rcases h.free.2 with ⟨e, _⟩ | ⟨_, _, _, e, _, _, _, q, _⟩
    · cases e
    · injection e with _ _ e; rw [e]; exact q
  unfold maxLen at cfm
  have ml : m + 1 ≤ 900000 := by rw [← lf]; unfold frees; rw [List.length_map]; exact hn
  have gT' := gT
  have g2T := bg2.2.1
  clear h hm hl hc hpl ht lf h1 hN hpv hf hn hmm
  go_enter Try.func91, Try.ntmps91
  go_wp2_with fail
  go_ret
  have kT : ∀ k, k ≠ T → (w.setCell ⟨T, 1, none⟩ (.slice (some ⟨g2, 0, none⟩) m cf)).heap[k]? = w.heap[k]? := fun k q => Below.heap_setCell _ _ _ _ q
  refine ⟨rfl, ⟨E, ⟨_, _, _, v1.out.putV (zs := zs) HP.out rfl (HM.out.keep fun k q e => kT k (HL.out k q e).1.2.1) (fun k q e => ⟨(HL.out k q e).1, fun j hj _ => (HL.out k q e).2 j hj⟩)⟩, fun k e => .inl e, Chg.setCell (Chg.setCell (Chg.refl E w) (.inl H.out.eT) _) (.inl hg) _⟩, fun k _ k1 k2 _ => ?_⟩
  exact (Below.heap_setCell _ _ _ _ (fun (t : k = g) => k2 (by rw [t]; rfl))).trans (kT k k1)

/-- take: the places it needs are few -/
theorem xTake (w : World) (T : Nat) (E : Nat → Prop) (s : Tab) (rv fv : Value) (vs : List Value) (A : Option Addr) (n c : Nat) (zs : KV) (h : TabV w T E s rv fv vs) (hm : NodeAt w (.slice A n c) zs)
    (hl : ∀ k q, InWin (.slice A n c) k q → (E k ∧ k ≠ T ∧ rv.ownBlock ≠ some k ∧ fv.ownBlock ≠ some k) ∧ ∀ j, j < vs.length → ¬ InWin (tnv vs j) k q) (hf : ∀ p, p ∈ s.free → p < s.nds.length) (hn : s.nds.length ≤ 900000) (hn2 : s.free.length ≤ 900000) :
    Calls Try.prog 91 #[Ptr T, .slice A n c] w fun x w' => x = .returned (.int .i64 s.place) ∧ TookP w T E s rv fv zs w' := by
  rcases List.eq_nil_or_concat s.free with e | ⟨fr, p, e⟩
  · exact xTakeN w T E s rv fv vs A n c zs h hm hl e (by rw [h.len]; exact hn)
  · rw [List.concat_eq_append] at e
    exact xTakeF w T E s rv fv vs A n c zs h hm hl p fr e (by rw [h.len]; exact hf p (by rw [e]; simp)) hn2

end Go.Proofs.Ytbfgpdgiaclphaa

namespace Go.Proofs.Ytbfgpdgiaclphaa
open Go.RowKit

/-- a node is taken off -/
def Tab.off (s : Tab) (p : Nat) : Tab := { s.put p [] with free := s.free ++ [p] }
theorem frees_push (l : List Nat) (p : Nat) : frees (l ++ [p]) = frees l ++ [(p : Int)] := by unfold frees; simp
theorem TabV.win {w : World} {T : Nat} {E : Nat → Prop} {s : Tab} {rv fv : Value} {vs : List Value} (h : TabV w T E s rv fv vs) {p : Nat} (hp : p < vs.length) (h0 : 0 < (s.nd p).length) : ∃ b o c, tnv vs p = .slice (some ⟨b, o, none⟩) (s.nd p).length c ∧ WinAt w b o c (s.nd p) := by
  rcases h.node p hp with ⟨_, e⟩ | h
  · rw [e] at h0; exact absurd h0 (by simp)
  · exact h

set_option maxHeartbeats 4000000 in
set_option maxRecDepth 100000 in
/-- release -/
theorem xReleaseV (w : World) (T : Nat) (E : Nat → Prop) (s : Tab) (rv fv : Value) (vs : List Value) (p : Nat) (h : TabV w T E s rv fv vs) (hp : p < s.nds.length) (h0 : 0 < (s.nd p).length) (hl : s.free.length ≤ 900000) :
    Calls Try.prog 88 #[Ptr T, .int .i64 p] w fun r w' => r = .returned (.tuple #[]) ∧ ∃ E' fv', TabV w' T E' (s.off p) rv fv' (vs.set p nilv) ∧ (∀ k, E' k → E k ∨ w.heap.size ≤ k) ∧ Chg E w w' := by
  have hp' : p < vs.length := by rw [h.len]; exact hp
  obtain ⟨g, c, rfl, hg, gT, hc⟩ := h.rowAt (by omega)
  obtain ⟨b, o, cp, ev, hw⟩ := h.win hp' h0
  have hW := h.eW p b o hp' ⟨o, _, cp, ev, Nat.le_refl _, by have := hw.pos; omega⟩
  obtain ⟨A1, cf, rfl, _⟩ := h.free.form
  have c0 := h.row.cell 0
  have c1 := h.row.cell 1
  simp only [List.getElem?_cons_zero, List.getElem?_cons_succ] at c0 c1
  have cg := (hc p hp').1
  rw [ev] at cg
  have hfit := hw.fit
  obtain ⟨us, ul, hcl⟩ := run_clear2 w 148 Try.underlying148 b o (s.nd p).length cp (fun j hj => hw.there j (by omega)) (fun j => hw.plain.frozen j)
  have t1 : Turn (InWin (tnv vs p)) w (w.setCells b o us) := (Turn.setCells w b o us).mono fun k j ⟨e, h1, h2⟩ => by
    subst e; rw [ev]; exact ⟨o, _, cp, rfl, h1, by omega⟩
  have sz1 : (w.setCells b o us).heap.size = w.heap.size := Nat.le_antisymm (Nat.le_of_not_lt fun q => by
    have key : ∀ (vs : List Value) (o : Nat) (w : World), (w.setCells b o vs).heap.size = w.heap.size := by
      intro vs
      induction vs with
      | nil => exact fun _ _ => rfl
      | cons v r ih => exact fun o w => by rw [World.setCells, ih]; simp [World.setCell]
    rw [key] at q; omega) t1.size
  have e1 : ∀ k, k < w.heap.size → k ≠ b → (w.setCells b o us).heap[k]? = w.heap[k]? := fun k hk hn => t1.block k hk fun j e => by
    rw [ev] at e
    obtain ⟨_, _, _, e, _⟩ := e
    injection e with e _ _; injection e with e; injection e with e _ _
    exact hn e.symm
  have bT : T ≠ b := Ne.symm hW.2.1
  have bg : g ≠ b := fun e => hW.2.2.1 (by rw [← e]; rfl)
  have c0' := (World.cell?_of_block (a := ⟨T, 0, none⟩) (e1 T (h.lt T h.eT) bT)).trans c0
  have c1' := (World.cell?_of_block (a := ⟨T, 1, none⟩) (e1 T (h.lt T h.eT) bT)).trans c1
  have cg' := (World.cell?_of_block (a := ⟨g, p, none⟩) (e1 g (h.lt g hg) bg)).trans cg
  have fg' := (World.frozen?_of_block (a := ⟨g, p, none⟩) (e1 g (h.lt g hg) bg)).trans (hc p hp').2
  have v2 := Lib.hid (h.moved (i := p) (w' := w.setCells b o us) (E' := E) (v' := nilv) (zs := []) hp' rfl (.inl ⟨rfl, rfl⟩) t1 (fun k j e => by obtain ⟨_, _, _, e, _⟩ := e; cases e) (fun _ e => e) (fun k e f => by omega) (fun k e => by rw [sz1]; exact h.lt k e))
  have C2 := Lib.hid (show Chg E w ((w.setCells b o us).setCell ⟨g, p, none⟩ nilv) from Chg.setCell (t1.chg fun k j e => (h.eW p k j hp' e).1) (.inl hg) _)
  have sz2 : ((w.setCells b o us).setCell ⟨g, p, none⟩ nilv).heap.size = w.heap.size := by simp [World.setCell, sz1]
  have S2 := Lib.hid sz2
  have gT' := gT
  have fT := v2.out.row.frozen 1
  have c1'' := v2.out.row.cell 1
  simp only [List.getElem?_cons_zero, List.getElem?_cons_succ] at c1''
  have LT := Lib.hid h.lt
  have ET := Lib.hid h.eT
  have EF := Lib.hid h.eF
  obtain ⟨n, hn⟩ : ∃ n, n = vs.length := ⟨_, rfl⟩
  obtain ⟨m, hm⟩ : ∃ m, m = (s.nd p).length := ⟨_, rfl⟩
  obtain ⟨f, hf⟩ : ∃ f, f = (frees s.free).length := ⟨_, rfl⟩
  have f1 : f ≤ 900000 := by rw [hf]; unfold frees; rw [List.length_map]; exact hl
  rw [← hn] at c0 c0' hp'
  rw [← hm] at cg cg' hcl
  have HF := Lib.hid hf
  unfold nilv at v2 C2 S2 fT c1'' sz2 ⊢
  rw [← hf] at c1 c1' c1''
  clear hc h hw ev hfit hp h0 hl ul t1 sz1 e1 sz2 hW hn hm hf
  go_enter Try.func88, Try.ntmps88
  have hsz : ((w.setCells b o us).setCell ⟨g, p, none⟩ (.slice none 0 0)).heap.size = (w.setCells b o us).heap.size := by simp [World.setCell]
  obtain ⟨w3, hw3⟩ : ∃ w3, w3 = ((w.setCells b o us).setCell ⟨g, p, none⟩ (.slice none 0 0)).alloc (.cells #[.int .i64 p] 3) := ⟨_, rfl⟩
  have B3 := Lib.hid (show Below ((w.setCells b o us).setCell ⟨g, p, none⟩ (.slice none 0 0)).heap.size ((w.setCells b o us).setCell ⟨g, p, none⟩ (.slice none 0 0)) w3 by rw [hw3]; exact (Below.refl _ _).alloc (Nat.le_refl _) _)
  have S3 := Lib.hid (show w3.heap.size = w.heap.size + 1 by rw [hw3, World.size_alloc, S2.out])
  have CQ := Lib.hid (show w3.cell? ⟨(w.setCells b o us).heap.size, 0, none⟩ = some (.int .i64 p) by rw [hw3, ← hsz]; exact cell_new1 _ _ _)
  have V3 := Lib.hid (v2.out.below B3.out)
  have HW3 := Lib.hid hw3
  have HSZ := Lib.hid hsz
  have NT := Lib.hid (show Value.ownBlock (.slice A1 f cf) ≠ some T from fun e => (EF.out T (by rw [← HF.out]; exact e)).2.1 rfl)
  clear hsz hw3
  go_wp2_with (at_builtin; refine wp_putJa rfl (.tmp 21) (.tmp 23) rfl (.slice A1 f cf) (frees s.free) rfl (by rw [← HW3.out, HF.out]; exact V3.out.free) (w.setCells b o us).heap.size p rfl (by rw [← HW3.out]; exact CQ.out) (by rw [← HF.out]; omega) ?_; intro g' c' w4 ho hgr hb; rw [← HW3.out] at hgr hb; have HO := Lib.hid ho; have HG := Lib.hid hgr; have HB := Lib.hid hb; have f4 : w4.frozen? ⟨T, 1, none⟩ = false := (World.frozen?_of_block (a := ⟨T, 1, none⟩) (hgr.block T (by rw [S3.out]; have := LT.out T ET.out; omega) (fun e => NT.out e.symm))).trans (V3.out.row.frozen 1); have c4 : w4.cell? ⟨T, 1, none⟩ = some (.slice A1 f cf) := (World.cell?_of_block (a := ⟨T, 1, none⟩) (hgr.block T (by rw [S3.out]; have := LT.out T ET.out; omega) (fun e => NT.out e.symm))).trans (by have := V3.out.row.cell 1; rw [← HF.out] at this; exact this); clear ho hgr hb)
  refine bodyPost_end (results_none rfl _ _ _) rfl ⟨rfl, ?_⟩
  have v3 := V3.out
  rw [← HF.out] at v3
  have s2 := S2.out
  have s3 := S3.out
  have sg := HG.out.size
  refine ⟨fun k => k < w4.heap.size ∧ (E k ∨ w.heap.size ≤ k), _, v3.freed (w' := w4) (E' := fun k => k < w4.heap.size ∧ (E k ∨ w.heap.size ≤ k)) (l := s.free ++ [p]) (by rw [frees_push]; exact HO.out) HG.out ?_ (fun k e => ⟨?_, .inl e⟩) (fun k e f => ⟨f, .inr (by omega)⟩) (fun k e => e.1), fun k e => e.2, ?_⟩
  · rcases HB.out with e | e
    · exact .inl e.symm
    · exact .inr (by show some g' = _; rw [e])
  · have := LT.out k e; omega
  · refine Chg.setCell (Chg.grown ((C2.out).trans (Chg.of_below (F := fun _ => False) B3.out) (fun _ e => e.elim)) HG.out fun k e => .inl (EF.out k (by rw [← HF.out]; exact e)).1) (.inl ET.out) _

/-- release -/
theorem xRelease (w : World) (T : Nat) (E : Nat → Prop) (s : Tab) (p : Nat) (h : TabG w T E s) (hp : p < s.nds.length) (h0 : 0 < (s.nd p).length) (hl : s.free.length ≤ 900000) :
    Calls Try.prog 88 #[Ptr T, .int .i64 p] w fun r w' => r = .returned (.tuple #[]) ∧ LeftP w T E (s.off p) w' := by
  obtain ⟨rv, fv, vs, h⟩ := h
  exact (xReleaseV w T E s rv fv vs p h hp h0 hl).mono fun r w' ⟨hr, E', fv', h1, h2, h3⟩ => ⟨hr, E', ⟨_, _, _, h1⟩, h2, h3⟩

end Go.Proofs.Ytbfgpdgiaclphaa

namespace Go.Proofs.Ytbfgpdgiaclphaa
open Go.RowKit

set_option maxHeartbeats 4000000 in
set_option maxRecDepth 100000 in
/-- part -/
theorem xPart (w : World) (T : Nat) (E : Nat → Prop) (s : Tab) (p : Nat) (h : TabG w T E s) (hp : p < s.nds.length) (h3 : 3 < (s.nd p).length) (hf : ∀ q, q ∈ s.free → q < s.nds.length) (hn : s.nds.length ≤ 900000) (hn2 : s.free.length ≤ 900000) :
    Calls Try.prog 94 #[Ptr T, .int .i64 p] w fun x w' => x = .returned (.agg #[.string ((s.nd p).key 3), .int .i64 s.place]) ∧ LeftP w T E ((s.put p ((s.nd p).take 3)).take ((s.nd p).drop 3)) w' := by
  obtain ⟨rv, fv, vs, h⟩ := h
  have hp' : p < vs.length := by rw [h.len]; exact hp
  obtain ⟨g, c, hrv, hg, gT, hc⟩ := h.rowAt (by omega)
  obtain ⟨b, o, cp, ev, hw⟩ := h.win hp' (by omega)
  have hW := h.eW p b o hp' ⟨o, _, cp, ev, Nat.le_refl _, by have := hw.pos; omega⟩
  have hfit := hw.fit
  have hcm := hw.cap
  unfold maxLen at hcm
  obtain ⟨q, hq⟩ : ∃ q, q = w.heap.size := ⟨_, rfl⟩
  obtain ⟨w1, hw1⟩ : ∃ w1, w1 = w.alloc (.cells #[.string ⟨#[]⟩, .int .i64 0] 123) := ⟨_, rfl⟩
  have B1 : Below w.heap.size w w1 := by rw [hw1]; exact (Below.refl _ _).alloc (Nat.le_refl _) _
  have s1 : w1.heap.size = q + 1 := by rw [hw1, hq]; simp
  have r1 : RowAt w1 q [.string ⟨#[]⟩, .int .i64 0] 123 := by rw [hw1, hq]; exact RowAt.new w _ _
  have v1 := h.below B1
  have cg1 : w1.cell? ⟨g, p, none⟩ = some (.slice (some ⟨b, o, none⟩) (s.nd p).length cp) := by
    have e := (B1.cell (p := ⟨g, p, none⟩) (h.lt g hg)).trans (hc p hp').1
    rw [ev] at e; exact e
  have fg1 : w1.frozen? ⟨g, p, none⟩ = false := (World.frozen?_of_block (a := ⟨g, p, none⟩) (B1.block g (h.lt g hg))).trans (hc p hp').2
  have c01 := v1.row.cell 0
  simp only [List.getElem?_cons_zero] at c01
  rw [hrv] at c01
  have bg : b ≠ g := fun e => hW.2.2.1 (by rw [hrv, e]; rfl)
  have c00 := h.row.cell 0
  simp only [List.getElem?_cons_zero] at c00
  rw [hrv] at c00
  have cg0 := (hc p hp').1
  rw [ev] at cg0
  have e3 : ((s.nd p).take 3).length = 3 := by rw [List.length_take]; omega
  have n3 : NodeAt w1 (.slice (some ⟨b, o, none⟩) 3 3) ((s.nd p).take 3) := by
    have hw1' : NodeAt w1 _ _ := v1.node p hp'
    rw [ev] at hw1'
    rcases hw1' with ⟨e, _⟩ | ⟨b', o', c', e, k⟩
    · cases e
    · injection e with a1 a2 a3
      injection a1 with a1
      injection a1 with a1 a4 _
      subst a1; subst a4; subst a3
      refine .inr ⟨b, o, 3, by rw [e3], by rw [e3]; exact Nat.le_refl _, by decide, by decide, (rangeAt_part k.row 3 (by omega)).1, fun j hj => k.there j (by omega), k.plain⟩
  have n4 : NodeAt w1 (.slice (some ⟨b, o + 3 * 2, none⟩) ((s.nd p).length - 3) (cp - 3)) ((s.nd p).drop 3) := by
    have hw1' : NodeAt w1 _ _ := v1.node p hp'
    rw [ev] at hw1'
    rcases hw1' with ⟨e, _⟩ | ⟨b', o', c', e, k⟩
    · cases e
    · injection e with a1 a2 a3
      injection a1 with a1
      injection a1 with a1 a4 _
      subst a1; subst a4; subst a3
      refine .inr ⟨b, o + 3 * 2, cp - 3, by rw [List.length_drop], by rw [List.length_drop]; omega, by unfold maxLen; omega, by omega, (rangeAt_part k.row 3 (by omega)).2, fun j hj => ?_, k.plain⟩
      have := k.there (3 * 2 + j) (by omega)
      rwa [← Nat.add_assoc] at this
  have inw : ∀ k j, InWin (.slice (some ⟨b, o, none⟩) 3 3) k j → InWin (tnv vs p) k j := fun k j ⟨_, _, _, e, h1, h2⟩ => by
    injection e with a1 a2 a3
    injection a1 with a1
    injection a1 with a1 a4 _
    rw [ev, ← a1]; exact ⟨o, _, cp, rfl, by omega, by omega⟩
  have inw4 : ∀ k j, InWin (.slice (some ⟨b, o + 3 * 2, none⟩) ((s.nd p).length - 3) (cp - 3)) k j → InWin (tnv vs p) k j ∧ ¬ InWin (.slice (some ⟨b, o, none⟩) 3 3) k j := fun k j ⟨_, _, _, e, h1, h2⟩ => by
    injection e with a1 a2 a3
    injection a1 with a1
    injection a1 with a1 a4 _
    rw [ev, ← a1]; refine ⟨⟨o, _, cp, rfl, by omega, by omega⟩, fun ⟨_, _, _, e, k1, k2⟩ => ?_⟩
    injection e with c1 c2 c3
    injection c1 with c1
    injection c1 with c1 c4 _
    omega
  obtain ⟨w2, hw2⟩ : ∃ w2, w2 = (w1.setCell ⟨g, p, none⟩ (.slice (some ⟨b, o, none⟩) 3 3)).drew.drew := ⟨_, rfl⟩
  have v2 : TabV w2 T E (s.put p ((s.nd p).take 3)) rv fv (vs.set p (.slice (some ⟨b, o, none⟩) 3 3)) := by
    rw [hw2]
    refine TabV.below (w := w1.setCell ⟨g, p, none⟩ (.slice (some ⟨b, o, none⟩) 3 3)) ?_ (Below.refl _ _).drew.drew
    exact v1.putV hp' hrv n3 fun k j e => ⟨h.eW p k j hp' (inw k j e), fun i hi hne f => hne (h.apart i p k j hi hp' f (inw k j e))⟩
  have k2 : ∀ k, k ≠ g → w2.heap[k]? = w1.heap[k]? := fun k hk => by rw [hw2]; exact Below.heap_setCell w1 _ _ _ hk
  have s2 : w2.heap.size = q + 1 := by rw [hw2]; show (w1.setCell _ _).heap.size = _; simp [World.setCell, s1]
  have qg : q ≠ g := by have := h.lt g hg; omega
  have bq : b ≠ q := by have := h.lt b hW.1; omega
  have qT : q ≠ T := by have := h.lt T h.eT; omega
  have r2 : RowAt w2 q [.string ⟨#[]⟩, .int .i64 0] 123 := (k2 q qg).trans r1
  obtain ⟨K, hK⟩ : ∃ K, K = (s.nd p).key 3 := ⟨_, rfl⟩
  have ck : w2.cell? ⟨b, o + 3 * 2, none⟩ = some (.string K) := by
    rw [World.cell?_of_block (a := ⟨b, o + 3 * 2, none⟩) (k2 b bg), World.cell?_of_block (a := ⟨b, o + 3 * 2, none⟩) (B1.block b (h.lt b hW.1)), hK]
    exact (hw.cells 3 h3).1
  have TC := Lib.hid (xTake w2 T E _ rv fv _ _ _ _ _ v2 (n4.keep (w' := w2) fun k j e => k2 k (fun t => (h.eW p k j hp' (inw4 k j e).1).2.2.1 (by rw [hrv, t]; rfl))) (fun k j e => ⟨h.eW p k j hp' (inw4 k j e).1, fun i hi f => by
      rw [List.length_set] at hi
      rw [nv_set hp'] at f
      by_cases t : i = p
      · rw [if_pos t] at f; exact (inw4 k j e).2 f
      · rw [if_neg t] at f; exact t (h.apart i p k j hi hp' f (inw4 k j e).1)⟩) (fun q hq => by show q < (s.nds.set p _).length; rw [List.length_set]; exact hf q hq) (by show (s.nds.set p _).length ≤ _; rw [List.length_set]; exact hn) hn2)
  have pl : (s.put p ((s.nd p).take 3)).place = s.place := by
    have e : (s.put p ((s.nd p).take 3)).nds.length = s.nds.length := List.length_set
    unfold Tab.place
    rw [e]; rfl
  rw [pl] at TC
  have FIN := Lib.hid (show ∀ w3, TookP w2 T E (s.put p ((s.nd p).take 3)) rv fv ((s.nd p).drop 3) w3 → ∀ u1 u2, LeftP w T E ((s.put p ((s.nd p).take 3)).take ((s.nd p).drop 3)) ((w3.setCell ⟨q, 0, none⟩ u1).setCell ⟨q, 1, none⟩ u2) from fun w3 ⟨⟨E3, h3, a3, c3⟩, _⟩ u1 u2 => by
    have nq : ∀ k, E3 k → k ≠ q := fun k e t => by
      rcases a3 k e with f | f
      · have := h.lt k f; omega
      · omega
    refine ⟨E3, h3.keep (fun k e => (Below.heap_setCell _ _ _ _ (by exact nq k e)).trans (Below.heap_setCell _ _ _ _ (by exact nq k e))) (by simp [World.setCell]), fun k e => ?_, ?_⟩
    · rcases a3 k e with f | f
      · exact .inl f
      · exact .inr (by omega)
    · refine Chg.setCell (Chg.setCell (Chg.then ?_ c3) (.inr (by show w.heap.size ≤ q; omega)) _) (.inr (by show w.heap.size ≤ q; omega)) _
      rw [hw2]; exact (Chg.setCell (Chg.of_below B1) (.inl hg) _).drew.drew)
  have S2 := Lib.hid (show ∀ w3, TookP w2 T E (s.put p ((s.nd p).take 3)) rv fv ((s.nd p).drop 3) w3 → w3.cell? ⟨b, o + 3 * 2, none⟩ = some (.string K) ∧ RowAt w3 q [.string ⟨#[]⟩, .int .i64 0] 123 from fun w3 h3 => by
    refine ⟨(World.cell?_of_block (a := ⟨b, o + 3 * 2, none⟩) (h3.2 b (by rw [s2]; have := h.lt b hW.1; omega) hW.2.1 hW.2.2.1 hW.2.2.2)).trans ck, (h3.2 q (by omega) qT (fun e => ?_) (fun e => ?_)).trans r2⟩
    · have := h.lt q (h.eN q e).1; omega
    · have := h.lt q (h.eF q e).1; omega)
  have c02 : w2.cell? ⟨T, 0, none⟩ = some (.slice (some ⟨g, 0, none⟩) vs.length c) := by
    have := v2.row.cell 0
    simp only [List.getElem?_cons_zero] at this
    rw [hrv] at this; exact this
  obtain ⟨n, hn'⟩ : ∃ n, n = vs.length := ⟨_, rfl⟩
  obtain ⟨m, hm⟩ : ∃ m, m = (s.nd p).length := ⟨_, rfl⟩
  rw [← hn'] at c00 c01 c02 hp'
  rw [← hm] at cg0 cg1 TC h3 hfit
  rw [← hK]
  have m3 : 3 ≤ m := by omega
  have c3 : 3 ≤ cp := by omega
  have c3z : (3 : Int) ≤ (cp : Int) := by omega
  have m3z : (3 : Int) ≤ (m : Int) := by omega
  have m3y : (3 : Int) < (m : Int) := by omega
  have mcz : (m : Int) ≤ (cp : Int) := by omega
  have c3' : ¬ (cp = 3) := by omega
  have C01 := Lib.hid c01
  have C02 := Lib.hid c02
  have HW1 := Lib.hid hw1
  have HW2 := Lib.hid hw2
  have HQ := Lib.hid hq
  have R2 := Lib.hid r2
  have CK := Lib.hid ck
  have CG1 := Lib.hid cg1
  rw [hw1] at c01 cg1
  clear hw1 hw2 hq
  clear v1 v2 h hw hc hW ev inw inw4 n3 n4 e3 k2 r1 B1 s1 hn' hm pl hK hn hn2 hf hp s2 r2
  have G3 : ((3 : Int)).toNat = 3 := rfl
  go_enter Try.func94, Try.ntmps94
  go_wp2_with fail
  rw [← HW1.out]
  try rw [← HQ.out]
  have c1 := C01.out
  have cg2 := CG1.out
  refine wp_region_held_drew (S := (fun w' => w'.cell? ⟨T, 0, none⟩ = some (.slice (some ⟨g, 0, none⟩) n c))) (by kernel_rfl) (c1) (fun hHeld => ?_)
  have hHeld' := hHeld
  refine rgnTake 0 rfl (by kernel_rfl) (by kernel_rfl) (by kernel_rfl) (fun _ _ _ h => h) (by rfl) (v := ?v1) ?hy1 hHeld ?rest1
  case hy1 => (intro v hSw; first | (go_simp; done) | (go_simp; with_reducible rfl))
  try simp only [Act.put, List.setIfInBounds_toArray, List.set_cons_zero, List.set_cons_succ]
  refine rgnTake 1 rfl (by kernel_rfl) (by kernel_rfl) (by kernel_rfl) (fun _ _ _ h => h) (by rfl) (v := ?v2) ?hy2 hHeld ?rest2
  case hy2 => (intro v hSw; first | (go_simp; done) | (go_simp; with_reducible rfl))
  try simp only [Act.put, List.setIfInBounds_toArray, List.set_cons_zero, List.set_cons_succ]
  refine rgnTake 2 rfl (by kernel_rfl) (by kernel_rfl) (by kernel_rfl) (fun _ _ _ h => h) (by rfl) (v := ?v3) ?hy3 hHeld ?rest3
  case hy3 => (intro v hSw; first | (go_simp; done) | (go_simp; with_reducible rfl))
  try simp only [Act.put, List.setIfInBounds_toArray, List.set_cons_zero, List.set_cons_succ]
  refine rgnTake 3 rfl (by kernel_rfl) (by kernel_rfl) (by kernel_rfl) (fun _ _ _ h => h) (by rfl) (v := ?v4) ?hy4 hHeld ?rest4
  case hy4 => (intro v hSw; first | (go_simp; done) | (go_simp; with_reducible rfl))
  try simp only [Act.put, List.setIfInBounds_toArray, List.set_cons_zero, List.set_cons_succ]
  refine rgnTake 4 rfl (by kernel_rfl) (by kernel_rfl) (by kernel_rfl) (fun _ _ _ h => h) (by rfl) (v := ?v5) ?hy5 hHeld ?rest5
  case hy5 => (intro v hSw; first | (go_simp; done) | (go_simp; with_reducible rfl))
  try simp only [Act.put, List.setIfInBounds_toArray, List.set_cons_zero, List.set_cons_succ]
  refine rgnTake 5 rfl (by kernel_rfl) (by kernel_rfl) (by kernel_rfl) (fun _ _ _ h => h) (by rfl) (v := ?v6) ?hy6 hHeld ?rest6
  case hy6 => (intro v hSw; first | (go_simp; done) | (go_simp; with_reducible rfl))
  try simp only [Act.put, List.setIfInBounds_toArray, List.set_cons_zero, List.set_cons_succ]
  refine rgnTake 6 rfl (by kernel_rfl) (by kernel_rfl) (by kernel_rfl) (fun _ _ _ h => h) (by rfl) (v := ?v7) ?hy7 hHeld ?rest7
  case hy7 => (intro v hSw; first | (go_simp; done) | (go_simp; with_reducible rfl))
  try simp only [Act.put, List.setIfInBounds_toArray, List.set_cons_zero, List.set_cons_succ]
  refine rgnTake 7 rfl (by kernel_rfl) (by kernel_rfl) (by kernel_rfl) (fun _ _ _ h => h) (by rfl) (v := ?v8) ?hy8 hHeld ?rest8
  case hy8 => (intro v hSw; first | (go_simp; done) | (go_simp; with_reducible rfl))
  try simp only [Act.put, List.setIfInBounds_toArray, List.set_cons_zero, List.set_cons_succ]
  refine rgnOne 8 rfl (by kernel_rfl) (fun K hK => ?_)
  go_simp
  refine hK.out _ _ ((by have := C02.out; rw [HW2.out] at this; exact this)) (fun hHeld => ?_)
  clear hK K
  try simp only [Act.put, List.setIfInBounds_toArray, List.set_cons_zero, List.set_cons_succ]
  refine wpAnyH_done (by kernel_rfl) ?_ _
  go_wp2_with fail
  have c3n : (if cp = 3 then (some ⟨b, o, none⟩ : Option Addr) else some ⟨b, o + 3 * 2, none⟩) = some ⟨b, o + 3 * 2, none⟩ := if_neg c3'
  have S0 : (w1.setCell ⟨g, p, none⟩ (.slice (some ⟨b, o, none⟩) 3 3)).drew.cell? ⟨b, o + 3 * 2, none⟩ = some (.string K) := by have := CK.out; rw [HW2.out] at this; exact this
  clear cg2 c1 cg1 cg0 c01 c00 fg1 hHeld'
  refine wp_region_held_drew (S := (fun w' => w'.cell? ⟨b, o + 3 * 2, none⟩ = some (.string K))) (by kernel_rfl) (S0) (fun hHeld => ?_)
  rw [← HW2.out] at hHeld ⊢
  refine rgnTake 0 rfl (by kernel_rfl) (by kernel_rfl) (by kernel_rfl) (fun _ _ _ h => h) (by rfl) (v := ?v9) ?hy9 hHeld ?rest9
  case hy9 => (intro v hSw; first | (go_simp; done) | (go_simp; with_reducible rfl))
  try simp only [Act.put, List.setIfInBounds_toArray, List.set_cons_zero, List.set_cons_succ]
  refine rgnTake 1 rfl (by kernel_rfl) (by kernel_rfl) (by kernel_rfl) (fun _ _ _ h => h) (by rfl) (v := ?v10) ?hy10 hHeld ?rest10
  case hy10 => (intro v hSw; first | (go_simp; done) | (go_simp; with_reducible rfl))
  try simp only [Act.put, List.setIfInBounds_toArray, List.set_cons_zero, List.set_cons_succ]
  refine rgnTake 2 rfl (by kernel_rfl) (by kernel_rfl) (by kernel_rfl) (fun _ _ _ h => h) (by rfl) (v := ?v11) ?hy11 hHeld ?rest11
  case hy11 => (intro v hSw; first | (go_simp; done) | (go_simp; with_reducible rfl))
  try simp only [Act.put, List.setIfInBounds_toArray, List.set_cons_zero, List.set_cons_succ]
  refine rgnTake 3 rfl (by kernel_rfl) (by kernel_rfl) (by kernel_rfl) (fun _ _ _ h => h) (by rfl) (v := ?v12) ?hy12 hHeld ?rest12
  case hy12 => (intro v hSw; first | (go_simp; done) | (go_simp; with_reducible rfl))
  try simp only [Act.put, List.setIfInBounds_toArray, List.set_cons_zero, List.set_cons_succ]
  refine rgnTake 4 rfl (by kernel_rfl) (by kernel_rfl) (by kernel_rfl) (fun _ _ _ h => h) (by rfl) (v := ?v13) ?hy13 hHeld ?rest13
  case hy13 => (intro v hSw; first | (go_simp; done) | (go_simp; with_reducible rfl))
  try simp only [Act.put, List.setIfInBounds_toArray, List.set_cons_zero, List.set_cons_succ]
  refine rgnTake 5 rfl (by kernel_rfl) (by kernel_rfl) (by kernel_rfl) (fun _ _ _ h => h) (by rfl) (v := ?v14) ?hy14 hHeld ?rest14
  case hy14 => (intro v hSw; first | (go_simp; done) | (go_simp; with_reducible rfl))
  try simp only [Act.put, List.setIfInBounds_toArray, List.set_cons_zero, List.set_cons_succ]
  refine rgnTake 6 rfl (by kernel_rfl) (by kernel_rfl) (by kernel_rfl) (fun _ _ _ h => h) (by rfl) (v := ?v15) ?hy15 hHeld ?rest15
  case hy15 => (intro v hSw; first | (go_simp; done) | (go_simp; with_reducible rfl))
  try simp only [Act.put, List.setIfInBounds_toArray, List.set_cons_zero, List.set_cons_succ]
  refine rgnOne 7 rfl (by kernel_rfl) (fun K hK => ?_)
  go_simp
  refine TC.out.mono ?_
  rintro r w3 ⟨rfl, ht⟩
  have T3 := Lib.hid ht
  have R3 := Lib.hid (S2.out w3 ht).2
  clear ht
  refine hK.out _ _ ((S2.out w3 T3.out).1) (fun hHeld => ?_)
  clear hK K
  try simp only [Act.put, List.setIfInBounds_toArray, List.set_cons_zero, List.set_cons_succ]
  refine rgnTake 8 rfl (by kernel_rfl) (by kernel_rfl) (by kernel_rfl) (fun _ _ _ h => h) (by rfl) (v := ?v16) ?hy16 hHeld ?rest16
  case hy16 => (intro v hSw; first | (go_simp; done) | (go_simp; with_reducible rfl))
  try simp only [Act.put, List.setIfInBounds_toArray, List.set_cons_zero, List.set_cons_succ]
  have q0 := R3.out.cell 0
  have q1 := R3.out.cell 1
  have z0 := R3.out.frozen 0
  have z1 := R3.out.frozen 1
  simp only [List.getElem?_cons_zero, List.getElem?_cons_succ] at q0 q1
  have k3 : ∀ u1 u2, ((w3.setCell ⟨q, 0, none⟩ u1).setCell ⟨q, 1, none⟩ u2).cell? ⟨b, o + 3 * 2, none⟩ = some (.string K) := fun u1 u2 => by
    rw [World.cell?_of_block (a := ⟨b, o + 3 * 2, none⟩) (Below.heap_setCell _ _ _ _ (by exact bq)), World.cell?_of_block (a := ⟨b, o + 3 * 2, none⟩) (Below.heap_setCell _ _ _ _ (by exact bq))]
    exact (S2.out w3 T3.out).1
  refine rgnOne 9 rfl (by kernel_rfl) (fun K hK => ?_)
  go_simp
  refine hK.out _ _ ((k3 _ _)) (fun hHeld => ?_)
  clear hK K
  try simp only [Act.put, List.setIfInBounds_toArray, List.set_cons_zero, List.set_cons_succ]
  refine wpAnyH_done (by kernel_rfl) ?_ _
  go_wp2_with fail
  have rr : RowAt ((w3.setCell ⟨q, 0, none⟩ (.string K)).setCell ⟨q, 1, none⟩ (.int .i64 s.place)) q [.string K, .int .i64 s.place] 123 := (R3.out.set 0 _).set 1 _
  (try simp only [Exit.inBlock, Exit.then])
  refine bodyPost_ret (results_cell_row rfl _ _ q _ _ _ _ rfl rr Try.underlying123 rfl (by kernel_rfl)) rfl ?_
  exact ⟨rfl, FIN.out w3 T3.out _ _⟩

end Go.Proofs.Ytbfgpdgiaclphaa

namespace Go.Proofs.Ytbfgpdgiaclphaa
open Go.RowKit

section
variable {w w' : World} {T : Nat} {E : Nat → Prop} {s : Tab} {rv fv : Value} {vs : List Value}
/-- an item of a node turns -/
theorem TabV.item {p i j b o c : Nat} {u : Value} (y : ByteArray × Int) (h : TabV w T E s rv fv vs) (hp : p < vs.length) (ev : tnv vs p = .slice (some ⟨b, o, none⟩) (s.nd p).length c) (hi : i < (s.nd p).length) (hj : j < 2) (hy : (it2 (s.nd p)[i]).set j u = it2 y) :
    TabV (w.setCell ⟨b, o + (i * 2 + j), none⟩ u) T E (s.put p ((s.nd p).set i y)) rv fv vs := by
  have hw : WinAt w b o c (s.nd p) := by
    obtain ⟨b', o', c', e, k⟩ := h.win hp (by omega)
    rw [ev] at e
    injection e with e1 _ e3
    injection e1 with e1
    injection e1 with e1 e4 _
    subst e1; subst e4; subst e3; exact k
  have hfit := hw.fit
  have iw : InWin (tnv vs p) b (o + (i * 2 + j)) := by rw [ev]; exact ⟨o, _, c, rfl, by omega, by omega⟩
  have hW := h.eW p b _ hp iw
  have t : Turn (fun k m => k = b ∧ m = o + (i * 2 + j)) w (w.setCell ⟨b, o + (i * 2 + j), none⟩ u) := (Turn.setCells w b (o + (i * 2 + j)) [u]).mono fun k m ⟨h1, h2, h3⟩ => ⟨h1, by simp at h3; omega⟩
  have kb : ∀ k, k ≠ b → (w.setCell ⟨b, o + (i * 2 + j), none⟩ u).heap[k]? = w.heap[k]? := fun k q => Below.heap_setCell _ _ _ _ q
  have hwn : WinAt (w.setCell ⟨b, o + (i * 2 + j), none⟩ u) b o c ((s.nd p).set i y) := by
    refine ⟨by rw [List.length_set]; exact hfit, hw.cap, hw.pos, ?_, fun m hm => t.there _ _ hw.plain.lt (hw.there m hm), hw.plain.setCell _ _⟩
    have e : itc ((s.nd p).set i y) = (itc (s.nd p)).set (i * 2 + j) u := (flat_set (f := it2) (n := 2) (fun _ => rfl) (s.nd p) i j u y hi hj hy).symm
    rw [e]
    intro m v hm
    rw [List.getElem?_set] at hm
    by_cases q : i * 2 + j = m
    · subst q
      rw [if_pos rfl] at hm
      split at hm
      · injection hm with hm
        subst hm
        exact World.cell?_setCell_same' _ _ _ (hw.there _ (by omega))
      · cases hm
    · rw [if_neg q] at hm
      rw [t.cell b (o + m) hw.plain.lt (fun ⟨_, e⟩ => q (by omega))]
      exact hw.row m v hm
  refine ⟨(kb T (Ne.symm hW.2.1)).trans h.row, own_keep h.nodes fun k e => kb k (fun t => hW.2.2.1 (by rw [← t]; exact e)), own_keep h.free fun k e => kb k (fun t => hW.2.2.2 (by rw [← t]; exact e)), by rw [h.len]; show _ = (s.nds.set p _).length; rw [List.length_set], fun l hl => ?_, h.apart, h.eT, h.eN, h.eF, h.eW, fun k e => ?_⟩
  · rw [Tab.put_nd (by rw [← h.len]; exact hp)]
    by_cases q : l = p
    · rw [if_pos q, q, ev]
      exact .inr ⟨b, o, c, by rw [List.length_set], hwn⟩
    · rw [if_neg q]
      exact (h.node l hl).turn t fun k m f ⟨e1, e2⟩ => by
        subst e1; subst e2
        exact q (h.apart l p _ _ hl hp f iw)
  · have : (w.setCell ⟨b, o + (i * 2 + j), none⟩ u).heap.size = w.heap.size := by simp [World.setCell]
    rw [this]; exact h.lt k e
end
theorem KV.getE (l : KV) (i : Nat) (hi : i < l.length) : l[i] = (l.key i, l.num i) := by
  unfold KV.key KV.num
  rw [List.getD_eq_getElem?_getD, List.getElem?_eq_getElem hi]; rfl

/-- a step's two cells -/
def st2 (x : Nat × Nat) : List Value := [.int .i64 x.1, .int .i64 x.2]
def stc (l : List (Nat × Nat)) : List Value := l.flatMap st2
theorem infoSt : (Try.prog.info? 150).map (fun i => (i.zero, i.size, i.bytes)) = some (some (.agg #[.int .i64 0, .int .i64 0]), 2, 16) := by kernel_rfl
/-- the slice v holds the steps -/
def SlW (w : World) (v : Value) (ws : List (Nat × Nat)) : Prop := ∃ A c, v = .slice A ws.length c ∧ ∀ j, j < ws.length → ∃ g, A = some ⟨g, 0, none⟩ ∧ w.cell? ⟨g, j * 2, none⟩ = some (.int .i64 (ws.getD j (0, 0)).1) ∧ w.cell? ⟨g, j * 2 + 1, none⟩ = some (.int .i64 (ws.getD j (0, 0)).2)
def OwnW (w : World) (B : Nat) (v : Value) (ws : List (Nat × Nat)) : Prop := w.ownsRow B 150 2 v ws.length (stc ws)
theorem OwnW.sl {w : World} {B : Nat} {v : Value} {ws : List (Nat × Nat)} (h : OwnW w B v ws) : SlW w v ws := by
  have h1 := h
  rcases h.2 with ⟨rfl, h0⟩ | ⟨g, cap, cur, rfl, hB, hg, _⟩
  · exact ⟨none, 0, by rw [h0], fun j hj => by omega⟩
  · refine ⟨_, cap, rfl, fun j hj => ⟨g, rfl, ?_, ?_⟩⟩
    · have := flat_at (f := st2) (n := 2) (fun _ => rfl) ws j 0 hj (by decide)
      unfold OwnW at h1
      rw [show j * 2 = j * 2 + 0 from rfl, h1.cellAt (j * 2 + 0) (by omega), List.getD_eq_getElem?_getD, List.getElem?_eq_getElem hj]
      exact this
    · have := flat_at (f := st2) (n := 2) (fun _ => rfl) ws j 1 hj (by decide)
      unfold OwnW at h1
      rw [h1.cellAt (j * 2 + 1) (by omega), List.getD_eq_getElem?_getD, List.getElem?_eq_getElem hj]
      exact this
set_option maxRecDepth 100000 in
/-- append(way, step) -/
theorem wp_putW {w : World} {B : Nat} {ops : Array Oper} {rest : List Oper} {o : Oper} {a : Act} {Q : Exit → Act → World → Prop} (hgd : o.guard = none) (s x : Operand)
    (ho : o.op = .call { callee := .builtin .append, args := #[s, x], argTypes := #[130, 130] })
    (v : Value) (zs : List (Nat × Nat)) (hs : a.eval s = v) (hown : OwnW w B v zs) (hB : B ≤ w.heap.size) (g : Nat) (y : Nat × Nat) (hx : a.eval x = .slice (some ⟨g, 0, none⟩) 1 1)
    (hc : w.cell? ⟨g, 0, none⟩ = some (.int .i64 y.1)) (hc1 : w.cell? ⟨g, 1, none⟩ = some (.int .i64 y.2)) (hl : zs.length ≤ 1000000)
    (h : ∀ A' c' w', OwnW w' B (.slice A' (zs.length + 1) c') (zs ++ [y]) → w.grownBy w' v.ownBlock → wpList Try.prog ops Q rest (a.put o.dst (.slice A' (zs.length + 1) c')) w') : wpList Try.prog ops Q (o :: rest) a w := by
  obtain ⟨i0, hi, hz0, hz1, hz2⟩ := info_parts infoSt
  refine wpList_append_own_at w hgd s x 130 ho B 150 i0 _ 2 16 Try.underlying130 hi hz0 hz1 hz2 rfl (by decide) v zs.length _ hs hown ⟨g, 0, none⟩ 1 1 (st2 y) hx rfl ?_ ?_
    (by unfold maxLen; omega) (by omega) hB ?_
  · intro j u hj
    match j, hj with
    | 0, hj => injection hj with hj; subst hj; exact hc
    | 1, hj => injection hj with hj; subst hj; exact hc1
  · intro u hu
    unfold st2 at hu
    simp at hu
    rcases hu with rfl | rfl <;> rfl
  · intro v' w' h1 h2 _ _
    have e : stc zs ++ st2 y = stc (zs ++ [y]) := by unfold stc; simp
    rw [e] at h1
    have e2 : zs.length + 1 = (zs ++ [y]).length := by simp
    rcases h1.2 with ⟨_, q⟩ | ⟨g', cap, cur, rfl, _⟩
    · omega
    · exact h _ cap w' (by unfold OwnW; rw [← e2]; exact h1) h2
/-- the steps from a node down -/
def Tab.down (s : Tab) (k : ByteArray) : Nat → Nat → List (Nat × Nat)
  | 0, _ => []
  | 1, p => [(p, (s.nd p).pos k)]
  | d + 2, p => (p, (s.nd p).kid k) :: s.down k (d + 1) ((s.nd p).num ((s.nd p).kid k)).toNat
/-- nothing is amiss on the way -/
def Tab.Walks (s : Tab) (k : ByteArray) : Nat → Nat → Prop
  | 0, _ => True
  | 1, p => p < s.nds.length ∧ (s.nd p).length ≤ 100000
  | d + 2, p => p < s.nds.length ∧ (s.nd p).length ≤ 100000 ∧ (s.nd p).kid k < (s.nd p).length ∧ ∃ q : Nat, (s.nd p).num ((s.nd p).kid k) = q ∧ s.Walks k (d + 1) q

end Go.Proofs.Ytbfgpdgiaclphaa
