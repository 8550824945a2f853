/- Proved parts: T9o. Conditions: each theorem's own. -/
import Derived.Test.YtbfgpdgiaclphaaM26
namespace Go.Proofs.Ytbfgpdgiaclphaa
open Go.RowKit

def Tab.cutR (s : Tab) : Tab := (s.put s.root ((s.nd s.root).take 3)).take ((s.nd s.root).drop 3)
/-- the top, if the root is too great -/
def Tab.top (s : Tab) : Tab :=
  if 4 < (s.nd s.root).length then { s.cutR.take [((s.nd s.root).key 0, (s.root : Int)), ((s.nd s.root).key 3, (s.place : Int))] with root := s.cutR.place, depth := s.depth + 1 }
  else s
/-- take of a node that was just built -/
theorem xTakeNew (w : World) (T : Nat) (E : Nat → Prop) (s : Tab) (zs : KV) (h : TabG w T E s) (h0 : 0 < zs.length) (hm : zs.length ≤ 1000) (hf : ∀ p, p ∈ s.free → p < s.nds.length) (hn : s.nds.length ≤ 900000) (hn2 : s.free.length ≤ 900000) :
    Calls Try.prog 91 #[Ptr T, .slice (some ⟨w.heap.size, 0, none⟩) zs.length zs.length] (w.alloc (.cells (itc zs).toArray 123)) fun x w' => x = .returned (.int .i64 s.place) ∧ LeftP w T E (s.take zs) w' := by
  obtain ⟨rv, fv, vs, h⟩ := h
  have B1 : Below w.heap.size w (w.alloc (.cells (itc zs).toArray 123)) := (Below.refl _ _).alloc (Nat.le_refl _) _
  have r1 : RowAt (w.alloc (.cells (itc zs).toArray 123)) w.heap.size (itc zs) 123 := RowAt.new w _ _
  obtain ⟨w1, hw1⟩ : ∃ w1, w1 = w.alloc (.cells (itc zs).toArray 123) := ⟨_, rfl⟩
  rw [← hw1] at B1 r1 ⊢
  have s1 : w1.heap.size = w.heap.size + 1 := by rw [hw1]; simp
  have v1 : TabV w1 T (fun i => E i ∨ i = w.heap.size) s rv fv vs := (h.below B1).grow (fun i e => .inl e) (fun i e => by
    rcases e with e | e
    · have := h.lt i e; omega
    · omega)
  have wn : WinAt w1 w.heap.size 0 zs.length zs := by
    refine ⟨Nat.le_refl _, by unfold maxLen; omega, h0, fun j u hj => ?_, fun j hj => ?_, ⟨_, r1⟩⟩
    · rw [Nat.zero_add, r1.cell]; exact hj
    · rw [Nat.zero_add, r1.cell, List.getElem?_eq_getElem (by rw [itc_len]; exact hj)]; rfl
  refine (xTake w1 T (fun i => E i ∨ i = w.heap.size) s rv fv vs (some ⟨w.heap.size, 0, none⟩) zs.length zs.length zs v1 wn.node (fun i j ⟨_, _, _, e, _⟩ => by
    injection e with e _ _
    injection e with e
    injection e with e _ _
    have e : i = w.heap.size := e.symm
    refine ⟨⟨.inr e, fun t => ?_, fun t => ?_, fun t => ?_⟩, fun m hm f => ?_⟩
    · have := h.lt T h.eT; omega
    · have := h.lt i (h.eN i t).1; omega
    · have := h.lt i (h.eF i t).1; omega
    · have := h.lt i (h.eW m i j hm f).1; omega) hf hn hn2).mono fun x w3 ⟨hx, ⟨E3, h3, a3, c3⟩, _⟩ => ⟨hx, E3, h3, fun i e => ?_, (Chg.of_below B1).trans c3 fun i e => ?_⟩
  · rcases a3 i e with (f | f) | f
    · exact .inl f
    · exact .inr (by omega)
    · exact .inr (by omega)
  · rcases e with e | e
    · exact .inl e
    · exact .inr (by omega)
structure FineTop (s : Tab) : Prop where
  ir : s.root < s.nds.length
  l0 : 0 < (s.nd s.root).length
  lr : (s.nd s.root).length ≤ 10000
  free : ∀ f, f ∈ s.free → f < s.nds.length
  ln : s.nds.length ≤ 850000
  lf : s.free.length ≤ 850000
  dep : s.depth ≤ 850000

set_option maxHeartbeats 4000000 in
set_option maxRecDepth 100000 in
/-- insert, along a way -/
theorem xInsert1 (w : World) (T : Nat) (E : Nat → Prop) (s : Tab) (v : Value) (ws : List (Nat × Nat)) (e : Nat) (x : ByteArray × Int) (h : TabG w T E s) (hv : SlW w v ws) (hb : ∀ k, v.ownBlock = some k → ¬ E k) (he : ws.length = e + 1) (hws : ws.length ≤ 10000)
    (h1 : (ws.getD e (0, 0)).1 < s.nds.length) (h2 : (ws.getD e (0, 0)).2 ≤ (s.nd (ws.getD e (0, 0)).1).length) (h3 : 0 < (s.nd (ws.getD e (0, 0)).1).length) (h4 : (s.nd (ws.getD e (0, 0)).1).length ≤ 100000)
    (hu : FineUps ws e (s.put (ws.getD e (0, 0)).1 (ins (s.nd (ws.getD e (0, 0)).1) (ws.getD e (0, 0)).2 x))) (ht : FineTop (Tab.ups ws e (s.put (ws.getD e (0, 0)).1 (ins (s.nd (ws.getD e (0, 0)).1) (ws.getD e (0, 0)).2 x)))) :
    Calls Try.prog 83 #[Ptr T, v, .agg #[.string x.1, .int .i64 x.2]] w fun r w' => r = .returned (.tuple #[]) ∧ LeftP w T E (Tab.ups ws e (s.put (ws.getD e (0, 0)).1 (ins (s.nd (ws.getD e (0, 0)).1) (ws.getD e (0, 0)).2 x))).top w' := by
  obtain ⟨A, c, rfl, hs⟩ := hv
  obtain ⟨g, rfl, _⟩ := hs 0 (by omega)
  obtain ⟨q, hq⟩ : ∃ q, q = w.heap.size := ⟨_, rfl⟩
  obtain ⟨w1, hw1⟩ : ∃ w1, w1 = w.alloc (.cells #[.string x.1, .int .i64 x.2] 123) := ⟨_, rfl⟩
  have B1 : Below w.heap.size w w1 := by rw [hw1]; exact (Below.refl _ _).alloc (Nat.le_refl _) _
  have r1 : RowAt w1 q [.string x.1, .int .i64 x.2] 123 := by rw [hw1, hq]; exact RowAt.new w _ _
  have gE : ¬ E g := hb g rfl
  -- the way's cells, wherever
  have WC := Lib.hid (show ∀ w', Chg E w w' → ∀ j, j < ws.length → w'.cell? ⟨g, j * 2, none⟩ = some (.int .i64 (ws.getD j (0, 0)).1) ∧ w'.cell? ⟨g, j * 2 + 1, none⟩ = some (.int .i64 (ws.getD j (0, 0)).2) from fun w' hc j hj => by
    obtain ⟨g', e', a1, a2⟩ := hs j hj
    injection e' with e'
    injection e' with e' _ _
    subst e'
    exact ⟨hc.cell a1 gE, hc.cell a2 gE⟩)
  obtain ⟨P, hP⟩ : ∃ P, P = (ws.getD e (0, 0)).1 := ⟨_, rfl⟩
  obtain ⟨a, ha⟩ : ∃ a, a = (ws.getD e (0, 0)).2 := ⟨_, rfl⟩
  rw [← hP] at h1
  rw [← hP, ← ha] at h2
  rw [← hP] at h3 h4
  rw [← hP, ← ha] at hu ht ⊢
  have we := WC.out w1 (Chg.of_below B1) e (by omega)
  rw [← hP, ← ha] at we
  have LC := Lib.hid (xLay w1.drew T E s P a x (h.below (w' := w1.drew) B1.drew) h1 h2 h3 h4)
  have L1 := Lib.hid (show ∀ w3, LeftP w1.drew T E (s.put P (ins (s.nd P) a x)) w3 → LeftP w T E (s.put P (ins (s.nd P) a x)) w3 from fun w3 ⟨E3, h3, a3, c3⟩ => ⟨E3, h3, fun k e => by
    rcases a3 k e with f | f
    · exact .inl f
    · exact .inr (Nat.le_trans B1.size f), (Chg.of_below B1.drew).then c3⟩)
  obtain ⟨S0, hS0⟩ : ∃ S0, S0 = s.put P (ins (s.nd P) a x) := ⟨_, rfl⟩
  rw [← hS0] at LC L1 hu ht ⊢
  obtain ⟨S, hS⟩ : ∃ S, S = Tab.ups ws e S0 := ⟨_, rfl⟩
  rw [← hS] at ht ⊢
  have HU := Lib.hid hu
  have HT := Lib.hid ht
  have HS := Lib.hid hS
  have HW1 := Lib.hid hw1
  have HQ := Lib.hid hq
  have R1 := Lib.hid r1
  have HE := Lib.hid he
  have LT := Lib.hid h.lt
  have wl := we.1
  have wr := we.2
  have x0 := r1.cell 0
  have x1 := r1.cell 1
  simp only [List.getElem?_cons_zero, List.getElem?_cons_succ] at x0 x1
  rw [he] at hws ⊢
  have ei : (e : Int) + 1 - 1 = (e : Int) := by omega
  have e0 : ¬ ((e : Int) + 1 = 0) := by omega
  have e1z : (e : Int) < (e : Int) + 1 := by omega
  clear hu ht hS hw1 hq r1 h h1 h2 h3 h4 hs hb hP ha we hS0 he B1
  go_enter Try.func83, Try.ntmps83
  go_wp2_with fail
  rw [← HW1.out, ← HQ.out]
  have qE : ∀ k, E k → k ≠ q := fun k ek => by have := LT.out k ek; have := HQ.out; omega
  have SH := Lib.hid (show ∀ w3, LeftP w1.drew T E S0 w3 → w3.cell? ⟨g, e * 2, none⟩ = some (.int .i64 P) ∧ w3.cell? ⟨g, e * 2 + 1, none⟩ = some (.int .i64 a) ∧ w3.cell? ⟨q, 0, none⟩ = some (.string x.1) ∧ w3.cell? ⟨q, 1, none⟩ = some (.int .i64 x.2) from fun w3 ⟨E3, h3, a3, c3⟩ =>
    ⟨c3.cell wl gE, c3.cell wr gE, c3.cell x0 (fun k => qE _ k rfl), c3.cell x1 (fun k => qE _ k rfl)⟩)
  clear qE
  refine wp_region_held_drew (S := (fun w' => w'.cell? ⟨g, e * 2, none⟩ = some (.int .i64 P) ∧ w'.cell? ⟨g, e * 2 + 1, none⟩ = some (.int .i64 a) ∧ w'.cell? ⟨q, 0, none⟩ = some (.string x.1) ∧ w'.cell? ⟨q, 1, none⟩ = some (.int .i64 x.2))) (by kernel_rfl) (⟨wl, wr, x0, x1⟩) (fun hHeld => ?_)
  refine rgnTake 0 rfl (by kernel_rfl) (by kernel_rfl) (by kernel_rfl) (fun _ _ _ h => h) (by rfl) (v := ?v1) ?hy1 hHeld ?rest1
  case hy1 => (intro v hSw; obtain ⟨y0, y1, y2, y3⟩ := hSw; first | (go_simp; done) | (go_simp; with_reducible rfl))
  try simp only [Act.put, List.setIfInBounds_toArray, List.set_cons_zero, List.set_cons_succ]
  refine rgnTake 1 rfl (by kernel_rfl) (by kernel_rfl) (by kernel_rfl) (fun _ _ _ h => h) (by rfl) (v := ?v2) ?hy2 hHeld ?rest2
  case hy2 => (intro v hSw; obtain ⟨y0, y1, y2, y3⟩ := hSw; first | (go_simp; done) | (go_simp; with_reducible rfl))
  try simp only [Act.put, List.setIfInBounds_toArray, List.set_cons_zero, List.set_cons_succ]
  refine rgnTake 2 rfl (by kernel_rfl) (by kernel_rfl) (by kernel_rfl) (fun _ _ _ h => h) (by rfl) (v := ?v3) ?hy3 hHeld ?rest3
  case hy3 => (intro v hSw; obtain ⟨y0, y1, y2, y3⟩ := hSw; first | (go_simp; done) | (go_simp; with_reducible rfl))
  try simp only [Act.put, List.setIfInBounds_toArray, List.set_cons_zero, List.set_cons_succ]
  refine rgnTake 3 rfl (by kernel_rfl) (by kernel_rfl) (by kernel_rfl) (fun _ _ _ h => h) (by rfl) (v := ?v4) ?hy4 hHeld ?rest4
  case hy4 => (intro v hSw; obtain ⟨y0, y1, y2, y3⟩ := hSw; first | (go_simp; done) | (go_simp; with_reducible rfl))
  try simp only [Act.put, List.setIfInBounds_toArray, List.set_cons_zero, List.set_cons_succ]
  refine rgnTake 4 rfl (by kernel_rfl) (by kernel_rfl) (by kernel_rfl) (fun _ _ _ h => h) (by rfl) (v := ?v5) ?hy5 hHeld ?rest5
  case hy5 => (intro v hSw; obtain ⟨y0, y1, y2, y3⟩ := hSw; first | (go_simp; done) | (go_simp; with_reducible rfl))
  try simp only [Act.put, List.setIfInBounds_toArray, List.set_cons_zero, List.set_cons_succ]
  refine rgnTake 5 rfl (by kernel_rfl) (by kernel_rfl) (by kernel_rfl) (fun _ _ _ h => h) (by rfl) (v := ?v6) ?hy6 hHeld ?rest6
  case hy6 => (intro v hSw; obtain ⟨y0, y1, y2, y3⟩ := hSw; first | (go_simp; done) | (go_simp; with_reducible rfl))
  try simp only [Act.put, List.setIfInBounds_toArray, List.set_cons_zero, List.set_cons_succ]
  refine rgnOne 6 rfl (by kernel_rfl) (fun K hK => ?_)
  go_simp
  refine LC.out.mono ?_
  rintro r w3 ⟨rfl, hl⟩
  have HL := Lib.hid (L1.out w3 hl)
  refine hK.out _ _ ((SH.out w3 hl)) (fun hHeld => ?_)
  clear hK K
  try simp only [Act.put, List.setIfInBounds_toArray, List.set_cons_zero, List.set_cons_succ]
  refine wpAnyH_done (by kernel_rfl) ?_ _
  clear wl wr x0 x1
  go_wp2_with fail
  go_loopw [7] (fun vi wr => ∃ (i : Nat) (s1 : Tab), i ≤ e ∧ vi = .int .i64 i ∧ Hid (LeftP w T E s1 wr) ∧ Hid (Tab.ups ws i s1 = S) ∧ Hid (FineUps ws i s1)) (fun vi _ => (intOf vi).toNat)
  case atStart => exact ⟨e, S0, Nat.le_refl _, rfl, HL, Lib.hid HS.out.symm, HU⟩
  case round =>
    obtain ⟨i, s1, hie, rfl, HLi, HSi, HUi⟩ := hrel
    cases i with
    | zero =>
      have hs2 : s1 = S := HSi.out
      subst hs2
      obtain ⟨E1, g1, a1, c1⟩ := HLi.out
      have f := HT.out
      obtain ⟨rv, fv, vs, tv⟩ := g1
      have p1 : s1.root < vs.length := by rw [tv.len]; exact f.ir
      obtain ⟨g0, c0, rfl, hg0, gT, hc⟩ := tv.rowAt (by omega)
      obtain ⟨A3, cz, ev3, _⟩ := (tv.node s1.root p1).form
      obtain ⟨R, hR⟩ : ∃ R, R = s1.root := ⟨_, rfl⟩
      obtain ⟨D, hD⟩ : ∃ D, D = s1.depth := ⟨_, rfl⟩
      have d0 := tv.row.cell 0
      have d1 := tv.row.cell 2
      simp only [List.getElem?_cons_zero, List.getElem?_cons_succ] at d0 d1
      have d2 := (hc s1.root p1).1
      rw [ev3] at d2
      obtain ⟨z, hz⟩ : ∃ z, z = (s1.nd s1.root).length := ⟨_, rfl⟩
      obtain ⟨N, hN⟩ : ∃ N, N = vs.length := ⟨_, rfl⟩
      rw [← hz, ← hR] at d2
      rw [← hR] at d1
      rw [← hN] at d0
      have p1' : R < N := by rw [hR, hN]; exact p1
      have TV := Lib.hid tv
      have A1 := Lib.hid a1
      have C1 := Lib.hid c1
      have HZ := Lib.hid hz
      have HR := Lib.hid hR
      have HD := Lib.hid hD
      obtain ⟨wo, hwo⟩ : ∃ wo, wo = wr := ⟨_, rfl⟩
      subst hwo
      clear f hc tv a1 c1 hz hR hD hN ev3 p1 hl HUi HSi HLi
      go_wp2_with fail
      refine wp_region_held_drew (S := (fun w' => w'.cell? ⟨T, 0, none⟩ = some (.slice (some ⟨g0, 0, none⟩) N c0) ∧ w'.cell? ⟨T, 2, none⟩ = some (.int .i64 R) ∧ w'.cell? ⟨g0, R, none⟩ = some (.slice A3 z cz))) (by kernel_rfl) (⟨d0, d1, d2⟩) (fun hHeld => ?_)
      by_cases z4 : 4 < z
      · have z4' : (4 : Int) < (z : Int) := by omega
        have f := HT.out
        have UP := Lib.hid (show s1.top = { s1.cutR.take [((s1.nd s1.root).key 0, (s1.root : Int)), ((s1.nd s1.root).key 3, (s1.place : Int))] with root := s1.cutR.place, depth := s1.depth + 1 } from if_pos (by rw [← HZ.out]; exact z4))
        obtain ⟨K0, hK0⟩ : ∃ K0, K0 = (s1.nd s1.root).key 0 := ⟨_, rfl⟩
        obtain ⟨K3, hK3⟩ : ∃ K3, K3 = (s1.nd s1.root).key 3 := ⟨_, rfl⟩
        obtain ⟨PL, hPL⟩ : ∃ PL, PL = s1.place := ⟨_, rfl⟩
        obtain ⟨w2, hw2⟩ : ∃ w2, w2 = wo.drew := ⟨_, rfl⟩
        have t2 := TV.out.below (w' := w2) (by rw [hw2]; exact (Below.refl _ _).drew)
        have p1 : R < vs.length := by rw [HR.out, TV.out.len]; exact f.ir
        have LE := Lib.hid (show ∀ w', Below w2.heap.size w2 w' → Calls Try.prog 93 #[Ptr T, .int .i64 R] w' fun x w'' => x = .returned (.string K0) ∧ w'' = w' from fun w' hb => by
          have := xLeast w' T E1 s1 _ _ _ R (t2.below hb) p1 (by rw [HR.out]; exact f.l0)
          rw [HR.out, ← hK0, ← HR.out] at this; exact this)
        have BD := Lib.hid (show Below w2.heap.size w2 w2.drew from (Below.refl _ _).drew)
        have BA := Lib.hid (show ∀ cs t, Below w2.heap.size w2 (w2.alloc (.cells cs t)).drew from fun cs t => ((Below.refl _ _).alloc (Nat.le_refl _) _).drew)
        obtain ⟨w3, hw3⟩ : ∃ w3, w3 = (w2.alloc (.cells #[.string K0, .int .i64 R] 123)).drew := ⟨_, rfl⟩
        obtain ⟨q10, hq10⟩ : ∃ q10, q10 = w2.heap.size := ⟨_, rfl⟩
        have e2 : w2.cell? ⟨T, 2, none⟩ = some (.int .i64 R) := by rw [HR.out]; exact t2.row.cell 2
        have KS := Lib.hid (show ∀ cs t, (w2.alloc (.cells cs t)).drew.cell? ⟨T, 2, none⟩ = some (.int .i64 R) from fun cs t => by
          have hb : Below w2.heap.size w2 (w2.alloc (.cells cs t)).drew := ((Below.refl _ _).alloc (Nat.le_refl _) _).drew
          exact (hb.cell (p := ⟨T, 2, none⟩) (block_lt_of_cell e2)).trans e2)
        have B3 : Below w2.heap.size w2 w3 := by rw [hw3]; exact ((Below.refl _ _).alloc (Nat.le_refl _) _).drew
        have R3 := Lib.hid (show RowAt w3 q10 [.string K0, .int .i64 R] 123 by rw [hw3, hq10]; exact RowAt.new w2 _ _)
        have S3 : w3.heap.size = q10 + 1 := by rw [hw3, hq10, heap_drew]; simp
        have T3 := Lib.hid (t2.below B3)
        obtain ⟨w4, hw4⟩ : ∃ w4, w4 = w3.drew := ⟨_, rfl⟩
        have C4 := Lib.hid (show Chg E wo.drew w4 by rw [hw4, ← hw2]; exact (Chg.of_below B3).drew)
        have R4 := Lib.hid (show RowAt w4 q10 [.string K0, .int .i64 R] 123 by rw [hw4]; exact R3.out)
        have g4 : TabG w4 T E1 s1 := by rw [hw4]; exact ⟨_, _, _, T3.out.below (Below.refl _ _).drew⟩
        have PC := Lib.hid (xPart w4 T E1 s1 s1.root g4 f.ir (by rw [← HZ.out]; omega) f.free (by have := f.ln; omega) (by have := f.lf; omega))
        rw [← hK3, ← hPL, ← HR.out] at PC
        have Q10 := Lib.hid (show ∀ k, E1 k → k ≠ q10 from fun k e => by have := t2.lt k e; omega)
        have CT : s1.cutR = (s1.put R ((s1.nd R).take 3)).take ((s1.nd R).drop 3) := by unfold Tab.cutR; rw [HR.out]
        rw [← CT] at PC
        have SK := Lib.hid (show ∀ s' w5, LeftP w4 T E1 s' w5 → s'.root = s1.root → w5.cell? ⟨T, 2, none⟩ = some (.int .i64 R) ∧ w5.cell? ⟨q10, 0, none⟩ = some (.string K0) ∧ w5.cell? ⟨q10, 1, none⟩ = some (.int .i64 R) from fun s' w5 ⟨E5, ⟨r5, f5, v5, g5⟩, a5, c5⟩ hr => by
          have r5 : RowAt w5 q10 _ _ := R4.out.keep c5 (fun e => Q10.out _ e rfl)
          exact ⟨by rw [HR.out, ← hr]; exact g5.row.cell 2, r5.cell 0, r5.cell 1⟩)
        have TK := Lib.hid (show ∀ w5, LeftP w4 T E1 s1.cutR w5 → Calls Try.prog 91 #[Ptr T, .slice (some ⟨w5.heap.size, 0, none⟩) 2 2] (w5.alloc (.cells #[.string K0, .int .i64 R, .string K3, .int .i64 PL] 123)) fun x w' => x = .returned (.int .i64 s1.cutR.place) ∧ LeftP w4 T E1 (s1.cutR.take [(K0, (R : Int)), (K3, (PL : Int))]) w' from fun w5 ⟨E5, g5, a5, c5⟩ => by
          have l1 := (Tab.take_len (s := s1.put s1.root ((s1.nd s1.root).take 3)) (zs := (s1.nd s1.root).drop 3))
          have l2 : (s1.put s1.root ((s1.nd s1.root).take 3)).nds.length = s1.nds.length := Tab.put_len _ _ _
          have l3 : s1.cutR.free = s1.free.dropLast := Tab.take_free
          refine (xTakeNew w5 T E5 s1.cutR [(K0, (R : Int)), (K3, (PL : Int))] g5 (by simp) (by simp) (fun q hq => ?_) ?_ ?_).mono fun x w' h => ⟨h.1, LeftP.then c5 a5 h.2⟩
          · rw [l3] at hq
            have := f.free q (List.dropLast_subset _ hq)
            show q < ((s1.put s1.root ((s1.nd s1.root).take 3)).take ((s1.nd s1.root).drop 3)).nds.length
            omega
          · have := f.ln
            show ((s1.put s1.root ((s1.nd s1.root).take 3)).take ((s1.nd s1.root).drop 3)).nds.length ≤ _
            omega
          · rw [l3, List.length_dropLast]; have := f.lf; omega)
        have rt1 : ∀ zs, (s1.cutR.take zs).root = s1.root ∧ (s1.cutR.take zs).depth = s1.depth := fun zs => by
          unfold Tab.cutR
          have key : ∀ (s : Tab) (zs : KV), (s.take zs).root = s.root ∧ (s.take zs).depth = s.depth := fun s zs => by
            unfold Tab.take; cases s.free.getLast? <;> exact ⟨rfl, rfl⟩
          obtain ⟨e1, e2⟩ := key ((s1.put s1.root ((s1.nd s1.root).take 3)).take ((s1.nd s1.root).drop 3)) zs
          obtain ⟨e3, e4⟩ := key (s1.put s1.root ((s1.nd s1.root).take 3)) ((s1.nd s1.root).drop 3)
          exact ⟨e1.trans e3, e2.trans e4⟩
        have rt0 : s1.cutR.root = s1.root := by
          unfold Tab.cutR Tab.take; cases (s1.put s1.root ((s1.nd s1.root).take 3)).free.getLast? <;> rfl
        have FIN := Lib.hid (show ∀ w6, LeftP w4 T E1 (s1.cutR.take [(K0, (R : Int)), (K3, (PL : Int))]) w6 → LeftP w T E s1.top ((w6.setCell ⟨T, 2, none⟩ (.int .i64 s1.cutR.place)).setCell ⟨T, 3, none⟩ (.int .i64 ((D : Int) + 1))) ∧ w6.cell? ⟨T, 3, none⟩ = some (.int .i64 D) ∧ ∀ j, w6.frozen? ⟨T, j, none⟩ = false from fun w6 ⟨E6, ⟨r6, f6, v6, g6⟩, a6, c6⟩ => by
          have ed := (rt1 [(K0, (R : Int)), (K3, (PL : Int))]).2
          have h4 := g6.field (s' := { s1.cutR.take [(K0, (R : Int)), (K3, (PL : Int))] with root := s1.cutR.place }) (u := .int .i64 s1.cutR.place) 2 rfl rfl rfl
          have h5 := h4.field (s' := { s1.cutR.take [(K0, (R : Int)), (K3, (PL : Int))] with root := s1.cutR.place, depth := s1.depth + 1 }) (u := .int .i64 ((D : Int) + 1)) 3 rfl rfl (by rw [HD.out]; rfl)
          refine ⟨?_, by rw [HD.out, ← ed]; exact g6.row.cell 3, fun j => g6.row.frozen j⟩
          rw [UP.out, ← hK0, ← hK3, ← hPL, ← HR.out]
          refine LeftP.then (C1.out.drew.trans C4.out fun _ e => .inl e) A1.out ?_
          exact ⟨E6, ⟨r6, f6, v6, h5⟩, a6, Chg.setCell (Chg.setCell c6 (.inl TV.out.eT) _) (.inl TV.out.eT) _⟩)
        have M2 := Lib.hid (show w4.cell? ⟨T, 2, none⟩ = some (.int .i64 R) by rw [hw4, HR.out]; exact T3.out.row.cell 2)
        have AL := Lib.hid (show ∀ w5 : World, w5.cell? ⟨q10, 0, none⟩ = some (.string K0) ∧ w5.cell? ⟨q10, 1, none⟩ = some (.int .i64 R) → ∀ cs t, (w5.alloc (.cells cs t)).cell? ⟨q10, 0, none⟩ = some (.string K0) ∧ (w5.alloc (.cells cs t)).cell? ⟨q10, 1, none⟩ = some (.int .i64 R) from fun w5 h cs t => by
          have hb : Below w5.heap.size w5 (w5.alloc (.cells cs t)) := (Below.refl _ _).alloc (Nat.le_refl _) _
          exact ⟨(hb.cell (p := ⟨q10, 0, none⟩) (block_lt_of_cell h.1)).trans h.1, (hb.cell (p := ⟨q10, 1, none⟩) (block_lt_of_cell h.2)).trans h.2⟩)
        have ST6 := Lib.hid (show ∀ w5 : World, w5.cell? ⟨q10, 0, none⟩ = some (.string K0) ∧ w5.cell? ⟨q10, 1, none⟩ = some (.int .i64 R) → ∀ u, (w5.setCell ⟨T, 2, none⟩ u).cell? ⟨q10, 0, none⟩ = some (.string K0) ∧ (w5.setCell ⟨T, 2, none⟩ u).cell? ⟨q10, 1, none⟩ = some (.int .i64 R) from fun w5 h u => by
          have tq : q10 ≠ T := fun e => Q10.out T TV.out.eT e.symm
          exact ⟨(World.cell?_of_block (a := ⟨q10, 0, none⟩) (Below.heap_setCell _ _ _ _ tq)).trans h.1, (World.cell?_of_block (a := ⟨q10, 1, none⟩) (Below.heap_setCell _ _ _ _ tq)).trans h.2⟩)
        have RT := Lib.hid rt0
        have RT1 := Lib.hid rt1
        have HW2 := Lib.hid hw2
        have HW3 := Lib.hid hw3
        have HW4 := Lib.hid hw4
        have HQ10 := Lib.hid hq10
        have dd : D ≤ 850000 := by rw [HD.out]; exact f.dep
        clear hw2 hw3 hw4 hq10 hK0 hK3 hPL B3 S3 CT t2 f g4 rt0 rt1 p1
        refine rgnTake 0 rfl (by kernel_rfl) (by kernel_rfl) (by kernel_rfl) (fun _ _ _ h => h) (by rfl) (v := ?v7) ?hy7 hHeld ?rest7
        case hy7 => (intro v hSw; obtain ⟨y0, y1, y2⟩ := hSw; first | (go_simp; done) | (go_simp; with_reducible rfl))
        try simp only [Act.put, List.setIfInBounds_toArray, List.set_cons_zero, List.set_cons_succ]
        refine rgnTake 1 rfl (by kernel_rfl) (by kernel_rfl) (by kernel_rfl) (fun _ _ _ h => h) (by rfl) (v := ?v8) ?hy8 hHeld ?rest8
        case hy8 => (intro v hSw; obtain ⟨y0, y1, y2⟩ := hSw; first | (go_simp; done) | (go_simp; with_reducible rfl))
        try simp only [Act.put, List.setIfInBounds_toArray, List.set_cons_zero, List.set_cons_succ]
        refine rgnTake 2 rfl (by kernel_rfl) (by kernel_rfl) (by kernel_rfl) (fun _ _ _ h => h) (by rfl) (v := ?v9) ?hy9 hHeld ?rest9
        case hy9 => (intro v hSw; obtain ⟨y0, y1, y2⟩ := hSw; first | (go_simp; done) | (go_simp; with_reducible rfl))
        try simp only [Act.put, List.setIfInBounds_toArray, List.set_cons_zero, List.set_cons_succ]
        refine rgnTake 3 rfl (by kernel_rfl) (by kernel_rfl) (by kernel_rfl) (fun _ _ _ h => h) (by rfl) (v := ?v10) ?hy10 hHeld ?rest10
        case hy10 => (intro v hSw; obtain ⟨y0, y1, y2⟩ := hSw; first | (go_simp; done) | (go_simp; with_reducible rfl))
        try simp only [Act.put, List.setIfInBounds_toArray, List.set_cons_zero, List.set_cons_succ]
        refine rgnTake 4 rfl (by kernel_rfl) (by kernel_rfl) (by kernel_rfl) (fun _ _ _ h => h) (by rfl) (v := ?v11) ?hy11 hHeld ?rest11
        case hy11 => (intro v hSw; obtain ⟨y0, y1, y2⟩ := hSw; first | (go_simp; done) | (go_simp; with_reducible rfl))
        try simp only [Act.put, List.setIfInBounds_toArray, List.set_cons_zero, List.set_cons_succ]
        refine rgnTake 5 rfl (by kernel_rfl) (by kernel_rfl) (by kernel_rfl) (fun _ _ _ h => h) (by rfl) (v := ?v12) ?hy12 hHeld ?rest12
        case hy12 => (intro v hSw; obtain ⟨y0, y1, y2⟩ := hSw; first | (go_simp; done) | (go_simp; with_reducible rfl))
        try simp only [Act.put, List.setIfInBounds_toArray, List.set_cons_zero, List.set_cons_succ]
        refine rgnTake 6 rfl (by kernel_rfl) (by kernel_rfl) (by kernel_rfl) (fun _ _ _ h => h) (by rfl) (v := ?v13) ?hy13 hHeld ?rest13
        case hy13 => (intro v hSw; obtain ⟨y0, y1, y2⟩ := hSw; first | (go_simp; done) | (go_simp; with_reducible rfl))
        try simp only [Act.put, List.setIfInBounds_toArray, List.set_cons_zero, List.set_cons_succ]
        refine rgnTake 7 rfl (by kernel_rfl) (by kernel_rfl) (by kernel_rfl) (fun _ _ _ h => h) (by rfl) (v := ?v14) ?hy14 hHeld ?rest14
        case hy14 => (intro v hSw; obtain ⟨y0, y1, y2⟩ := hSw; first | (go_simp; done) | (go_simp; with_reducible rfl))
        try simp only [Act.put, List.setIfInBounds_toArray, List.set_cons_zero, List.set_cons_succ]
        refine rgnTake 8 rfl (by kernel_rfl) (by kernel_rfl) (by kernel_rfl) (fun _ _ _ h => h) (by rfl) (v := ?v15) ?hy15 hHeld ?rest15
        case hy15 => (intro v hSw; obtain ⟨y0, y1, y2⟩ := hSw; first | (go_simp; done) | (go_simp; with_reducible rfl))
        try simp only [Act.put, List.setIfInBounds_toArray, List.set_cons_zero, List.set_cons_succ]
        refine rgnTake 9 rfl (by kernel_rfl) (by kernel_rfl) (by kernel_rfl) (fun _ _ _ h => h) (by rfl) (v := ?v16) ?hy16 hHeld ?rest16
        case hy16 => (intro v hSw; obtain ⟨y0, y1, y2⟩ := hSw; first | (go_simp; done) | (go_simp; with_reducible rfl))
        try simp only [Act.put, List.setIfInBounds_toArray, List.set_cons_zero, List.set_cons_succ]
        refine rgnTake 10 rfl (by kernel_rfl) (by kernel_rfl) (by kernel_rfl) (fun _ _ _ h => h) (by rfl) (v := ?v17) ?hy17 hHeld ?rest17
        case hy17 => (intro v hSw; obtain ⟨y0, y1, y2⟩ := hSw; first | (go_simp; done) | (go_simp; with_reducible rfl))
        try simp only [Act.put, List.setIfInBounds_toArray, List.set_cons_zero, List.set_cons_succ]
        refine rgnTake 11 rfl (by kernel_rfl) (by kernel_rfl) (by kernel_rfl) (fun _ _ _ h => h) (by rfl) (v := ?v18) ?hy18 hHeld ?rest18
        case hy18 => (intro v hSw; obtain ⟨y0, y1, y2⟩ := hSw; first | (go_simp; done) | (go_simp; with_reducible rfl))
        try simp only [Act.put, List.setIfInBounds_toArray, List.set_cons_zero, List.set_cons_succ]
        refine wpAnyH_done (by kernel_rfl) ?_ _
        clear d0 d1 d2 hHeld
        go_wp2_with fail
        rw [← HW2.out]
        refine wp_region_held_drew (S := (fun w' => w'.cell? ⟨T, 2, none⟩ = some (.int .i64 R))) (by kernel_rfl) (e2) (fun hHeld => ?_)
        refine rgnTake 0 rfl (by kernel_rfl) (by kernel_rfl) (by kernel_rfl) (fun _ _ _ h => h) (by rfl) (v := ?v19) ?hy19 hHeld ?rest19
        case hy19 => (intro v hSw; have y0 := hSw; first | (go_simp; done) | (go_simp; with_reducible rfl))
        try simp only [Act.put, List.setIfInBounds_toArray, List.set_cons_zero, List.set_cons_succ]
        refine rgnTake 1 rfl (by kernel_rfl) (by kernel_rfl) (by kernel_rfl) (fun _ _ _ h => h) (by rfl) (v := ?v20) ?hy20 hHeld ?rest20
        case hy20 => (intro v hSw; have y0 := hSw; first | (go_simp; done) | (go_simp; with_reducible rfl))
        try simp only [Act.put, List.setIfInBounds_toArray, List.set_cons_zero, List.set_cons_succ]
        refine rgnTake 2 rfl (by kernel_rfl) (by kernel_rfl) (by kernel_rfl) (fun _ _ _ h => h) (by rfl) (v := ?v21) ?hy21 hHeld ?rest21
        case hy21 => (intro v hSw; have y0 := hSw; first | (go_simp; done) | (go_simp; with_reducible rfl))
        try simp only [Act.put, List.setIfInBounds_toArray, List.set_cons_zero, List.set_cons_succ]
        refine rgnTake 3 rfl (by kernel_rfl) (by kernel_rfl) (by kernel_rfl) (fun _ _ _ h => h) (by rfl) (v := ?v22) ?hy22 hHeld ?rest22
        case hy22 => (intro v hSw; have y0 := hSw; first | (go_simp; done) | (go_simp; with_reducible rfl))
        try simp only [Act.put, List.setIfInBounds_toArray, List.set_cons_zero, List.set_cons_succ]
        refine rgnTake 4 rfl (by kernel_rfl) (by kernel_rfl) (by kernel_rfl) (fun _ _ _ h => h) (by rfl) (v := ?v23) ?hy23 hHeld ?rest23
        case hy23 => (intro v hSw; have y0 := hSw; first | (go_simp; done) | (go_simp; with_reducible rfl))
        try simp only [Act.put, List.setIfInBounds_toArray, List.set_cons_zero, List.set_cons_succ]
        refine rgnTake 6 rfl (by kernel_rfl) (by kernel_rfl) (by kernel_rfl) (fun _ _ _ h => h) (by rfl) (v := ?v24) ?hy24 hHeld ?rest24
        case hy24 => (intro v hSw; have y0 := hSw; first | (go_simp; done) | (go_simp; with_reducible rfl))
        try simp only [Act.put, List.setIfInBounds_toArray, List.set_cons_zero, List.set_cons_succ]
        refine rgnTake 7 rfl (by kernel_rfl) (by kernel_rfl) (by kernel_rfl) (fun _ _ _ h => h) (by rfl) (v := ?v25) ?hy25 hHeld ?rest25
        case hy25 => (intro v hSw; have y0 := hSw; first | (go_simp; done) | (go_simp; with_reducible rfl))
        try simp only [Act.put, List.setIfInBounds_toArray, List.set_cons_zero, List.set_cons_succ]
        refine rgnTake 8 rfl (by kernel_rfl) (by kernel_rfl) (by kernel_rfl) (fun _ _ _ h => h) (by rfl) (v := ?v26) ?hy26 hHeld ?rest26
        case hy26 => (intro v hSw; have y0 := hSw; first | (go_simp; done) | (go_simp; with_reducible rfl))
        try simp only [Act.put, List.setIfInBounds_toArray, List.set_cons_zero, List.set_cons_succ]
        refine rgnTake 9 rfl (by kernel_rfl) (by kernel_rfl) (by kernel_rfl) (fun _ _ _ h => h) (by rfl) (v := ?v27) ?hy27 hHeld ?rest27
        case hy27 => (intro v hSw; have y0 := hSw; first | (go_simp; done) | (go_simp; with_reducible rfl))
        try simp only [Act.put, List.setIfInBounds_toArray, List.set_cons_zero, List.set_cons_succ]
        refine rgnTwo 5 11 rfl rfl (by kernel_rfl) (fun K hK => ?_) (fun K hK => ?_)
        · go_simp
          refine (LE.out _ BD.out).mono ?_
          rintro r w4' ⟨rfl, h4⟩
          subst h4
          refine hK.out _ _ hHeld (fun hHeld => ?_)
          clear hK K
          try simp only [Act.put, List.setIfInBounds_toArray, List.set_cons_zero, List.set_cons_succ]
          refine rgnTake 10 rfl (by kernel_rfl) (by kernel_rfl) (by kernel_rfl) (fun _ _ _ h => h) (by rfl) (v := ?v28) ?hy28 hHeld ?rest28
          case hy28 => (intro v hSw; have y0 := hSw; first | (go_simp; done) | (go_simp; with_reducible rfl))
          try simp only [Act.put, List.setIfInBounds_toArray, List.set_cons_zero, List.set_cons_succ]
          refine rgnOne 11 rfl (by kernel_rfl) (fun K hK => ?_)
          go_simp
          refine hK.out _ _ ((KS.out _ _)) (fun hHeld => ?_)
          clear hK K
          try simp only [Act.put, List.setIfInBounds_toArray, List.set_cons_zero, List.set_cons_succ]
          refine rgnOne 12 rfl (by kernel_rfl) (fun K hK => ?_)
          go_simp
          refine hK.out _ _ ((KS.out _ _)) (fun hHeld => ?_)
          clear hK K
          try simp only [Act.put, List.setIfInBounds_toArray, List.set_cons_zero, List.set_cons_succ]
          refine wpAnyH_done (by kernel_rfl) ?_ _
          clear e2
          go_wp2_with fail
          rw [← HW3.out, ← HQ10.out]
          have m0 := R3.out.cell 0
          have m1 := R3.out.cell 1
          simp only [List.getElem?_cons_zero, List.getElem?_cons_succ] at m0 m1
          refine wp_region_held_drew (S := (fun w' => w'.cell? ⟨q10, 0, none⟩ = some (.string K0) ∧ w'.cell? ⟨q10, 1, none⟩ = some (.int .i64 R))) (by kernel_rfl) (⟨m0, m1⟩) (fun hHeld => ?_)
          rw [← HW4.out] at hHeld ⊢
          have m2 := M2.out
          refine rgnTake 0 rfl (by kernel_rfl) (by kernel_rfl) (by kernel_rfl) (fun _ _ _ h => h) (by rfl) (v := ?v29) ?hy29 hHeld ?rest29
          case hy29 => (intro v hSw; obtain ⟨y0, y1⟩ := hSw; first | (go_simp; done) | (go_simp; with_reducible rfl))
          try simp only [Act.put, List.setIfInBounds_toArray, List.set_cons_zero, List.set_cons_succ]
          refine rgnTake 1 rfl (by kernel_rfl) (by kernel_rfl) (by kernel_rfl) (fun _ _ _ h => h) (by rfl) (v := ?v30) ?hy30 hHeld ?rest30
          case hy30 => (intro v hSw; obtain ⟨y0, y1⟩ := hSw; first | (go_simp; done) | (go_simp; with_reducible rfl))
          try simp only [Act.put, List.setIfInBounds_toArray, List.set_cons_zero, List.set_cons_succ]
          refine rgnTake 2 rfl (by kernel_rfl) (by kernel_rfl) (by kernel_rfl) (fun _ _ _ h => h) (by rfl) (v := ?v31) ?hy31 hHeld ?rest31
          case hy31 => (intro v hSw; obtain ⟨y0, y1⟩ := hSw; first | (go_simp; done) | (go_simp; with_reducible rfl))
          try simp only [Act.put, List.setIfInBounds_toArray, List.set_cons_zero, List.set_cons_succ]
          refine rgnTake 3 rfl (by kernel_rfl) (by kernel_rfl) (by kernel_rfl) (fun _ _ _ h => h) (by rfl) (v := ?v32) ?hy32 hHeld ?rest32
          case hy32 => (intro v hSw; obtain ⟨y0, y1⟩ := hSw; first | (go_simp; done) | (go_simp; with_reducible rfl))
          try simp only [Act.put, List.setIfInBounds_toArray, List.set_cons_zero, List.set_cons_succ]
          refine rgnTake 4 rfl (by kernel_rfl) (by kernel_rfl) (by kernel_rfl) (fun _ _ _ h => h) (by rfl) (v := ?v33) ?hy33 hHeld ?rest33
          case hy33 => (intro v hSw; obtain ⟨y0, y1⟩ := hSw; first | (go_simp; done) | (go_simp; with_reducible rfl))
          try simp only [Act.put, List.setIfInBounds_toArray, List.set_cons_zero, List.set_cons_succ]
          refine rgnTake 5 rfl (by kernel_rfl) (by kernel_rfl) (by kernel_rfl) (fun _ _ _ h => h) (by rfl) (v := ?v34) ?hy34 hHeld ?rest34
          case hy34 => (intro v hSw; obtain ⟨y0, y1⟩ := hSw; first | (go_simp; done) | (go_simp; with_reducible rfl))
          try simp only [Act.put, List.setIfInBounds_toArray, List.set_cons_zero, List.set_cons_succ]
          refine rgnTake 6 rfl (by kernel_rfl) (by kernel_rfl) (by kernel_rfl) (fun _ _ _ h => h) (by rfl) (v := ?v35) ?hy35 hHeld ?rest35
          case hy35 => (intro v hSw; obtain ⟨y0, y1⟩ := hSw; first | (go_simp; done) | (go_simp; with_reducible rfl))
          try simp only [Act.put, List.setIfInBounds_toArray, List.set_cons_zero, List.set_cons_succ]
          refine rgnOne 7 rfl (by kernel_rfl) (fun K hK => ?_)
          go_simp
          refine hK.out _ _ (hHeld) (fun hHeld => ?_)
          clear hK K
          try simp only [Act.put, List.setIfInBounds_toArray, List.set_cons_zero, List.set_cons_succ]
          clear m2
          refine rgnOne 8 rfl (by kernel_rfl) (fun K hK => ?_)
          go_simp
          refine PC.out.mono ?_
          rintro r w5 ⟨rfl, hp⟩
          have TC5 := Lib.hid (TK.out w5 hp)
          have A5 := Lib.hid (AL.out w5 (SK.out _ w5 hp RT.out).2)
          refine hK.out _ _ (((SK.out _ w5 hp RT.out).2)) (fun hHeld => ?_)
          clear hK K
          try simp only [Act.put, List.setIfInBounds_toArray, List.set_cons_zero, List.set_cons_succ]
          refine rgnOne 9 rfl (by kernel_rfl) (fun K hK => ?_)
          go_simp
          refine hK.out _ _ ((A5.out _ _)) (fun hHeld => ?_)
          clear hK K
          try simp only [Act.put, List.setIfInBounds_toArray, List.set_cons_zero, List.set_cons_succ]
          refine rgnOne 10 rfl (by kernel_rfl) (fun K hK => ?_)
          go_simp
          refine TC5.out.mono ?_
          rintro r w6 ⟨rfl, hp6⟩
          have F6 := Lib.hid (FIN.out w6 hp6)
          have f62 := F6.out.2.2 2
          have f63 := F6.out.2.2 3
          have c63 := F6.out.2.1
          have c62 := (SK.out _ w6 hp6 (RT1.out _).1).1
          refine hK.out _ _ (((SK.out _ w6 hp6 (RT1.out _).1).2)) (fun hHeld => ?_)
          clear hK K
          try simp only [Act.put, List.setIfInBounds_toArray, List.set_cons_zero, List.set_cons_succ]
          refine rgnTake 11 rfl (by kernel_rfl) (by kernel_rfl) (by kernel_rfl) (fun _ _ _ h => h) (by rfl) (v := ?v36) ?hy36 hHeld ?rest36
          case hy36 => (intro v hSw; obtain ⟨y0, y1⟩ := hSw; first | (go_simp; done) | (go_simp; with_reducible rfl))
          try simp only [Act.put, List.setIfInBounds_toArray, List.set_cons_zero, List.set_cons_succ]
          refine rgnTake 12 rfl (by kernel_rfl) (by kernel_rfl) (by kernel_rfl) (fun _ _ _ h => h) (by rfl) (v := ?v37) ?hy37 hHeld ?rest37
          case hy37 => (intro v hSw; obtain ⟨y0, y1⟩ := hSw; first | (go_simp; done) | (go_simp; with_reducible rfl))
          try simp only [Act.put, List.setIfInBounds_toArray, List.set_cons_zero, List.set_cons_succ]
          refine rgnOne 13 rfl (by kernel_rfl) (fun K hK => ?_)
          go_simp
          refine hK.out _ _ ((ST6.out w6 (SK.out _ w6 hp6 (RT1.out _).1).2 _)) (fun hHeld => ?_)
          clear hK K
          try simp only [Act.put, List.setIfInBounds_toArray, List.set_cons_zero, List.set_cons_succ]
          refine wpAnyH_done (by kernel_rfl) ?_ _
          go_wp2_with fail
          refine bodyPost_end (results_none rfl _ _ _) rfl ⟨rfl, ?_⟩
          exact F6.out.1
        · go_simp
          refine hK.out _ _ ((KS.out _ _)) (fun hHeld => ?_)
          clear hK K
          try simp only [Act.put, List.setIfInBounds_toArray, List.set_cons_zero, List.set_cons_succ]
          refine rgnOne 5 rfl (by kernel_rfl) (fun K hK => ?_)
          go_simp
          refine (LE.out _ (BA.out _ _)).mono ?_
          rintro r w4' ⟨rfl, h4⟩
          subst h4
          refine hK.out _ _ (hHeld) (fun hHeld => ?_)
          clear hK K
          try simp only [Act.put, List.setIfInBounds_toArray, List.set_cons_zero, List.set_cons_succ]
          refine rgnTake 10 rfl (by kernel_rfl) (by kernel_rfl) (by kernel_rfl) (fun _ _ _ h => h) (by rfl) (v := ?v38) ?hy38 hHeld ?rest38
          case hy38 => (intro v hSw; have y0 := hSw; first | (go_simp; done) | (go_simp; with_reducible rfl))
          try simp only [Act.put, List.setIfInBounds_toArray, List.set_cons_zero, List.set_cons_succ]
          refine rgnOne 12 rfl (by kernel_rfl) (fun K hK => ?_)
          go_simp
          refine hK.out _ _ ((KS.out _ _)) (fun hHeld => ?_)
          clear hK K
          try simp only [Act.put, List.setIfInBounds_toArray, List.set_cons_zero, List.set_cons_succ]
          refine wpAnyH_done (by kernel_rfl) ?_ _
          clear e2
          go_wp2_with fail
          rw [← HW3.out, ← HQ10.out]
          have m0 := R3.out.cell 0
          have m1 := R3.out.cell 1
          simp only [List.getElem?_cons_zero, List.getElem?_cons_succ] at m0 m1
          refine wp_region_held_drew (S := (fun w' => w'.cell? ⟨q10, 0, none⟩ = some (.string K0) ∧ w'.cell? ⟨q10, 1, none⟩ = some (.int .i64 R))) (by kernel_rfl) (⟨m0, m1⟩) (fun hHeld => ?_)
          rw [← HW4.out] at hHeld ⊢
          have m2 := M2.out
          refine rgnTake 0 rfl (by kernel_rfl) (by kernel_rfl) (by kernel_rfl) (fun _ _ _ h => h) (by rfl) (v := ?v39) ?hy39 hHeld ?rest39
          case hy39 => (intro v hSw; obtain ⟨y0, y1⟩ := hSw; first | (go_simp; done) | (go_simp; with_reducible rfl))
          try simp only [Act.put, List.setIfInBounds_toArray, List.set_cons_zero, List.set_cons_succ]
          refine rgnTake 1 rfl (by kernel_rfl) (by kernel_rfl) (by kernel_rfl) (fun _ _ _ h => h) (by rfl) (v := ?v40) ?hy40 hHeld ?rest40
          case hy40 => (intro v hSw; obtain ⟨y0, y1⟩ := hSw; first | (go_simp; done) | (go_simp; with_reducible rfl))
          try simp only [Act.put, List.setIfInBounds_toArray, List.set_cons_zero, List.set_cons_succ]
          refine rgnTake 2 rfl (by kernel_rfl) (by kernel_rfl) (by kernel_rfl) (fun _ _ _ h => h) (by rfl) (v := ?v41) ?hy41 hHeld ?rest41
          case hy41 => (intro v hSw; obtain ⟨y0, y1⟩ := hSw; first | (go_simp; done) | (go_simp; with_reducible rfl))
          try simp only [Act.put, List.setIfInBounds_toArray, List.set_cons_zero, List.set_cons_succ]
          refine rgnTake 3 rfl (by kernel_rfl) (by kernel_rfl) (by kernel_rfl) (fun _ _ _ h => h) (by rfl) (v := ?v42) ?hy42 hHeld ?rest42
          case hy42 => (intro v hSw; obtain ⟨y0, y1⟩ := hSw; first | (go_simp; done) | (go_simp; with_reducible rfl))
          try simp only [Act.put, List.setIfInBounds_toArray, List.set_cons_zero, List.set_cons_succ]
          refine rgnTake 4 rfl (by kernel_rfl) (by kernel_rfl) (by kernel_rfl) (fun _ _ _ h => h) (by rfl) (v := ?v43) ?hy43 hHeld ?rest43
          case hy43 => (intro v hSw; obtain ⟨y0, y1⟩ := hSw; first | (go_simp; done) | (go_simp; with_reducible rfl))
          try simp only [Act.put, List.setIfInBounds_toArray, List.set_cons_zero, List.set_cons_succ]
          refine rgnTake 5 rfl (by kernel_rfl) (by kernel_rfl) (by kernel_rfl) (fun _ _ _ h => h) (by rfl) (v := ?v44) ?hy44 hHeld ?rest44
          case hy44 => (intro v hSw; obtain ⟨y0, y1⟩ := hSw; first | (go_simp; done) | (go_simp; with_reducible rfl))
          try simp only [Act.put, List.setIfInBounds_toArray, List.set_cons_zero, List.set_cons_succ]
          refine rgnTake 6 rfl (by kernel_rfl) (by kernel_rfl) (by kernel_rfl) (fun _ _ _ h => h) (by rfl) (v := ?v45) ?hy45 hHeld ?rest45
          case hy45 => (intro v hSw; obtain ⟨y0, y1⟩ := hSw; first | (go_simp; done) | (go_simp; with_reducible rfl))
          try simp only [Act.put, List.setIfInBounds_toArray, List.set_cons_zero, List.set_cons_succ]
          refine rgnOne 7 rfl (by kernel_rfl) (fun K hK => ?_)
          go_simp
          refine hK.out _ _ (hHeld) (fun hHeld => ?_)
          clear hK K
          try simp only [Act.put, List.setIfInBounds_toArray, List.set_cons_zero, List.set_cons_succ]
          clear m2
          refine rgnOne 8 rfl (by kernel_rfl) (fun K hK => ?_)
          go_simp
          refine PC.out.mono ?_
          rintro r w5 ⟨rfl, hp⟩
          have TC5 := Lib.hid (TK.out w5 hp)
          have A5 := Lib.hid (AL.out w5 (SK.out _ w5 hp RT.out).2)
          refine hK.out _ _ (((SK.out _ w5 hp RT.out).2)) (fun hHeld => ?_)
          clear hK K
          try simp only [Act.put, List.setIfInBounds_toArray, List.set_cons_zero, List.set_cons_succ]
          refine rgnOne 9 rfl (by kernel_rfl) (fun K hK => ?_)
          go_simp
          refine hK.out _ _ ((A5.out _ _)) (fun hHeld => ?_)
          clear hK K
          try simp only [Act.put, List.setIfInBounds_toArray, List.set_cons_zero, List.set_cons_succ]
          refine rgnOne 10 rfl (by kernel_rfl) (fun K hK => ?_)
          go_simp
          refine TC5.out.mono ?_
          rintro r w6 ⟨rfl, hp6⟩
          have F6 := Lib.hid (FIN.out w6 hp6)
          have f62 := F6.out.2.2 2
          have f63 := F6.out.2.2 3
          have c63 := F6.out.2.1
          have c62 := (SK.out _ w6 hp6 (RT1.out _).1).1
          refine hK.out _ _ (((SK.out _ w6 hp6 (RT1.out _).1).2)) (fun hHeld => ?_)
          clear hK K
          try simp only [Act.put, List.setIfInBounds_toArray, List.set_cons_zero, List.set_cons_succ]
          refine rgnTake 11 rfl (by kernel_rfl) (by kernel_rfl) (by kernel_rfl) (fun _ _ _ h => h) (by rfl) (v := ?v46) ?hy46 hHeld ?rest46
          case hy46 => (intro v hSw; obtain ⟨y0, y1⟩ := hSw; first | (go_simp; done) | (go_simp; with_reducible rfl))
          try simp only [Act.put, List.setIfInBounds_toArray, List.set_cons_zero, List.set_cons_succ]
          refine rgnTake 12 rfl (by kernel_rfl) (by kernel_rfl) (by kernel_rfl) (fun _ _ _ h => h) (by rfl) (v := ?v47) ?hy47 hHeld ?rest47
          case hy47 => (intro v hSw; obtain ⟨y0, y1⟩ := hSw; first | (go_simp; done) | (go_simp; with_reducible rfl))
          try simp only [Act.put, List.setIfInBounds_toArray, List.set_cons_zero, List.set_cons_succ]
          refine rgnOne 13 rfl (by kernel_rfl) (fun K hK => ?_)
          go_simp
          refine hK.out _ _ ((ST6.out w6 (SK.out _ w6 hp6 (RT1.out _).1).2 _)) (fun hHeld => ?_)
          clear hK K
          try simp only [Act.put, List.setIfInBounds_toArray, List.set_cons_zero, List.set_cons_succ]
          refine wpAnyH_done (by kernel_rfl) ?_ _
          go_wp2_with fail
          refine bodyPost_end (results_none rfl _ _ _) rfl ⟨rfl, ?_⟩
          exact F6.out.1
      · have UP := Lib.hid (show s1.top = s1 from if_neg (by rw [← HZ.out]; exact z4))
        have z4' : decide ((4 : Int) < (z : Int)) = false := decide_eq_false (by omega)
        refine rgnTake 0 rfl (by kernel_rfl) (by kernel_rfl) (by kernel_rfl) (fun _ _ _ h => h) (by rfl) (v := ?v48) ?hy48 hHeld ?rest48
        case hy48 => (intro v hSw; obtain ⟨y0, y1⟩ := hSw; first | (go_simp; done) | (go_simp; with_reducible rfl))
        try simp only [Act.put, List.setIfInBounds_toArray, List.set_cons_zero, List.set_cons_succ]
        refine rgnTake 1 rfl (by kernel_rfl) (by kernel_rfl) (by kernel_rfl) (fun _ _ _ h => h) (by rfl) (v := ?v49) ?hy49 hHeld ?rest49
        case hy49 => (intro v hSw; obtain ⟨y0, y1⟩ := hSw; first | (go_simp; done) | (go_simp; with_reducible rfl))
        try simp only [Act.put, List.setIfInBounds_toArray, List.set_cons_zero, List.set_cons_succ]
        refine rgnTake 2 rfl (by kernel_rfl) (by kernel_rfl) (by kernel_rfl) (fun _ _ _ h => h) (by rfl) (v := ?v50) ?hy50 hHeld ?rest50
        case hy50 => (intro v hSw; obtain ⟨y0, y1⟩ := hSw; first | (go_simp; done) | (go_simp; with_reducible rfl))
        try simp only [Act.put, List.setIfInBounds_toArray, List.set_cons_zero, List.set_cons_succ]
        refine rgnTake 3 rfl (by kernel_rfl) (by kernel_rfl) (by kernel_rfl) (fun _ _ _ h => h) (by rfl) (v := ?v51) ?hy51 hHeld ?rest51
        case hy51 => (intro v hSw; obtain ⟨y0, y1⟩ := hSw; first | (go_simp; done) | (go_simp; with_reducible rfl))
        try simp only [Act.put, List.setIfInBounds_toArray, List.set_cons_zero, List.set_cons_succ]
        refine rgnTake 4 rfl (by kernel_rfl) (by kernel_rfl) (by kernel_rfl) (fun _ _ _ h => h) (by rfl) (v := ?v52) ?hy52 hHeld ?rest52
        case hy52 => (intro v hSw; obtain ⟨y0, y1⟩ := hSw; first | (go_simp; done) | (go_simp; with_reducible rfl))
        try simp only [Act.put, List.setIfInBounds_toArray, List.set_cons_zero, List.set_cons_succ]
        refine rgnTake 5 rfl (by kernel_rfl) (by kernel_rfl) (by kernel_rfl) (fun _ _ _ h => h) (by rfl) (v := ?v53) ?hy53 hHeld ?rest53
        case hy53 => (intro v hSw; obtain ⟨y0, y1⟩ := hSw; first | (go_simp; done) | (go_simp; with_reducible rfl))
        try simp only [Act.put, List.setIfInBounds_toArray, List.set_cons_zero, List.set_cons_succ]
        refine rgnTake 6 rfl (by kernel_rfl) (by kernel_rfl) (by kernel_rfl) (fun _ _ _ h => h) (by rfl) (v := ?v54) ?hy54 hHeld ?rest54
        case hy54 => (intro v hSw; obtain ⟨y0, y1⟩ := hSw; first | (go_simp; done) | (go_simp; with_reducible rfl))
        try simp only [Act.put, List.setIfInBounds_toArray, List.set_cons_zero, List.set_cons_succ]
        refine rgnTake 7 rfl (by kernel_rfl) (by kernel_rfl) (by kernel_rfl) (fun _ _ _ h => h) (by rfl) (v := ?v55) ?hy55 hHeld ?rest55
        case hy55 => (intro v hSw; obtain ⟨y0, y1⟩ := hSw; first | (go_simp; done) | (go_simp; with_reducible rfl))
        try simp only [Act.put, List.setIfInBounds_toArray, List.set_cons_zero, List.set_cons_succ]
        refine rgnTake 8 rfl (by kernel_rfl) (by kernel_rfl) (by kernel_rfl) (fun _ _ _ h => h) (by rfl) (v := ?v56) ?hy56 hHeld ?rest56
        case hy56 => (intro v hSw; obtain ⟨y0, y1⟩ := hSw; first | (go_simp; done) | (go_simp; with_reducible rfl))
        try simp only [Act.put, List.setIfInBounds_toArray, List.set_cons_zero, List.set_cons_succ]
        refine rgnTake 9 rfl (by kernel_rfl) (by kernel_rfl) (by kernel_rfl) (fun _ _ _ h => h) (by rfl) (v := ?v57) ?hy57 hHeld ?rest57
        case hy57 => (intro v hSw; obtain ⟨y0, y1⟩ := hSw; first | (go_simp; done) | (go_simp; with_reducible rfl))
        try simp only [Act.put, List.setIfInBounds_toArray, List.set_cons_zero, List.set_cons_succ]
        refine rgnTake 10 rfl (by kernel_rfl) (by kernel_rfl) (by kernel_rfl) (fun _ _ _ h => h) (by rfl) (v := ?v58) ?hy58 hHeld ?rest58
        case hy58 => (intro v hSw; obtain ⟨y0, y1⟩ := hSw; first | (go_simp; done) | (go_simp; with_reducible rfl))
        try simp only [Act.put, List.setIfInBounds_toArray, List.set_cons_zero, List.set_cons_succ]
        refine rgnTake 11 rfl (by kernel_rfl) (by kernel_rfl) (by kernel_rfl) (fun _ _ _ h => h) (by rfl) (v := ?v59) ?hy59 hHeld ?rest59
        case hy59 => (intro v hSw; obtain ⟨y0, y1⟩ := hSw; first | (go_simp; done) | (go_simp; with_reducible rfl))
        try simp only [Act.put, List.setIfInBounds_toArray, List.set_cons_zero, List.set_cons_succ]
        refine wpAnyH_done (by kernel_rfl) ?_ _
        go_wp2_with fail
        refine bodyPost_end (results_none rfl _ _ _) rfl ⟨rfl, ?_⟩
        rw [UP.out]
        exact ⟨E1, ⟨_, _, _, TV.out.below (Below.refl _ _).drew⟩, A1.out, C1.out.drew⟩
    | succ i =>
      have hu := HUi.out
      obtain ⟨hf, hu2⟩ := hu
      have hs2 : Tab.ups ws i (s1.up (ws.getD i (0, 0)) (ws.getD (i + 1) (0, 0)).1) = S := HSi.out
      obtain ⟨E1, g1, a1, c1⟩ := HLi.out
      obtain ⟨y0, y1⟩ := WC.out wr c1 i (by have := HE.out; omega)
      obtain ⟨y2, y3⟩ := WC.out wr c1 (i + 1) (by have := HE.out; omega)
      obtain ⟨X, hX⟩ : ∃ X, X = ws.getD i (0, 0) := ⟨_, rfl⟩
      obtain ⟨Y, hY⟩ : ∃ Y, Y = (ws.getD (i + 1) (0, 0)).1 := ⟨_, rfl⟩
      rw [← hX] at y0 y1 hf hu2 hs2
      rw [← hY] at y2 hf hu2 hs2
      have i1 : (i : Int) + 1 - 1 = (i : Int) := by omega
      have i0 : (0 : Int) < (i : Int) + 1 := by omega
      have F := Lib.hid hf
      have HU2 := Lib.hid hu2
      have HS2 := Lib.hid hs2
      have G1 := Lib.hid g1
      have A1 := Lib.hid a1
      have C1 := Lib.hid c1
      clear hf hu2 hs2 g1 a1 c1 hX hY HUi HSi y3 hl
      have z1 : (i : Int) < (e : Int) + 1 := by omega
      have z2 : (i : Int) + 1 < (e : Int) + 1 := by omega
      have z3 : (0 : Int) ≤ (i : Int) + 1 := by omega
      have n3 : ((i : Int) + 1).toNat = i + 1 := by omega
      have w3i : IntKind.i64.wrap (i : Int) = (i : Int) := by rw [IntKind.wrap_i64]; omega
      have z4 : (0 : Int) ≤ (i : Int) := by omega
      go_wp2_with fail
      obtain ⟨q8, hq8⟩ : ∃ q8, q8 = wr.heap.size := ⟨_, rfl⟩
      obtain ⟨wo, hwo⟩ : ∃ wo, wo = wr := ⟨_, rfl⟩
      have W0 := Lib.hid (show wo.cell? ⟨g, i * 2, none⟩ = some (.int .i64 X.1) ∧ wo.cell? ⟨g, i * 2 + 1, none⟩ = some (.int .i64 X.2) ∧ wo.cell? ⟨g, (i + 1) * 2, none⟩ = some (.int .i64 Y) by rw [hwo]; exact ⟨y0, y1, y2⟩)
      have KS := Lib.hid (show ∀ cs t, (wr.alloc (.cells cs t)).drew.cell? ⟨g, i * 2, none⟩ = some (.int .i64 X.1) ∧ (wr.alloc (.cells cs t)).drew.cell? ⟨g, i * 2 + 1, none⟩ = some (.int .i64 X.2) ∧ (wr.alloc (.cells cs t)).drew.cell? ⟨g, (i + 1) * 2, none⟩ = some (.int .i64 Y) from fun cs t => by
        have hb : Below wr.heap.size wr (wr.alloc (.cells cs t)).drew := ((Below.refl _ _).alloc (Nat.le_refl _) _).drew
        exact ⟨(hb.cell (p := ⟨g, i * 2, none⟩) (block_lt_of_cell y0)).trans y0, (hb.cell (p := ⟨g, i * 2 + 1, none⟩) (block_lt_of_cell y1)).trans y1, (hb.cell (p := ⟨g, (i + 1) * 2, none⟩) (block_lt_of_cell y2)).trans y2⟩)
      obtain ⟨w2, hw2⟩ : ∃ w2, w2 = (wr.alloc (.cells #[.int .i64 X.1, .int .i64 X.2] 150)).drew := ⟨_, rfl⟩
      have B2 := Lib.hid (show Below wr.heap.size wr w2 by rw [hw2]; exact ((Below.refl _ _).alloc (Nat.le_refl _) _).drew)
      have R2 := Lib.hid (show RowAt w2 q8 [.int .i64 X.1, .int .i64 X.2] 150 by rw [hw2, hq8]; exact RowAt.new wr _ _)
      have HW2 := Lib.hid hw2
      have HQ8 := Lib.hid hq8
      have S8 := Lib.hid (show w2.heap.size = q8 + 1 by rw [hw2, hq8, heap_drew]; simp)
      clear hw2 hwo hq8
      refine wp_region_held_drew (S := (fun w' => w'.cell? ⟨g, i * 2, none⟩ = some (.int .i64 X.1) ∧ w'.cell? ⟨g, i * 2 + 1, none⟩ = some (.int .i64 X.2) ∧ w'.cell? ⟨g, (i + 1) * 2, none⟩ = some (.int .i64 Y))) (by kernel_rfl) (⟨y0, y1, y2⟩) (fun hHeld => ?_)
      refine rgnTake 0 rfl (by kernel_rfl) (by kernel_rfl) (by kernel_rfl) (fun _ _ _ h => h) (by rfl) (v := ?v60) ?hy60 hHeld ?rest60
      case hy60 => (intro v hSw; obtain ⟨y0, y1, y2⟩ := hSw; first | (go_simp; done) | (go_simp; with_reducible rfl))
      try simp only [Act.put, List.setIfInBounds_toArray, List.set_cons_zero, List.set_cons_succ]
      refine rgnTake 1 rfl (by kernel_rfl) (by kernel_rfl) (by kernel_rfl) (fun _ _ _ h => h) (by rfl) (v := ?v61) ?hy61 hHeld ?rest61
      case hy61 => (intro v hSw; obtain ⟨y0, y1, y2⟩ := hSw; first | (go_simp; done) | (go_simp; with_reducible rfl))
      try simp only [Act.put, List.setIfInBounds_toArray, List.set_cons_zero, List.set_cons_succ]
      refine rgnTake 2 rfl (by kernel_rfl) (by kernel_rfl) (by kernel_rfl) (fun _ _ _ h => h) (by rfl) (v := ?v62) ?hy62 hHeld ?rest62
      case hy62 => (intro v hSw; obtain ⟨y0, y1, y2⟩ := hSw; first | (go_simp; done) | (go_simp; with_reducible rfl))
      try simp only [Act.put, List.setIfInBounds_toArray, List.set_cons_zero, List.set_cons_succ]
      refine rgnTake 3 rfl (by kernel_rfl) (by kernel_rfl) (by kernel_rfl) (fun _ _ _ h => h) (by rfl) (v := ?v63) ?hy63 hHeld ?rest63
      case hy63 => (intro v hSw; obtain ⟨y0, y1, y2⟩ := hSw; first | (go_simp; done) | (go_simp; with_reducible rfl))
      try simp only [Act.put, List.setIfInBounds_toArray, List.set_cons_zero, List.set_cons_succ]
      refine rgnTake 4 rfl (by kernel_rfl) (by kernel_rfl) (by kernel_rfl) (fun _ _ _ h => h) (by rfl) (v := ?v64) ?hy64 hHeld ?rest64
      case hy64 => (intro v hSw; obtain ⟨y0, y1, y2⟩ := hSw; first | (go_simp; done) | (go_simp; with_reducible rfl))
      try simp only [Act.put, List.setIfInBounds_toArray, List.set_cons_zero, List.set_cons_succ]
      refine rgnTake 5 rfl (by kernel_rfl) (by kernel_rfl) (by kernel_rfl) (fun _ _ _ h => h) (by rfl) (v := ?v65) ?hy65 hHeld ?rest65
      case hy65 => (intro v hSw; obtain ⟨y0, y1, y2⟩ := hSw; first | (go_simp; done) | (go_simp; with_reducible rfl))
      try simp only [Act.put, List.setIfInBounds_toArray, List.set_cons_zero, List.set_cons_succ]
      refine rgnTake 6 rfl (by kernel_rfl) (by kernel_rfl) (by kernel_rfl) (fun _ _ _ h => h) (by rfl) (v := ?v66) ?hy66 hHeld ?rest66
      case hy66 => (intro v hSw; obtain ⟨y0, y1, y2⟩ := hSw; first | (go_simp; done) | (go_simp; with_reducible rfl))
      try simp only [Act.put, List.setIfInBounds_toArray, List.set_cons_zero, List.set_cons_succ]
      refine rgnTake 7 rfl (by kernel_rfl) (by kernel_rfl) (by kernel_rfl) (fun _ _ _ h => h) (by rfl) (v := ?v67) ?hy67 hHeld ?rest67
      case hy67 => (intro v hSw; obtain ⟨y0, y1, y2⟩ := hSw; first | (go_simp; done) | (go_simp; with_reducible rfl))
      try simp only [Act.put, List.setIfInBounds_toArray, List.set_cons_zero, List.set_cons_succ]
      refine rgnTake 8 rfl (by kernel_rfl) (by kernel_rfl) (by kernel_rfl) (fun _ _ _ h => h) (by rfl) (v := ?v68) ?hy68 hHeld ?rest68
      case hy68 => (intro v hSw; obtain ⟨y0, y1, y2⟩ := hSw; first | (go_simp; done) | (go_simp; with_reducible rfl))
      try simp only [Act.put, List.setIfInBounds_toArray, List.set_cons_zero, List.set_cons_succ]
      refine rgnTake 9 rfl (by kernel_rfl) (by kernel_rfl) (by kernel_rfl) (fun _ _ _ h => h) (by rfl) (v := ?v69) ?hy69 hHeld ?rest69
      case hy69 => (intro v hSw; obtain ⟨y0, y1, y2⟩ := hSw; first | (go_simp; done) | (go_simp; with_reducible rfl))
      try simp only [Act.put, List.setIfInBounds_toArray, List.set_cons_zero, List.set_cons_succ]
      refine rgnOne 10 rfl (by kernel_rfl) (fun K hK => ?_)
      go_simp
      refine hK.out _ _ ((KS.out _ _)) (fun hHeld => ?_)
      clear hK K
      try simp only [Act.put, List.setIfInBounds_toArray, List.set_cons_zero, List.set_cons_succ]
      refine rgnOne 11 rfl (by kernel_rfl) (fun K hK => ?_)
      go_simp
      refine hK.out _ _ ((KS.out _ _)) (fun hHeld => ?_)
      clear hK K
      try simp only [Act.put, List.setIfInBounds_toArray, List.set_cons_zero, List.set_cons_succ]
      refine rgnOne 12 rfl (by kernel_rfl) (fun K hK => ?_)
      go_simp
      refine hK.out _ _ ((KS.out _ _)) (fun hHeld => ?_)
      clear hK K
      try simp only [Act.put, List.setIfInBounds_toArray, List.set_cons_zero, List.set_cons_succ]
      refine wpAnyH_done (by kernel_rfl) ?_ _
      clear y0 y1 y2
      go_wp2_with fail
      rw [← HW2.out, ← HQ8.out]
      obtain ⟨rv, fv, vs, tv⟩ := G1.out
      have t2 := tv.below B2.out
      have f := F.out
      have q1' : X.1 < vs.length := by rw [tv.len]; exact f.iq
      have p1' : Y < vs.length := by rw [tv.len]; exact f.ip
      obtain ⟨g0, c0, rfl, hg0, gT, hc⟩ := t2.rowAt (by omega)
      obtain ⟨b, o, cp, ev, hw⟩ := t2.win q1' (by have := f.ia; omega)
      have hW := t2.eW X.1 b o q1' ⟨o, _, cp, ev, Nat.le_refl _, by have := hw.pos; omega⟩
      have L8 : ∀ k, E1 k → k ≠ q8 := fun k e => by have := tv.lt k e; have := HQ8.out; omega
      have d0 := t2.row.cell 0
      simp only [List.getElem?_cons_zero] at d0
      have d1 := (hc X.1 q1').1
      rw [ev] at d1
      have d2 := R2.out.cell 0
      have d3 := R2.out.cell 1
      simp only [List.getElem?_cons_zero, List.getElem?_cons_succ] at d2 d3
      have d4 := (hw.cells X.2 f.ia).1
      have d5 := hw.plain.frozen (o + X.2 * 2)
      have LE := Lib.hid (xLeast w2.drew T E1 s1 _ _ _ Y (t2.below (Below.refl _ _).drew) p1' f.l0)
      obtain ⟨K, hK⟩ : ∃ K, K = (s1.nd Y).key 0 := ⟨_, rfl⟩
      rw [← hK] at LE
      obtain ⟨w3, hw3⟩ : ∃ w3, w3 = (w2.setCell ⟨b, o + X.2 * 2, none⟩ (.string K)).drew := ⟨_, rfl⟩
      have k3 : ∀ k, k ≠ b → w3.heap[k]? = w2.heap[k]? := fun k hk => by rw [hw3]; exact Below.heap_setCell w2 _ _ _ hk
      have t3 := Lib.hid (show TabV w3 T E1 (s1.tell X Y) _ fv vs by
        rw [hw3]
        have := t2.item (j := 0) (u := .string K) (K, (s1.nd X.1).num X.2) q1' ev f.ia (by decide) (by rw [KV.getE _ _ f.ia]; rfl)
        rw [Nat.add_zero, hK] at this
        rw [hK]
        exact this.below (Below.refl _ _).drew)
      have R3 := Lib.hid (show RowAt w3 q8 [.int .i64 X.1, .int .i64 X.2] 150 from (k3 q8 (L8 b hW.1).symm).trans R2.out)
      have C3 := Lib.hid (show Chg E1 wr w3 by rw [hw3]; exact (Chg.setCell (Chg.of_below B2.out) (.inl hW.1) _).drew)
      have S3 := Lib.hid (show w3.heap.size = q8 + 1 by rw [hw3, heap_drew]; simp [World.setCell, S8.out])
      have SS := Lib.hid (show w3.cell? ⟨T, 0, none⟩ = some (.slice (some ⟨g0, 0, none⟩) vs.length c0) ∧ w3.cell? ⟨g0, X.1, none⟩ = some (.slice (some ⟨b, o, none⟩) (s1.nd X.1).length cp) ∧ w3.cell? ⟨q8, 0, none⟩ = some (.int .i64 X.1) ∧ w3.cell? ⟨q8, 1, none⟩ = some (.int .i64 X.2) from
        ⟨(World.cell?_of_block (a := ⟨T, 0, none⟩) (k3 T (Ne.symm hW.2.1))).trans d0, (World.cell?_of_block (a := ⟨g0, X.1, none⟩) (k3 g0 (fun t => hW.2.2.1 (by rw [← t]; rfl)))).trans d1, R3.out.cell 0, R3.out.cell 1⟩)
      have HW3 := Lib.hid hw3
      have HLW := Lib.hid L8
      obtain ⟨N, hN⟩ : ∃ N, N = vs.length := ⟨_, rfl⟩
      obtain ⟨Z, hZ⟩ : ∃ Z, Z = (s1.nd X.1).length := ⟨_, rfl⟩
      have xz : X.2 < Z := by rw [hZ]; exact f.ia
      rw [← hN, ← hZ] at SS
      rw [← hN] at d0 q1' p1'
      rw [← hZ] at d1
      have HN := Lib.hid hN
      have HK := Lib.hid hK
      clear hw3 k3 L8 hK hN hZ hw hc t2 tv ev f
      refine wp_region_held_drew (S := (fun w' => w'.cell? ⟨T, 0, none⟩ = some (.slice (some ⟨g0, 0, none⟩) N c0) ∧ w'.cell? ⟨g0, X.1, none⟩ = some (.slice (some ⟨b, o, none⟩) Z cp) ∧ w'.cell? ⟨q8, 0, none⟩ = some (.int .i64 X.1) ∧ w'.cell? ⟨q8, 1, none⟩ = some (.int .i64 X.2))) (by kernel_rfl) (⟨d0, d1, d2, d3⟩) (fun hHeld => ?_)
      refine rgnTake 0 rfl (by kernel_rfl) (by kernel_rfl) (by kernel_rfl) (fun _ _ _ h => h) (by rfl) (v := ?v70) ?hy70 hHeld ?rest70
      case hy70 => (intro v hSw; obtain ⟨y0, y1, y2, y3⟩ := hSw; first | (go_simp; done) | (go_simp; with_reducible rfl))
      try simp only [Act.put, List.setIfInBounds_toArray, List.set_cons_zero, List.set_cons_succ]
      refine rgnTake 1 rfl (by kernel_rfl) (by kernel_rfl) (by kernel_rfl) (fun _ _ _ h => h) (by rfl) (v := ?v71) ?hy71 hHeld ?rest71
      case hy71 => (intro v hSw; obtain ⟨y0, y1, y2, y3⟩ := hSw; first | (go_simp; done) | (go_simp; with_reducible rfl))
      try simp only [Act.put, List.setIfInBounds_toArray, List.set_cons_zero, List.set_cons_succ]
      refine rgnTake 2 rfl (by kernel_rfl) (by kernel_rfl) (by kernel_rfl) (fun _ _ _ h => h) (by rfl) (v := ?v72) ?hy72 hHeld ?rest72
      case hy72 => (intro v hSw; obtain ⟨y0, y1, y2, y3⟩ := hSw; first | (go_simp; done) | (go_simp; with_reducible rfl))
      try simp only [Act.put, List.setIfInBounds_toArray, List.set_cons_zero, List.set_cons_succ]
      refine rgnTake 3 rfl (by kernel_rfl) (by kernel_rfl) (by kernel_rfl) (fun _ _ _ h => h) (by rfl) (v := ?v73) ?hy73 hHeld ?rest73
      case hy73 => (intro v hSw; obtain ⟨y0, y1, y2, y3⟩ := hSw; first | (go_simp; done) | (go_simp; with_reducible rfl))
      try simp only [Act.put, List.setIfInBounds_toArray, List.set_cons_zero, List.set_cons_succ]
      refine rgnTake 4 rfl (by kernel_rfl) (by kernel_rfl) (by kernel_rfl) (fun _ _ _ h => h) (by rfl) (v := ?v74) ?hy74 hHeld ?rest74
      case hy74 => (intro v hSw; obtain ⟨y0, y1, y2, y3⟩ := hSw; first | (go_simp; done) | (go_simp; with_reducible rfl))
      try simp only [Act.put, List.setIfInBounds_toArray, List.set_cons_zero, List.set_cons_succ]
      refine rgnTake 5 rfl (by kernel_rfl) (by kernel_rfl) (by kernel_rfl) (fun _ _ _ h => h) (by rfl) (v := ?v75) ?hy75 hHeld ?rest75
      case hy75 => (intro v hSw; obtain ⟨y0, y1, y2, y3⟩ := hSw; first | (go_simp; done) | (go_simp; with_reducible rfl))
      try simp only [Act.put, List.setIfInBounds_toArray, List.set_cons_zero, List.set_cons_succ]
      refine rgnTake 6 rfl (by kernel_rfl) (by kernel_rfl) (by kernel_rfl) (fun _ _ _ h => h) (by rfl) (v := ?v76) ?hy76 hHeld ?rest76
      case hy76 => (intro v hSw; obtain ⟨y0, y1, y2, y3⟩ := hSw; first | (go_simp; done) | (go_simp; with_reducible rfl))
      try simp only [Act.put, List.setIfInBounds_toArray, List.set_cons_zero, List.set_cons_succ]
      refine rgnTake 7 rfl (by kernel_rfl) (by kernel_rfl) (by kernel_rfl) (fun _ _ _ h => h) (by rfl) (v := ?v77) ?hy77 hHeld ?rest77
      case hy77 => (intro v hSw; obtain ⟨y0, y1, y2, y3⟩ := hSw; first | (go_simp; done) | (go_simp; with_reducible rfl))
      try simp only [Act.put, List.setIfInBounds_toArray, List.set_cons_zero, List.set_cons_succ]
      refine rgnTake 8 rfl (by kernel_rfl) (by kernel_rfl) (by kernel_rfl) (fun _ _ _ h => h) (by rfl) (v := ?v78) ?hy78 hHeld ?rest78
      case hy78 => (intro v hSw; obtain ⟨y0, y1, y2, y3⟩ := hSw; first | (go_simp; done) | (go_simp; with_reducible rfl))
      try simp only [Act.put, List.setIfInBounds_toArray, List.set_cons_zero, List.set_cons_succ]
      refine rgnTake 9 rfl (by kernel_rfl) (by kernel_rfl) (by kernel_rfl) (fun _ _ _ h => h) (by rfl) (v := ?v79) ?hy79 hHeld ?rest79
      case hy79 => (intro v hSw; obtain ⟨y0, y1, y2, y3⟩ := hSw; first | (go_simp; done) | (go_simp; with_reducible rfl))
      try simp only [Act.put, List.setIfInBounds_toArray, List.set_cons_zero, List.set_cons_succ]
      refine rgnTake 10 rfl (by kernel_rfl) (by kernel_rfl) (by kernel_rfl) (fun _ _ _ h => h) (by rfl) (v := ?v80) ?hy80 hHeld ?rest80
      case hy80 => (intro v hSw; obtain ⟨y0, y1, y2, y3⟩ := hSw; first | (go_simp; done) | (go_simp; with_reducible rfl))
      try simp only [Act.put, List.setIfInBounds_toArray, List.set_cons_zero, List.set_cons_succ]
      refine rgnTake 11 rfl (by kernel_rfl) (by kernel_rfl) (by kernel_rfl) (fun _ _ _ h => h) (by rfl) (v := ?v81) ?hy81 hHeld ?rest81
      case hy81 => (intro v hSw; obtain ⟨y0, y1, y2, y3⟩ := hSw; first | (go_simp; done) | (go_simp; with_reducible rfl))
      try simp only [Act.put, List.setIfInBounds_toArray, List.set_cons_zero, List.set_cons_succ]
      refine rgnOne 12 rfl (by kernel_rfl) (fun K hK => ?_)
      go_simp
      refine LE.out.mono ?_
      rintro r w4 ⟨rfl, h4⟩
      subst h4
      refine hK.out _ _ (hHeld) (fun hHeld => ?_)
      clear hK K
      try simp only [Act.put, List.setIfInBounds_toArray, List.set_cons_zero, List.set_cons_succ]
      refine rgnTake 13 rfl (by kernel_rfl) (by kernel_rfl) (by kernel_rfl) (fun _ _ _ h => h) (by rfl) (v := ?v82) ?hy82 hHeld ?rest82
      case hy82 => (intro v hSw; obtain ⟨y0, y1, y2, y3⟩ := hSw; first | (go_simp; done) | (go_simp; with_reducible rfl))
      try simp only [Act.put, List.setIfInBounds_toArray, List.set_cons_zero, List.set_cons_succ]
      refine rgnTake 14 rfl (by kernel_rfl) (by kernel_rfl) (by kernel_rfl) (fun _ _ _ h => h) (by rfl) (v := ?v83) ?hy83 hHeld ?rest83
      case hy83 => (intro v hSw; obtain ⟨y0, y1, y2, y3⟩ := hSw; first | (go_simp; done) | (go_simp; with_reducible rfl))
      try simp only [Act.put, List.setIfInBounds_toArray, List.set_cons_zero, List.set_cons_succ]
      refine rgnOne 15 rfl (by kernel_rfl) (fun K hK => ?_)
      go_simp
      refine hK.out _ _ ((by have := SS.out; rw [HW3.out] at this; exact this)) (fun hHeld => ?_)
      clear hK K
      try simp only [Act.put, List.setIfInBounds_toArray, List.set_cons_zero, List.set_cons_succ]
      refine wpAnyH_done (by kernel_rfl) ?_ _
      rw [← HW3.out]
      clear d0 d1 d2 d3 d4 d5
      have e0' := SS.out.1
      have f := F.out
      have p3 : Y < vs.length := by rw [← HN.out]; exact p1'
      obtain ⟨A3, cz, ev3, _⟩ := (t3.out.node Y p3).form
      have ndY : (s1.tell X Y).nd Y = s1.nd Y := f.nd
      have e1' : w3.cell? ⟨g0, Y, none⟩ = some (.slice A3 ((s1.tell X Y).nd Y).length cz) := by
        obtain ⟨g', c', er, _, _, hc'⟩ := t3.out.rowAt (by omega)
        injection er with er _ _
        injection er with er
        injection er with er _ _
        rw [← ev3, er]; exact (hc' Y p3).1
      have LW := Lib.hid (show ∀ s' w5, LeftP w3 T E1 s' w5 → LeftP w T E s' w5 from fun s' w5 hl => LeftP.then (C1.out.trans C3.out fun k e => A1.out k e) A1.out hl)
      obtain ⟨z, hz⟩ : ∃ z, z = ((s1.tell X Y).nd Y).length := ⟨_, rfl⟩
      rw [← hz] at e1'
      have HZ := Lib.hid hz
      have NDY := Lib.hid ndY
      clear hz ndY f ev3 p3 hHeld
      by_cases z4 : 4 < z
      · have z4' : (4 : Int) < (z : Int) := by omega
        have UP := Lib.hid (show s1.up X Y = (s1.tell X Y).split X Y from if_pos (by rw [← NDY.out, ← HZ.out]; exact z4))
        obtain ⟨w4, hw4⟩ : ∃ w4, w4 = w3.drew := ⟨_, rfl⟩
        have g4 : TabG w4 T E1 (s1.tell X Y) := by rw [hw4]; exact ⟨_, _, _, t3.out.below (Below.refl _ _).drew⟩
        have f := F.out
        have PC := Lib.hid (xPart w4 T E1 (s1.tell X Y) Y g4 (by rw [f.tlen]; exact f.ip) (by rw [← HZ.out]; omega) (fun q hq => by rw [f.tlen]; exact (f.free q hq).1) (by rw [f.tlen]; have := f.ln; omega) (by have := f.lf; show s1.free.length ≤ _; omega))
        have LY := Lib.hid (show ∀ w5, LeftP w4 T E1 (((s1.tell X Y).put Y (((s1.tell X Y).nd Y).take 3)).take (((s1.tell X Y).nd Y).drop 3)) w5 → Calls Try.prog 92 #[Ptr T, .agg #[.int .i64 X.1, .int .i64 ((X.2 : Int) + 1)], .agg #[.string (((s1.tell X Y).nd Y).key 3), .int .i64 (s1.tell X Y).place]] w5 fun r w' => r = .returned (.tuple #[]) ∧ LeftP w4 T E1 ((s1.tell X Y).split X Y) w' from fun w5 ⟨E5, g5, a5, c5⟩ => by
          have nq := f.lay
          have ql := f.laylen
          rw [← f.nd] at nq ql
          have le : ((s1.tell X Y).nd X.1).length = (s1.nd X.1).length := by rw [f.ndq, List.length_set]
          have := xLay w5 T E5 _ X.1 (X.2 + 1) (((s1.tell X Y).nd Y).key 3, ((s1.tell X Y).place : Int)) g5 (Nat.lt_of_lt_of_le f.iq ql) (by rw [nq, le]; have := f.ia; omega) (by rw [nq, le]; have := f.ia; omega) (by rw [nq, le]; have := f.lq; omega)
          rw [show ((X.2 + 1 : Nat) : Int) = (X.2 : Int) + 1 from rfl] at this
          refine this.mono fun r w' h => ⟨h.1, LeftP.then c5 a5 h.2⟩)
        have SK := Lib.hid (show ∀ s' w5, LeftP w4 T E1 s' w5 → w5.cell? ⟨q8, 0, none⟩ = some (.int .i64 X.1) ∧ w5.cell? ⟨q8, 1, none⟩ = some (.int .i64 X.2) from fun s' w5 ⟨E5, g5, a5, c5⟩ => by
          have r5 : RowAt w5 q8 _ _ := (show RowAt w4 q8 _ _ by rw [hw4]; exact R3.out).keep c5 (fun e => HLW.out _ e rfl)
          exact ⟨r5.cell 0, r5.cell 1⟩)
        have LV := Lib.hid (show ∀ w5, LeftP w4 T E1 ((s1.tell X Y).split X Y) w5 → LeftP w T E (s1.up X Y) w5 from fun w5 h5 => LW.out _ w5 (by
          rw [UP.out]
          obtain ⟨E5, g5, a5, c5⟩ := h5
          rw [hw4] at a5 c5
          exact ⟨E5, g5, a5, ⟨c5.os, c5.tape, c5.output, c5.size, c5.block⟩⟩))
        have d2 := R3.out.cell 0
        have d3 := R3.out.cell 1
        simp only [List.getElem?_cons_zero, List.getElem?_cons_succ] at d2 d3
        have HW4 := Lib.hid hw4
        have wx2 : IntKind.i64.wrap ((X.2 : Int) + 1) = (X.2 : Int) + 1 := by rw [IntKind.wrap_i64]; have := f.ia; have := f.lq; omega
        clear f g4 hw4
        go_wp2_with fail
        clear e0' e1'
        refine wp_region_held_drew (S := (fun w' => w'.cell? ⟨q8, 0, none⟩ = some (.int .i64 X.1) ∧ w'.cell? ⟨q8, 1, none⟩ = some (.int .i64 X.2))) (by kernel_rfl) (⟨d2, d3⟩) (fun hHeld => ?_)
        rw [← HW4.out] at hHeld ⊢
        refine rgnTake 0 rfl (by kernel_rfl) (by kernel_rfl) (by kernel_rfl) (fun _ _ _ h => h) (by rfl) (v := ?v84) ?hy84 hHeld ?rest84
        case hy84 => (intro v hSw; obtain ⟨y0, y1⟩ := hSw; first | (go_simp; done) | (go_simp; with_reducible rfl))
        try simp only [Act.put, List.setIfInBounds_toArray, List.set_cons_zero, List.set_cons_succ]
        refine rgnTake 1 rfl (by kernel_rfl) (by kernel_rfl) (by kernel_rfl) (fun _ _ _ h => h) (by rfl) (v := ?v85) ?hy85 hHeld ?rest85
        case hy85 => (intro v hSw; obtain ⟨y0, y1⟩ := hSw; first | (go_simp; done) | (go_simp; with_reducible rfl))
        try simp only [Act.put, List.setIfInBounds_toArray, List.set_cons_zero, List.set_cons_succ]
        refine rgnTake 2 rfl (by kernel_rfl) (by kernel_rfl) (by kernel_rfl) (fun _ _ _ h => h) (by rfl) (v := ?v86) ?hy86 hHeld ?rest86
        case hy86 => (intro v hSw; obtain ⟨y0, y1⟩ := hSw; first | (go_simp; done) | (go_simp; with_reducible rfl))
        try simp only [Act.put, List.setIfInBounds_toArray, List.set_cons_zero, List.set_cons_succ]
        refine rgnTake 3 rfl (by kernel_rfl) (by kernel_rfl) (by kernel_rfl) (fun _ _ _ h => h) (by rfl) (v := ?v87) ?hy87 hHeld ?rest87
        case hy87 => (intro v hSw; obtain ⟨y0, y1⟩ := hSw; first | (go_simp; done) | (go_simp; with_reducible rfl))
        try simp only [Act.put, List.setIfInBounds_toArray, List.set_cons_zero, List.set_cons_succ]
        refine rgnTake 4 rfl (by kernel_rfl) (by kernel_rfl) (by kernel_rfl) (fun _ _ _ h => h) (by rfl) (v := ?v88) ?hy88 hHeld ?rest88
        case hy88 => (intro v hSw; obtain ⟨y0, y1⟩ := hSw; first | (go_simp; done) | (go_simp; with_reducible rfl))
        try simp only [Act.put, List.setIfInBounds_toArray, List.set_cons_zero, List.set_cons_succ]
        refine rgnTake 5 rfl (by kernel_rfl) (by kernel_rfl) (by kernel_rfl) (fun _ _ _ h => h) (by rfl) (v := ?v89) ?hy89 hHeld ?rest89
        case hy89 => (intro v hSw; obtain ⟨y0, y1⟩ := hSw; first | (go_simp; done) | (go_simp; with_reducible rfl))
        try simp only [Act.put, List.setIfInBounds_toArray, List.set_cons_zero, List.set_cons_succ]
        refine rgnTake 6 rfl (by kernel_rfl) (by kernel_rfl) (by kernel_rfl) (fun _ _ _ h => h) (by rfl) (v := ?v90) ?hy90 hHeld ?rest90
        case hy90 => (intro v hSw; obtain ⟨y0, y1⟩ := hSw; first | (go_simp; done) | (go_simp; with_reducible rfl))
        try simp only [Act.put, List.setIfInBounds_toArray, List.set_cons_zero, List.set_cons_succ]
        refine rgnTake 7 rfl (by kernel_rfl) (by kernel_rfl) (by kernel_rfl) (fun _ _ _ h => h) (by rfl) (v := ?v91) ?hy91 hHeld ?rest91
        case hy91 => (intro v hSw; obtain ⟨y0, y1⟩ := hSw; first | (go_simp; done) | (go_simp; with_reducible rfl))
        try simp only [Act.put, List.setIfInBounds_toArray, List.set_cons_zero, List.set_cons_succ]
        refine rgnTake 8 rfl (by kernel_rfl) (by kernel_rfl) (by kernel_rfl) (fun _ _ _ h => h) (by rfl) (v := ?v92) ?hy92 hHeld ?rest92
        case hy92 => (intro v hSw; obtain ⟨y0, y1⟩ := hSw; first | (go_simp; done) | (go_simp; with_reducible rfl))
        try simp only [Act.put, List.setIfInBounds_toArray, List.set_cons_zero, List.set_cons_succ]
        refine rgnOne 9 rfl (by kernel_rfl) (fun K hK => ?_)
        go_simp
        refine PC.out.mono ?_
        rintro r w5 ⟨rfl, hp⟩
        have LC5 := Lib.hid (LY.out w5 hp)
        refine hK.out _ _ ((SK.out _ w5 hp)) (fun hHeld => ?_)
        clear hK K
        try simp only [Act.put, List.setIfInBounds_toArray, List.set_cons_zero, List.set_cons_succ]
        refine rgnOne 10 rfl (by kernel_rfl) (fun K hK => ?_)
        go_simp
        refine LC5.out.mono ?_
        rintro r w6 ⟨rfl, hp6⟩
        have HL6 := Lib.hid (LV.out w6 hp6)
        refine hK.out _ _ ((SK.out _ w6 hp6)) (fun hHeld => ?_)
        clear hK K
        try simp only [Act.put, List.setIfInBounds_toArray, List.set_cons_zero, List.set_cons_succ]
        refine wpAnyH_done (by kernel_rfl) ?_ _
        go_wp2_with fail
        go_roundw
        case rel => exact ⟨i, _, by omega, rfl, HL6, HS2, HU2⟩
        case measure => simp [intOf]
      · have UP := Lib.hid (show s1.up X Y = s1.tell X Y from if_neg (by rw [← NDY.out, ← HZ.out]; exact z4))
        go_wp2_with fail
        go_roundw
        case rel => exact ⟨i, _, by omega, rfl, Lib.hid (by rw [UP.out]; exact ⟨E1, ⟨_, _, _, t3.out⟩, A1.out, C1.out.trans C3.out fun k e => A1.out k e⟩), HS2, HU2⟩
        case measure => simp [intOf]

end Go.Proofs.Ytbfgpdgiaclphaa
