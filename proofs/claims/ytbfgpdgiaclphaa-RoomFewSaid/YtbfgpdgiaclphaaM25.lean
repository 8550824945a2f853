/- Proved parts: T9r T9p T9s T9v T9n T9f T9e. Conditions: each theorem's own. -/
import Derived.Test.YtbfgpdgiaclphaaM24
import Derived.BigQuiet
namespace Go.Proofs.Ytbfgpdgiaclphaa
open Go.RowKit

/-- a node is taken off -/
def Tab.off (s : Tab) (p : Nat) : Tab := { s.put p [] with free := s.free ++ [p] }
theorem frees_push (l : List Nat) (p : Nat) : frees (l ++ [p]) = frees l ++ [(p : Int)] := by unfold frees; simp
theorem TabV.win {w : World} {T : Nat} {E : Nat → Prop} {s : Tab} {rv fv : Value} {vs : List Value} (h : TabV w T E s rv fv vs) {p : Nat} (hp : p < vs.length) (h0 : 0 < (s.nd p).length) : ∃ b o c, tnv vs p = .slice (some ⟨b, o, none⟩) (s.nd p).length c ∧ WinAt w b o c (s.nd p) := by
  rcases h.node p hp with ⟨_, e⟩ | h
  · rw [e] at h0; exact absurd h0 (by simp)
  · exact h

set_option maxHeartbeats 4000000 in
set_option maxRecDepth 100000 in
/-- release -/
theorem xReleaseV (w : World) (T : Nat) (E : Nat → Prop) (s : Tab) (rv fv : Value) (vs : List Value) (p : Nat) (h : TabV w T E s rv fv vs) (hp : p < s.nds.length) (h0 : 0 < (s.nd p).length) (hl : s.free.length ≤ 900000) :
    Calls Try.prog 88 #[Ptr T, .int .i64 p] w fun r w' => r = .returned (.tuple #[]) ∧ ∃ E' fv', TabV w' T E' (s.off p) rv fv' (vs.set p nilv) ∧ (∀ k, E' k → E k ∨ w.heap.size ≤ k) ∧ Chg E w w' := by
  have hp' : p < vs.length := by rw [h.len]; exact hp
  obtain ⟨g, c, rfl, hg, gT, hc⟩ := h.rowAt (by omega)
  obtain ⟨b, o, cp, ev, hw⟩ := h.win hp' h0
  have hW := h.eW p b o hp' ⟨o, _, cp, ev, Nat.le_refl _, by have := hw.pos; omega⟩
  obtain ⟨A1, cf, rfl, _⟩ := h.free.form
  have c0 := h.row.cell 0
  have c1 := h.row.cell 1
  simp only [List.getElem?_cons_zero, List.getElem?_cons_succ] at c0 c1
  have cg := (hc p hp').1
  rw [ev] at cg
  have hfit := hw.fit
  obtain ⟨us, ul, hcl⟩ := run_clear2 w 148 Try.underlying148 b o (s.nd p).length cp (fun j hj => hw.there j (by omega)) (fun j => hw.plain.frozen j)
  have t1 : Turn (InWin (tnv vs p)) w (w.setCells b o us) := (Turn.setCells w b o us).mono fun k j ⟨e, h1, h2⟩ => by
    subst e; rw [ev]; exact ⟨o, _, cp, rfl, h1, by omega⟩
  have sz1 : (w.setCells b o us).heap.size = w.heap.size := Nat.le_antisymm (Nat.le_of_not_lt fun q => by
    have key : ∀ (vs : List Value) (o : Nat) (w : World), (w.setCells b o vs).heap.size = w.heap.size := by
      intro vs
      induction vs with
      | nil => exact fun _ _ => rfl
      | cons v r ih => exact fun o w => by rw [World.setCells, ih]; simp [World.setCell]
    rw [key] at q; omega) t1.size
  have e1 : ∀ k, k < w.heap.size → k ≠ b → (w.setCells b o us).heap[k]? = w.heap[k]? := fun k hk hn => t1.block k hk fun j e => by
    rw [ev] at e
    obtain ⟨_, _, _, e, _⟩ := e
    injection e with e _ _; injection e with e; injection e with e _ _
    exact hn e.symm
  have bT : T ≠ b := Ne.symm hW.2.1
  have bg : g ≠ b := fun e => hW.2.2.1 (by rw [← e]; rfl)
  have c0' := (World.cell?_of_block (a := ⟨T, 0, none⟩) (e1 T (h.lt T h.eT) bT)).trans c0
  have c1' := (World.cell?_of_block (a := ⟨T, 1, none⟩) (e1 T (h.lt T h.eT) bT)).trans c1
  have cg' := (World.cell?_of_block (a := ⟨g, p, none⟩) (e1 g (h.lt g hg) bg)).trans cg
  have fg' := (World.frozen?_of_block (a := ⟨g, p, none⟩) (e1 g (h.lt g hg) bg)).trans (hc p hp').2
  have v2 := Lib.hid (h.moved (i := p) (w' := w.setCells b o us) (E' := E) (v' := nilv) (zs := []) hp' rfl (.inl ⟨rfl, rfl⟩) t1 (fun k j e => by obtain ⟨_, _, _, e, _⟩ := e; cases e) (fun _ e => e) (fun k e f => by omega) (fun k e => by rw [sz1]; exact h.lt k e))
  have C2 := Lib.hid (show Chg E w ((w.setCells b o us).setCell ⟨g, p, none⟩ nilv) from Chg.setCell (t1.chg fun k j e => (h.eW p k j hp' e).1) (.inl hg) _)
  have sz2 : ((w.setCells b o us).setCell ⟨g, p, none⟩ nilv).heap.size = w.heap.size := by simp [World.setCell, sz1]
  have S2 := Lib.hid sz2
  have gT' := gT
  have fT := v2.out.row.frozen 1
  have c1'' := v2.out.row.cell 1
  simp only [List.getElem?_cons_zero, List.getElem?_cons_succ] at c1''
  have LT := Lib.hid h.lt
  have ET := Lib.hid h.eT
  have EF := Lib.hid h.eF
  obtain ⟨n, hn⟩ : ∃ n, n = vs.length := ⟨_, rfl⟩
  obtain ⟨m, hm⟩ : ∃ m, m = (s.nd p).length := ⟨_, rfl⟩
  obtain ⟨f, hf⟩ : ∃ f, f = (frees s.free).length := ⟨_, rfl⟩
  have f1 : f ≤ 900000 := by rw [hf]; unfold frees; rw [List.length_map]; exact hl
  rw [← hn] at c0 c0' hp'
  rw [← hm] at cg cg' hcl
  have HF := Lib.hid hf
  unfold nilv at v2 C2 S2 fT c1'' sz2 ⊢
  rw [← hf] at c1 c1' c1''
  clear hc h hw ev hfit hp h0 hl ul t1 sz1 e1 sz2 hW hn hm hf
  go_enter Try.func88, Try.ntmps88
  have hsz : ((w.setCells b o us).setCell ⟨g, p, none⟩ (.slice none 0 0)).heap.size = (w.setCells b o us).heap.size := by simp [World.setCell]
  obtain ⟨w3, hw3⟩ : ∃ w3, w3 = ((w.setCells b o us).setCell ⟨g, p, none⟩ (.slice none 0 0)).alloc (.cells #[.int .i64 p] 3) := ⟨_, rfl⟩
  have B3 := Lib.hid (show Below ((w.setCells b o us).setCell ⟨g, p, none⟩ (.slice none 0 0)).heap.size ((w.setCells b o us).setCell ⟨g, p, none⟩ (.slice none 0 0)) w3 by rw [hw3]; exact (Below.refl _ _).alloc (Nat.le_refl _) _)
  have S3 := Lib.hid (show w3.heap.size = w.heap.size + 1 by rw [hw3, World.size_alloc, S2.out])
  have CQ := Lib.hid (show w3.cell? ⟨(w.setCells b o us).heap.size, 0, none⟩ = some (.int .i64 p) by rw [hw3, ← hsz]; exact cell_new1 _ _ _)
  have V3 := Lib.hid (v2.out.below B3.out)
  have HW3 := Lib.hid hw3
  have HSZ := Lib.hid hsz
  have NT := Lib.hid (show Value.ownBlock (.slice A1 f cf) ≠ some T from fun e => (EF.out T (by rw [← HF.out]; exact e)).2.1 rfl)
  clear hsz hw3
  go_wp2_with (at_builtin; refine wp_putJa rfl (.tmp 21) (.tmp 23) rfl (.slice A1 f cf) (frees s.free) rfl (by rw [← HW3.out, HF.out]; exact V3.out.free) (w.setCells b o us).heap.size p rfl (by rw [← HW3.out]; exact CQ.out) (by rw [← HF.out]; omega) ?_; intro g' c' w4 ho hgr hb; rw [← HW3.out] at hgr hb; have HO := Lib.hid ho; have HG := Lib.hid hgr; have HB := Lib.hid hb; have f4 : w4.frozen? ⟨T, 1, none⟩ = false := (World.frozen?_of_block (a := ⟨T, 1, none⟩) (hgr.block T (by rw [S3.out]; have := LT.out T ET.out; omega) (fun e => NT.out e.symm))).trans (V3.out.row.frozen 1); have c4 : w4.cell? ⟨T, 1, none⟩ = some (.slice A1 f cf) := (World.cell?_of_block (a := ⟨T, 1, none⟩) (hgr.block T (by rw [S3.out]; have := LT.out T ET.out; omega) (fun e => NT.out e.symm))).trans (by have := V3.out.row.cell 1; rw [← HF.out] at this; exact this); clear ho hgr hb)
  refine bodyPost_end (results_none rfl _ _ _) rfl ⟨rfl, ?_⟩
  have v3 := V3.out
  rw [← HF.out] at v3
  have s2 := S2.out
  have s3 := S3.out
  have sg := HG.out.size
  refine ⟨fun k => k < w4.heap.size ∧ (E k ∨ w.heap.size ≤ k), _, v3.freed (w' := w4) (E' := fun k => k < w4.heap.size ∧ (E k ∨ w.heap.size ≤ k)) (l := s.free ++ [p]) (by rw [frees_push]; exact HO.out) HG.out ?_ (fun k e => ⟨?_, .inl e⟩) (fun k e f => ⟨f, .inr (by omega)⟩) (fun k e => e.1), fun k e => e.2, ?_⟩
  · rcases HB.out with e | e
    · exact .inl e.symm
    · exact .inr (by show some g' = _; rw [e])
  · have := LT.out k e; omega
  · refine Chg.setCell (Chg.grown ((C2.out).trans (Chg.of_below (F := fun _ => False) B3.out) (fun _ e => e.elim)) HG.out fun k e => .inl (EF.out k (by rw [← HF.out]; exact e)).1) (.inl ET.out) _

/-- release -/
theorem xRelease (w : World) (T : Nat) (E : Nat → Prop) (s : Tab) (p : Nat) (h : TabG w T E s) (hp : p < s.nds.length) (h0 : 0 < (s.nd p).length) (hl : s.free.length ≤ 900000) :
    Calls Try.prog 88 #[Ptr T, .int .i64 p] w fun r w' => r = .returned (.tuple #[]) ∧ LeftP w T E (s.off p) w' := by
  obtain ⟨rv, fv, vs, h⟩ := h
  exact (xReleaseV w T E s rv fv vs p h hp h0 hl).mono fun r w' ⟨hr, E', fv', h1, h2, h3⟩ => ⟨hr, E', ⟨_, _, _, h1⟩, h2, h3⟩

end Go.Proofs.Ytbfgpdgiaclphaa

namespace Go.Proofs.Ytbfgpdgiaclphaa
open Go.RowKit

set_option maxHeartbeats 4000000 in
set_option maxRecDepth 100000 in
/-- part -/
theorem xPart (w : World) (T : Nat) (E : Nat → Prop) (s : Tab) (p : Nat) (h : TabG w T E s) (hp : p < s.nds.length) (h3 : 3 < (s.nd p).length) (hf : ∀ q, q ∈ s.free → q < s.nds.length) (hn : s.nds.length ≤ 900000) (hn2 : s.free.length ≤ 900000) :
    Calls Try.prog 94 #[Ptr T, .int .i64 p] w fun x w' => x = .returned (.agg #[.string ((s.nd p).key 3), .int .i64 s.place]) ∧ LeftP w T E ((s.put p ((s.nd p).take 3)).take ((s.nd p).drop 3)) w' := by
  obtain ⟨rv, fv, vs, h⟩ := h
  have hp' : p < vs.length := by rw [h.len]; exact hp
  obtain ⟨g, c, hrv, hg, gT, hc⟩ := h.rowAt (by omega)
  obtain ⟨b, o, cp, ev, hw⟩ := h.win hp' (by omega)
  have hW := h.eW p b o hp' ⟨o, _, cp, ev, Nat.le_refl _, by have := hw.pos; omega⟩
  have hfit := hw.fit
  have hcm := hw.cap
  unfold maxLen at hcm
  obtain ⟨q, hq⟩ : ∃ q, q = w.heap.size := ⟨_, rfl⟩
  obtain ⟨w1, hw1⟩ : ∃ w1, w1 = w.alloc (.cells #[.string ⟨#[]⟩, .int .i64 0] 123) := ⟨_, rfl⟩
  have B1 : Below w.heap.size w w1 := by rw [hw1]; exact (Below.refl _ _).alloc (Nat.le_refl _) _
  have s1 : w1.heap.size = q + 1 := by rw [hw1, hq]; simp
  have r1 : RowAt w1 q [.string ⟨#[]⟩, .int .i64 0] 123 := by rw [hw1, hq]; exact RowAt.new w _ _
  have v1 := h.below B1
  have cg1 : w1.cell? ⟨g, p, none⟩ = some (.slice (some ⟨b, o, none⟩) (s.nd p).length cp) := by
    have e := (B1.cell (p := ⟨g, p, none⟩) (h.lt g hg)).trans (hc p hp').1
    rw [ev] at e; exact e
  have fg1 : w1.frozen? ⟨g, p, none⟩ = false := (World.frozen?_of_block (a := ⟨g, p, none⟩) (B1.block g (h.lt g hg))).trans (hc p hp').2
  have c01 := v1.row.cell 0
  simp only [List.getElem?_cons_zero] at c01
  rw [hrv] at c01
  have bg : b ≠ g := fun e => hW.2.2.1 (by rw [hrv, e]; rfl)
  have c00 := h.row.cell 0
  simp only [List.getElem?_cons_zero] at c00
  rw [hrv] at c00
  have cg0 := (hc p hp').1
  rw [ev] at cg0
  have e3 : ((s.nd p).take 3).length = 3 := by rw [List.length_take]; omega
  have n3 : NodeAt w1 (.slice (some ⟨b, o, none⟩) 3 3) ((s.nd p).take 3) := by
    have hw1' : NodeAt w1 _ _ := v1.node p hp'
    rw [ev] at hw1'
    rcases hw1' with ⟨e, _⟩ | ⟨b', o', c', e, k⟩
    · cases e
    · injection e with a1 a2 a3
      injection a1 with a1
      injection a1 with a1 a4 _
      subst a1; subst a4; subst a3
      refine .inr ⟨b, o, 3, by rw [e3], by rw [e3]; exact Nat.le_refl _, by decide, by decide, (rangeAt_part k.row 3 (by omega)).1, fun j hj => k.there j (by omega), k.plain⟩
  have n4 : NodeAt w1 (.slice (some ⟨b, o + 3 * 2, none⟩) ((s.nd p).length - 3) (cp - 3)) ((s.nd p).drop 3) := by
    have hw1' : NodeAt w1 _ _ := v1.node p hp'
    rw [ev] at hw1'
    rcases hw1' with ⟨e, _⟩ | ⟨b', o', c', e, k⟩
    · cases e
    · injection e with a1 a2 a3
      injection a1 with a1
      injection a1 with a1 a4 _
      subst a1; subst a4; subst a3
      refine .inr ⟨b, o + 3 * 2, cp - 3, by rw [List.length_drop], by rw [List.length_drop]; omega, by unfold maxLen; omega, by omega, (rangeAt_part k.row 3 (by omega)).2, fun j hj => ?_, k.plain⟩
      have := k.there (3 * 2 + j) (by omega)
      rwa [← Nat.add_assoc] at this
  have inw : ∀ k j, InWin (.slice (some ⟨b, o, none⟩) 3 3) k j → InWin (tnv vs p) k j := fun k j ⟨_, _, _, e, h1, h2⟩ => by
    injection e with a1 a2 a3
    injection a1 with a1
    injection a1 with a1 a4 _
    rw [ev, ← a1]; exact ⟨o, _, cp, rfl, by omega, by omega⟩
  have inw4 : ∀ k j, InWin (.slice (some ⟨b, o + 3 * 2, none⟩) ((s.nd p).length - 3) (cp - 3)) k j → InWin (tnv vs p) k j ∧ ¬ InWin (.slice (some ⟨b, o, none⟩) 3 3) k j := fun k j ⟨_, _, _, e, h1, h2⟩ => by
    injection e with a1 a2 a3
    injection a1 with a1
    injection a1 with a1 a4 _
    rw [ev, ← a1]; refine ⟨⟨o, _, cp, rfl, by omega, by omega⟩, fun ⟨_, _, _, e, k1, k2⟩ => ?_⟩
    injection e with c1 c2 c3
    injection c1 with c1
    injection c1 with c1 c4 _
    omega
  obtain ⟨w2, hw2⟩ : ∃ w2, w2 = (w1.setCell ⟨g, p, none⟩ (.slice (some ⟨b, o, none⟩) 3 3)).drew.drew := ⟨_, rfl⟩
  have v2 : TabV w2 T E (s.put p ((s.nd p).take 3)) rv fv (vs.set p (.slice (some ⟨b, o, none⟩) 3 3)) := by
    rw [hw2]
    refine TabV.below (w := w1.setCell ⟨g, p, none⟩ (.slice (some ⟨b, o, none⟩) 3 3)) ?_ (Below.refl _ _).drew.drew
    exact v1.putV hp' hrv n3 fun k j e => ⟨h.eW p k j hp' (inw k j e), fun i hi hne f => hne (h.apart i p k j hi hp' f (inw k j e))⟩
  have k2 : ∀ k, k ≠ g → w2.heap[k]? = w1.heap[k]? := fun k hk => by rw [hw2]; exact Below.heap_setCell w1 _ _ _ hk
  have s2 : w2.heap.size = q + 1 := by rw [hw2]; show (w1.setCell _ _).heap.size = _; simp [World.setCell, s1]
  have qg : q ≠ g := by have := h.lt g hg; omega
  have bq : b ≠ q := by have := h.lt b hW.1; omega
  have qT : q ≠ T := by have := h.lt T h.eT; omega
  have r2 : RowAt w2 q [.string ⟨#[]⟩, .int .i64 0] 123 := (k2 q qg).trans r1
  obtain ⟨K, hK⟩ : ∃ K, K = (s.nd p).key 3 := ⟨_, rfl⟩
  have ck : w2.cell? ⟨b, o + 3 * 2, none⟩ = some (.string K) := by
    rw [World.cell?_of_block (a := ⟨b, o + 3 * 2, none⟩) (k2 b bg), World.cell?_of_block (a := ⟨b, o + 3 * 2, none⟩) (B1.block b (h.lt b hW.1)), hK]
    exact (hw.cells 3 h3).1
  have TC := Lib.hid (xTake w2 T E _ rv fv _ _ _ _ _ v2 (n4.keep (w' := w2) fun k j e => k2 k (fun t => (h.eW p k j hp' (inw4 k j e).1).2.2.1 (by rw [hrv, t]; rfl))) (fun k j e => ⟨h.eW p k j hp' (inw4 k j e).1, fun i hi f => by
      rw [List.length_set] at hi
      rw [nv_set hp'] at f
      by_cases t : i = p
      · rw [if_pos t] at f; exact (inw4 k j e).2 f
      · rw [if_neg t] at f; exact t (h.apart i p k j hi hp' f (inw4 k j e).1)⟩) (fun q hq => by show q < (s.nds.set p _).length; rw [List.length_set]; exact hf q hq) (by show (s.nds.set p _).length ≤ _; rw [List.length_set]; exact hn) hn2)
  have pl : (s.put p ((s.nd p).take 3)).place = s.place := by
    have e : (s.put p ((s.nd p).take 3)).nds.length = s.nds.length := List.length_set
    unfold Tab.place
    rw [e]; rfl
  rw [pl] at TC
  have FIN := Lib.hid (show ∀ w3, TookP w2 T E (s.put p ((s.nd p).take 3)) rv fv ((s.nd p).drop 3) w3 → ∀ u1 u2, LeftP w T E ((s.put p ((s.nd p).take 3)).take ((s.nd p).drop 3)) ((w3.setCell ⟨q, 0, none⟩ u1).setCell ⟨q, 1, none⟩ u2) from fun w3 ⟨⟨E3, h3, a3, c3⟩, _⟩ u1 u2 => by
    have nq : ∀ k, E3 k → k ≠ q := fun k e t => by
      rcases a3 k e with f | f
      · have := h.lt k f; omega
      · omega
    refine ⟨E3, h3.keep (fun k e => (Below.heap_setCell _ _ _ _ (by exact nq k e)).trans (Below.heap_setCell _ _ _ _ (by exact nq k e))) (by simp [World.setCell]), fun k e => ?_, ?_⟩
    · rcases a3 k e with f | f
      · exact .inl f
      · exact .inr (by omega)
    · refine Chg.setCell (Chg.setCell (Chg.then ?_ c3) (.inr (by show w.heap.size ≤ q; omega)) _) (.inr (by show w.heap.size ≤ q; omega)) _
      rw [hw2]; exact (Chg.setCell (Chg.of_below B1) (.inl hg) _).drew.drew)
  have S2 := Lib.hid (show ∀ w3, TookP w2 T E (s.put p ((s.nd p).take 3)) rv fv ((s.nd p).drop 3) w3 → w3.cell? ⟨b, o + 3 * 2, none⟩ = some (.string K) ∧ RowAt w3 q [.string ⟨#[]⟩, .int .i64 0] 123 from fun w3 h3 => by
    refine ⟨(World.cell?_of_block (a := ⟨b, o + 3 * 2, none⟩) (h3.2 b (by rw [s2]; have := h.lt b hW.1; omega) hW.2.1 hW.2.2.1 hW.2.2.2)).trans ck, (h3.2 q (by omega) qT (fun e => ?_) (fun e => ?_)).trans r2⟩
    · have := h.lt q (h.eN q e).1; omega
    · have := h.lt q (h.eF q e).1; omega)
  have c02 : w2.cell? ⟨T, 0, none⟩ = some (.slice (some ⟨g, 0, none⟩) vs.length c) := by
    have := v2.row.cell 0
    simp only [List.getElem?_cons_zero] at this
    rw [hrv] at this; exact this
  obtain ⟨n, hn'⟩ : ∃ n, n = vs.length := ⟨_, rfl⟩
  obtain ⟨m, hm⟩ : ∃ m, m = (s.nd p).length := ⟨_, rfl⟩
  rw [← hn'] at c00 c01 c02 hp'
  rw [← hm] at cg0 cg1 TC h3 hfit
  rw [← hK]
  have m3 : 3 ≤ m := by omega
  have c3 : 3 ≤ cp := by omega
  have c3z : (3 : Int) ≤ (cp : Int) := by omega
  have m3z : (3 : Int) ≤ (m : Int) := by omega
  have m3y : (3 : Int) < (m : Int) := by omega
  have mcz : (m : Int) ≤ (cp : Int) := by omega
  have c3' : ¬ (cp = 3) := by omega
  have C01 := Lib.hid c01
  have C02 := Lib.hid c02
  have HW1 := Lib.hid hw1
  have HW2 := Lib.hid hw2
  have HQ := Lib.hid hq
  have R2 := Lib.hid r2
  have CK := Lib.hid ck
  have CG1 := Lib.hid cg1
  rw [hw1] at c01 cg1
  clear hw1 hw2 hq
  clear v1 v2 h hw hc hW ev inw inw4 n3 n4 e3 k2 r1 B1 s1 hn' hm pl hK hn hn2 hf hp s2 r2
  have G3 : ((3 : Int)).toNat = 3 := rfl
  go_enter Try.func94, Try.ntmps94
  go_wp2_with fail
  rw [← HW1.out]
  try rw [← HQ.out]
  have c1 := C01.out
  have cg2 := CG1.out
  refine wp_region_held_drew (S := (fun w' => w'.cell? ⟨T, 0, none⟩ = some (.slice (some ⟨g, 0, none⟩) n c))) (by kernel_rfl) (c1) (fun hHeld => ?_)
  have hHeld' := hHeld
  refine rgnTake 0 rfl (by kernel_rfl) (by kernel_rfl) (by kernel_rfl) (fun _ _ _ h => h) (by rfl) (v := ?v1) ?hy1 hHeld ?rest1
  case hy1 => (intro v hSw; first | (go_simp; done) | (go_simp; with_reducible rfl))
  try simp only [Act.put, List.setIfInBounds_toArray, List.set_cons_zero, List.set_cons_succ]
  refine rgnTake 1 rfl (by kernel_rfl) (by kernel_rfl) (by kernel_rfl) (fun _ _ _ h => h) (by rfl) (v := ?v2) ?hy2 hHeld ?rest2
  case hy2 => (intro v hSw; first | (go_simp; done) | (go_simp; with_reducible rfl))
  try simp only [Act.put, List.setIfInBounds_toArray, List.set_cons_zero, List.set_cons_succ]
  refine rgnTake 2 rfl (by kernel_rfl) (by kernel_rfl) (by kernel_rfl) (fun _ _ _ h => h) (by rfl) (v := ?v3) ?hy3 hHeld ?rest3
  case hy3 => (intro v hSw; first | (go_simp; done) | (go_simp; with_reducible rfl))
  try simp only [Act.put, List.setIfInBounds_toArray, List.set_cons_zero, List.set_cons_succ]
  refine rgnTake 3 rfl (by kernel_rfl) (by kernel_rfl) (by kernel_rfl) (fun _ _ _ h => h) (by rfl) (v := ?v4) ?hy4 hHeld ?rest4
  case hy4 => (intro v hSw; first | (go_simp; done) | (go_simp; with_reducible rfl))
  try simp only [Act.put, List.setIfInBounds_toArray, List.set_cons_zero, List.set_cons_succ]
  refine rgnTake 4 rfl (by kernel_rfl) (by kernel_rfl) (by kernel_rfl) (fun _ _ _ h => h) (by rfl) (v := ?v5) ?hy5 hHeld ?rest5
  case hy5 => (intro v hSw; first | (go_simp; done) | (go_simp; with_reducible rfl))
  try simp only [Act.put, List.setIfInBounds_toArray, List.set_cons_zero, List.set_cons_succ]
  refine rgnTake 5 rfl (by kernel_rfl) (by kernel_rfl) (by kernel_rfl) (fun _ _ _ h => h) (by rfl) (v := ?v6) ?hy6 hHeld ?rest6
  case hy6 => (intro v hSw; first | (go_simp; done) | (go_simp; with_reducible rfl))
  try simp only [Act.put, List.setIfInBounds_toArray, List.set_cons_zero, List.set_cons_succ]
  refine rgnTake 6 rfl (by kernel_rfl) (by kernel_rfl) (by kernel_rfl) (fun _ _ _ h => h) (by rfl) (v := ?v7) ?hy7 hHeld ?rest7
  case hy7 => (intro v hSw; first | (go_simp; done) | (go_simp; with_reducible rfl))
  try simp only [Act.put, List.setIfInBounds_toArray, List.set_cons_zero, List.set_cons_succ]
  refine rgnTake 7 rfl (by kernel_rfl) (by kernel_rfl) (by kernel_rfl) (fun _ _ _ h => h) (by rfl) (v := ?v8) ?hy8 hHeld ?rest8
  case hy8 => (intro v hSw; first | (go_simp; done) | (go_simp; with_reducible rfl))
  try simp only [Act.put, List.setIfInBounds_toArray, List.set_cons_zero, List.set_cons_succ]
  refine rgnOne 8 rfl (by kernel_rfl) (fun K hK => ?_)
  go_simp
  refine hK.out _ _ ((by have := C02.out; rw [HW2.out] at this; exact this)) (fun hHeld => ?_)
  clear hK K
  try simp only [Act.put, List.setIfInBounds_toArray, List.set_cons_zero, List.set_cons_succ]
  refine wpAnyH_done (by kernel_rfl) ?_ _
  go_wp2_with fail
  have c3n : (if cp = 3 then (some ⟨b, o, none⟩ : Option Addr) else some ⟨b, o + 3 * 2, none⟩) = some ⟨b, o + 3 * 2, none⟩ := if_neg c3'
  have S0 : (w1.setCell ⟨g, p, none⟩ (.slice (some ⟨b, o, none⟩) 3 3)).drew.cell? ⟨b, o + 3 * 2, none⟩ = some (.string K) := by have := CK.out; rw [HW2.out] at this; exact this
  clear cg2 c1 cg1 cg0 c01 c00 fg1 hHeld'
  refine wp_region_held_drew (S := (fun w' => w'.cell? ⟨b, o + 3 * 2, none⟩ = some (.string K))) (by kernel_rfl) (S0) (fun hHeld => ?_)
  rw [← HW2.out] at hHeld ⊢
  refine rgnTake 0 rfl (by kernel_rfl) (by kernel_rfl) (by kernel_rfl) (fun _ _ _ h => h) (by rfl) (v := ?v9) ?hy9 hHeld ?rest9
  case hy9 => (intro v hSw; first | (go_simp; done) | (go_simp; with_reducible rfl))
  try simp only [Act.put, List.setIfInBounds_toArray, List.set_cons_zero, List.set_cons_succ]
  refine rgnTake 1 rfl (by kernel_rfl) (by kernel_rfl) (by kernel_rfl) (fun _ _ _ h => h) (by rfl) (v := ?v10) ?hy10 hHeld ?rest10
  case hy10 => (intro v hSw; first | (go_simp; done) | (go_simp; with_reducible rfl))
  try simp only [Act.put, List.setIfInBounds_toArray, List.set_cons_zero, List.set_cons_succ]
  refine rgnTake 2 rfl (by kernel_rfl) (by kernel_rfl) (by kernel_rfl) (fun _ _ _ h => h) (by rfl) (v := ?v11) ?hy11 hHeld ?rest11
  case hy11 => (intro v hSw; first | (go_simp; done) | (go_simp; with_reducible rfl))
  try simp only [Act.put, List.setIfInBounds_toArray, List.set_cons_zero, List.set_cons_succ]
  refine rgnTake 3 rfl (by kernel_rfl) (by kernel_rfl) (by kernel_rfl) (fun _ _ _ h => h) (by rfl) (v := ?v12) ?hy12 hHeld ?rest12
  case hy12 => (intro v hSw; first | (go_simp; done) | (go_simp; with_reducible rfl))
  try simp only [Act.put, List.setIfInBounds_toArray, List.set_cons_zero, List.set_cons_succ]
  refine rgnTake 4 rfl (by kernel_rfl) (by kernel_rfl) (by kernel_rfl) (fun _ _ _ h => h) (by rfl) (v := ?v13) ?hy13 hHeld ?rest13
  case hy13 => (intro v hSw; first | (go_simp; done) | (go_simp; with_reducible rfl))
  try simp only [Act.put, List.setIfInBounds_toArray, List.set_cons_zero, List.set_cons_succ]
  refine rgnTake 5 rfl (by kernel_rfl) (by kernel_rfl) (by kernel_rfl) (fun _ _ _ h => h) (by rfl) (v := ?v14) ?hy14 hHeld ?rest14
  case hy14 => (intro v hSw; first | (go_simp; done) | (go_simp; with_reducible rfl))
  try simp only [Act.put, List.setIfInBounds_toArray, List.set_cons_zero, List.set_cons_succ]
  refine rgnTake 6 rfl (by kernel_rfl) (by kernel_rfl) (by kernel_rfl) (fun _ _ _ h => h) (by rfl) (v := ?v15) ?hy15 hHeld ?rest15
  case hy15 => (intro v hSw; first | (go_simp; done) | (go_simp; with_reducible rfl))
  try simp only [Act.put, List.setIfInBounds_toArray, List.set_cons_zero, List.set_cons_succ]
  refine rgnOne 7 rfl (by kernel_rfl) (fun K hK => ?_)
  go_simp
  refine TC.out.mono ?_
  rintro r w3 ⟨rfl, ht⟩
  have T3 := Lib.hid ht
  have R3 := Lib.hid (S2.out w3 ht).2
  clear ht
  refine hK.out _ _ ((S2.out w3 T3.out).1) (fun hHeld => ?_)
  clear hK K
  try simp only [Act.put, List.setIfInBounds_toArray, List.set_cons_zero, List.set_cons_succ]
  refine rgnTake 8 rfl (by kernel_rfl) (by kernel_rfl) (by kernel_rfl) (fun _ _ _ h => h) (by rfl) (v := ?v16) ?hy16 hHeld ?rest16
  case hy16 => (intro v hSw; first | (go_simp; done) | (go_simp; with_reducible rfl))
  try simp only [Act.put, List.setIfInBounds_toArray, List.set_cons_zero, List.set_cons_succ]
  have q0 := R3.out.cell 0
  have q1 := R3.out.cell 1
  have z0 := R3.out.frozen 0
  have z1 := R3.out.frozen 1
  simp only [List.getElem?_cons_zero, List.getElem?_cons_succ] at q0 q1
  have k3 : ∀ u1 u2, ((w3.setCell ⟨q, 0, none⟩ u1).setCell ⟨q, 1, none⟩ u2).cell? ⟨b, o + 3 * 2, none⟩ = some (.string K) := fun u1 u2 => by
    rw [World.cell?_of_block (a := ⟨b, o + 3 * 2, none⟩) (Below.heap_setCell _ _ _ _ (by exact bq)), World.cell?_of_block (a := ⟨b, o + 3 * 2, none⟩) (Below.heap_setCell _ _ _ _ (by exact bq))]
    exact (S2.out w3 T3.out).1
  refine rgnOne 9 rfl (by kernel_rfl) (fun K hK => ?_)
  go_simp
  refine hK.out _ _ ((k3 _ _)) (fun hHeld => ?_)
  clear hK K
  try simp only [Act.put, List.setIfInBounds_toArray, List.set_cons_zero, List.set_cons_succ]
  refine wpAnyH_done (by kernel_rfl) ?_ _
  go_wp2_with fail
  have rr : RowAt ((w3.setCell ⟨q, 0, none⟩ (.string K)).setCell ⟨q, 1, none⟩ (.int .i64 s.place)) q [.string K, .int .i64 s.place] 123 := (R3.out.set 0 _).set 1 _
  (try simp only [Exit.inBlock, Exit.then])
  refine bodyPost_ret (results_cell_row rfl _ _ q _ _ _ _ rfl rr Try.underlying123 rfl (by kernel_rfl)) rfl ?_
  exact ⟨rfl, FIN.out w3 T3.out _ _⟩

end Go.Proofs.Ytbfgpdgiaclphaa

namespace Go.Proofs.Ytbfgpdgiaclphaa
open Go.RowKit

section
variable {w w' : World} {T : Nat} {E : Nat → Prop} {s : Tab} {rv fv : Value} {vs : List Value}
/-- an item of a node turns -/
theorem TabV.item {p i j b o c : Nat} {u : Value} (y : ByteArray × Int) (h : TabV w T E s rv fv vs) (hp : p < vs.length) (ev : tnv vs p = .slice (some ⟨b, o, none⟩) (s.nd p).length c) (hi : i < (s.nd p).length) (hj : j < 2) (hy : (it2 (s.nd p)[i]).set j u = it2 y) :
    TabV (w.setCell ⟨b, o + (i * 2 + j), none⟩ u) T E (s.put p ((s.nd p).set i y)) rv fv vs := by
  have hw : WinAt w b o c (s.nd p) := by
    obtain ⟨b', o', c', e, k⟩ := h.win hp (by omega)
    rw [ev] at e
    injection e with e1 _ e3
    injection e1 with e1
    injection e1 with e1 e4 _
    subst e1; subst e4; subst e3; exact k
  have hfit := hw.fit
  have iw : InWin (tnv vs p) b (o + (i * 2 + j)) := by rw [ev]; exact ⟨o, _, c, rfl, by omega, by omega⟩
  have hW := h.eW p b _ hp iw
  have t : Turn (fun k m => k = b ∧ m = o + (i * 2 + j)) w (w.setCell ⟨b, o + (i * 2 + j), none⟩ u) := (Turn.setCells w b (o + (i * 2 + j)) [u]).mono fun k m ⟨h1, h2, h3⟩ => ⟨h1, by simp at h3; omega⟩
  have kb : ∀ k, k ≠ b → (w.setCell ⟨b, o + (i * 2 + j), none⟩ u).heap[k]? = w.heap[k]? := fun k q => Below.heap_setCell _ _ _ _ q
  have hwn : WinAt (w.setCell ⟨b, o + (i * 2 + j), none⟩ u) b o c ((s.nd p).set i y) := by
    refine ⟨by rw [List.length_set]; exact hfit, hw.cap, hw.pos, ?_, fun m hm => t.there _ _ hw.plain.lt (hw.there m hm), hw.plain.setCell _ _⟩
    have e : itc ((s.nd p).set i y) = (itc (s.nd p)).set (i * 2 + j) u := (flat_set (f := it2) (n := 2) (fun _ => rfl) (s.nd p) i j u y hi hj hy).symm
    rw [e]
    intro m v hm
    rw [List.getElem?_set] at hm
    by_cases q : i * 2 + j = m
    · subst q
      rw [if_pos rfl] at hm
      split at hm
      · injection hm with hm
        subst hm
        exact World.cell?_setCell_same' _ _ _ (hw.there _ (by omega))
      · cases hm
    · rw [if_neg q] at hm
      rw [t.cell b (o + m) hw.plain.lt (fun ⟨_, e⟩ => q (by omega))]
      exact hw.row m v hm
  refine ⟨(kb T (Ne.symm hW.2.1)).trans h.row, own_keep h.nodes fun k e => kb k (fun t => hW.2.2.1 (by rw [← t]; exact e)), own_keep h.free fun k e => kb k (fun t => hW.2.2.2 (by rw [← t]; exact e)), by rw [h.len]; show _ = (s.nds.set p _).length; rw [List.length_set], fun l hl => ?_, h.apart, h.eT, h.eN, h.eF, h.eW, fun k e => ?_⟩
  · rw [Tab.put_nd (by rw [← h.len]; exact hp)]
    by_cases q : l = p
    · rw [if_pos q, q, ev]
      exact .inr ⟨b, o, c, by rw [List.length_set], hwn⟩
    · rw [if_neg q]
      exact (h.node l hl).turn t fun k m f ⟨e1, e2⟩ => by
        subst e1; subst e2
        exact q (h.apart l p _ _ hl hp f iw)
  · have : (w.setCell ⟨b, o + (i * 2 + j), none⟩ u).heap.size = w.heap.size := by simp [World.setCell]
    rw [this]; exact h.lt k e
end
theorem KV.getE (l : KV) (i : Nat) (hi : i < l.length) : l[i] = (l.key i, l.num i) := by
  unfold KV.key KV.num
  rw [List.getD_eq_getElem?_getD, List.getElem?_eq_getElem hi]; rfl

/-- a step's two cells -/
def st2 (x : Nat × Nat) : List Value := [.int .i64 x.1, .int .i64 x.2]
def stc (l : List (Nat × Nat)) : List Value := l.flatMap st2
theorem infoSt : (Try.prog.info? 150).map (fun i => (i.zero, i.size, i.bytes)) = some (some (.agg #[.int .i64 0, .int .i64 0]), 2, 16) := by kernel_rfl
/-- the slice v holds the steps -/
def SlW (w : World) (v : Value) (ws : List (Nat × Nat)) : Prop := ∃ A c, v = .slice A ws.length c ∧ ∀ j, j < ws.length → ∃ g, A = some ⟨g, 0, none⟩ ∧ w.cell? ⟨g, j * 2, none⟩ = some (.int .i64 (ws.getD j (0, 0)).1) ∧ w.cell? ⟨g, j * 2 + 1, none⟩ = some (.int .i64 (ws.getD j (0, 0)).2)
def OwnW (w : World) (B : Nat) (v : Value) (ws : List (Nat × Nat)) : Prop := w.ownsRow B 150 2 v ws.length (stc ws)
theorem OwnW.sl {w : World} {B : Nat} {v : Value} {ws : List (Nat × Nat)} (h : OwnW w B v ws) : SlW w v ws := by
  have h1 := h
  rcases h.2 with ⟨rfl, h0⟩ | ⟨g, cap, cur, rfl, hB, hg, _⟩
  · exact ⟨none, 0, by rw [h0], fun j hj => by omega⟩
  · refine ⟨_, cap, rfl, fun j hj => ⟨g, rfl, ?_, ?_⟩⟩
    · have := flat_at (f := st2) (n := 2) (fun _ => rfl) ws j 0 hj (by decide)
      unfold OwnW at h1
      rw [show j * 2 = j * 2 + 0 from rfl, h1.cellAt (j * 2 + 0) (by omega), List.getD_eq_getElem?_getD, List.getElem?_eq_getElem hj]
      exact this
    · have := flat_at (f := st2) (n := 2) (fun _ => rfl) ws j 1 hj (by decide)
      unfold OwnW at h1
      rw [h1.cellAt (j * 2 + 1) (by omega), List.getD_eq_getElem?_getD, List.getElem?_eq_getElem hj]
      exact this
set_option maxRecDepth 100000 in
/-- append(way, step) -/
theorem wp_putW {w : World} {B : Nat} {ops : Array Oper} {rest : List Oper} {o : Oper} {a : Act} {Q : Exit → Act → World → Prop} (hgd : o.guard = none) (s x : Operand)
    (ho : o.op = .call { callee := .builtin .append, args := #[s, x], argTypes := #[130, 130] })
    (v : Value) (zs : List (Nat × Nat)) (hs : a.eval s = v) (hown : OwnW w B v zs) (hB : B ≤ w.heap.size) (g : Nat) (y : Nat × Nat) (hx : a.eval x = .slice (some ⟨g, 0, none⟩) 1 1)
    (hc : w.cell? ⟨g, 0, none⟩ = some (.int .i64 y.1)) (hc1 : w.cell? ⟨g, 1, none⟩ = some (.int .i64 y.2)) (hl : zs.length ≤ 1000000)
    (h : ∀ A' c' w', OwnW w' B (.slice A' (zs.length + 1) c') (zs ++ [y]) → w.grownBy w' v.ownBlock → wpList Try.prog ops Q rest (a.put o.dst (.slice A' (zs.length + 1) c')) w') : wpList Try.prog ops Q (o :: rest) a w := by
  obtain ⟨i0, hi, hz0, hz1, hz2⟩ := info_parts infoSt
  refine wpList_append_own_at w hgd s x 130 ho B 150 i0 _ 2 16 Try.underlying130 hi hz0 hz1 hz2 rfl (by decide) v zs.length _ hs hown ⟨g, 0, none⟩ 1 1 (st2 y) hx rfl ?_ ?_
    (by unfold maxLen; omega) (by omega) hB ?_
  · intro j u hj
    match j, hj with
    | 0, hj => injection hj with hj; subst hj; exact hc
    | 1, hj => injection hj with hj; subst hj; exact hc1
  · intro u hu
    unfold st2 at hu
    simp at hu
    rcases hu with rfl | rfl <;> rfl
  · intro v' w' h1 h2 _ _
    have e : stc zs ++ st2 y = stc (zs ++ [y]) := by unfold stc; simp
    rw [e] at h1
    have e2 : zs.length + 1 = (zs ++ [y]).length := by simp
    rcases h1.2 with ⟨_, q⟩ | ⟨g', cap, cur, rfl, _⟩
    · omega
    · exact h _ cap w' (by unfold OwnW; rw [← e2]; exact h1) h2
/-- the steps from a node down -/
def Tab.down (s : Tab) (k : ByteArray) : Nat → Nat → List (Nat × Nat)
  | 0, _ => []
  | 1, p => [(p, (s.nd p).pos k)]
  | d + 2, p => (p, (s.nd p).kid k) :: s.down k (d + 1) ((s.nd p).num ((s.nd p).kid k)).toNat
/-- nothing is amiss on the way -/
def Tab.Walks (s : Tab) (k : ByteArray) : Nat → Nat → Prop
  | 0, _ => True
  | 1, p => p < s.nds.length ∧ (s.nd p).length ≤ 100000
  | d + 2, p => p < s.nds.length ∧ (s.nd p).length ≤ 100000 ∧ (s.nd p).kid k < (s.nd p).length ∧ ∃ q : Nat, (s.nd p).num ((s.nd p).kid k) = q ∧ s.Walks k (d + 1) q

end Go.Proofs.Ytbfgpdgiaclphaa

namespace Go.Proofs.Ytbfgpdgiaclphaa
open Go.RowKit

theorem below_grown {B : Nat} {w w1 w2 : World} {r : Option Nat} (h : Below B w w1) (g : w1.grownBy w2 r) (hr : ∀ k, r = some k → B ≤ k) (hs : B ≤ w1.heap.size) : Below B w w2 :=
  ⟨g.os.trans h.os, g.tape.trans h.tape, g.output.trans h.output, Nat.le_trans h.size g.size, fun k hk => (g.block k (by omega) (fun e => by have := hr k e.symm; omega)).trans (h.block k hk)⟩
def slLen : Value → Nat
  | .slice _ n _ => n
  | _ => 0
/-- what find tells: the item's place in memory -/
def FindR (vs : List Value) (s : Tab) (ws : List (Nat × Nat)) (k : ByteArray) (r : Value) : Prop :=
  match ws.getLast? with
  | none => r = .pointer none
  | some x => if x.2 < (s.nd x.1).length ∧ (s.nd x.1).key x.2 = k then ∃ b o c, tnv vs x.1 = .slice (some ⟨b, o, none⟩) (s.nd x.1).length c ∧ r = .pointer (some ⟨b, o + x.2 * 2, none⟩) else r = .pointer none

set_option maxRecDepth 100000 in
/-- find, of no way -/
theorem xFind0 (w : World) (T : Nat) (v : Value) (k : ByteArray) (hv : SlW w v []) :
    Calls Try.prog 73 #[Ptr T, v, .string k] w fun x w' => x = .returned (.pointer none) ∧ w' = w := by
  obtain ⟨A, c, rfl, _⟩ := hv
  go_enter Try.func73, Try.ntmps73
  go_wp2_with fail
  go_ret
  exact ⟨rfl, rfl⟩

set_option maxHeartbeats 4000000 in
set_option maxRecDepth 100000 in
/-- find, of some way -/
theorem xFind1 (w : World) (T : Nat) (E : Nat → Prop) (s : Tab) (rv fv : Value) (vs : List Value) (v : Value) (ws0 : List (Nat × Nat)) (p a : Nat) (k : ByteArray) (h : TabV w T E s rv fv vs) (hp : p < vs.length) (hv : SlW w v (ws0 ++ [(p, a)])) (hw : ws0.length ≤ 100000) :
    Calls Try.prog 73 #[Ptr T, v, .string k] w fun x w' => ∃ r, x = .returned r ∧ FindR vs s (ws0 ++ [(p, a)]) k r ∧ Below w.heap.size w w' := by
  have HF : ∀ r, FindR vs s (ws0 ++ [(p, a)]) k r ↔ (if a < (s.nd p).length ∧ (s.nd p).key a = k then ∃ b o c, tnv vs p = .slice (some ⟨b, o, none⟩) (s.nd p).length c ∧ r = .pointer (some ⟨b, o + a * 2, none⟩) else r = .pointer none) := fun r => by
    unfold FindR
    rw [List.getLast?_concat]
  obtain ⟨g, c, rfl, _, _, hc⟩ := h.rowAt (by omega)
  have c0 := h.row.cell 0
  simp only [List.getElem?_cons_zero] at c0
  have c1 := (hc p hp).1
  obtain ⟨A, cp, e, hi⟩ := (h.node p hp).form
  rw [e] at c1
  obtain ⟨Aw, cw, rfl, hs⟩ := hv
  obtain ⟨gw, rfl, cw1, cw2⟩ := hs ws0.length (by simp)
  have eg : (ws0 ++ [(p, a)]).getD ws0.length (0, 0) = (p, a) := by rw [List.getD_eq_getElem?_getD, List.getElem?_concat_length]; rfl
  rw [eg] at cw1 cw2
  simp only at cw1 cw2
  obtain ⟨m, hm⟩ : ∃ m, m = ws0.length := ⟨_, rfl⟩
  have el : (ws0 ++ [(p, a)]).length = m + 1 := by simp [hm]
  rw [el]
  rw [← hm] at cw1 cw2 hw
  obtain ⟨n, hn⟩ : ∃ n, n = vs.length := ⟨_, rfl⟩
  obtain ⟨z, hz⟩ : ∃ z, z = (s.nd p).length := ⟨_, rfl⟩
  obtain ⟨K, hK⟩ : ∃ K, K = (s.nd p).key a := ⟨_, rfl⟩
  have HI : a < z → ∃ b o, A = some ⟨b, o, none⟩ ∧ w.cell? ⟨b, o + a * 2, none⟩ = some (.string K) := fun q => by
    obtain ⟨b, o, e1, e2, _⟩ := hi a (by omega)
    exact ⟨b, o, e1, by rw [hK]; exact e2⟩
  rw [← hn] at c0 hp
  rw [← hz] at c1 e
  rw [← hz, ← hK] at HF
  have HF' := Lib.hid HF
  have EV := Lib.hid e
  have mi : (m : Int) + 1 - 1 = (m : Int) := by omega
  have m0 : ¬ ((m : Int) + 1 = 0) := by omega
  have bw : Below w.heap.size w ((w.alloc (.cells #[.int .i64 p, .int .i64 a] 150))) := (Below.refl _ _).alloc (Nat.le_refl _) _
  obtain ⟨q7, hq7⟩ : ∃ q7, q7 = w.heap.size := ⟨_, rfl⟩
  obtain ⟨w1, hw1⟩ : ∃ w1, w1 = w.alloc (.cells #[.int .i64 p, .int .i64 a] 150) := ⟨_, rfl⟩
  rw [← hw1] at bw
  have r1 : RowAt w1 q7 [.int .i64 p, .int .i64 a] 150 := by rw [hw1, hq7]; exact RowAt.new w _ _
  have C1 := Lib.hid (show ∀ nq, (w1.drewN nq).cell? ⟨T, 0, none⟩ = some (.slice (some ⟨g, 0, none⟩) n c) ∧ (w1.drewN nq).cell? ⟨g, p, none⟩ = some (.slice A z cp) ∧ (w1.drewN nq).cell? ⟨q7, 0, none⟩ = some (.int .i64 p) ∧ (w1.drewN nq).cell? ⟨q7, 1, none⟩ = some (.int .i64 a) from fun nq =>
    ⟨(bw.cell (p := ⟨T, 0, none⟩) (block_lt_of_cell c0)).trans c0, (bw.cell (p := ⟨g, p, none⟩) (block_lt_of_cell c1)).trans c1, r1.cell 0, r1.cell 1⟩)
  have HI1 := Lib.hid (show a < z → ∃ b o, A = some ⟨b, o, none⟩ ∧ ∀ nq, (w1.drewN nq).cell? ⟨b, o + a * 2, none⟩ = some (.string K) from fun q => by
    obtain ⟨b, o, e1, e2⟩ := HI q
    exact ⟨b, o, e1, fun nq => (bw.cell (p := ⟨b, o + a * 2, none⟩) (block_lt_of_cell e2)).trans e2⟩)
  have BW := Lib.hid bw
  have HW1 := Lib.hid hw1
  have HQ7 := Lib.hid hq7
  clear hi hc h hs eg el hn hm hz hK HF e bw HI hw1 hq7 r1
  go_enter Try.func73, Try.ntmps73
  go_wp2_with fail
  rw [← HW1.out, ← HQ7.out]
  obtain ⟨d0, d1, d2, d3⟩ := C1.out 0
  simp only [World.cell?_drewN] at d0 d1 d2 d3
  clear c0 c1 cw1 cw2
  go_quiet (fail)
  obtain ⟨W, hW⟩ : ∃ W, W = w1.drewN nq := ⟨_, rfl⟩
  obtain ⟨e0, e1, e2, e3⟩ := C1.out nq
  rw [← hW] at e0 e1 e2 e3 ⊢
  have BW2 := Lib.hid (show Below w.heap.size w W by rw [hW]; exact below_drewN BW.out nq)
  have HIW := Lib.hid (show a < z → ∃ b o, A = some ⟨b, o, none⟩ ∧ W.cell? ⟨b, o + a * 2, none⟩ = some (.string K) from fun q => by
    obtain ⟨b, o, e1, e2⟩ := HI1.out q
    exact ⟨b, o, e1, by rw [hW]; exact e2 nq⟩)
  clear hW d0 d1 d2 d3
  by_cases q : a < z
  · obtain ⟨b, o, rfl, cb⟩ := HIW.out q
    by_cases e : K = k
    · have ek : (K.toList == k.toList) = true := str_eq e
      have F := Lib.hid ((HF'.out (.pointer (some ⟨b, o + a * 2, none⟩))).2 (by rw [if_pos ⟨q, e⟩]; exact ⟨b, o, cp, EV.out, rfl⟩))
      clear e
      go_wp2_with fail
      go_ret
      exact ⟨_, rfl, F.out, BW2.out⟩
    · have ek : (K.toList == k.toList) = false := str_ne e
      have F := Lib.hid ((HF'.out (.pointer none)).2 (by rw [if_neg (fun t => e t.2)]))
      clear e
      go_wp2_with fail
      go_ret
      exact ⟨_, rfl, F.out, BW2.out⟩
  · have F := Lib.hid ((HF'.out (.pointer none)).2 (by rw [if_neg (fun t => q t.1)]))
    go_wp2_with fail
    go_ret
    exact ⟨_, rfl, F.out, BW2.out⟩

theorem OwnW.form {w : World} {B : Nat} {v : Value} {ws : List (Nat × Nat)} (h : OwnW w B v ws) : ∃ A c, v = .slice A ws.length c := by obtain ⟨A, c, e, _⟩ := h.sl; exact ⟨A, c, e⟩
theorem OwnW.block {w : World} {B : Nat} {v : Value} {ws : List (Nat × Nat)} (h : OwnW w B v ws) : ∀ k, v.ownBlock = some k → B ≤ k := fun k e => (World.ownsRow.lt h k e).1
set_option maxHeartbeats 4000000 in
set_option maxRecDepth 100000 in
/-- way -/
theorem xWay (w : World) (T : Nat) (E : Nat → Prop) (s : Tab) (k : ByteArray) (h : TabG w T E s) (hk : s.Walks k s.depth s.root) (hd : s.depth ≤ 100000) :
    Calls Try.prog 72 #[Ptr T, .string k] w fun x w' => ∃ v, x = .returned v ∧ OwnW w' w.heap.size v (s.down k s.depth s.root) ∧ Below w.heap.size w w' := by
  obtain ⟨rv, fv, vs, h⟩ := h
  obtain ⟨D, hD⟩ : ∃ D, D = s.depth := ⟨_, rfl⟩
  obtain ⟨R, hR⟩ : ∃ R, R = s.root := ⟨_, rfl⟩
  obtain ⟨B, hB⟩ : ∃ B, B = w.heap.size := ⟨_, rfl⟩
  have H := Lib.hid h
  have C := Lib.hid (show ∀ w', Below w.heap.size w w' → w'.cell? ⟨T, 3, none⟩ = some (.int .i64 D) ∧ w'.cell? ⟨T, 2, none⟩ = some (.int .i64 R) from fun w' hb => by
    have q := (h.below hb).row
    rw [hD, hR]; exact ⟨q.cell 3, q.cell 2⟩)
  have NC := Lib.hid (show ∀ p, p < s.nds.length → ∃ N g c A cp, p < N ∧ ∀ w', Below w.heap.size w w' → w'.cell? ⟨T, 0, none⟩ = some (.slice (some ⟨g, 0, none⟩) N c) ∧ w'.cell? ⟨g, p, none⟩ = some (.slice A (s.nd p).length cp) ∧ NodeAt w' (.slice A (s.nd p).length cp) (s.nd p) ∧ ∀ j, j < (s.nd p).length → ∃ b o, A = some ⟨b, o, none⟩ ∧ w'.cell? ⟨b, o + j * 2 + 1, none⟩ = some (.int .i64 ((s.nd p).num j)) from fun p hp => by
    have hp' : p < vs.length := by rw [h.len]; exact hp
    obtain ⟨g, c, hrv, _, _, hc⟩ := h.rowAt (by omega)
    obtain ⟨A, cp, e, hi⟩ := (h.node p hp').form
    refine ⟨vs.length, g, c, A, cp, hp', fun w' hb => ?_⟩
    have h' := h.below hb
    refine ⟨?_, ?_, ?_, fun j hj => ?_⟩
    · have := h'.row.cell 0
      simp only [List.getElem?_cons_zero] at this
      rw [hrv] at this; exact this
    · obtain ⟨g', c', e', _, _, hc'⟩ := h'.rowAt (by omega)
      rw [hrv] at e'
      injection e' with e1 _ _
      injection e1 with e1
      injection e1 with e1 _ _
      subst e1
      rw [← e]; exact (hc' p hp').1
    · rw [← e]; exact h'.node p hp'
    · obtain ⟨b, o, e1, _, e2⟩ := hi j hj
      exact ⟨b, o, e1, (hb.cell (p := ⟨b, o + j * 2 + 1, none⟩) (block_lt_of_cell e2)).trans e2⟩)
  have HK := Lib.hid hk
  have B0 := Lib.hid (Below.refl w.heap.size w)
  have c3 := (C.out w B0.out).1
  have c2 := (C.out w B0.out).2
  rw [← hD, ← hR] at HK
  rw [← hD] at hd
  rw [← hD, ← hR, ← hB]
  rw [← hB] at C NC B0
  obtain ⟨WS, hWS⟩ : ∃ WS, WS = s.down k D R := ⟨_, rfl⟩
  have HWS := Lib.hid hWS
  rw [← hWS]
  have HB := Lib.hid hB
  clear h hk hD hR hB hWS
  go_enter Try.func72, Try.ntmps72
  go_wp2_with fail
  go_loopw [5, 6] (fun vw vp wr => ∃ (ws : List (Nat × Nat)) (p n : Nat) (A : Option Addr) (c : Nat), vp = .int .i64 p ∧ vw = .slice A n c ∧ Hid (n = ws.length) ∧ Hid (OwnW wr B (.slice A n c) ws) ∧ Hid (Below B w wr) ∧ Hid (ws ++ s.down k (D - n) p = WS) ∧ Hid (s.Walks k (D - n) p) ∧ n ≤ D ∧ (n + 1 ≤ D ∨ D = 0)) (fun vw _ _ => D - slLen vw)
  case atStart => exact ⟨[], R, 0, none, 0, rfl, rfl, Lib.hid rfl, Lib.hid (World.ownsRow_nil _ _ _ _), B0, HWS.symm, HK, by omega, by omega⟩
  case round =>
    obtain ⟨ws, p, n, A, c, rfl, rfl, HN, HO, HW, HS, HG, hnD, hn1⟩ := hrel
    have c3' := (C.out wr HW.out).1
    by_cases q : n + 1 < D
    · obtain ⟨d, hd2⟩ : ∃ d, D - n = d + 2 := ⟨D - n - 2, by omega⟩
      have hg := HG.out
      rw [hd2] at hg
      obtain ⟨hp, hl, hkid, r, hr, hgo⟩ := hg
      obtain ⟨N, g, cg, A2, cp, hpN, hcc⟩ := NC.out p hp
      obtain ⟨e0, e1, e2, e3⟩ := hcc wr HW.out
      have KC := Lib.hid (xKid wr _ _ k e2 (by omega))
      obtain ⟨b, o, rfl, _⟩ := e3 _ hkid
      obtain ⟨K, hK⟩ : ∃ K, K = (s.nd p).kid k := ⟨_, rfl⟩
      obtain ⟨Z, hZ⟩ : ∃ Z, Z = (s.nd p).length := ⟨_, rfl⟩
      have HCC := Lib.hid (show ∀ w', Below B w w' → w'.cell? ⟨T, 0, none⟩ = some (.slice (some ⟨g, 0, none⟩) N cg) ∧ w'.cell? ⟨g, p, none⟩ = some (.slice (some ⟨b, o, none⟩) Z cp) ∧ w'.cell? ⟨b, o + K * 2 + 1, none⟩ = some (.int .i64 r) from fun w' hb => by
        obtain ⟨q0, q1, _, q3⟩ := hcc w' hb
        obtain ⟨b', o', e', q4⟩ := q3 _ hkid
        injection e' with e'
        injection e' with e1 e2 _
        subst e1; subst e2
        exact ⟨q0, by rw [hZ]; exact q1, by rw [hK, ← hr]; exact q4⟩)
      have KZ : K < Z := by rw [hK, hZ]; exact hkid
      have DN := Lib.hid (show (ws ++ [(p, K)]) ++ s.down k (d + 1) r = WS by
        rw [← HS.out, hd2]
        have e : s.down k (d + 2) p = (p, (s.nd p).kid k) :: s.down k (d + 1) ((s.nd p).num ((s.nd p).kid k)).toNat := rfl
        rw [e, hr, Int.toNat_natCast, List.append_assoc, hK]; rfl)
      have HGO := Lib.hid hgo
      rw [← hK] at KC
      rw [← hZ] at KC e1
      have HD2 := Lib.hid hd2
      have OA := Lib.hid (show OwnW (wr.alloc (.cells #[.int .i64 p, .int .i64 K] 150)) B (.slice A n c) ws from World.ownsRow.alloc HO.out _)
      have RA := Lib.hid (RowAt.new wr [.int .i64 p, .int .i64 K] 150)
      have BA := Lib.hid (show Below B w (wr.alloc (.cells #[.int .i64 p, .int .i64 K] 150)) from HW.out.alloc (by rw [HB.out]; exact HW.out.size) _)
      have SA := Lib.hid (show B ≤ (wr.alloc (.cells #[.int .i64 p, .int .i64 K] 150)).heap.size by rw [HB.out]; exact BA.out.size)
      have zn : ws.length = n := HN.out.symm
      have ZN := Lib.hid zn
      clear hr hgo hkid hcc hK hZ hl e2 e3 hd2 hp zn
      go_wp2_with (first | (go_at_call 84; refine KC.out.mono ?_; rintro x w1 ⟨rfl, rfl⟩) | (at_builtin; refine wp_putW rfl (.tmp 29) (.tmp 33) rfl (.slice A n c) ws rfl OA.out SA.out _ (p, K) rfl (RA.out.cell 0) (RA.out.cell 1) (by rw [ZN.out]; omega) ?_; intro A' c' w3 ho hgr; rw [ZN.out]; have B3 := Lib.hid (below_grown BA.out hgr HO.out.block SA.out); have HO3 := Lib.hid ho; obtain ⟨e30, e31, e32⟩ := HCC.out w3 B3.out; clear ho hgr))
      go_roundw
      case rel => exact ⟨ws ++ [(p, K)], r, n + 1, A', c', rfl, by first | rfl | (rw [ZN.out]), Lib.hid (by rw [List.length_append, ZN.out]; rfl), Lib.hid (by have := HO3.out; rw [ZN.out] at this; exact this), B3, Lib.hid (by rw [show D - (n + 1) = d + 1 by have := HD2.out; omega]; exact DN.out), Lib.hid (by rw [show D - (n + 1) = d + 1 by have := HD2.out; omega]; exact HGO.out), by omega, by omega⟩
      case measure => simp [slLen]; omega
    · by_cases d0 : D = 0
      · have n0 : n = 0 := by omega
        have e : ws = WS := by have := HS.out; rw [show D - n = 0 by omega] at this; rw [← this]; exact (List.append_nil _).symm
        subst d0; subst n0
        have E := Lib.hid e
        clear e
        go_wp2_with fail
        go_ret
        exact ⟨_, rfl, by rw [← E.out]; exact HO.out, HW.out⟩
      · have d1 : D - n = 1 := by omega
        have hg := HG.out
        rw [d1] at hg
        obtain ⟨hp, hl⟩ := hg
        obtain ⟨N, g, cg, A2, cp, hpN, hcc⟩ := NC.out p hp
        obtain ⟨e0, e1, e2, _⟩ := hcc wr HW.out
        have KC := Lib.hid (xBelow wr _ _ k e2 (by omega))
        obtain ⟨K, hK⟩ : ∃ K, K = (s.nd p).pos k := ⟨_, rfl⟩
        obtain ⟨Z, hZ⟩ : ∃ Z, Z = (s.nd p).length := ⟨_, rfl⟩
        have DN := Lib.hid (show ws ++ [(p, K)] = WS by
          rw [← HS.out, d1, hK]; rfl)
        rw [← hK] at KC
        rw [← hZ] at KC e1
        have OA := Lib.hid (show OwnW (wr.alloc (.cells #[.int .i64 p, .int .i64 K] 150)) B (.slice A n c) ws from World.ownsRow.alloc HO.out _)
        have RA := Lib.hid (RowAt.new wr [.int .i64 p, .int .i64 K] 150)
        have BA := Lib.hid (show Below B w (wr.alloc (.cells #[.int .i64 p, .int .i64 K] 150)) from HW.out.alloc (by rw [HB.out]; exact HW.out.size) _)
        have SA := Lib.hid (show B ≤ (wr.alloc (.cells #[.int .i64 p, .int .i64 K] 150)).heap.size by rw [HB.out]; exact BA.out.size)
        have zn : ws.length = n := HN.out.symm
        have ZN := Lib.hid zn
        have dp : 0 < D := by omega
        have dq : (0 : Int) < (D : Int) := by omega
        clear hcc hK hZ hl e2 hp zn d1
        go_wp2_with (first | (go_at_call 85; refine KC.out.mono ?_; rintro x w1 ⟨rfl, rfl⟩) | (at_builtin; refine wp_putW rfl (.tmp 51) (.tmp 63) rfl (.slice A n c) ws rfl OA.out SA.out _ (p, K) rfl (RA.out.cell 0) (RA.out.cell 1) (by rw [ZN.out]; omega) ?_; intro A' c' w3 ho hgr; rw [ZN.out]; have B3 := Lib.hid (below_grown BA.out hgr HO.out.block SA.out); have HO3 := Lib.hid ho; clear ho hgr))
        go_ret
        exact ⟨_, rfl, by have := HO3.out; rw [ZN.out, DN.out] at this; exact this, B3.out⟩

end Go.Proofs.Ytbfgpdgiaclphaa

namespace Go.Proofs.Ytbfgpdgiaclphaa
open Go.RowKit

theorem Tab.put_len (s : Tab) (i : Nat) (zs : KV) : (s.put i zs).nds.length = s.nds.length := List.length_set
theorem Tab.put_place (s : Tab) (i : Nat) (zs : KV) : (s.put i zs).place = s.place := by
  have e : (s.put i zs).nds.length = s.nds.length := List.length_set
  unfold Tab.place
  rw [e]; rfl
theorem Tab.take_nd {s : Tab} {zs : KV} (hf : ∀ f, f ∈ s.free → f < s.nds.length) (i : Nat) (hi : i < s.nds.length) (hn : i ∉ s.free) : (s.take zs).nd i = s.nd i := by
  unfold Tab.take Tab.nd
  cases e : s.free.getLast? with
  | none => simp only [List.getD_eq_getElem?_getD, List.getElem?_append_left hi]
  | some p =>
    have hp : p ∈ s.free := List.mem_of_getLast? e
    have := hf p hp
    simp only
    rw [Tab.nd_set this, if_neg (fun q => hn (by rw [q]; exact hp))]
theorem Tab.take_len {s : Tab} {zs : KV} : s.nds.length ≤ (s.take zs).nds.length ∧ (s.take zs).nds.length ≤ s.nds.length + 1 ∧ s.place < (s.take zs).nds.length + (if s.free = [] then 0 else s.place + 1) ∧ (s.free = [] → (s.take zs).nds.length = s.nds.length + 1 ∧ s.place = s.nds.length) ∧ (s.free ≠ [] → (s.take zs).nds.length = s.nds.length) := by
  unfold Tab.take Tab.place
  cases e : s.free.getLast? with
  | none =>
    have q : s.free = [] := List.getLast?_eq_none_iff.1 e
    refine ⟨by simp, by simp, by simp [q], fun _ => ⟨by simp, by simp⟩, fun h => absurd q h⟩
  | some p =>
    have q : s.free ≠ [] := fun t => by rw [t] at e; cases e
    refine ⟨by simp, by simp, by simp [q]; omega, fun h => absurd h q, fun _ => by simp⟩
theorem Tab.take_free {s : Tab} {zs : KV} : (s.take zs).free = s.free.dropLast := by
  unfold Tab.take
  cases e : s.free.getLast? with
  | none => rw [List.getLast?_eq_none_iff.1 e]; rfl
  | some p => rfl

/-- a step of insert, upwards: the key of p's item is set right, and p is parted if it is too great -/
def Tab.split (s : Tab) (x : Nat × Nat) (p : Nat) : Tab :=
  ((s.put p ((s.nd p).take 3)).take ((s.nd p).drop 3)).put x.1 (ins (((s.put p ((s.nd p).take 3)).take ((s.nd p).drop 3)).nd x.1) (x.2 + 1) ((s.nd p).key 3, s.place))
def Tab.tell (s : Tab) (x : Nat × Nat) (p : Nat) : Tab := s.put x.1 ((s.nd x.1).set x.2 ((s.nd p).key 0, (s.nd x.1).num x.2))
def Tab.up (s : Tab) (x : Nat × Nat) (p : Nat) : Tab := if 4 < (s.nd p).length then (s.tell x p).split x p else s.tell x p
/-- nothing is amiss with it -/
structure FineUp (s : Tab) (x : Nat × Nat) (p : Nat) : Prop where
  iq : x.1 < s.nds.length
  ia : x.2 < (s.nd x.1).length
  ip : p < s.nds.length
  ne : p ≠ x.1
  l0 : 0 < (s.nd p).length
  lp : (s.nd p).length ≤ 10000
  lq : (s.nd x.1).length ≤ 10000
  free : ∀ f, f ∈ s.free → f < s.nds.length ∧ f ≠ x.1
  ln : s.nds.length ≤ 850000
  lf : s.free.length ≤ 850000
namespace FineUp
variable {s : Tab} {x : Nat × Nat} {p : Nat}
theorem nd (h : FineUp s x p) : (s.tell x p).nd p = s.nd p := by unfold Tab.tell; rw [Tab.put_nd h.iq, if_neg h.ne]
theorem ndq (h : FineUp s x p) : (s.tell x p).nd x.1 = (s.nd x.1).set x.2 ((s.nd p).key 0, (s.nd x.1).num x.2) := by unfold Tab.tell; rw [Tab.put_nd h.iq, if_pos rfl]
theorem tlen (_h : FineUp s x p) : (s.tell x p).nds.length = s.nds.length := Tab.put_len _ _ _
/-- the state that lay finds -/
theorem lay (h : FineUp s x p) : (((s.tell x p).put p ((s.nd p).take 3)).take ((s.nd p).drop 3)).nd x.1 = (s.tell x p).nd x.1 := by
  have e : ((s.tell x p).put p ((s.nd p).take 3)).nds.length = s.nds.length := by rw [Tab.put_len, h.tlen]
  rw [Tab.take_nd (s := (s.tell x p).put p ((s.nd p).take 3)) (fun f hf => by rw [e]; exact (h.free f hf).1) _ (by rw [e]; exact h.iq) (fun hf => (h.free _ hf).2 rfl), Tab.put_nd (by rw [h.tlen]; exact h.ip), if_neg (Ne.symm h.ne)]
theorem laylen (h : FineUp s x p) : s.nds.length ≤ (((s.tell x p).put p ((s.nd p).take 3)).take ((s.nd p).drop 3)).nds.length := by
  have e : ((s.tell x p).put p ((s.nd p).take 3)).nds.length = s.nds.length := by rw [Tab.put_len, h.tlen]
  have := (Tab.take_len (s := (s.tell x p).put p ((s.nd p).take 3)) (zs := (s.nd p).drop 3)).1
  omega
end FineUp
/-- all steps up, from step i on -/
def Tab.ups (ws : List (Nat × Nat)) : Nat → Tab → Tab
  | 0, s => s
  | i + 1, s => Tab.ups ws i (s.up (ws.getD i (0, 0)) (ws.getD (i + 1) (0, 0)).1)
def FineUps (ws : List (Nat × Nat)) : Nat → Tab → Prop
  | 0, _ => True
  | i + 1, s => FineUp s (ws.getD i (0, 0)) (ws.getD (i + 1) (0, 0)).1 ∧ FineUps ws i (s.up (ws.getD i (0, 0)) (ws.getD (i + 1) (0, 0)).1)

end Go.Proofs.Ytbfgpdgiaclphaa

namespace Go.Proofs.Ytbfgpdgiaclphaa
open Go.RowKit

def Tab.cutK (s : Tab) (q i : Nat) : Tab := s.put q ((s.nd q).take i ++ (s.nd q).drop (i + 1))
def Tab.kid (s : Tab) (q j : Nat) : Nat := ((s.nd q).num j).toNat
/-- a node takes the items of the one behind -/
def Tab.melt (s : Tab) (p o : Nat) : Tab := (s.put p (s.nd p ++ s.nd o)).off o
def Tab.fix (s : Tab) (x : Nat × Nat) (p : Nat) : Tab := if 4 < (s.nd p).length then s.split x p else s
def Tab.join (s : Tab) (q f p o : Nat) : Tab := ((s.melt p o).tell (q, f) p).cutK q (f + 1)
def Tab.fill (s : Tab) (x : Nat × Nat) : Tab :=
  if 2 ≤ (s.nd (s.kid x.1 x.2)).length then s.tell x (s.kid x.1 x.2)
  else (s.join x.1 (x.2 - 1) (s.kid x.1 (x.2 - 1)) (s.kid x.1 (x.2 - 1 + 1))).fix (x.1, x.2 - 1) (s.kid x.1 (x.2 - 1))
structure FineFill (s : Tab) (x : Nat × Nat) : Prop where
  iq : x.1 < s.nds.length
  ia : x.2 < (s.nd x.1).length
  two : 2 ≤ (s.nd x.1).length
  lq : (s.nd x.1).length ≤ 1000
  kid : ∀ j, j < (s.nd x.1).length → ∃ c : Nat, (s.nd x.1).num j = c ∧ c < s.nds.length ∧ c ≠ x.1 ∧ 0 < (s.nd c).length ∧ (s.nd c).length ≤ 1000
  ap : ∀ i j, i < (s.nd x.1).length → j < (s.nd x.1).length → (s.nd x.1).num i = (s.nd x.1).num j → i = j
  free : ∀ f, f ∈ s.free → f < s.nds.length ∧ f ≠ x.1
  ln : s.nds.length ≤ 850000
  lf : s.free.length ≤ 850000
theorem Tab.off_nd {s : Tab} {o : Nat} (ho : o < s.nds.length) (j : Nat) : (s.off o).nd j = if j = o then [] else s.nd j := Tab.put_nd ho j
theorem Tab.off_len (s : Tab) (o : Nat) : (s.off o).nds.length = s.nds.length := Tab.put_len _ _ _
/-- two nodes of one above, side by side -/
structure Pair (s : Tab) (q f p o : Nat) : Prop where
  iq : q < s.nds.length
  ip : p < s.nds.length
  io : o < s.nds.length
  pq : p ≠ q
  oq : o ≠ q
  po : p ≠ o
  lf1 : f + 1 < (s.nd q).length
namespace Pair
variable {s : Tab} {q f p o : Nat}
theorem nd1 (h : Pair s q f p o) (j : Nat) : (s.put p (s.nd p ++ s.nd o)).nd j = if j = p then s.nd p ++ s.nd o else s.nd j := Tab.put_nd h.ip j
theorem len1 (_h : Pair s q f p o) : (s.put p (s.nd p ++ s.nd o)).nds.length = s.nds.length := Tab.put_len _ _ _
theorem nd2 (h : Pair s q f p o) (j : Nat) : (s.melt p o).nd j = if j = o then [] else if j = p then s.nd p ++ s.nd o else s.nd j := by
  unfold Tab.melt
  rw [Tab.off_nd (by rw [h.len1]; exact h.io), h.nd1]
theorem len2 (h : Pair s q f p o) : (s.melt p o).nds.length = s.nds.length := by unfold Tab.melt; rw [Tab.off_len, h.len1]
theorem nd2p (h : Pair s q f p o) : (s.melt p o).nd p = s.nd p ++ s.nd o := by rw [h.nd2, if_neg h.po, if_pos rfl]
theorem nd2q (h : Pair s q f p o) : (s.melt p o).nd q = s.nd q := by rw [h.nd2, if_neg (Ne.symm h.oq), if_neg (Ne.symm h.pq)]
theorem len3 (h : Pair s q f p o) : ((s.melt p o).tell (q, f) p).nds.length = s.nds.length := by unfold Tab.tell; rw [Tab.put_len, h.len2]
theorem nd3 (h : Pair s q f p o) (j : Nat) : ((s.melt p o).tell (q, f) p).nd j = if j = q then (s.nd q).set f ((s.nd p ++ s.nd o).key 0, (s.nd q).num f) else (s.melt p o).nd j := by
  unfold Tab.tell
  rw [Tab.put_nd (by rw [h.len2]; exact h.iq), h.nd2p, h.nd2q]
theorem len4 (h : Pair s q f p o) : (s.join q f p o).nds.length = s.nds.length := by unfold Tab.join Tab.cutK; rw [Tab.put_len, h.len3]
theorem nd4 (h : Pair s q f p o) (j : Nat) : (s.join q f p o).nd j = if j = q then ((s.nd q).set f ((s.nd p ++ s.nd o).key 0, (s.nd q).num f)).take (f + 1) ++ ((s.nd q).set f ((s.nd p ++ s.nd o).key 0, (s.nd q).num f)).drop (f + 1 + 1) else (s.melt p o).nd j := by
  unfold Tab.join Tab.cutK
  rw [Tab.put_nd (by rw [h.len3]; exact h.iq), h.nd3, h.nd3, if_pos rfl]
  by_cases e : j = q
  · rw [if_pos e, if_pos e]
  · rw [if_neg e, if_neg e, if_neg e]
theorem nd4p (h : Pair s q f p o) : (s.join q f p o).nd p = s.nd p ++ s.nd o := by rw [h.nd4, if_neg h.pq, h.nd2p]
theorem len4q (h : Pair s q f p o) : ((s.join q f p o).nd q).length = (s.nd q).length - 1 := by
  have := h.lf1
  rw [h.nd4, if_pos rfl]; simp; omega
theorem free4 (_h : Pair s q f p o) : (s.join q f p o).free = s.free ++ [o] := rfl
end Pair
theorem FineFill.pair {s : Tab} {x : Nat × Nat} (h : FineFill s x) : Pair s x.1 (x.2 - 1) (s.kid x.1 (x.2 - 1)) (s.kid x.1 (x.2 - 1 + 1)) := by
  have ia := h.ia
  have two := h.two
  have e : x.2 - 1 + 1 < (s.nd x.1).length := by omega
  obtain ⟨c, hc, c1, c2, _⟩ := h.kid (x.2 - 1) (by omega)
  obtain ⟨d, hd, d1, d2, _⟩ := h.kid (x.2 - 1 + 1) e
  have e1 : s.kid x.1 (x.2 - 1) = c := by unfold Tab.kid; rw [hc]; rfl
  have e2 : s.kid x.1 (x.2 - 1 + 1) = d := by unfold Tab.kid; rw [hd]; rfl
  refine ⟨h.iq, by rw [e1]; exact c1, by rw [e2]; exact d1, by rw [e1]; exact c2, by rw [e2]; exact d2, fun t => ?_, e⟩
  rw [e1, e2] at t
  have := h.ap (x.2 - 1) (x.2 - 1 + 1) (by omega) e (by rw [hc, hd, t])
  omega
/-- a node is parted: what is laid into the one above finds it as it was -/
theorem Tab.split_lay {s : Tab} {q p : Nat} {a b : KV} (iq : q < s.nds.length) (ip : p < s.nds.length) (ne : p ≠ q) (free : ∀ f, f ∈ s.free → f < s.nds.length ∧ f ≠ q) : ((s.put p a).take b).nd q = s.nd q ∧ s.nds.length ≤ ((s.put p a).take b).nds.length := by
  have e : (s.put p a).nds.length = s.nds.length := Tab.put_len _ _ _
  refine ⟨?_, by have := (Tab.take_len (s := s.put p a) (zs := b)).1; omega⟩
  rw [Tab.take_nd (s := s.put p a) (fun f hf => by rw [e]; exact (free f hf).1) _ (by rw [e]; exact iq) (fun hf => (free _ hf).2 rfl), Tab.put_nd ip, if_neg (Ne.symm ne)]

end Go.Proofs.Ytbfgpdgiaclphaa

namespace Go.Proofs.Ytbfgpdgiaclphaa
open Go.RowKit

set_option maxHeartbeats 4000000 in
set_option maxRecDepth 100000 in
/-- insert, of no way -/
theorem xInsert0 (w : World) (T : Nat) (E : Nat → Prop) (s : Tab) (v : Value) (k : ByteArray) (n : Int) (h : TabG w T E s) (hv : SlW w v []) (hf : ∀ p, p ∈ s.free → p < s.nds.length) (hn : s.nds.length ≤ 900000) (hn2 : s.free.length ≤ 900000) :
    Calls Try.prog 83 #[Ptr T, v, .agg #[.string k, .int .i64 n]] w fun r w' => r = .returned (.tuple #[]) ∧ LeftP w T E { s.take [(k, n)] with root := s.place, depth := 1 } w' := by
  obtain ⟨rv, fv, vs, h⟩ := h
  obtain ⟨A, c, rfl, _⟩ := hv
  obtain ⟨q, hq⟩ : ∃ q, q = w.heap.size := ⟨_, rfl⟩
  obtain ⟨w1, hw1⟩ : ∃ w1, w1 = (w.alloc (.cells #[.string k, .int .i64 n] 123)).alloc (.cells #[.string k, .int .i64 n] 123) := ⟨_, rfl⟩
  have B1 : Below w.heap.size w w1 := by rw [hw1]; exact ((Below.refl _ _).alloc (Nat.le_refl _) _).alloc (by simp) _
  have s1 : w1.heap.size = q + 2 := by rw [hw1, hq]; simp
  have r1 : RowAt w1 (q + 1) [.string k, .int .i64 n] 123 := by
    rw [hw1, hq]
    have := RowAt.new (w.alloc (.cells #[.string k, .int .i64 n] 123)) [.string k, .int .i64 n] 123
    simpa using this
  have v1 : TabV w1 T (fun i => E i ∨ i = q + 1) s rv fv vs := (h.below B1).grow (fun i e => .inl e) (fun i e => by
    rcases e with e | e
    · have := h.lt i e; omega
    · omega)
  have wn : WinAt w1 (q + 1) 0 1 [(k, n)] := by
    refine ⟨Nat.le_refl _, by decide, by decide, fun j u hj => ?_, fun j hj => ?_, ⟨_, r1⟩⟩
    · rw [Nat.zero_add, r1.cell]; exact hj
    · rw [Nat.zero_add, r1.cell, List.getElem?_eq_getElem hj]; rfl
  have TC := Lib.hid (xTake w1 T (fun i => E i ∨ i = q + 1) s rv fv vs (some ⟨q + 1, 0, none⟩) 1 1 [(k, n)] v1 wn.node (fun i j ⟨_, _, _, e, _⟩ => by
    injection e with e _ _
    injection e with e
    injection e with e _ _
    have e : i = q + 1 := e.symm
    refine ⟨⟨.inr e, fun t => ?_, fun t => ?_, fun t => ?_⟩, fun m hm f => ?_⟩
    · have := h.lt T h.eT; omega
    · have := h.lt i (h.eN i t).1; omega
    · have := h.lt i (h.eF i t).1; omega
    · have := h.lt i (h.eW m i j hm f).1; omega) hf hn hn2)
  have FIN := Lib.hid (show ∀ w3, TookP w1 T (fun i => E i ∨ i = q + 1) s rv fv [(k, n)] w3 → LeftP w T E { s.take [(k, n)] with root := s.place, depth := 1 } ((w3.setCell ⟨T, 2, none⟩ (.int .i64 s.place)).setCell ⟨T, 3, none⟩ (.int .i64 1)) from fun w3 ⟨⟨E3, ⟨rv3, fv3, vs3, h3⟩, a3, c3⟩, _⟩ => by
    have h4 := h3.field (s' := { s.take [(k, n)] with root := s.place }) (u := .int .i64 s.place) 2 rfl rfl rfl
    have h5 := h4.field (s' := { s.take [(k, n)] with root := s.place, depth := 1 }) (u := .int .i64 1) 3 rfl rfl rfl
    refine ⟨E3, ⟨rv3, fv3, vs3, h5⟩, fun i e => ?_, ?_⟩
    · rcases a3 i e with (f | f) | f
      · exact .inl f
      · exact .inr (by omega)
      · exact .inr (by omega)
    · refine Chg.setCell (Chg.setCell ((Chg.of_below B1).trans c3 fun i e => ?_) (.inl h.eT) _) (.inl h.eT) _
      rcases e with e | e
      · exact .inl e
      · exact .inr (by omega))
  have ST := Lib.hid (show ∀ w3, TookP w1 T (fun i => E i ∨ i = q + 1) s rv fv [(k, n)] w3 → (∃ u, w3.cell? ⟨T, 2, none⟩ = some u) ∧ (∃ u, w3.cell? ⟨T, 3, none⟩ = some u) ∧ ∀ j, w3.frozen? ⟨T, j, none⟩ = false from fun w3 ⟨⟨E3, ⟨rv3, fv3, vs3, h3⟩, _, _⟩, _⟩ => ⟨⟨_, h3.row.cell 2⟩, ⟨_, h3.row.cell 3⟩, fun j => h3.row.frozen j⟩)
  have HW1 := Lib.hid hw1
  have HQ := Lib.hid hq
  clear h v1 wn r1 s1 B1 hw1 hq hn hn2 hf
  go_enter Try.func83, Try.ntmps83
  go_wp2_with (go_at_call 91; rw [← HW1.out, ← HQ.out]; refine TC.out.mono ?_; rintro r w3 ⟨rfl, ht⟩; obtain ⟨⟨u2, e2⟩, ⟨u3, e3⟩, z⟩ := ST.out w3 ht; have z2 := z 2; have z3 := z 3; have T3 := Lib.hid ht; clear ht z)
  (try simp only [Exit.inBlock, Exit.then])
  refine bodyPost_ret (results_none rfl _ _ _) rfl ?_
  exact ⟨rfl, FIN.out w3 T3.out⟩

end Go.Proofs.Ytbfgpdgiaclphaa
