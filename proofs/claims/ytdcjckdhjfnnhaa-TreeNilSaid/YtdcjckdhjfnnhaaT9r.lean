/- The program's release: walked. -/
import Derived.Test.YtdcjckdhjfnnhaaT9k
namespace Go.Proofs.Ytdcjckdhjfnnhaa
open Go.RowKit

/-- a node is taken off -/
def Tab.off (s : Tab) (p : Nat) : Tab := { s.put p [] with free := s.free ++ [p] }
theorem frees_push (l : List Nat) (p : Nat) : frees (l ++ [p]) = frees l ++ [(p : Int)] := by unfold frees; simp
theorem TabV.win {w : World} {T : Nat} {E : Nat → Prop} {s : Tab} {rv fv : Value} {vs : List Value} (h : TabV w T E s rv fv vs) {p : Nat} (hp : p < vs.length) (h0 : 0 < (s.nd p).length) : ∃ b o c, nv vs p = .slice (some ⟨b, o, none⟩) (s.nd p).length c ∧ WinAt w b o c (s.nd p) := by
  rcases h.node p hp with ⟨_, e⟩ | h
  · rw [e] at h0; exact absurd h0 (by simp)
  · exact h

set_option maxHeartbeats 1000000 in
set_option maxRecDepth 100000 in
/-- release -/
theorem xReleaseV (w : World) (T : Nat) (E : Nat → Prop) (s : Tab) (rv fv : Value) (vs : List Value) (p : Nat) (h : TabV w T E s rv fv vs) (hp : p < s.nds.length) (h0 : 0 < (s.nd p).length) (hl : s.free.length ≤ 100000) :
    Calls Try.prog 39 #[Ptr T, .int .i64 p] w fun r w' => r = .returned (.tuple #[]) ∧ ∃ E' fv', TabV w' T E' (s.off p) rv fv' (vs.set p nilv) ∧ (∀ k, E' k → E k ∨ w.heap.size ≤ k) ∧ Chg E w w' := by
  have hp' : p < vs.length := by rw [h.len]; exact hp
  obtain ⟨g, c, rfl, hg, gT, hc⟩ := h.rowAt (by omega)
  obtain ⟨b, o, cp, ev, hw⟩ := h.win hp' h0
  have hW := h.eW p b o hp' ⟨o, _, cp, ev, Nat.le_refl _, by have := hw.pos; omega⟩
  obtain ⟨A1, cf, rfl, _⟩ := h.free.form
  have c0 := h.row.cell 0
  have c1 := h.row.cell 1
  simp only [List.getElem?_cons_zero, List.getElem?_cons_succ] at c0 c1
  have cg := (hc p hp').1
  rw [ev] at cg
  have hfit := hw.fit
  obtain ⟨us, ul, hcl⟩ := run_clear2 w 66 Try.underlying66 b o (s.nd p).length cp (fun j hj => hw.there j (by omega)) (fun j => hw.plain.frozen j)
  have t1 : Turn (InWin (nv vs p)) w (w.setCells b o us) := (Turn.setCells w b o us).mono fun k j ⟨e, h1, h2⟩ => by
    subst e; rw [ev]; exact ⟨o, _, cp, rfl, h1, by omega⟩
  have sz1 : (w.setCells b o us).heap.size = w.heap.size := Nat.le_antisymm (Nat.le_of_not_lt fun q => by
    have key : ∀ (vs : List Value) (o : Nat) (w : World), (w.setCells b o vs).heap.size = w.heap.size := by
      intro vs
      induction vs with
      | nil => exact fun _ _ => rfl
      | cons v r ih => exact fun o w => by rw [World.setCells, ih]; simp [World.setCell]
    rw [key] at q; omega) t1.size
  have e1 : ∀ k, k < w.heap.size → k ≠ b → (w.setCells b o us).heap[k]? = w.heap[k]? := fun k hk hn => t1.block k hk fun j e => by
    rw [ev] at e
    obtain ⟨_, _, _, e, _⟩ := e
    injection e with e _ _; injection e with e; injection e with e _ _
    exact hn e.symm
  have bT : T ≠ b := Ne.symm hW.2.1
  have bg : g ≠ b := fun e => hW.2.2.1 (by rw [← e]; rfl)
  have c0' := (World.cell?_of_block (a := ⟨T, 0, none⟩) (e1 T (h.lt T h.eT) bT)).trans c0
  have c1' := (World.cell?_of_block (a := ⟨T, 1, none⟩) (e1 T (h.lt T h.eT) bT)).trans c1
  have cg' := (World.cell?_of_block (a := ⟨g, p, none⟩) (e1 g (h.lt g hg) bg)).trans cg
  have fg' := (World.frozen?_of_block (a := ⟨g, p, none⟩) (e1 g (h.lt g hg) bg)).trans (hc p hp').2
  have v2 := Lib.hid (h.moved (i := p) (w' := w.setCells b o us) (E' := E) (v' := nilv) (zs := []) hp' rfl (.inl ⟨rfl, rfl⟩) t1 (fun k j e => by obtain ⟨_, _, _, e, _⟩ := e; cases e) (fun _ e => e) (fun k e f => by omega) (fun k e => by rw [sz1]; exact h.lt k e))
  have C2 := Lib.hid (show Chg E w ((w.setCells b o us).setCell ⟨g, p, none⟩ nilv) from Chg.setCell (t1.chg fun k j e => (h.eW p k j hp' e).1) (.inl hg) _)
  have sz2 : ((w.setCells b o us).setCell ⟨g, p, none⟩ nilv).heap.size = w.heap.size := by simp [World.setCell, sz1]
  have S2 := Lib.hid sz2
  have gT' := gT
  have fT := v2.out.row.frozen 1
  have c1'' := v2.out.row.cell 1
  simp only [List.getElem?_cons_zero, List.getElem?_cons_succ] at c1''
  have LT := Lib.hid h.lt
  have ET := Lib.hid h.eT
  have EF := Lib.hid h.eF
  obtain ⟨n, hn⟩ : ∃ n, n = vs.length := ⟨_, rfl⟩
  obtain ⟨m, hm⟩ : ∃ m, m = (s.nd p).length := ⟨_, rfl⟩
  obtain ⟨f, hf⟩ : ∃ f, f = (frees s.free).length := ⟨_, rfl⟩
  have f1 : f ≤ 100000 := by rw [hf]; unfold frees; rw [List.length_map]; exact hl
  rw [← hn] at c0 c0' hp'
  rw [← hm] at cg cg' hcl
  have HF := Lib.hid hf
  unfold nilv at v2 C2 S2 fT c1'' sz2 ⊢
  rw [← hf] at c1 c1' c1''
  clear hc h hw ev hfit hp h0 hl ul t1 sz1 e1 sz2 hW hn hm hf
  go_enter Try.func39, Try.ntmps39
  have hsz : ((w.setCells b o us).setCell ⟨g, p, none⟩ (.slice none 0 0)).heap.size = (w.setCells b o us).heap.size := by simp [World.setCell]
  obtain ⟨w3, hw3⟩ : ∃ w3, w3 = ((w.setCells b o us).setCell ⟨g, p, none⟩ (.slice none 0 0)).alloc (.cells #[.int .i64 p] 3) := ⟨_, rfl⟩
  have B3 := Lib.hid (show Below ((w.setCells b o us).setCell ⟨g, p, none⟩ (.slice none 0 0)).heap.size ((w.setCells b o us).setCell ⟨g, p, none⟩ (.slice none 0 0)) w3 by rw [hw3]; exact (Below.refl _ _).alloc (Nat.le_refl _) _)
  have S3 := Lib.hid (show w3.heap.size = w.heap.size + 1 by rw [hw3, World.size_alloc, S2.out])
  have CQ := Lib.hid (show w3.cell? ⟨(w.setCells b o us).heap.size, 0, none⟩ = some (.int .i64 p) by rw [hw3, ← hsz]; exact cell_new1 _ _ _)
  have V3 := Lib.hid (v2.out.below B3.out)
  have HW3 := Lib.hid hw3
  have HSZ := Lib.hid hsz
  have NT := Lib.hid (show Value.ownBlock (.slice A1 f cf) ≠ some T from fun e => (EF.out T (by rw [← HF.out]; exact e)).2.1 rfl)
  clear hsz hw3
  go_wp2_with (at_builtin; refine wp_putJa rfl (.tmp 21) (.tmp 23) rfl (.slice A1 f cf) (frees s.free) rfl (by rw [← HW3.out, HF.out]; exact V3.out.free) (w.setCells b o us).heap.size p rfl (by rw [← HW3.out]; exact CQ.out) (by rw [← HF.out]; omega) ?_; intro g' c' w4 ho hgr hb; rw [← HW3.out] at hgr hb; have HO := Lib.hid ho; have HG := Lib.hid hgr; have HB := Lib.hid hb; have f4 : w4.frozen? ⟨T, 1, none⟩ = false := (World.frozen?_of_block (a := ⟨T, 1, none⟩) (hgr.block T (by rw [S3.out]; have := LT.out T ET.out; omega) (fun e => NT.out e.symm))).trans (V3.out.row.frozen 1); have c4 : w4.cell? ⟨T, 1, none⟩ = some (.slice A1 f cf) := (World.cell?_of_block (a := ⟨T, 1, none⟩) (hgr.block T (by rw [S3.out]; have := LT.out T ET.out; omega) (fun e => NT.out e.symm))).trans (by have := V3.out.row.cell 1; rw [← HF.out] at this; exact this); clear ho hgr hb)
  refine bodyPost_end (results_none rfl _ _ _) rfl ⟨rfl, ?_⟩
  have v3 := V3.out
  rw [← HF.out] at v3
  have s2 := S2.out
  have s3 := S3.out
  have sg := HG.out.size
  refine ⟨fun k => k < w4.heap.size ∧ (E k ∨ w.heap.size ≤ k), _, v3.freed (w' := w4) (E' := fun k => k < w4.heap.size ∧ (E k ∨ w.heap.size ≤ k)) (l := s.free ++ [p]) (by rw [frees_push]; exact HO.out) HG.out ?_ (fun k e => ⟨?_, .inl e⟩) (fun k e f => ⟨f, .inr (by omega)⟩) (fun k e => e.1), fun k e => e.2, ?_⟩
  · rcases HB.out with e | e
    · exact .inl e.symm
    · exact .inr (by show some g' = _; rw [e])
  · have := LT.out k e; omega
  · refine Chg.setCell (Chg.grown ((C2.out).trans (Chg.of_below (F := fun _ => False) B3.out) (fun _ e => e.elim)) HG.out fun k e => .inl (EF.out k (by rw [← HF.out]; exact e)).1) (.inl ET.out) _

/-- release -/
theorem xRelease (w : World) (T : Nat) (E : Nat → Prop) (s : Tab) (p : Nat) (h : TabG w T E s) (hp : p < s.nds.length) (h0 : 0 < (s.nd p).length) (hl : s.free.length ≤ 100000) :
    Calls Try.prog 39 #[Ptr T, .int .i64 p] w fun r w' => r = .returned (.tuple #[]) ∧ LeftP w T E (s.off p) w' := by
  obtain ⟨rv, fv, vs, h⟩ := h
  exact (xReleaseV w T E s rv fv vs p h hp h0 hl).mono fun r w' ⟨hr, E', fv', h1, h2, h3⟩ => ⟨hr, E', ⟨_, _, _, h1⟩, h2, h3⟩

end Go.Proofs.Ytdcjckdhjfnnhaa
