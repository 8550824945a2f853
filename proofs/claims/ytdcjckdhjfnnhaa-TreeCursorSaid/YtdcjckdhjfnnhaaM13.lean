/- Proved parts: T9r T8ea. Conditions: each theorem's own. -/
import Derived.Test.YtdcjckdhjfnnhaaM12
import Derived.Test.YtdcjckdhjfnnhaaM8
namespace Go.Proofs.Ytdcjckdhjfnnhaa
open Go.RowKit

/-- a node is taken off -/
def Tab.off (s : Tab) (p : Nat) : Tab := { s.put p [] with free := s.free ++ [p] }
theorem frees_push (l : List Nat) (p : Nat) : frees (l ++ [p]) = frees l ++ [(p : Int)] := by unfold frees; simp
theorem TabV.win {w : World} {T : Nat} {E : Nat → Prop} {s : Tab} {rv fv : Value} {vs : List Value} (h : TabV w T E s rv fv vs) {p : Nat} (hp : p < vs.length) (h0 : 0 < (s.nd p).length) : ∃ b o c, nv vs p = .slice (some ⟨b, o, none⟩) (s.nd p).length c ∧ WinAt w b o c (s.nd p) := by
  rcases h.node p hp with ⟨_, e⟩ | h
  · rw [e] at h0; exact absurd h0 (by simp)
  · exact h

set_option maxHeartbeats 1000000 in
set_option maxRecDepth 100000 in
/-- release -/
theorem xReleaseV (w : World) (T : Nat) (E : Nat → Prop) (s : Tab) (rv fv : Value) (vs : List Value) (p : Nat) (h : TabV w T E s rv fv vs) (hp : p < s.nds.length) (h0 : 0 < (s.nd p).length) (hl : s.free.length ≤ 100000) :
    Calls Try.prog 39 #[Ptr T, .int .i64 p] w fun r w' => r = .returned (.tuple #[]) ∧ ∃ E' fv', TabV w' T E' (s.off p) rv fv' (vs.set p nilv) ∧ (∀ k, E' k → E k ∨ w.heap.size ≤ k) ∧ Chg E w w' := by
  have hp' : p < vs.length := by rw [h.len]; exact hp
  obtain ⟨g, c, rfl, hg, gT, hc⟩ := h.rowAt (by omega)
  obtain ⟨b, o, cp, ev, hw⟩ := h.win hp' h0
  have hW := h.eW p b o hp' ⟨o, _, cp, ev, Nat.le_refl _, by have := hw.pos; omega⟩
  obtain ⟨A1, cf, rfl, _⟩ := h.free.form
  have c0 := h.row.cell 0
  have c1 := h.row.cell 1
  simp only [List.getElem?_cons_zero, List.getElem?_cons_succ] at c0 c1
  have cg := (hc p hp').1
  rw [ev] at cg
  have hfit := hw.fit
  obtain ⟨us, ul, hcl⟩ := run_clear2 w 66 Try.underlying66 b o (s.nd p).length cp (fun j hj => hw.there j (by omega)) (fun j => hw.plain.frozen j)
  have t1 : Turn (InWin (nv vs p)) w (w.setCells b o us) := (Turn.setCells w b o us).mono fun k j ⟨e, h1, h2⟩ => by
    subst e; rw [ev]; exact ⟨o, _, cp, rfl, h1, by omega⟩
  have sz1 : (w.setCells b o us).heap.size = w.heap.size := Nat.le_antisymm (Nat.le_of_not_lt fun q => by
    have key : ∀ (vs : List Value) (o : Nat) (w : World), (w.setCells b o vs).heap.size = w.heap.size := by
      intro vs
      induction vs with
      | nil => exact fun _ _ => rfl
      | cons v r ih => exact fun o w => by rw [World.setCells, ih]; simp [World.setCell]
    rw [key] at q; omega) t1.size
  have e1 : ∀ k, k < w.heap.size → k ≠ b → (w.setCells b o us).heap[k]? = w.heap[k]? := fun k hk hn => t1.block k hk fun j e => by
    rw [ev] at e
    obtain ⟨_, _, _, e, _⟩ := e
    injection e with e _ _; injection e with e; injection e with e _ _
    exact hn e.symm
  have bT : T ≠ b := Ne.symm hW.2.1
  have bg : g ≠ b := fun e => hW.2.2.1 (by rw [← e]; rfl)
  have c0' := (World.cell?_of_block (a := ⟨T, 0, none⟩) (e1 T (h.lt T h.eT) bT)).trans c0
  have c1' := (World.cell?_of_block (a := ⟨T, 1, none⟩) (e1 T (h.lt T h.eT) bT)).trans c1
  have cg' := (World.cell?_of_block (a := ⟨g, p, none⟩) (e1 g (h.lt g hg) bg)).trans cg
  have fg' := (World.frozen?_of_block (a := ⟨g, p, none⟩) (e1 g (h.lt g hg) bg)).trans (hc p hp').2
  have v2 := Lib.hid (h.moved (i := p) (w' := w.setCells b o us) (E' := E) (v' := nilv) (zs := []) hp' rfl (.inl ⟨rfl, rfl⟩) t1 (fun k j e => by obtain ⟨_, _, _, e, _⟩ := e; cases e) (fun _ e => e) (fun k e f => by omega) (fun k e => by rw [sz1]; exact h.lt k e))
  have C2 := Lib.hid (show Chg E w ((w.setCells b o us).setCell ⟨g, p, none⟩ nilv) from Chg.setCell (t1.chg fun k j e => (h.eW p k j hp' e).1) (.inl hg) _)
  have sz2 : ((w.setCells b o us).setCell ⟨g, p, none⟩ nilv).heap.size = w.heap.size := by simp [World.setCell, sz1]
  have S2 := Lib.hid sz2
  have gT' := gT
  have fT := v2.out.row.frozen 1
  have c1'' := v2.out.row.cell 1
  simp only [List.getElem?_cons_zero, List.getElem?_cons_succ] at c1''
  have LT := Lib.hid h.lt
  have ET := Lib.hid h.eT
  have EF := Lib.hid h.eF
  obtain ⟨n, hn⟩ : ∃ n, n = vs.length := ⟨_, rfl⟩
  obtain ⟨m, hm⟩ : ∃ m, m = (s.nd p).length := ⟨_, rfl⟩
  obtain ⟨f, hf⟩ : ∃ f, f = (frees s.free).length := ⟨_, rfl⟩
  have f1 : f ≤ 100000 := by rw [hf]; unfold frees; rw [List.length_map]; exact hl
  rw [← hn] at c0 c0' hp'
  rw [← hm] at cg cg' hcl
  have HF := Lib.hid hf
  unfold nilv at v2 C2 S2 fT c1'' sz2 ⊢
  rw [← hf] at c1 c1' c1''
  clear hc h hw ev hfit hp h0 hl ul t1 sz1 e1 sz2 hW hn hm hf
  go_enter Try.func39, Try.ntmps39
  have hsz : ((w.setCells b o us).setCell ⟨g, p, none⟩ (.slice none 0 0)).heap.size = (w.setCells b o us).heap.size := by simp [World.setCell]
  obtain ⟨w3, hw3⟩ : ∃ w3, w3 = ((w.setCells b o us).setCell ⟨g, p, none⟩ (.slice none 0 0)).alloc (.cells #[.int .i64 p] 3) := ⟨_, rfl⟩
  have B3 := Lib.hid (show Below ((w.setCells b o us).setCell ⟨g, p, none⟩ (.slice none 0 0)).heap.size ((w.setCells b o us).setCell ⟨g, p, none⟩ (.slice none 0 0)) w3 by rw [hw3]; exact (Below.refl _ _).alloc (Nat.le_refl _) _)
  have S3 := Lib.hid (show w3.heap.size = w.heap.size + 1 by rw [hw3, World.size_alloc, S2.out])
  have CQ := Lib.hid (show w3.cell? ⟨(w.setCells b o us).heap.size, 0, none⟩ = some (.int .i64 p) by rw [hw3, ← hsz]; exact cell_new1 _ _ _)
  have V3 := Lib.hid (v2.out.below B3.out)
  have HW3 := Lib.hid hw3
  have HSZ := Lib.hid hsz
  have NT := Lib.hid (show Value.ownBlock (.slice A1 f cf) ≠ some T from fun e => (EF.out T (by rw [← HF.out]; exact e)).2.1 rfl)
  clear hsz hw3
  go_wp2_with (at_builtin; refine wp_putJa rfl (.tmp 21) (.tmp 23) rfl (.slice A1 f cf) (frees s.free) rfl (by rw [← HW3.out, HF.out]; exact V3.out.free) (w.setCells b o us).heap.size p rfl (by rw [← HW3.out]; exact CQ.out) (by rw [← HF.out]; omega) ?_; intro g' c' w4 ho hgr hb; rw [← HW3.out] at hgr hb; have HO := Lib.hid ho; have HG := Lib.hid hgr; have HB := Lib.hid hb; have f4 : w4.frozen? ⟨T, 1, none⟩ = false := (World.frozen?_of_block (a := ⟨T, 1, none⟩) (hgr.block T (by rw [S3.out]; have := LT.out T ET.out; omega) (fun e => NT.out e.symm))).trans (V3.out.row.frozen 1); have c4 : w4.cell? ⟨T, 1, none⟩ = some (.slice A1 f cf) := (World.cell?_of_block (a := ⟨T, 1, none⟩) (hgr.block T (by rw [S3.out]; have := LT.out T ET.out; omega) (fun e => NT.out e.symm))).trans (by have := V3.out.row.cell 1; rw [← HF.out] at this; exact this); clear ho hgr hb)
  refine bodyPost_end (results_none rfl _ _ _) rfl ⟨rfl, ?_⟩
  have v3 := V3.out
  rw [← HF.out] at v3
  have s2 := S2.out
  have s3 := S3.out
  have sg := HG.out.size
  refine ⟨fun k => k < w4.heap.size ∧ (E k ∨ w.heap.size ≤ k), _, v3.freed (w' := w4) (E' := fun k => k < w4.heap.size ∧ (E k ∨ w.heap.size ≤ k)) (l := s.free ++ [p]) (by rw [frees_push]; exact HO.out) HG.out ?_ (fun k e => ⟨?_, .inl e⟩) (fun k e f => ⟨f, .inr (by omega)⟩) (fun k e => e.1), fun k e => e.2, ?_⟩
  · rcases HB.out with e | e
    · exact .inl e.symm
    · exact .inr (by show some g' = _; rw [e])
  · have := LT.out k e; omega
  · refine Chg.setCell (Chg.grown ((C2.out).trans (Chg.of_below (F := fun _ => False) B3.out) (fun _ e => e.elim)) HG.out fun k e => .inl (EF.out k (by rw [← HF.out]; exact e)).1) (.inl ET.out) _

/-- release -/
theorem xRelease (w : World) (T : Nat) (E : Nat → Prop) (s : Tab) (p : Nat) (h : TabG w T E s) (hp : p < s.nds.length) (h0 : 0 < (s.nd p).length) (hl : s.free.length ≤ 100000) :
    Calls Try.prog 39 #[Ptr T, .int .i64 p] w fun r w' => r = .returned (.tuple #[]) ∧ LeftP w T E (s.off p) w' := by
  obtain ⟨rv, fv, vs, h⟩ := h
  exact (xReleaseV w T E s rv fv vs p h hp h0 hl).mono fun r w' ⟨hr, E', fv', h1, h2, h3⟩ => ⟨hr, E', ⟨_, _, _, h1⟩, h2, h3⟩

end Go.Proofs.Ytdcjckdhjfnnhaa

namespace Go.Proofs.Ytdcjckdhjfnnhaa
open Go.RowKit

set_option maxRecDepth 100000 in
set_option maxHeartbeats 4000000 in
/-- Put of a key that isn't there, into a tree of one key at least -/
theorem rPutNN (p : Nat) (G : Nat → Prop) (k : ByteArray) (y : Int) (w : World) (h : RefT w G p []) (hr : RowAt w p [.slice none 0 0, .slice none 0 0] 30) :
    Calls Try.prog 9 #[.pointer (some ⟨p, 0, none⟩), .string k, .int .i64 y] w fun x w' => x = .returned (.tuple #[.int .i64 0, .bool false]) ∧ LeftT w G p [(k, y)] w' := by
  have AT := Lib.hid (show Calls Try.prog 14 #[.pointer (some ⟨p, 0, none⟩), .string k] w fun x w' => x = .returned (.tuple #[.int .i64 0, .bool false]) ∧ ∃ n, w' = w.drewN n from rAt p G [] k w h (by simp))
  have Gp : G p := by obtain ⟨_, _, _, _, _, h4, _⟩ := h; exact h4
  have R1 := Lib.hid hr
  have DK' := Lib.hid (show KV.ks [(k, y)] = [] ++ [k] ++ [] from rfl)
  have DN' := Lib.hid (show KV.ns [(k, y)] = [] ++ [y] ++ [] from rfl)
  have LT := Lib.hid (show p < w.heap.size from hr.lt)
  have GP := Lib.hid Gp
  clear h hr Gp
  go_enter Try.func9, Try.ntmps9
  go_wp2_with fail
  refine AT.out.mono ?_
  rintro x w1 ⟨rfl, m1, hw1⟩
  have B1 := Lib.hid (show Below w.heap.size w w1 by rw [hw1]; exact ⟨rfl, rfl, rfl, Nat.le_refl _, fun _ _ => rfl⟩)
  have Z1 := Lib.hid (show w1.heap.size = w.heap.size by rw [hw1]; rfl)
  have R2 := Lib.hid (R1.out.below B1.out)
  have d0 := R2.out.cell 0
  have d1 := R2.out.cell 1
  simp only [List.getElem?_cons_succ, List.getElem?_cons_zero] at d0 d1
  clear hw1
  have pl : p < w1.heap.size := by rw [Z1.out]; exact LT.out
  have PL := Lib.hid pl
  obtain ⟨B, hB⟩ : ∃ B, B = w1.heap.size := ⟨_, rfl⟩
  have OM := Lib.hid (show OwnS (w1.alloc (.cells #[] 9)) B (.slice (some ⟨w1.heap.size, 0, none⟩) 0 0) [] from OwnS.made w1 (by omega))
  have HB := Lib.hid hB
  clear hB
  have LB := Lib.hid (show p < B by rw [HB.out]; exact PL.out)
  go_wp2_with fail
  obtain ⟨w2, hw2⟩ : ∃ w2, w2 = w1.alloc (.cells #[] 9) := ⟨_, rfl⟩
  obtain ⟨w3, hw3⟩ : ∃ w3, w3 = w2.alloc (.cells #[] 3) := ⟨_, rfl⟩
  have z2 : w2.heap.size = w1.heap.size + 1 := by rw [hw2, World.size_alloc]
  rw [← hw2, ← hw3]
  obtain ⟨v1, hv1⟩ : ∃ v1, v1 = Value.slice (some ⟨w1.heap.size, 0, none⟩) 0 0 := ⟨_, rfl⟩
  obtain ⟨v2, hv2⟩ : ∃ v2, v2 = Value.slice (some ⟨w1.heap.size + 1, 0, none⟩) 0 0 := ⟨_, rfl⟩
  rw [← hv1, ← hv2]
  have o2 : OwnS w2 B v1 [] := by rw [hv1, hw2]; exact OM.out
  have o3 : OwnJ w3 w2.heap.size v2 [] := by rw [hv2, ← z2, hw3]; exact OwnJ.made w2 _ (Nat.le_refl _)
  have B2 := Lib.hid (show Below B w1 w2 by rw [hw2]; exact (Below.refl B w1).alloc (by rw [HB.out]; exact Nat.le_refl _) _)
  have bb : Below w2.heap.size w2 w3 := by rw [hw3]; exact (Below.refl _ w2).alloc (Nat.le_refl _) _
  have B3 := Lib.hid bb
  have O3 := Lib.hid o3
  have O2' := Lib.hid (o2.below bb)
  have R3 := Lib.hid (show RowAt w2 p _ _ from (B2.out.block p LB.out).trans R2.out)
  have R4 := Lib.hid (R3.out.below bb)
  have SB := Lib.hid (show B ≤ w2.heap.size by rw [HB.out]; exact B2.out.size)
  have SC := Lib.hid (show B ≤ w3.heap.size from Nat.le_trans SB.out bb.size)
  have pl := R4.out.lt
  have d0 := R4.out.cell 0
  have d1 := R4.out.cell 1
  have f0 := R4.out.frozen 0
  simp only [List.getElem?_cons_succ, List.getElem?_cons_zero] at d0 d1
  clear o2 o3 hw2 hw3 z2 hv1 hv2 bb
  go_region_law (first
      | (refine step_appS rfl (.tmp 52) (.tmp 54) rfl B v1 [] [k] rfl (World.ownsRow.alloc (w := w3) O2'.out _) _ _ rfl (slS_one _ k _) (by simp) (by show B ≤ (w3.alloc _).heap.size; rw [World.size_alloc]; exact Nat.le_succ_of_le SC.out) ?_
         intro v3 w4 ho hg hb
         have bb : Below B w3 w4 := ((Below.refl B w3).alloc (by exact SC.out) _).drew.trans hb
         have oa := Lib.hid (show OwnJ (w3.alloc (.cells #[.string k] 9)).drew w2.heap.size v2 [] from World.ownsRow.alloc (w := w3) O3.out _)
         have ob := Lib.hid (show OwnS (w3.alloc (.cells #[.string k] 9)).drew B v1 [] from World.ownsRow.alloc (w := w3) O2'.out _)
         have O3s := Lib.hid (oa.out.keepB (w' := w4) fun j hj => hg.block j (oa.out.ltB j hj).2 (fun e => ownSJ_ne ob.out oa.out e.symm hj))
         have O4w := Lib.hid ho
         have B4 := Lib.hid bb
         have R5 := Lib.hid (show RowAt w4 p _ _ from (bb.block p LB.out).trans R4.out)
         have SD := Lib.hid (show B ≤ w4.heap.size from Nat.le_trans SC.out bb.size)
         have SX := Lib.hid (show w3.heap.size ≤ w4.heap.size from bb.size)
         have pl := R5.out.lt
         have d0 := R5.out.cell 0
         have d1 := R5.out.cell 1
         simp only [List.getElem?_cons_succ, List.getElem?_cons_zero] at d0 d1
         clear ho hg hb bb oa ob)
      | (refine step_appSm rfl (.tmp 55) (.tmp 61) rfl B v3 ([] ++ [k]) [] rfl O4w.out _ _ _ (by first | rfl | simp) rfl (fun hn => absurd hn (by simp)) (by simp) SD.out ?_
         intro v4 w5 ho hg hb
         obtain ⟨A4, c4, ev, _⟩ := ho.sl
         obtain ⟨N4, hN4⟩ : ∃ N4, N4 = ([] ++ [k] ++ []).length := ⟨_, rfl⟩
         have O3t := Lib.hid ((O3s.out.keepB (w' := w5) fun j hj => hg.block j (O3s.out.ltB j hj).2 (fun e => ownSJ_ne O4w.out O3s.out e.symm hj)).setCell (p := ⟨p, 0, none⟩) (Nat.lt_of_lt_of_le LB.out SB.out) v4)
         have O5 := Lib.hid (ho.setCell (p := ⟨p, 0, none⟩) LB.out v4)
         have B5 := Lib.hid hb
         have R6 := Lib.hid (show RowAt w5 p _ _ from (hb.block p LB.out).trans R5.out)
         have R7 := Lib.hid (R6.out.set 0 v4)
         have SE := Lib.hid (show w2.heap.size ≤ (w5.setCell ⟨p, 0, none⟩ v4).heap.size by rw [World.size_setCell]; exact Nat.le_trans B3.out.size (Nat.le_trans SX.out hb.size))
         have pl := R6.out.lt
         have d0 := R6.out.cell 0
         have d1 := R6.out.cell 1
         have f0 := R6.out.frozen 0
         have e0 := R7.out.cell 0
         have e1 := R7.out.cell 1
         have el := R7.out.lt
         simp only [List.getElem?_cons_succ, List.getElem?_cons_zero, List.set_cons_zero] at d0 d1 e0 e1
         rw [← hN4] at ev
         subst ev
         have HN := Lib.hid hN4
         clear ho hg hb hN4))
  all_goals (
    have C6 := Lib.hid (show Chg G w (w5.setCell ⟨p, 0, none⟩ (.slice A4 N4 c4)) from
      (((((Chg.of_below B1.out).belowB (by rw [HB.out, Z1.out]; exact Nat.le_refl _) B2.out).belowB (Nat.le_trans (by rw [HB.out, Z1.out]; exact Nat.le_refl _) SB.out) B3.out).belowB (by rw [HB.out, Z1.out]; exact Nat.le_refl _) B4.out).belowB (by rw [HB.out, Z1.out]; exact Nat.le_refl _) B5.out).setCell (.inl GP.out) _)
    obtain ⟨w6, hw6⟩ : ∃ w6, w6 = w5.setCell ⟨p, 0, none⟩ (.slice A4 N4 c4) := ⟨_, rfl⟩
    rw [← hw6] at O3t O5 R7 SE e0 e1 el C6 ⊢
    have PB := Lib.hid (show p < w2.heap.size from Nat.lt_of_lt_of_le LB.out SB.out)
    clear hw6 d0 d1 f0 pl
    have pl := el
    go_wp2_with fail)
  all_goals (
    go_region_law (first
      | (refine step_appJ rfl (.tmp 66) (.tmp 68) rfl w2.heap.size v2 [] [y] rfl (World.ownsRow.alloc (w := w6) O3t.out _) _ _ rfl (slJ_one _ y _) (by simp) (by show w2.heap.size ≤ (w6.alloc _).heap.size; rw [World.size_alloc]; exact Nat.le_succ_of_le SE.out) ?_
         intro v5 w7 ho hg hb
         have bb : Below w2.heap.size w6 w7 := ((Below.refl _ w6).alloc SE.out _).drew.trans hb
         have oa := Lib.hid (show OwnJ (w6.alloc (.cells #[.int .i64 y] 3)).drew w2.heap.size v2 [] from World.ownsRow.alloc (w := w6) O3t.out _)
         have ob := Lib.hid (show OwnS (w6.alloc (.cells #[.int .i64 y] 3)).drew B (.slice A4 N4 c4) ([] ++ [k] ++ []) from World.ownsRow.alloc (w := w6) O5.out _)
         have O5s := Lib.hid (ob.out.keepV (w' := w7) fun j hj => hg.block j (World.ownsRow.lt ob.out j hj).2 (fun e => ownSJ_ne ob.out oa.out hj e.symm))
         have O6w := Lib.hid ho
         have B7 := Lib.hid bb
         have R8 := Lib.hid (show RowAt w7 p _ _ from (bb.block p PB.out).trans R7.out)
         have SF := Lib.hid (show w2.heap.size ≤ w7.heap.size from Nat.le_trans SE.out bb.size)
         have pl := R8.out.lt
         have d0 := R8.out.cell 0
         have d1 := R8.out.cell 1
         simp only [List.getElem?_cons_succ, List.getElem?_cons_zero, List.set_cons_zero] at d0 d1
         clear ho hg hb bb oa ob)
      | (refine step_appJm rfl (.tmp 69) (.tmp 75) rfl w2.heap.size v5 ([] ++ [y]) [] rfl O6w.out _ _ _ (by first | rfl | simp) rfl (fun hn => absurd hn (by simp)) (by simp) SF.out ?_
         intro v6 w8 ho hg hb
         obtain ⟨A6, c6, ev, _⟩ := ho.form
         obtain ⟨N6, hN6⟩ : ∃ N6, N6 = ([] ++ [y] ++ []).length := ⟨_, rfl⟩
         have O7 := Lib.hid (ho.setCell (p := ⟨p, 1, none⟩) PB.out v6)
         have O5t := Lib.hid ((O5s.out.keepV (w' := w8) fun j hj => hg.block j (World.ownsRow.lt O5s.out j hj).2 (fun e => ownSJ_ne O5s.out O6w.out hj e.symm)).setCell (p := ⟨p, 1, none⟩) LB.out v6)
         have B8 := Lib.hid hb
         have R9 := Lib.hid (show RowAt w8 p _ _ from (hb.block p PB.out).trans R8.out)
         have R10 := Lib.hid (R9.out.set 1 v6)
         have pl := R9.out.lt
         have d0 := R9.out.cell 0
         have d1 := R9.out.cell 1
         have f1 := R9.out.frozen 1
         simp only [List.getElem?_cons_succ, List.getElem?_cons_zero, List.set_cons_zero] at d0 d1
         rw [← hN6] at ev
         subst ev
         have HM := Lib.hid hN6
         clear ho hg hb hN6)))
  all_goals go_wp2_with fail
  all_goals go_ret2
  all_goals exact ⟨rfl, LeftT.of (B := B) (C := w2.heap.size) (by rw [HB.out, Z1.out]; exact Nat.le_refl _) LB.out GP.out O5t.out O7.out SB.out DK'.out DN'.out R10.out
      (((C6.out.belowB (Nat.le_trans (by rw [HB.out, Z1.out]; exact Nat.le_refl _) SB.out) B7.out).belowB (Nat.le_trans (by rw [HB.out, Z1.out]; exact Nat.le_refl _) SB.out) B8.out).setCell (.inl GP.out) _)⟩

end Go.Proofs.Ytdcjckdhjfnnhaa
