/- Proved parts: S7xc2 S7xc3. Conditions: each theorem's own. -/
import Derived.Test.YtfodclafkdkjbaaDoorM19
namespace Go.Proofs.YtfodclafkdkjbaaDoor
open Go.RowKit

set_option maxRecDepth 100000 in
set_option maxHeartbeats 8000000 in
theorem rMove_c2 (p g pl px gp cp : Nat) (m : Ext) (lf la lu k : Nat) (lg ll : Int) (lb : Bool) (LZ : List ByteArray) (w : World) (hat : la ≠ lf) (h : RefE w p g m) (hl : RowAt w pl (logCells p ⟨lf, la, lg, lu, ll, lb⟩) 44) (hx : RowAt w px (wrCells pl gp cp ⟨true, LZ, k⟩) 107)
    (ho : OwnS w gp (.slice (some ⟨gp, 0, none⟩) LZ.length cp) LZ) (ap : Apart p g pl px gp) (hbd : lf ≤ 100 ∧ la ≤ 100 ∧ lu ≤ 1000 ∧ 0 ≤ lg ∧ lg ≤ 2147483647 ∧ LZ.length ≤ 1000) (kk : k = LZ.length)
    (hM : k < LZ.length → (⟨(lg + 1), (0 + k : Nat), ll, k, LZ.length⟩ : Stp).ok = true ∧ (LZ.getD k ⟨#[]⟩).size ≤ 50) :
    Calls Tryd.prog 30 #[.pointer (some ⟨px, 0, none⟩)] w (MvPost p g pl px gp (Go.Proofs.YtfodclafkdkjbaaDoor.move m ⟨lf, la, lg, lu, ll, lb⟩ ⟨true, LZ, k⟩) w) := by
  obtain ⟨hf, ha, hu, g0, g1, hn⟩ := hbd
  have T7 : ((la : Int) == (lf : Int)) = false := by rw [beq_eq_false_iff_ne]; omega
  have T7n : (la == lf) = false := by rw [beq_eq_false_iff_ne]; exact hat
  have HAT := Lib.hid hat
  clear hat
  have HE := Lib.hid h
  have HL := Lib.hid hl
  have HX := Lib.hid hx
  have HO := Lib.hid ho
  have AP := Lib.hid ap
  have HF := Lib.hid (show True from trivial)
  have x0 := RowAt.cell hx 0
  have x1 := RowAt.cell hx 1
  have x2 := RowAt.cell hx 2
  have x3 := RowAt.cell hx 3
  have z3 := RowAt.frozen hx 3
  have l0 := RowAt.cell hl 0
  have l1 := RowAt.cell hl 1
  have l2 := RowAt.cell hl 2
  have l3 := RowAt.cell hl 3
  have l4 := RowAt.cell hl 4
  have l5 := RowAt.cell hl 5
  simp only [wrCells, logCells, List.getElem?_cons_zero, List.getElem?_cons_succ] at x0 x1 x2 x3 l0 l1 l2 l3 l4 l5
  have in64 := Lib.hid (show ∀ n : Nat, n ≤ 5000 → In64 (n : Int) from fun n hn => ⟨by omega, by omega⟩)
  obtain ⟨n, hnn⟩ : ∃ n, n = LZ.length := ⟨_, rfl⟩
  rw [← hnn] at x2 hn kk hM
  have HN := Lib.hid hnn
  have HM := Lib.hid hM
  have HU := Lib.hid hu
  clear h hl hx ho ap hM hnn
  subst kk
  obtain ⟨o, hoo⟩ : ∃ o, o = m.flush ((lf : Nat) : Int) := ⟨_, rfl⟩
  have TO := Lib.hid (show Lg.to ⟨lf, la, lg, lu, ll, lb⟩ true = lf from (show (if la = lf then lf + 1 else lf) = lf from if_neg HAT.out))
  have MV := Lib.hid (show Go.Proofs.YtfodclafkdkjbaaDoor.move m ⟨lf, la, lg, lu, ll, lb⟩ ⟨true, LZ, k⟩ = if o.2 = 0 then (o.1, ⟨lf, la, lg, lu, ll, lb⟩, ⟨true, LZ, k + 1⟩, 1, 0) else (m, ⟨lf, la, lg, lu, ll, lb⟩, ⟨true, LZ, k⟩, 0, o.2) by
    unfold Go.Proofs.YtfodclafkdkjbaaDoor.move
    simp only
    rw [if_neg (by rw [← HN.out]; omega), if_neg (by rw [← HN.out]; omega), if_pos HN.out, TO.out, ← hoo])
  have SAME := Lib.hid (show o.2 ≠ 0 → o.1 = m by
    rw [hoo]; intro q; unfold Ext.flush at q ⊢
    split at q
    · rename_i q1; rw [if_pos q1]
    · rename_i q1; rw [if_neg q1]; split at q
      · exact absurd rfl q
      · rename_i q2; rw [if_neg q2])
  have EW := Lib.hid (show ∀ w, RefE w p g m → Calls Tryd.prog 55 #[.pointer (some ⟨p, 0, none⟩), .int .i64 (lf : Int)] w (RefPost p g w o) from fun w hr => by
    have q := eFlush p g m ((lf : Nat) : Int) w hr (in64.out _ (by omega))
    rw [← hoo] at q
    try simp only [Int.natCast_add, Int.cast_ofNat_Int] at q
    exact q)
  clear hoo TO
  go_enter Tryd.func30, Tryd.ntmps30
  go_wp2_with fail
  go_quiet (fail)
  go_wp2_with fail
  go_quiet (fail)
  go_wp2_with fail
  refine (EW.out _ (HE.out.below (below_drewN (Below.refl _ _) _))).mono ?_
  rintro e2 w2 ⟨rfl, hr2, hc2⟩
  have C2 := Lib.hid (show Chg (fun k => k = p ∨ k = g ∨ k = pl ∨ k = px) w w2 from (Chg.of_below (below_drewN (Below.refl _ w) _)).trans hc2 (fun i hi => .inl (by rcases hi with e | e; exact .inl e; exact .inr (.inl e))))
  have E2 := Lib.hid hr2
  have NN := Lib.hid (show (¬ (px = p ∨ px = g)) ∧ (¬ (pl = p ∨ pl = g)) ∧ ¬ (gp = p ∨ gp = g) from ⟨fun e => e.elim AP.out.a3 AP.out.a4, fun e => e.elim AP.out.a1 AP.out.a2, fun e => e.elim AP.out.a6 AP.out.a7⟩)
  have X2 := Lib.hid (RowAt.keep (RowAt.drewN HX.out _) hc2 NN.out.1)
  have L2 := Lib.hid (RowAt.keep (RowAt.drewN HL.out _) hc2 NN.out.2.1)
  have O2 := Lib.hid ((HO.out.drewN _).keepAt hc2 NN.out.2.2)
  clear hc2 hr2 x0 x1 x2 x3 z3 l0 l1 l2 l3 l4 l5
  obtain ⟨e, he⟩ : ∃ e, e = o.2 := ⟨_, rfl⟩
  have HEo := Lib.hid he
  rw [← he] at MV ⊢
  clear he
  by_cases e0 : e = 0
  · subst e0
    rw [if_pos rfl] at MV
    have x3 := RowAt.cell X2.out 3
    have z3 := RowAt.frozen X2.out 3
    simp only [wrCells, List.getElem?_cons_zero, List.getElem?_cons_succ] at x3
    go_wp2_with fail
    go_ret2
    rw [MV.out]
    refine ⟨rfl, ?_, ?_, ?_, ?_⟩
    · exact E2.out.keep (F := fun k => k = px) ((Chg.refl (fun k => k = px) _).setCell (p := ⟨px, 3, none⟩) (.inl rfl) _) (fun e => AP.out.a3 e.symm) (fun e => AP.out.a4 e.symm)
    · exact RowAt.other L2.out (p := ⟨px, 3, none⟩) AP.out.a5 _
    · refine ⟨AP.out.a9, cp, ?_, ?_⟩
      · have q := RowAt.set X2.out 3 (.int .i64 ((k : Int) + 1))
        unfold wrCells at q ⊢
        simp only [List.set_cons_zero, List.set_cons_succ] at q
        simp only [Int.natCast_add, Int.cast_ofNat_Int]
        exact q
      · exact O2.out.keepAt (F := fun k => k = px) ((Chg.refl (fun k => k = px) _).setCell (p := ⟨px, 3, none⟩) (.inl rfl) _) AP.out.a9
    · exact C2.out.setCell (p := ⟨px, 3, none⟩) (.inl (.inr (.inr (.inr rfl)))) _
  · have EM := Lib.hid (show RefE w2 p g m by have q := E2.out; rwa [SAME.out (by rw [HEo.out] at e0; exact e0)] at q)
    have T16 : (e != 0) = true := by rw [bne_iff_ne]; exact e0
    rw [if_neg e0] at MV
    clear e0
    go_wp2_with fail
    go_ret2
    rw [MV.out]
    exact ⟨rfl, EM.out, L2.out, ⟨AP.out.a9, cp, X2.out, O2.out⟩, C2.out⟩

end Go.Proofs.YtfodclafkdkjbaaDoor

namespace Go.Proofs.YtfodclafkdkjbaaDoor
open Go.RowKit

set_option maxRecDepth 100000 in
set_option maxHeartbeats 8000000 in
theorem rMove_c3 (p g pl px gp cp : Nat) (m : Ext) (lf la lu k : Nat) (lg ll : Int) (lb : Bool) (LZ : List ByteArray) (w : World) (hat : la ≠ lf) (h : RefE w p g m) (hl : RowAt w pl (logCells p ⟨lf, la, lg, lu, ll, lb⟩) 44) (hx : RowAt w px (wrCells pl gp cp ⟨true, LZ, k⟩) 107)
    (ho : OwnS w gp (.slice (some ⟨gp, 0, none⟩) LZ.length cp) LZ) (ap : Apart p g pl px gp) (hbd : lf ≤ 100 ∧ la ≤ 100 ∧ lu ≤ 1000 ∧ 0 ≤ lg ∧ lg ≤ 2147483647 ∧ LZ.length ≤ 1000) (kk : k = LZ.length + 1)
    (hM : k < LZ.length → (⟨(lg + 1), (0 + k : Nat), ll, k, LZ.length⟩ : Stp).ok = true ∧ (LZ.getD k ⟨#[]⟩).size ≤ 50) :
    Calls Tryd.prog 30 #[.pointer (some ⟨px, 0, none⟩)] w (MvPost p g pl px gp (Go.Proofs.YtfodclafkdkjbaaDoor.move m ⟨lf, la, lg, lu, ll, lb⟩ ⟨true, LZ, k⟩) w) := by
  obtain ⟨hf, ha, hu, g0, g1, hn⟩ := hbd
  have T7 : ((la : Int) == (lf : Int)) = false := by rw [beq_eq_false_iff_ne]; omega
  have T7n : (la == lf) = false := by rw [beq_eq_false_iff_ne]; exact hat
  have HAT := Lib.hid hat
  clear hat
  have HE := Lib.hid h
  have HL := Lib.hid hl
  have HX := Lib.hid hx
  have HO := Lib.hid ho
  have AP := Lib.hid ap
  have HF := Lib.hid (show True from trivial)
  have x0 := RowAt.cell hx 0
  have x1 := RowAt.cell hx 1
  have x2 := RowAt.cell hx 2
  have x3 := RowAt.cell hx 3
  have z3 := RowAt.frozen hx 3
  have l0 := RowAt.cell hl 0
  have l1 := RowAt.cell hl 1
  have l2 := RowAt.cell hl 2
  have l3 := RowAt.cell hl 3
  have l4 := RowAt.cell hl 4
  have l5 := RowAt.cell hl 5
  simp only [wrCells, logCells, List.getElem?_cons_zero, List.getElem?_cons_succ] at x0 x1 x2 x3 l0 l1 l2 l3 l4 l5
  have in64 := Lib.hid (show ∀ n : Nat, n ≤ 5000 → In64 (n : Int) from fun n hn => ⟨by omega, by omega⟩)
  obtain ⟨n, hnn⟩ : ∃ n, n = LZ.length := ⟨_, rfl⟩
  rw [← hnn] at x2 hn kk hM
  have HN := Lib.hid hnn
  have HM := Lib.hid hM
  have HU := Lib.hid hu
  clear h hl hx ho ap hM hnn
  subst kk
  have TO := Lib.hid (show Lg.to ⟨lf, la, lg, lu, ll, lb⟩ true = lf from (show (if la = lf then lf + 1 else lf) = lf from if_neg HAT.out))
  have MV := Lib.hid (show Go.Proofs.YtfodclafkdkjbaaDoor.move m ⟨lf, la, lg, lu, ll, lb⟩ ⟨true, LZ, n + 1⟩ = (m, ⟨lf, lf, (lg + 1), 0 + n, ll, false⟩, ⟨true, LZ, n + 1 + 1⟩, 2, 0) by
    unfold Go.Proofs.YtfodclafkdkjbaaDoor.move
    simp only
    rw [if_neg (by rw [← HN.out]; omega), if_neg (by rw [← HN.out]; omega), if_neg (by rw [← HN.out]; omega), TO.out, ← HN.out]; rfl)
  have KI : ((n + 1 : Nat) : Int) = (n : Int) + 1 := by omega
  rw [KI] at x3
  clear KI TO
  go_enter Tryd.func30, Tryd.ntmps30
  go_wp2_with fail
  go_quiet (fail)
  go_wp2_with fail
  go_quiet (fail)
  go_wp2_with fail
  generalize hw1 : World.setCell _ ⟨px, 3, none⟩ _ = w1
  have CX := Lib.hid (show Chg (fun k => k = px) w w1 by
    rw [← hw1]
    refine Chg.setCell (F := fun k => k = px) ?_ (p := ⟨px, 3, none⟩) (.inl rfl) _
    first | exact chg_drew1 _ _ _ | exact chg_drew2 _ _ _ _)
  have X1 := Lib.hid (show RowAt w1 px _ _ by rw [← hw1]; exact RowAt.set (show RowAt _ px _ _ from HX.out) 3 (.int .i64 ((n : Int) + 1 + 1)))
  have L1 := Lib.hid (RowAt.keep HL.out CX.out (fun e => AP.out.a5 e.symm))
  have E1 := Lib.hid (HE.out.keep CX.out (fun e => AP.out.a3 e.symm) (fun e => AP.out.a4 e.symm))
  have O1 := Lib.hid (HO.out.keepAt CX.out AP.out.a9)
  clear hw1 x0 x1 x2 x3 z3 l0 l1 l2 l3 l4 l5
  have x0 := RowAt.cell X1.out 0
  simp only [wrCells, List.set_cons_zero, List.set_cons_succ, List.getElem?_cons_zero] at x0
  have l2 := RowAt.cell L1.out 2
  have l3 := RowAt.cell L1.out 3
  have l4 := RowAt.cell L1.out 4
  have l6 := RowAt.cell L1.out 6
  simp only [logCells, List.getElem?_cons_zero, List.getElem?_cons_succ] at l2 l3 l4 l6
  have f2 := RowAt.frozen L1.out 2
  have f3 := RowAt.frozen L1.out 3
  have f4 := RowAt.frozen L1.out 4
  have f6 := RowAt.frozen L1.out 6
  have NP := Lib.hid (show pl ≠ px from fun e => AP.out.a5 e.symm)
  have WRN : IntKind.i64.wrap (n : Int) = (n : Int) := by rw [IntKind.wrap_i64]; omega
  have WRZ : IntKind.i64.wrap (0 + (n : Int)) = (n : Int) := by rw [IntKind.wrap_i64]; omega
  refine wp_region_held_drew (S := fun v => v.cell? ⟨px, 0, none⟩ = some (.pointer (some ⟨pl, 0, none⟩))) (by kernel_rfl) (by exact x0) (fun hHeld => ?_)
  refine rgnTake 0 rfl (by kernel_rfl) (by kernel_rfl) (by kernel_rfl) (fun _ _ _ h => h) (by rfl) (v := ?v0q) ?hy0q hHeld ?rest0q
  case hy0q => (intro v hSw; have y0 := hSw; first | (go_simp; done) | (go_simp; with_reducible rfl))
  try simp only [Act.put, List.setIfInBounds_toArray, List.set_cons_zero, List.set_cons_succ]
  refine rgnTake 1 rfl (by kernel_rfl) (by kernel_rfl) (by kernel_rfl) (fun _ _ _ h => h) (by rfl) (v := ?v1q) ?hy1q hHeld ?rest1q
  case hy1q => (intro v hSw; have y0 := hSw; first | (go_simp; done) | (go_simp; with_reducible rfl))
  try simp only [Act.put, List.setIfInBounds_toArray, List.set_cons_zero, List.set_cons_succ]
  refine rgnTake 2 rfl (by kernel_rfl) (by kernel_rfl) (by kernel_rfl) (fun _ _ _ h => h) (by rfl) (v := ?v2q) ?hy2q hHeld ?rest2q
  case hy2q => (intro v hSw; have y0 := hSw; first | (go_simp; done) | (go_simp; with_reducible rfl))
  try simp only [Act.put, List.setIfInBounds_toArray, List.set_cons_zero, List.set_cons_succ]
  refine rgnTake 3 rfl (by kernel_rfl) (by kernel_rfl) (by kernel_rfl) (fun _ _ _ h => h) (by rfl) (v := ?v3q) ?hy3q hHeld ?rest3q
  case hy3q => (intro v hSw; have y0 := hSw; first | (go_simp; done) | (go_simp; with_reducible rfl))
  try simp only [Act.put, List.setIfInBounds_toArray, List.set_cons_zero, List.set_cons_succ]
  refine rgnTake 4 rfl (by kernel_rfl) (by kernel_rfl) (by kernel_rfl) (fun _ _ _ h => h) (by rfl) (v := ?v4q) ?hy4q hHeld ?rest4q
  case hy4q => (intro v hSw; have y0 := hSw; first | (go_simp; done) | (go_simp; with_reducible rfl))
  try simp only [Act.put, List.setIfInBounds_toArray, List.set_cons_zero, List.set_cons_succ]
  refine rgnTake 5 rfl (by kernel_rfl) (by kernel_rfl) (by kernel_rfl) (fun _ _ _ h => h) (by rfl) (v := ?v5q) ?hy5q hHeld ?rest5q
  case hy5q => (intro v hSw; have y0 := hSw; first | (go_simp; done) | (go_simp; with_reducible rfl))
  try simp only [Act.put, List.setIfInBounds_toArray, List.set_cons_zero, List.set_cons_succ]
  refine rgnTake 6 rfl (by kernel_rfl) (by kernel_rfl) (by kernel_rfl) (fun _ _ _ h => h) (by rfl) (v := ?v6q) ?hy6q hHeld ?rest6q
  case hy6q => (intro v hSw; have y0 := hSw; first | (go_simp; done) | (go_simp; with_reducible rfl))
  try simp only [Act.put, List.setIfInBounds_toArray, List.set_cons_zero, List.set_cons_succ]
  refine rgnTake 7 rfl (by kernel_rfl) (by kernel_rfl) (by kernel_rfl) (fun _ _ _ h => h) (by rfl) (v := ?v7q) ?hy7q hHeld ?rest7q
  case hy7q => (intro v hSw; have y0 := hSw; first | (go_simp; done) | (go_simp; with_reducible rfl))
  try simp only [Act.put, List.setIfInBounds_toArray, List.set_cons_zero, List.set_cons_succ]
  refine rgnTake 8 rfl (by kernel_rfl) (by kernel_rfl) (by kernel_rfl) (fun _ _ _ h => h) (by rfl) (v := ?v8q) ?hy8q hHeld ?rest8q
  case hy8q => (intro v hSw; have y0 := hSw; first | (go_simp; done) | (go_simp; with_reducible rfl))
  try simp only [Act.put, List.setIfInBounds_toArray, List.set_cons_zero, List.set_cons_succ]
  refine rgnTake 9 rfl (by kernel_rfl) (by kernel_rfl) (by kernel_rfl) (fun _ _ _ h => h) (by rfl) (v := ?v9q) ?hy9q hHeld ?rest9q
  case hy9q => (intro v hSw; have y0 := hSw; first | (go_simp; done) | (go_simp; with_reducible rfl))
  try simp only [Act.put, List.setIfInBounds_toArray, List.set_cons_zero, List.set_cons_succ]
  refine rgnTake 10 rfl (by kernel_rfl) (by kernel_rfl) (by kernel_rfl) (fun _ _ _ h => h) (by rfl) (v := ?v10q) ?hy10q hHeld ?rest10q
  case hy10q => (intro v hSw; have y0 := hSw; first | (go_simp; done) | (go_simp; with_reducible rfl))
  try simp only [Act.put, List.setIfInBounds_toArray, List.set_cons_zero, List.set_cons_succ]
  refine rgnTake 11 rfl (by kernel_rfl) (by kernel_rfl) (by kernel_rfl) (fun _ _ _ h => h) (by rfl) (v := ?v11q) ?hy11q hHeld ?rest11q
  case hy11q => (intro v hSw; have y0 := hSw; first | (go_simp; done) | (go_simp; with_reducible rfl))
  try simp only [Act.put, List.setIfInBounds_toArray, List.set_cons_zero, List.set_cons_succ]
  refine rgnTake 12 rfl (by kernel_rfl) (by kernel_rfl) (by kernel_rfl) (fun _ _ _ h => h) (by rfl) (v := ?v12q) ?hy12q hHeld ?rest12q
  case hy12q => (intro v hSw; have y0 := hSw; first | (go_simp; done) | (go_simp; with_reducible rfl))
  try simp only [Act.put, List.setIfInBounds_toArray, List.set_cons_zero, List.set_cons_succ]
  refine rgnTake 13 rfl (by kernel_rfl) (by kernel_rfl) (by kernel_rfl) (fun _ _ _ h => h) (by rfl) (v := ?v13q) ?hy13q hHeld ?rest13q
  case hy13q => (intro v hSw; have y0 := hSw; first | (go_simp; done) | (go_simp; with_reducible rfl))
  try simp only [Act.put, List.setIfInBounds_toArray, List.set_cons_zero, List.set_cons_succ]
  refine rgnTake 14 rfl (by kernel_rfl) (by kernel_rfl) (by kernel_rfl) (fun _ _ _ h => h) (by rfl) (v := ?v14q) ?hy14q hHeld ?rest14q
  case hy14q => (intro v hSw; have y0 := hSw; first | (go_simp; done) | (go_simp; with_reducible rfl))
  try simp only [Act.put, List.setIfInBounds_toArray, List.set_cons_zero, List.set_cons_succ]
  refine rgnTake 15 rfl (by kernel_rfl) (by kernel_rfl) (by kernel_rfl) (fun _ _ _ h => h) (by rfl) (v := ?v15q) ?hy15q hHeld ?rest15q
  case hy15q => (intro v hSw; have y0 := hSw; first | (go_simp; done) | (go_simp; with_reducible rfl))
  try simp only [Act.put, List.setIfInBounds_toArray, List.set_cons_zero, List.set_cons_succ]
  refine rgnTake 16 rfl (by kernel_rfl) (by kernel_rfl) (by kernel_rfl) (fun _ _ _ h => h) (by rfl) (v := ?v16q) ?hy16q hHeld ?rest16q
  case hy16q => (intro v hSw; have y0 := hSw; first | (go_simp; done) | (go_simp; with_reducible rfl))
  try simp only [Act.put, List.setIfInBounds_toArray, List.set_cons_zero, List.set_cons_succ]
  refine rgnTake 17 rfl (by kernel_rfl) (by kernel_rfl) (by kernel_rfl) (fun _ _ _ h => h) (by rfl) (v := ?v17q) ?hy17q hHeld ?rest17q
  case hy17q => (intro v hSw; have y0 := hSw; first | (go_simp; done) | (go_simp; with_reducible rfl))
  try simp only [Act.put, List.setIfInBounds_toArray, List.set_cons_zero, List.set_cons_succ]
  refine rgnTake 18 rfl (by kernel_rfl) (by kernel_rfl) (by kernel_rfl) (fun _ _ _ h => h) (by rfl) (v := ?v18q) ?hy18q hHeld ?rest18q
  case hy18q => (intro v hSw; have y0 := hSw; first | (go_simp; done) | (go_simp; with_reducible rfl))
  try simp only [Act.put, List.setIfInBounds_toArray, List.set_cons_zero, List.set_cons_succ]
  refine rgnTake 19 rfl (by kernel_rfl) (by kernel_rfl) (by kernel_rfl) (fun _ _ _ h => h) (by rfl) (v := ?v19q) ?hy19q hHeld ?rest19q
  case hy19q => (intro v hSw; have y0 := hSw; first | (go_simp; done) | (go_simp; with_reducible rfl))
  try simp only [Act.put, List.setIfInBounds_toArray, List.set_cons_zero, List.set_cons_succ]
  refine rgnTake 20 rfl (by kernel_rfl) (by kernel_rfl) (by kernel_rfl) (fun _ _ _ h => h) (by rfl) (v := ?v20q) ?hy20q hHeld ?rest20q
  case hy20q => (intro v hSw; have y0 := hSw; first | (go_simp; done) | (go_simp; with_reducible rfl))
  try simp only [Act.put, List.setIfInBounds_toArray, List.set_cons_zero, List.set_cons_succ]
  refine rgnTake 21 rfl (by kernel_rfl) (by kernel_rfl) (by kernel_rfl) (fun _ _ _ h => h) (by rfl) (v := ?v21q) ?hy21q hHeld ?rest21q
  case hy21q => (intro v hSw; have y0 := hSw; first | (go_simp; done) | (go_simp; with_reducible rfl))
  try simp only [Act.put, List.setIfInBounds_toArray, List.set_cons_zero, List.set_cons_succ]
  refine rgnTake 22 rfl (by kernel_rfl) (by kernel_rfl) (by kernel_rfl) (fun _ _ _ h => h) (by rfl) (v := ?v22q) ?hy22q hHeld ?rest22q
  case hy22q => (intro v hSw; have y0 := hSw; first | (go_simp; done) | (go_simp; with_reducible rfl))
  try simp only [Act.put, List.setIfInBounds_toArray, List.set_cons_zero, List.set_cons_succ]
  refine rgnOne 23 rfl (by kernel_rfl) (fun K hK => ?_)
  go_simp
  refine hK.out _ _ (by exact (World.cell?_setCell_far _ _ _ _ NP.out).trans (x0)) (fun hHeld => ?_)
  clear hK K
  try simp only [Act.put, List.setIfInBounds_toArray, List.set_cons_zero, List.set_cons_succ]
  refine rgnTake 24 rfl (by kernel_rfl) (by kernel_rfl) (by kernel_rfl) (fun _ _ _ h => h) (by rfl) (v := ?v24q) ?hy24q hHeld ?rest24q
  case hy24q => (intro v hSw; have y0 := hSw; first | (go_simp; done) | (go_simp; with_reducible rfl))
  try simp only [Act.put, List.setIfInBounds_toArray, List.set_cons_zero, List.set_cons_succ]
  refine rgnTake 25 rfl (by kernel_rfl) (by kernel_rfl) (by kernel_rfl) (fun _ _ _ h => h) (by rfl) (v := ?v25q) ?hy25q hHeld ?rest25q
  case hy25q => (intro v hSw; have y0 := hSw; first | (go_simp; done) | (go_simp; with_reducible rfl))
  try simp only [Act.put, List.setIfInBounds_toArray, List.set_cons_zero, List.set_cons_succ]
  refine rgnOne 26 rfl (by kernel_rfl) (fun K hK => ?_)
  go_simp
  refine hK.out _ _ (by exact (World.cell?_setCell_far _ _ _ _ NP.out).trans ((World.cell?_setCell_far _ _ _ _ NP.out).trans (x0))) (fun hHeld => ?_)
  clear hK K
  try simp only [Act.put, List.setIfInBounds_toArray, List.set_cons_zero, List.set_cons_succ]
  refine rgnTake 27 rfl (by kernel_rfl) (by kernel_rfl) (by kernel_rfl) (fun _ _ _ h => h) (by rfl) (v := ?v27q) ?hy27q hHeld ?rest27q
  case hy27q => (intro v hSw; have y0 := hSw; first | (go_simp; done) | (go_simp; with_reducible rfl))
  try simp only [Act.put, List.setIfInBounds_toArray, List.set_cons_zero, List.set_cons_succ]
  refine rgnTake 28 rfl (by kernel_rfl) (by kernel_rfl) (by kernel_rfl) (fun _ _ _ h => h) (by rfl) (v := ?v28q) ?hy28q hHeld ?rest28q
  case hy28q => (intro v hSw; have y0 := hSw; first | (go_simp; done) | (go_simp; with_reducible rfl))
  try simp only [Act.put, List.setIfInBounds_toArray, List.set_cons_zero, List.set_cons_succ]
  refine rgnOne 29 rfl (by kernel_rfl) (fun K hK => ?_)
  go_simp
  refine hK.out _ _ (by exact (World.cell?_setCell_far _ _ _ _ NP.out).trans ((World.cell?_setCell_far _ _ _ _ NP.out).trans ((World.cell?_setCell_far _ _ _ _ NP.out).trans (x0)))) (fun hHeld => ?_)
  clear hK K
  try simp only [Act.put, List.setIfInBounds_toArray, List.set_cons_zero, List.set_cons_succ]
  refine rgnTake 30 rfl (by kernel_rfl) (by kernel_rfl) (by kernel_rfl) (fun _ _ _ h => h) (by rfl) (v := ?v30q) ?hy30q hHeld ?rest30q
  case hy30q => (intro v hSw; have y0 := hSw; first | (go_simp; done) | (go_simp; with_reducible rfl))
  try simp only [Act.put, List.setIfInBounds_toArray, List.set_cons_zero, List.set_cons_succ]
  refine rgnTake 31 rfl (by kernel_rfl) (by kernel_rfl) (by kernel_rfl) (fun _ _ _ h => h) (by rfl) (v := ?v31q) ?hy31q hHeld ?rest31q
  case hy31q => (intro v hSw; have y0 := hSw; first | (go_simp; done) | (go_simp; with_reducible rfl))
  try simp only [Act.put, List.setIfInBounds_toArray, List.set_cons_zero, List.set_cons_succ]
  refine rgnOne 32 rfl (by kernel_rfl) (fun K hK => ?_)
  go_simp
  refine hK.out _ _ (by exact (World.cell?_setCell_far _ _ _ _ NP.out).trans ((World.cell?_setCell_far _ _ _ _ NP.out).trans ((World.cell?_setCell_far _ _ _ _ NP.out).trans ((World.cell?_setCell_far _ _ _ _ NP.out).trans (x0))))) (fun hHeld => ?_)
  clear hK K
  try simp only [Act.put, List.setIfInBounds_toArray, List.set_cons_zero, List.set_cons_succ]
  refine wpAnyH_done (by kernel_rfl) ?_ _
  go_wp2_with fail
  go_ret2
  rw [MV.out]
  have CL := (((((Chg.refl (fun k => k = pl) w1.drew).setCell (p := ⟨pl, 2, none⟩) (.inl rfl) (.int .i64 (lf : Int))).setCell (p := ⟨pl, 3, none⟩) (.inl rfl) (.int .i64 (lg + 1))).setCell (p := ⟨pl, 4, none⟩) (.inl rfl) (.int .i64 (n : Int))).setCell (p := ⟨pl, 6, none⟩) (.inl rfl) (.bool false))
  refine ⟨rfl, ?_, ?_, ?_, ?_⟩
  · exact RefE.keep (w := w1.drew) (show RefE w1.drew p g m from E1.out.below (below_drew (Below.refl _ _))) CL (fun e => AP.out.a1 e.symm) (fun e => AP.out.a2 e.symm)
  · have q := (((RowAt.set (show RowAt w1.drew pl _ _ from L1.out) 2 (.int .i64 (lf : Int))).set 3 (.int .i64 (lg + 1))).set 4 (.int .i64 (n : Int))).set 6 (.bool false)
    show RowAt _ pl (logCells p ⟨lf, lf, (lg + 1), 0 + n, ll, false⟩) _
    have e : ([.pointer (some ⟨p, 0, none⟩), .int .i64 (lf : Int), .int .i64 (lf : Int), .int .i64 (lg + 1), .int .i64 (n : Int), .int .i64 ll, .bool false] : List Value) = logCells p ⟨lf, lf, (lg + 1), 0 + n, ll, false⟩ := by unfold logCells; simp
    rw [← e]
    exact q
  · refine ⟨AP.out.a9, cp, ?_, ?_⟩
    · have q := RowAt.keep (show RowAt w1.drew px _ _ from X1.out) CL (fun e => AP.out.a5 e)
      show RowAt _ px (wrCells pl gp cp ⟨true, LZ, n + 1 + 1⟩) _
      have e : ([.pointer (some ⟨pl, 0, none⟩), .bool true, .slice (some ⟨gp, 0, none⟩) LZ.length cp, .int .i64 ((n : Int) + 1 + 1)] : List Value) = wrCells pl gp cp ⟨true, LZ, n + 1 + 1⟩ := by unfold wrCells; simp
      rw [← e]
      exact q
    · exact OwnS.keepAt (w := w1.drew) O1.out CL AP.out.a8
  · exact ((CX.out.drew).mono (fun i e => .inr (.inr (.inr e)))).trans CL (fun i e => .inl (.inr (.inr (.inl e))))

end Go.Proofs.YtfodclafkdkjbaaDoor
