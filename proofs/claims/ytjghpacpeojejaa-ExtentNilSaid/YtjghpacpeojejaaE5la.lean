/- The program's World: Lay. -/
import Derived.Test.YtjghpacpeojejaaE5wr
import Derived.Test.YtjghpacpeojejaaRgn
namespace Go.Proofs.Ytjghpacpeojejaa
open Go.RowKit Go.Maps

set_option maxRecDepth 100000 in
set_option maxHeartbeats 2000000 in
/-- Lay: what it answers, where nothing is done -/
theorem xLayNo (b : Nat) (F : Nat → Prop) (m : Ext) (e a : Int) (s : ByteArray) (w : World) (h : RelX w b F m) (hz : s.size ≤ 9223372036854775807) (r : Int) (hr0 : r ≠ 0) (he : m.lay e a s = (m, r)) :
    Calls Try.prog 25 #[.pointer (some ⟨b, 0, none⟩), .int .i64 e, .int .i64 a, .string s] w fun x w' => x = .returned (.int .i64 (m.lay e a s).2) ∧ LeftE RelX b F w (m.lay e a s).1 w' := by
  rw [he]
  refine Calls.mono (R := fun x w' => x = .returned (.int .i64 r) ∧ Below w.heap.size w w') ?_ fun x w' hq => ⟨hq.1, h.left_below hq.2⟩
  obtain ⟨g, cap, ds, ms, Ds, hr, hb', hg, hd, hF⟩ := h
  clear hb' hg hd hF
  have c1 := hr.sec
  have c2 := hr.ext
  obtain ⟨x1, h1⟩ : ∃ x1 : Int, x1 = (if 0 ≤ e ∧ e < m.ext ∧ 0 ≤ a ∧ a < m.sec then 0 else 1) := ⟨_, rfl⟩
  obtain ⟨x2, h2⟩ : ∃ x2 : Int, x2 = (if 64 < s.size then 5 else 0) := ⟨_, rfl⟩
  have OR := Lib.hid (show (if x1 = 0 then x2 else x1) = r by
    unfold Ext.lay at he
    rw [h1, h2]
    by_cases k : m.has e a
    · have k' : 0 ≤ e ∧ e < m.ext ∧ 0 ≤ a ∧ a < m.sec := k
      rw [if_pos k] at he
      rw [if_pos k', if_pos rfl]
      by_cases k2 : 64 < s.size
      · rw [if_pos k2] at he ⊢; simp at he; exact he
      · rw [if_neg k2] at he; simp at he; exact absurd he.2.symm hr0
    · have k' : ¬ (0 ≤ e ∧ e < m.ext ∧ 0 ≤ a ∧ a < m.sec) := k
      rw [if_neg k] at he
      rw [if_neg k']; simp at he; simp; exact he)
  have C2 := Lib.hid (xHas b e a m.ext m.sec cap (some ⟨g, 0, none⟩) w c1 c2)
  have C3 := Lib.hid (xFits s w hz)
  rw [← h1] at C2
  rw [← h2] at C3
  clear h1 h2 hr he c1 c2 hz
  have HB := Lib.hid (Below.refl w.heap.size w)
  have hrb : (r == 0) = false := beq_eq_false_iff_ne.2 hr0
  have hrb2 : (r != 0) = true := by simp [bne, hrb]
  clear hr0
  go_enter Try.func25, Try.ntmps25
  go_wp2_with fail
  refine C2.out.mono ?_
  rintro x w' ⟨rfl, rfl⟩
  go_wp2_with fail
  refine C3.out.mono ?_
  rintro x w' ⟨rfl, rfl⟩
  go_wp2_with fail
  refine (xOr2 x1 x2 r OR.out _ _ _ (World.cell?_alloc_at _ _ _ _ rfl) (World.cell?_alloc_at _ _ _ _ rfl)).mono ?_
  rintro x w3 ⟨rfl, rfl⟩
  go_wp2_with fail
  go_ret
  exact ⟨rfl, HB.out.alloc (Nat.le_refl _) _⟩

set_option maxRecDepth 100000 in
set_option maxHeartbeats 2000000 in
/-- Lay, where it is done -/
theorem xLayYes (b : Nat) (F : Nat → Prop) (m : Ext) (e a : Nat) (s : ByteArray) (w : World) (h : RelX w b F m) (hz : s.size ≤ 64) (he : e < m.ext) (ha : a < m.sec) :
    Calls Try.prog 25 #[.pointer (some ⟨b, 0, none⟩), .int .i64 e, .int .i64 a, .string s] w fun x w' => x = .returned (.int .i64 0) ∧ LeftE RelX b F w (m.put (e * m.sec + a) ⟨s, s, false⟩) w' := by
  obtain ⟨g, cap, ds, ms, Ds, hr, hb', hg, hd, hF⟩ := h
  have c1 := hr.sec
  have c2 := hr.ext
  have HR := Lib.hid hr
  have i0 : (0 : Int) ≤ (e : Int) := by omega
  have i1 : (e : Int) < (m.ext : Int) := by omega
  have j0 : (0 : Int) ≤ (a : Int) := by omega
  have j1 : (a : Int) < (m.sec : Int) := by omega
  have C2 := Lib.hid (xHasYes b m e a cap (some ⟨g, 0, none⟩) w (has_of he ha) c1 c2)
  have C3 := Lib.hid (xFits s w (by omega))
  rw [if_neg (by omega)] at C3
  have HZ := Lib.hid hz
  have HB := Lib.hid hb'
  have HG := Lib.hid hg
  have HD := Lib.hid hd
  have HF := Lib.hid hF
  clear hr hz c1 c2 hb' hg hd hF
  go_enter Try.func25, Try.ntmps25
  go_wp2_with fail
  refine C2.out.mono ?_
  rintro x w' ⟨rfl, rfl⟩
  go_wp2_with fail
  refine C3.out.mono ?_
  rintro x w' ⟨rfl, rfl⟩
  go_wp2_with fail
  refine (xOr2 0 0 0 rfl _ _ _ (World.cell?_alloc_at _ _ _ _ rfl) (World.cell?_alloc_at _ _ _ _ rfl)).mono ?_
  rintro x w3 ⟨rfl, rfl⟩
  obtain ⟨W, hW⟩ : ∃ W, W = w'.alloc (.cells #[.int .i64 0, .int .i64 0] 25) := ⟨_, rfl⟩
  rw [← hW]
  have B := Lib.hid (show Below w'.heap.size w' W by rw [hW]; exact (Below.refl _ _).alloc (Nat.le_refl _) _)
  have HR2 := Lib.hid (HR.out.below B.out)
  have c2 := HR2.out.ext
  have c3 := HR2.out.dc e he
  have c4 := HR2.out.mc e he
  have l2 := HR2.out.lt_b
  have l3 := HR2.out.lt_g
  clear hW HR
  go_wp2_with fail
  obtain ⟨W2, hW2⟩ : ∃ W2, W2 = W.alloc (.cells #[.slice (some ⟨ds e, 0, none⟩) m.sec m.sec, .map (some (ms e))] 63) := ⟨_, rfl⟩
  rw [← hW2]
  have B2 := Lib.hid (show Below W.heap.size W W2 by rw [hW2]; exact (Below.refl _ _).alloc (Nat.le_refl _) _)
  have CC := Lib.hid (show W2.cell? ⟨W.heap.size, 0, none⟩ = some (.slice (some ⟨ds e, 0, none⟩) m.sec m.sec) by rw [hW2, World.cell?_alloc_at _ _ _ _ rfl]; rfl)
  have CD := Lib.hid (show W2.cell? ⟨W.heap.size, 1, none⟩ = some (.map (some (ms e))) by rw [hW2, World.cell?_alloc_at _ _ _ _ rfl]; rfl)
  have HS := Lib.hid (show W2.heap.size = W.heap.size + 1 by rw [hW2]; simp)
  have NB := Lib.hid (show W.heap.size ≠ ds e ∧ W.heap.size ≠ ms e from ⟨fun q => by have := HR2.out.lt_row he; omega, fun q => by have := HR2.out.lt_map he; omega⟩)
  clear hW2 c2 c3 c4 l2 l3
  refine wp_region_held_drew (S := fun v => v.cell? ⟨W.heap.size, 0, none⟩ = some (.slice (some ⟨ds e, 0, none⟩) m.sec m.sec)) (by kernel_rfl) CC.out (fun hHeld => ?_)
  refine rgnTake 0 rfl (by kernel_rfl) (by kernel_rfl) (by kernel_rfl) (fun _ _ _ h => h) (by rfl) (v := ?v0) ?hy0 hHeld ?rest0
  case hy0 => (intro v hSw; have y0 := hSw; first | (go_simp; done) | (go_simp; with_reducible rfl))
  try simp only [Act.put, List.setIfInBounds_toArray, List.set_cons_zero, List.set_cons_succ]
  refine rgnTake 1 rfl (by kernel_rfl) (by kernel_rfl) (by kernel_rfl) (fun _ _ _ h => h) (by rfl) (v := ?v1) ?hy1 hHeld ?rest1
  case hy1 => (intro v hSw; have y0 := hSw; first | (go_simp; done) | (go_simp; with_reducible rfl))
  try simp only [Act.put, List.setIfInBounds_toArray, List.set_cons_zero, List.set_cons_succ]
  refine rgnTake 2 rfl (by kernel_rfl) (by kernel_rfl) (by kernel_rfl) (fun _ _ _ h => h) (by rfl) (v := ?v2) ?hy2 hHeld ?rest2
  case hy2 => (intro v hSw; have y0 := hSw; first | (go_simp; done) | (go_simp; with_reducible rfl))
  try simp only [Act.put, List.setIfInBounds_toArray, List.set_cons_zero, List.set_cons_succ]
  refine rgnTake 3 rfl (by kernel_rfl) (by kernel_rfl) (by kernel_rfl) (fun _ _ _ h => h) (by rfl) (v := ?v3) ?hy3 hHeld ?rest3
  case hy3 => (intro v hSw; have y0 := hSw; first | (go_simp; done) | (go_simp; with_reducible rfl))
  try simp only [Act.put, List.setIfInBounds_toArray, List.set_cons_zero, List.set_cons_succ]
  refine rgnOne 4 rfl (by kernel_rfl) (fun K hK => ?_)
  go_simp
  refine (xSecOf s _ HZ.out).mono ?_
  rintro r w4 ⟨rfl, h4⟩
  have B4 := Lib.hid h4
  clear h4
  have HR3 := Lib.hid (((HR2.out.below B2.out).below (w' := W2.drew) ((Below.refl _ _).drew)).below B4.out)
  have CD4 := Lib.hid ((Chg.of_below (F := fun _ => False) B4.out).cell (p := ⟨W.heap.size, 1, none⟩) CD.out id)
  have CC4 := Lib.hid ((Chg.of_below (F := fun _ => False) B4.out).cell (p := ⟨W.heap.size, 0, none⟩) CC.out id)
  refine hK.out _ _ CC4.out (fun hHeld => ?_)
  clear hK K
  try simp only [Act.put, List.setIfInBounds_toArray, List.set_cons_zero, List.set_cons_succ]
  have RW := Lib.hid (HR3.out.row e he)
  have LN := Lib.hid (show a * 65 + 65 ≤ ((drys m e).flatMap secL).length by
    rw [flat_len secL_len, drys_len]
    have := Nat.mul_le_mul_right 65 (show a + 1 ≤ m.sec from ha)
    rw [Nat.add_mul] at this; omega)
  refine rgnTake 5 rfl (by kernel_rfl) (by kernel_rfl) (by kernel_rfl) (fun _ _ _ h => h) (by rfl) (v := ?v5) ?hy5 hHeld ?rest5
  case hy5 => (intro v hSw; have y0 := hSw; first | (go_simp; done) | (go_simp; with_reducible rfl))
  try simp only [Act.put, List.setIfInBounds_toArray, List.set_cons_zero, List.set_cons_succ]
  have TH := Lib.hid (RowAt.there RW.out (o := a * 65) (n := 65) LN.out)
  obtain ⟨w5, hw5⟩ : ∃ w5, w5 = w4.setCells (ds e) (a * 65) (secL s) := ⟨_, rfl⟩
  have GR5 := Lib.hid (show w4.grownBy w5 (some (ds e)) by rw [hw5]; exact setCells_grown _ _ _ _)
  have RW5 := Lib.hid (show RowAt w5 (ds e) (((drys m e).set a s).flatMap secL) 74 by
    rw [hw5, ← flat_seg secL_len s (drys m e) a (by rw [drys_len]; exact ha)]
    exact RowAt.setCells (secL s) (a * 65) _ w4 RW.out (by rw [secL_len]; exact LN.out))
  have HW5 := Lib.hid hw5
  clear hw5
  have C5 := Lib.hid (show Chg (fun k => k = ds e) w4 w5 from (Chg.refl _ _).grown GR5.out (fun k hk => by cases hk; exact .inl rfl))
  have CC5 := Lib.hid (C5.out.cell (p := ⟨W.heap.size, 0, none⟩) CC4.out NB.out.1)
  have CD5 := Lib.hid (C5.out.cell (p := ⟨W.heap.size, 1, none⟩) CD4.out NB.out.1)
  refine rgnOne 6 rfl (by kernel_rfl) (fun K hK => ?_)
  refine (if_pos rfl).mpr ?_
  refine wp_store_mid 74 (.tmp 34) (.tmp 33) rfl (ds e) (a * 65) (secL s).toArray rfl rfl (by rw [List.size_toArray, secL_len]; exact TH.out) (by rw [List.size_toArray, secL_len]; exact sizeS74) (all_oneCell_toArray (secL_one s)) ?_
  rw [List.toList_toArray, ← HW5.out]
  refine hK.out _ _ CC5.out (fun hHeld => ?_)
  clear hK K
  try simp only [Act.put]
  refine wpAnyH_done (by kernel_rfl) ?_ _
  have d1 := CD5.out
  have HM5 := Lib.hid (ownsMap_chg (HR3.out.map e he) C5.out (fun q => HR3.out.d_m he he q))
  go_wp2_with (
    (at_delete; refine wpList_delete_own _ rfl _ _ 61 3 rfl _ keyI Try.underlying61 secElem (ms e) (Maps.size (Ds e)) (Ds e) rfl HM5.out (.int .i64 a) (.int .i64 a) rfl (keyOfI (a : Int) ⟨by omega, by have h2 := HR3.out.ok.2.2.2.1; omega⟩) ?_; intro w6 hown6 hturn6))
  have GR6 := Lib.hid hturn6.grown
  have hc6 : Chg (fun k => k = ds e ∨ k = ms e) w4 w6 := (C5.out.mono fun i q => .inl q).grown GR6.out (fun k hk => by cases hk; exact .inl (.inr rfl))
  have hr6 : RepE w6 b g cap ds ms _ (m.put (e * m.sec + a) ⟨s, s, false⟩) := HR3.out.step he hc6 (by
      rw [drys_put HR3.out.ok he ha]; exact RW5.out.keep ((Chg.refl (fun k => k = ms e) w5).grown GR6.out (fun k hk => by cases hk; exact .inl rfl)) (fun q => HR3.out.d_m he he q.symm)) hown6
    ((HR3.out.says e he).del HR3.out.ok he ha s s) rfl rfl rfl (Ext.put_ok HR3.out.ok _ _) (HR3.out.fine.put HR3.out.ok he ha _ ⟨HZ.out, HZ.out, fun _ => rfl⟩)
    (fun e' a' he' ha' hne => by rw [secAt_put (pos_lt_nat HR3.out.ok he ha), if_neg (fun k => hne (pos_ne ha ha' k).1.symm)])
  have HR6 := Lib.hid hr6
  have HC6 := Lib.hid (show Chg (fun k => k = ds e ∨ k = ms e) w' w6 from ((((Chg.of_below B.out).trans (Chg.of_below (F := fun _ => False) B2.out) (fun _ q => q.elim)).drew).trans (Chg.of_below (F := fun _ => False) B4.out) (fun _ q => q.elim)).trans hc6 (fun i q => .inl q))
  clear hr6 hc6 hown6 hturn6
  go_ret
  exact ⟨rfl, RelX.left HC6.out (fun k hk => by
    rcases hk with rfl | rfl
    · exact .inl (HD.out e he).1
    · exact .inl (HD.out e he).2) HR6.out HB.out HG.out HD.out HF.out⟩

/-- Lay -/
theorem xLay (b : Nat) (F : Nat → Prop) (m : Ext) (e a : Int) (s : ByteArray) (w : World) (h : RelX w b F m) (_ : In64 e) (_ : In64 a) (hz : s.size ≤ 9223372036854775807) :
    Calls Try.prog 25 #[.pointer (some ⟨b, 0, none⟩), .int .i64 e, .int .i64 a, .string s] w fun x w' => x = .returned (.int .i64 (m.lay e a s).2) ∧ LeftE RelX b F w (m.lay e a s).1 w' := by
  by_cases hh : m.has e a
  · by_cases h64 : 64 < s.size
    · exact xLayNo b F m e a s w h hz 5 (by decide) (by unfold Ext.lay; rw [if_pos hh, if_pos h64])
    · obtain ⟨en, an, rfl, rfl, hen, han⟩ := has_nat hh
      rw [show m.lay (en : Int) (an : Int) s = (m.put (en * m.sec + an) ⟨s, s, false⟩, 0) by unfold Ext.lay; rw [if_pos hh, if_neg h64, pos_nat]]
      exact xLayYes b F m en an s w h (by omega) hen han
  · exact xLayNo b F m e a s w h hz 1 (by decide) (by unfold Ext.lay; rw [if_neg hh])

end Go.Proofs.Ytjghpacpeojejaa
