/- The program's World: Write. -/
import Derived.Test.YtjghpacpeojejaaE5ba
import Derived.Test.YtjghpacpeojejaaRgn
namespace Go.Proofs.Ytjghpacpeojejaa
open Go.RowKit Go.Maps

set_option maxRecDepth 100000 in
set_option maxHeartbeats 2000000 in
/-- Write: what it answers, where nothing is done -/
theorem xWriteNo (b : Nat) (F : Nat → Prop) (m : Ext) (e a : Int) (s : ByteArray) (w : World) (h : RelX w b F m) (hz : s.size ≤ 9223372036854775807) (r : Int) (hr0 : r ≠ 0) (he : m.write e a s = (m, r)) :
    Calls Try.prog 24 #[.pointer (some ⟨b, 0, none⟩), .int .i64 e, .int .i64 a, .string s] w fun x w' => x = .returned (.int .i64 (m.write e a s).2) ∧ LeftE RelX b F w (m.write e a s).1 w' := by
  rw [he]
  refine Calls.mono (R := fun x w' => x = .returned (.int .i64 r) ∧ Below w.heap.size w w') ?_ fun x w' hq => ⟨hq.1, h.left_below hq.2⟩
  obtain ⟨g, cap, ds, ms, Ds, hr, hb', hg, hd, hF⟩ := h
  clear hb' hg hd hF
  have c0 := hr.on
  have c1 := hr.sec
  have c2 := hr.ext
  obtain ⟨x0, h0⟩ : ∃ x0 : Int, x0 = (if (!m.off) = true then 0 else 6) := ⟨_, rfl⟩
  obtain ⟨x1, h1⟩ : ∃ x1 : Int, x1 = (if 0 ≤ e ∧ e < m.ext ∧ 0 ≤ a ∧ a < m.sec then 0 else 1) := ⟨_, rfl⟩
  obtain ⟨x2, h2⟩ : ∃ x2 : Int, x2 = (if 64 < s.size then 5 else 0) := ⟨_, rfl⟩
  have OR := Lib.hid (show (if x0 = 0 then if x1 = 0 then x2 else x1 else x0) = r by
    unfold Ext.write at he
    rw [h0, h1, h2]
    cases ho : m.off with
    | true => rw [ho, if_pos rfl] at he; simp at he; simp; exact he
    | false =>
      rw [ho, if_neg (by decide)] at he
      simp only [Bool.not_false, if_true]
      by_cases k : m.has e a
      · have k' : 0 ≤ e ∧ e < m.ext ∧ 0 ≤ a ∧ a < m.sec := k
        rw [if_pos k] at he
        rw [if_pos k', if_pos rfl]
        by_cases k2 : 64 < s.size
        · rw [if_pos k2] at he ⊢; simp at he; exact he
        · rw [if_neg k2] at he; simp at he; exact absurd he.2.symm hr0
      · have k' : ¬ (0 ≤ e ∧ e < m.ext ∧ 0 ≤ a ∧ a < m.sec) := k
        rw [if_neg k] at he
        rw [if_neg k']; simp at he; simp; exact he)
  have C1 := Lib.hid (xPow b (!m.off) w c0)
  have C2 := Lib.hid (xHas b e a m.ext m.sec cap (some ⟨g, 0, none⟩) w c1 c2)
  have C3 := Lib.hid (xFits s w hz)
  rw [← h0] at C1
  rw [← h1] at C2
  rw [← h2] at C3
  clear h0 h1 h2 hr he c0 c1 c2 hz
  have HB := Lib.hid (Below.refl w.heap.size w)
  have hrb : (r == 0) = false := beq_eq_false_iff_ne.2 hr0
  have hrb2 : (r != 0) = true := by simp [bne, hrb]
  clear hr0
  go_enter Try.func24, Try.ntmps24
  go_wp2_with fail
  refine C1.out.mono ?_
  rintro x w' ⟨rfl, rfl⟩
  go_wp2_with fail
  refine C2.out.mono ?_
  rintro x w' ⟨rfl, rfl⟩
  go_wp2_with fail
  refine C3.out.mono ?_
  rintro x w' ⟨rfl, rfl⟩
  go_wp2_with fail
  refine (xOr3 x0 x1 x2 r OR.out _ _ _ (World.cell?_alloc_at _ _ _ _ rfl) (World.cell?_alloc_at _ _ _ _ rfl) (World.cell?_alloc_at _ _ _ _ rfl)).mono ?_
  rintro x w3 ⟨rfl, rfl⟩
  go_wp2_with fail
  go_ret
  exact ⟨rfl, HB.out.alloc (Nat.le_refl _) _⟩

set_option maxRecDepth 100000 in
set_option maxHeartbeats 2000000 in
/-- Write, where it is done -/
theorem xWriteYes (b : Nat) (F : Nat → Prop) (m : Ext) (e a : Nat) (s : ByteArray) (w : World) (h : RelX w b F m) (hz : s.size ≤ 64) (ho : m.off = false) (he : e < m.ext) (ha : a < m.sec) :
    Calls Try.prog 24 #[.pointer (some ⟨b, 0, none⟩), .int .i64 e, .int .i64 a, .string s] w fun x w' => x = .returned (.int .i64 0) ∧ LeftE RelX b F w (m.put (e * m.sec + a) ⟨(m.secAt (e * m.sec + a)).dry, s, true⟩) w' := by
  have HH := Lib.hid h
  obtain ⟨g, cap, ds, ms, Ds, hr, hb', hg, hd, hF⟩ := h
  have c0 := hr.on
  have c1 := hr.sec
  have c2 := hr.ext
  rw [ho] at c0
  have HR := Lib.hid hr
  have HH := Lib.hid (has_of he ha)
  have i0 : (0 : Int) ≤ (e : Int) := by omega
  have i1 : (e : Int) < (m.ext : Int) := by omega
  have j0 : (0 : Int) ≤ (a : Int) := by omega
  have j1 : (a : Int) < (m.sec : Int) := by omega
  have C1 := Lib.hid (xPow b true w c0)
  have C2 := Lib.hid (xHasYes b m e a cap (some ⟨g, 0, none⟩) w (has_of he ha) c1 c2)
  have C3 := Lib.hid (xFits s w (by omega))
  rw [if_neg (by omega)] at C3
  have HO := Lib.hid ho
  have HZ := Lib.hid hz
  have HB := Lib.hid hb'
  have HG := Lib.hid hg
  have HD := Lib.hid hd
  have HF := Lib.hid hF
  clear hr ho hz c0 c1 c2 hb' hg hd hF
  go_enter Try.func24, Try.ntmps24
  go_wp2_with fail
  refine C1.out.mono ?_
  rintro x w' ⟨rfl, rfl⟩
  go_wp2_with fail
  refine C2.out.mono ?_
  rintro x w' ⟨rfl, rfl⟩
  go_wp2_with fail
  refine C3.out.mono ?_
  rintro x w' ⟨rfl, rfl⟩
  go_wp2_with fail
  refine (xOr3 0 0 0 0 rfl _ _ _ (World.cell?_alloc_at _ _ _ _ rfl) (World.cell?_alloc_at _ _ _ _ rfl) (World.cell?_alloc_at _ _ _ _ rfl)).mono ?_
  rintro x w3 ⟨rfl, rfl⟩
  obtain ⟨W, hW⟩ : ∃ W, W = w'.alloc (.cells #[.int .i64 0, .int .i64 0, .int .i64 0] 25) := ⟨_, rfl⟩
  rw [← hW]
  have B := Lib.hid (show Below w'.heap.size w' W by rw [hW]; exact (Below.refl _ _).alloc (Nat.le_refl _) _)
  have HR2 := Lib.hid (HR.out.below B.out)
  have CC := Lib.hid (show W.cell? ⟨b, 2, none⟩ = some (.slice (some ⟨g, 0, none⟩) m.ext cap) ∧ W.cell? ⟨g, e * 2 + 1, none⟩ = some (.map (some (ms e))) from ⟨HR2.out.ext, HR2.out.mc e he⟩)
  clear hW HR
  go_wp2_with fail
  refine wp_region_held_drew (S := fun v => v.cell? ⟨b, 2, none⟩ = some (.slice (some ⟨g, 0, none⟩) m.ext cap) ∧ v.cell? ⟨g, e * 2 + 1, none⟩ = some (.map (some (ms e)))) (by kernel_rfl) CC.out (fun hHeld => ?_)
  refine rgnTake 0 rfl (by kernel_rfl) (by kernel_rfl) (by kernel_rfl) (fun _ _ _ h => h) (by rfl) (v := ?v0) ?hy0 hHeld ?rest0
  case hy0 => (intro v hSw; obtain ⟨y0, y1⟩ := hSw; first | (go_simp; done) | (go_simp; with_reducible rfl))
  try simp only [Act.put, List.setIfInBounds_toArray, List.set_cons_zero, List.set_cons_succ]
  refine rgnTake 1 rfl (by kernel_rfl) (by kernel_rfl) (by kernel_rfl) (fun _ _ _ h => h) (by rfl) (v := ?v1) ?hy1 hHeld ?rest1
  case hy1 => (intro v hSw; obtain ⟨y0, y1⟩ := hSw; first | (go_simp; done) | (go_simp; with_reducible rfl))
  try simp only [Act.put, List.setIfInBounds_toArray, List.set_cons_zero, List.set_cons_succ]
  refine rgnTake 2 rfl (by kernel_rfl) (by kernel_rfl) (by kernel_rfl) (fun _ _ _ h => h) (by rfl) (v := ?v2) ?hy2 hHeld ?rest2
  case hy2 => (intro v hSw; obtain ⟨y0, y1⟩ := hSw; first | (go_simp; done) | (go_simp; with_reducible rfl))
  try simp only [Act.put, List.setIfInBounds_toArray, List.set_cons_zero, List.set_cons_succ]
  refine rgnTake 3 rfl (by kernel_rfl) (by kernel_rfl) (by kernel_rfl) (fun _ _ _ h => h) (by rfl) (v := ?v3) ?hy3 hHeld ?rest3
  case hy3 => (intro v hSw; obtain ⟨y0, y1⟩ := hSw; first | (go_simp; done) | (go_simp; with_reducible rfl))
  try simp only [Act.put, List.setIfInBounds_toArray, List.set_cons_zero, List.set_cons_succ]
  refine rgnTake 4 rfl (by kernel_rfl) (by kernel_rfl) (by kernel_rfl) (fun _ _ _ h => h) (by rfl) (v := ?v4) ?hy4 hHeld ?rest4
  case hy4 => (intro v hSw; obtain ⟨y0, y1⟩ := hSw; first | (go_simp; done) | (go_simp; with_reducible rfl))
  try simp only [Act.put, List.setIfInBounds_toArray, List.set_cons_zero, List.set_cons_succ]
  refine rgnTake 5 rfl (by kernel_rfl) (by kernel_rfl) (by kernel_rfl) (fun _ _ _ h => h) (by rfl) (v := ?v5) ?hy5 hHeld ?rest5
  case hy5 => (intro v hSw; obtain ⟨y0, y1⟩ := hSw; first | (go_simp; done) | (go_simp; with_reducible rfl))
  try simp only [Act.put, List.setIfInBounds_toArray, List.set_cons_zero, List.set_cons_succ]
  refine rgnTake 6 rfl (by kernel_rfl) (by kernel_rfl) (by kernel_rfl) (fun _ _ _ h => h) (by rfl) (v := ?v6) ?hy6 hHeld ?rest6
  case hy6 => (intro v hSw; obtain ⟨y0, y1⟩ := hSw; first | (go_simp; done) | (go_simp; with_reducible rfl))
  try simp only [Act.put, List.setIfInBounds_toArray, List.set_cons_zero, List.set_cons_succ]
  refine rgnTake 7 rfl (by kernel_rfl) (by kernel_rfl) (by kernel_rfl) (fun _ _ _ h => h) (by rfl) (v := ?v7) ?hy7 hHeld ?rest7
  case hy7 => (intro v hSw; obtain ⟨y0, y1⟩ := hSw; first | (go_simp; done) | (go_simp; with_reducible rfl))
  try simp only [Act.put, List.setIfInBounds_toArray, List.set_cons_zero, List.set_cons_succ]
  refine rgnTake 8 rfl (by kernel_rfl) (by kernel_rfl) (by kernel_rfl) (fun _ _ _ h => h) (by rfl) (v := ?v8) ?hy8 hHeld ?rest8
  case hy8 => (intro v hSw; obtain ⟨y0, y1⟩ := hSw; first | (go_simp; done) | (go_simp; with_reducible rfl))
  try simp only [Act.put, List.setIfInBounds_toArray, List.set_cons_zero, List.set_cons_succ]
  refine rgnTake 9 rfl (by kernel_rfl) (by kernel_rfl) (by kernel_rfl) (fun _ _ _ h => h) (by rfl) (v := ?v9) ?hy9 hHeld ?rest9
  case hy9 => (intro v hSw; obtain ⟨y0, y1⟩ := hSw; first | (go_simp; done) | (go_simp; with_reducible rfl))
  try simp only [Act.put, List.setIfInBounds_toArray, List.set_cons_zero, List.set_cons_succ]
  refine rgnOne 10 rfl (by kernel_rfl) (fun K hK => ?_)
  go_simp
  refine (xSecOf s _ HZ.out).mono ?_
  rintro r w4 ⟨rfl, h4⟩
  have B4 := Lib.hid h4
  clear h4
  have HR3 := Lib.hid ((HR2.out.below (w' := W.drew) ((Below.refl _ _).drew)).below B4.out)
  refine hK.out _ _ ⟨HR3.out.ext, HR3.out.mc e he⟩ (fun hHeld => ?_)
  clear hK K
  try simp only [Act.put, List.setIfInBounds_toArray, List.set_cons_zero, List.set_cons_succ]
  obtain ⟨w5, hrun, hown, hturn⟩ := (HR3.out.map e he).store keyI Try.underlying61 (by
    have h1 := size_wet (HR3.out.map e he) (HR3.out.says e he) he
    have h2 := HR3.out.ok.2.2.2.1
    unfold maxLen; omega) (keyOfI (a : Int) ⟨by omega, by have h2 := HR3.out.ok.2.2.2.1; omega⟩) (secElem_mk s HZ.out)
  have RUN := Lib.hid hrun
  have GR := Lib.hid hturn.grown
  have HOWN := Lib.hid hown
  clear hrun hown hturn
  refine rgnOne 11 rfl (by kernel_rfl) (fun K hK => ?_)
  refine (if_pos rfl).mpr ?_
  refine oper_mapUpdate 61 (.tmp 30) (.tmp 31) (.tmp 33) rfl (ms e) (.int .i64 a) (.agg (secL s).toArray) rfl rfl rfl RUN.out ?_
  have hc5 : Chg (fun k => k = ds e ∨ k = ms e) w4 w5 := (Chg.refl _ _).grown GR.out (fun k hk => by cases hk; exact .inl (.inr rfl))
  have hr5 : RepE w5 b g cap ds ms _ (m.put (e * m.sec + a) ⟨(m.secAt (e * m.sec + a)).dry, s, true⟩) := HR3.out.step he hc5 (by
      rw [drys_same HR3.out.ok he ha]; exact (HR3.out.row e he).keep ((Chg.refl (fun k => k = ms e) w4).grown GR.out (fun k hk => by cases hk; exact .inl rfl)) (fun q => HR3.out.d_m he he q.symm)) HOWN.out
    ((HR3.out.says e he).put HR3.out.ok he ha (HR3.out.map e he).isMap s _) rfl rfl rfl (Ext.put_ok HR3.out.ok _ _) (HR3.out.fine.put HR3.out.ok he ha _ ⟨(HR3.out.fine _).1, HZ.out, fun q => by cases q⟩)
    (fun e' a' he' ha' hne => by rw [secAt_put (pos_lt_nat HR3.out.ok he ha), if_neg (fun k => hne (pos_ne ha ha' k).1.symm)])
  have HR5 := Lib.hid hr5
  have HC5 := Lib.hid (show Chg (fun k => k = ds e ∨ k = ms e) w' w5 from (((Chg.of_below B.out).drew).trans (Chg.of_below (F := fun _ => False) B4.out) (fun _ q => q.elim)).trans hc5 (fun i q => .inl q))
  clear hr5 hc5
  refine hK.out _ _ ⟨HR5.out.ext, HR5.out.mc e he⟩ (fun hHeld => ?_)
  clear hK K
  try simp only [Act.put]
  refine wpAnyH_done (by kernel_rfl) ?_ _
  go_wp2_with fail
  go_ret
  exact ⟨rfl, RelX.left HC5.out (fun k hk => by
    rcases hk with rfl | rfl
    · exact .inl (HD.out e he).1
    · exact .inl (HD.out e he).2) HR5.out HB.out HG.out HD.out HF.out⟩

/-- Write -/
theorem xWrite (b : Nat) (F : Nat → Prop) (m : Ext) (e a : Int) (s : ByteArray) (w : World) (h : RelX w b F m) (_ : In64 e) (_ : In64 a) (hz : s.size ≤ 9223372036854775807) :
    Calls Try.prog 24 #[.pointer (some ⟨b, 0, none⟩), .int .i64 e, .int .i64 a, .string s] w fun x w' => x = .returned (.int .i64 (m.write e a s).2) ∧ LeftE RelX b F w (m.write e a s).1 w' := by
  cases ho : m.off with
  | true => exact xWriteNo b F m e a s w h hz 6 (by decide) (by unfold Ext.write; rw [if_pos ho])
  | false =>
    by_cases hh : m.has e a
    · by_cases h64 : 64 < s.size
      · exact xWriteNo b F m e a s w h hz 5 (by decide) (by unfold Ext.write; rw [ho, if_neg (by decide), if_pos hh, if_pos h64])
      · obtain ⟨en, an, rfl, rfl, hen, han⟩ := has_nat hh
        rw [show m.write (en : Int) (an : Int) s = (m.put (en * m.sec + an) ⟨(m.secAt (en * m.sec + an)).dry, s, true⟩, 0) by unfold Ext.write; rw [ho, if_neg (by decide), if_pos hh, if_neg h64, pos_nat]]
        exact xWriteYes b F m en an s w h (by omega) ho hen han
    · exact xWriteNo b F m e a s w h hz 1 (by decide) (by unfold Ext.write; rw [ho, if_neg (by decide), if_neg hh])

end Go.Proofs.Ytjghpacpeojejaa
