/- cloisonneref04: Right, Pack, Unpack, Compare: walked. -/
import Derived.Test.YtpafnjdaiagdiaaVa
import Derived.Test.YtpafnjdaiagdiaaWkc
import Derived.Deep.RegionHeld3
import Derived.BigQuiet
import Derived.Deep.RegionWith
namespace Go.Proofs.Ytpafnjdaiagdiaa
open Go.RowKit

theorem vconv1 (A : Nat) (v : Int) (w : World) (h : w.cell? ⟨A, 0, none⟩ = some (.int .u8 v)) : (convert 49 9 (.slice (some ⟨A, 0, none⟩) 1 1)).run Try.prog w = .ok (.string (strOfNums [v])) w :=
  run_convert_bytes_arg w 49 5 (by kernel_rfl) (by kernel_rfl) A 0 1 1 [v] rfl (by intro i hi; have e : i = 0 := (by omega); subst e; exact h) 9 (by kernel_rfl)
theorem vcell_new2 (w : World) (o : Obj) (v : Value) (t : TypeId) : ((w.alloc o).alloc (.cells #[v] t)).cell? ⟨w.heap.size + 1, 0, none⟩ = some v := by
  rw [World.cell?_alloc_at _ _ _ _ (by simp)]; rfl
theorem vbelow_cellOf {B : Nat} {w w' : World} (h : Below B w w') {a : Addr} {v : Value} (hc : w.cell? a = some v) (hB : w.heap.size ≤ B) : w'.cell? a = some v := by
  rw [h.cell (p := a) (Nat.lt_of_lt_of_le (World.block_lt_of_cell? w a hc) hB)]; exact hc

set_option maxRecDepth 100000 in
set_option maxHeartbeats 1000000 in
/-- cloisonneref04.Right -/
theorem vrRight (x : Val) (w : World) (hf : x.Fits) : Calls Try.prog 22 #[x.v] w fun e w' => e = .returned (.bool x.ok) ∧ Below w.heap.size w w' := by
  obtain ⟨n, t, b⟩ := x
  obtain ⟨hb, ht⟩ := hf
  change b < 18446744073709551616 at hb
  change t.size ≤ maxLen at ht
  unfold maxLen at ht
  have HB := Lib.hid hb
  show Calls Try.prog 22 #[.agg #[.bool n, .string t, .int .u64 (b : Int)]] w _
  have B0 := Lib.hid ((Below.refl w.heap.size w).alloc (Nat.le_refl _) (.cells #[.bool n, .string t, .int .u64 (b : Int)] 27))
  cases n with
  | false =>
    have R := Lib.hid (show Val.ok ⟨false, t, b⟩ = (decide (b = 0) && decide (t.size ≤ 64)) from rfl)
    by_cases b0 : b = 0
    · have T0 : ((b : Int) == 0) = true := by rw [beq_iff_eq]; omega
      have D0 := Lib.hid b0
      clear b0 hb
      go_enter Try.func22, Try.ntmps22
      go_wp2_with fail
      go_ret
      refine ⟨ret_bool ?_, B0.out⟩
      rw [R.out, decide_eq_true D0.out, Bool.true_and, Bool.eq_iff_iff]
      simp only [decide_eq_true_eq]
      omega
    · have T0 : ((b : Int) == 0) = false := by rw [beq_eq_false_iff_ne]; omega
      have D0 := Lib.hid b0
      clear b0 hb
      go_enter Try.func22, Try.ntmps22
      go_wp2_with fail
      go_ret
      refine ⟨ret_bool ?_, B0.out⟩
      rw [R.out, decide_eq_false D0.out]; rfl
  | true =>
    have R := Lib.hid (show Val.ok ⟨true, t, b⟩ = (decide (t.size = 0) && decide (Fl.bitsOf b = b)) from rfl)
    have FB := Lib.hid (fits_small b hb)
    by_cases t0 : t.size = 0
    · have T0 : ((t.size : Int) == 0) = true := by rw [beq_iff_eq]; omega
      have D0 := Lib.hid t0
      have bn : ((b : Int)).toNat = b := by omega
      clear t0 hb
      go_enter Try.func22, Try.ntmps22
      go_wp2_with fail
      go_quiet (first | (go_at_call 31; exact Calls.quiet_of_same ((rbits b FB.out _).mono fun _ _ hh => ⟨hh.1, hh.2.symm⟩)))
      go_wp2_with fail
      go_ret
      refine ⟨ret_bool ?_, below_drewN B0.out _⟩
      rw [R.out, decide_eq_true D0.out, Bool.true_and, Bool.eq_iff_iff, beq_iff_eq, decide_eq_true_eq]
      omega
    · have T0 : ((t.size : Int) == 0) = false := by rw [beq_eq_false_iff_ne]; omega
      have D0 := Lib.hid t0
      clear t0 hb
      go_enter Try.func22, Try.ntmps22
      go_wp2_with fail
      go_quiet (fail)
      go_wp2_with fail
      go_ret
      refine ⟨ret_bool ?_, below_drewN B0.out _⟩
      rw [R.out, decide_eq_false D0.out]; rfl

theorem vtmp_new {w w2 : World} {o : Obj} {v : Value} {t : TypeId} (hb : Below ((w.alloc o).alloc (.cells #[v] t)).drew.heap.size ((w.alloc o).alloc (.cells #[v] t)).drew w2) : w2.cell? ⟨w.heap.size + 1, 0, none⟩ = some v :=
  vbelow_cellOf hb (vcell_new2 w o v t) (Nat.le_refl _)
theorem bel_call4 {w w2 : World} (hb : Below w.drew.heap.size w.drew w2) : Below w.heap.size w w2 := ⟨hb.os, hb.tape, hb.output, hb.size, hb.block⟩

set_option maxRecDepth 100000 in
set_option maxHeartbeats 1000000 in
/-- cloisonneref04.Pack -/
theorem vrPack (x : Val) (w : World) (hf : x.Fits) (ht : x.txt.size ≤ 1000) : Calls Try.prog 21 #[x.v] w fun e w' => e = .returned (.string x.pack) ∧ Below w.heap.size w w' := by
  obtain ⟨n, t, b⟩ := x
  obtain ⟨hb, _⟩ := hf
  change b < 18446744073709551616 at hb
  change t.size ≤ 1000 at ht
  have FB := Lib.hid (fits_small b hb)
  show Calls Try.prog 21 #[.agg #[.bool n, .string t, .int .u64 (b : Int)]] w _
  have B0 := Lib.hid ((Below.refl w.heap.size w).alloc (Nat.le_refl _) (.cells #[.bool n, .string t, .int .u64 (b : Int)] 27))
  cases n with
  | false =>
    have R := Lib.hid (show Val.pack ⟨false, t, b⟩ = strOfNums [0] ++ t from rfl)
    have CV := Lib.hid (vconv1 (w.heap.size + 1) 0 ((w.alloc (.cells #[.bool false, .string t, .int .u64 (b : Int)] 27)).alloc (.cells #[.int .u8 0] 5)) (vcell_new2 _ _ _ _))
    have CV1 := CV.out
    have s1 : (strOfNums [0]).size = 1 := rfl
    clear hb
    go_enter Try.func21, Try.ntmps21
    go_wp2_with fail
    go_ret
    exact ⟨ret_str R.out.symm, B0.out.alloc (by simp) _⟩
  | true =>
    have R := Lib.hid (show Val.pack ⟨true, t, b⟩ = strOfNums [1] ++ keyOf (Fl.place b) from rfl)
    have bn : ((b : Int)).toNat = b := by omega
    obtain ⟨K, hK⟩ : ∃ K, K = keyOf (Fl.place b) := ⟨_, rfl⟩
    have k8 : K.size = 8 := by rw [hK, keyOf_size]
    have RK := Lib.hid (show ∀ w, Calls Try.prog 29 #[.float .f64 b] w fun e w' => e = .returned (.string K) ∧ Below w.heap.size w w' by rw [hK]; exact rkeyB b FB.out)
    rw [← hK] at R
    clear hb hK
    go_enter Try.func21, Try.ntmps21
    have CVA : ∀ (g : Nat) (W : World), W.cell? ⟨g, 0, none⟩ = some (.int .u8 1) → (convert 49 9 (.slice (some ⟨g, 0, none⟩) 1 1)).run Try.prog W = .ok (.string (strOfNums [1])) W := fun g W h => vconv1 g 1 W h
    have s1 : (strOfNums [1]).size = 1 := rfl
    go_wp2_with fail
    go_region_with (go_at_call 29; refine (RK.out _).mono ?_; rintro e w1 ⟨rfl, hb1⟩; have z2 : w1.cell? ⟨w.heap.size, 2, none⟩ = some (.int .u64 (b : Int)) := vbelow_cellOf hb1 (by simp) (by simp); (first | (have hz := vtmp_new hb1; have HB1 := Lib.hid (below_then (B0.out.alloc (by simp) _) (bel_call4 hb1)); clear hb1) | (have HB1 := Lib.hid (below_then B0.out (bel_call4 hb1)); clear hb1)))
    all_goals
      go_wp2_with fail
      go_ret
      exact ⟨ret_str R.out.symm, by first | exact HB1.out | exact HB1.out.alloc HB1.out.size _⟩

end Go.Proofs.Ytpafnjdaiagdiaa
