/- cloisonneref04: Right, Pack, Unpack, Compare: walked. -/
import Derived.Test.YtoljhoabbaigdaaVa
import Derived.Test.YtoljhoabbaigdaaWkc
import Derived.Deep.RegionHeld3
import Derived.BigQuiet
import Derived.Deep.RegionWith
namespace Go.Proofs.Ytoljhoabbaigdaa
open Go.RowKit

theorem vcell_new2 (w : World) (o : Obj) (v : Value) (t : TypeId) : ((w.alloc o).alloc (.cells #[v] t)).cell? ⟨w.heap.size + 1, 0, none⟩ = some v := by
  rw [World.cell?_alloc_at _ _ _ _ (by simp)]; rfl
theorem vbelow_cellOf {B : Nat} {w w' : World} (h : Below B w w') {a : Addr} {v : Value} (hc : w.cell? a = some v) (hB : w.heap.size ≤ B) : w'.cell? a = some v := by
  rw [h.cell (p := a) (Nat.lt_of_lt_of_le (World.block_lt_of_cell? w a hc) hB)]; exact hc

set_option maxRecDepth 100000 in
set_option maxHeartbeats 1000000 in
/-- cloisonneref04.Right -/
theorem vrRight (x : Val) (w : World) (hf : x.Fits) : Calls Try.prog 27 #[x.v] w fun e w' => e = .returned (.bool x.ok) ∧ Below w.heap.size w w' := by
  obtain ⟨n, t, b⟩ := x
  obtain ⟨hb, ht⟩ := hf
  change b < 18446744073709551616 at hb
  change t.size ≤ maxLen at ht
  unfold maxLen at ht
  have HB := Lib.hid hb
  show Calls Try.prog 27 #[.agg #[.bool n, .string t, .int .u64 (b : Int)]] w _
  have B0 := Lib.hid ((Below.refl w.heap.size w).alloc (Nat.le_refl _) (.cells #[.bool n, .string t, .int .u64 (b : Int)] 40))
  cases n with
  | false =>
    have R := Lib.hid (show Val.ok ⟨false, t, b⟩ = (decide (b = 0) && decide (t.size ≤ 64)) from rfl)
    by_cases b0 : b = 0
    · have T0 : ((b : Int) == 0) = true := by rw [beq_iff_eq]; omega
      have D0 := Lib.hid b0
      clear b0 hb
      go_enter Try.func27, Try.ntmps27
      go_wp2_with fail
      go_ret
      refine ⟨ret_bool ?_, B0.out⟩
      rw [R.out, decide_eq_true D0.out, Bool.true_and, Bool.eq_iff_iff]
      simp only [decide_eq_true_eq]
      omega
    · have T0 : ((b : Int) == 0) = false := by rw [beq_eq_false_iff_ne]; omega
      have D0 := Lib.hid b0
      clear b0 hb
      go_enter Try.func27, Try.ntmps27
      go_wp2_with fail
      go_ret
      refine ⟨ret_bool ?_, B0.out⟩
      rw [R.out, decide_eq_false D0.out]; rfl
  | true =>
    have R := Lib.hid (show Val.ok ⟨true, t, b⟩ = (decide (t.size = 0) && decide (Fl.bitsOf b = b)) from rfl)
    have FB := Lib.hid (fits_small b hb)
    by_cases t0 : t.size = 0
    · have T0 : ((t.size : Int) == 0) = true := by rw [beq_iff_eq]; omega
      have D0 := Lib.hid t0
      have bn : ((b : Int)).toNat = b := by omega
      clear t0 hb
      go_enter Try.func27, Try.ntmps27
      go_wp2_with fail
      go_quiet (first | (go_at_call 23; exact Calls.quiet_of_same ((rbits b FB.out _).mono fun _ _ hh => ⟨hh.1, hh.2.symm⟩)))
      go_wp2_with fail
      go_ret
      refine ⟨ret_bool ?_, below_drewN B0.out _⟩
      rw [R.out, decide_eq_true D0.out, Bool.true_and, Bool.eq_iff_iff, beq_iff_eq, decide_eq_true_eq]
      omega
    · have T0 : ((t.size : Int) == 0) = false := by rw [beq_eq_false_iff_ne]; omega
      have D0 := Lib.hid t0
      clear t0 hb
      go_enter Try.func27, Try.ntmps27
      go_wp2_with fail
      go_quiet (fail)
      go_wp2_with fail
      go_ret
      refine ⟨ret_bool ?_, below_drewN B0.out _⟩
      rw [R.out, decide_eq_false D0.out]; rfl

theorem vtmp_new {w w2 : World} {o : Obj} {v : Value} {t : TypeId} (hb : Below ((w.alloc o).alloc (.cells #[v] t)).drew.heap.size ((w.alloc o).alloc (.cells #[v] t)).drew w2) : w2.cell? ⟨w.heap.size + 1, 0, none⟩ = some v :=
  vbelow_cellOf hb (vcell_new2 w o v t) (Nat.le_refl _)
theorem bel_call4 {w w2 : World} (hb : Below w.drew.heap.size w.drew w2) : Below w.heap.size w w2 := ⟨hb.os, hb.tape, hb.output, hb.size, hb.block⟩

end Go.Proofs.Ytoljhoabbaigdaa
