/- wire.errorOf, and what wire.read defers: walked. -/
import Derived.Test.YtmcackghpkegbaaTk
import Derived.Defers
import Derived.Recover
import Derived.Outline
namespace Go.Proofs.Ytmcackghpkegbaa
open Go.RowKit

set_option maxRecDepth 100000 in
theorem lerrorOf_nil (w : World) : Calls Try.prog 41 #[.nilIface] w fun e w' => e = .returned (.int .i64 0) ∧ w = w' := by
  go_enter Try.func41, Try.ntmps41
  go_wp2_with fail
  go_ret
  exact ⟨rfl, rfl⟩

set_option maxRecDepth 100000 in
theorem lerrorOf (c : Int) (w : World) : Calls Try.prog 41 #[.iface 85 (.int .i64 c)] w fun e w' => e = .returned (.int .i64 c) ∧ w = w' := by
  have hta : ∀ w, (Instr.typeAssert (.iface 85 (.int .i64 c)) 20 85 true).run Try.prog w = .ok (.tuple #[.int .i64 c, .bool true]) w := fun w => by kernel_rfl
  go_enter Try.func41, Try.ntmps41
  go_wp2_with fail
  go_ret
  exact ⟨rfl, rfl⟩

set_option maxRecDepth 100000 in
/-- what wire.read defers, in a frame that panics by a fault -/
theorem catch_panic (p : Addr) (x c : Int) (w : World) (hc : w.cell? p = some (.int .i64 x)) (hz : w.frozen? p = false) :
    CallsD Try.prog 40 #[.pointer (some p)] (.panicking (fault c)) w fun e u' w' =>
      e = .returned (.tuple #[]) ∧ u' = .panicking [{ v := .iface 85 (.int .i64 c), recovered := true }] ∧ w' = w.setCell p (.int .i64 c) := by
  have C := Lib.hid (lerrorOf c w)
  refine callsD_of_wpS Try.func40 rfl fun c₀ cs hu => ?_
  unfold fault at hu

  apply wpS_region
  simp [wpOpsS, go_sem, recoverD, hu, Try.ntmps40]
  refine C.out.mono ?_
  rintro e w' ⟨rfl, rfl⟩
  simp [go_sem, hc, hz, bodyPostS, results, Try.results40]

set_option maxRecDepth 100000 in
/-- .. in a frame that returns -/
theorem catch_idle (p : Addr) (x : Int) (w : World) (hc : w.cell? p = some (.int .i64 x)) (hz : w.frozen? p = false) :
    CallsD Try.prog 40 #[.pointer (some p)] .returning w fun e u' w' => e = .returned (.tuple #[]) ∧ u' = .returning ∧ w' = w.setCell p (.int .i64 0) := by
  have C := Lib.hid (lerrorOf_nil w)
  refine callsD_of_wpS Try.func40 rfl fun c₀ cs hu => ?_
  apply wpS_region
  simp [wpOpsS, go_sem, recoverD, hu, Try.ntmps40]
  refine C.out.mono ?_
  rintro e w' ⟨rfl, rfl⟩
  cases c₀
  simp_all [go_sem, bodyPostS, results, Try.results40]

end Go.Proofs.Ytmcackghpkegbaa
