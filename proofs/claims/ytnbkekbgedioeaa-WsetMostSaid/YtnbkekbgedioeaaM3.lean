/- Proved parts: Wk. Conditions: each theorem's own. -/
import Derived.Test.YtnbkekbgedioeaaM1
import Derived.Test.YtnbkekbgedioeaaM2
import Derived.Test.YtnbkekbgedioeaaProg
import Derived.WalkKit
import Derived.WalkLawsBesides
import Derived.Laws.Externs
import Derived.Handy
import Derived.Lib.Hide
import Derived.KernelRfl
namespace Go.Proofs.Ytnbkekbgedioeaa
open Go.RowKit

theorem ret_fl {a b : Nat} (h : a = b) : Ending.returned (.float .f64 a) = .returned (.float .f64 b) := by rw [h]
@[go_sem] theorem run_bits (b : Nat) (w : World) : (callFunc 49 #[.float .f64 b]).run Try.prog w = .ok (.value (.int .u64 b)) w := by
  rw [run_callFunc_extern Try.func49 (by kernel_rfl) (by kernel_rfl) (by kernel_rfl) (e := Extern.MathFloatBits.float64bits) (by kernel_rfl)]
  rfl
@[go_sem] theorem run_from (n : Int) (w : World) : (callFunc 42 #[.int .u64 n]).run Try.prog w = .ok (.value (.float .f64 n.toNat)) w := by
  rw [run_callFunc_extern Try.func42 (by kernel_rfl) (by kernel_rfl) (by kernel_rfl) (e := Extern.MathFloatBits.float64frombits) (by kernel_rfl)]
  rfl

@[go_sem] theorem run_negf (b : Nat) (w : World) : (Op.unary .neg (.float .f64 b)).run Try.prog w = .ok (.float .f64 (Op.negFloat .f64 b)) w := rfl

/-- math.IsNaN -/
theorem isnan (b : Nat) (w : World) : Calls Try.prog 55 #[.float .f64 b] w fun e w' => e = .returned (.bool (Fl.nanB b)) ∧ w = w' := by
  have H := Lib.hid (Fl.order_self b)
  go_enter Try.func55, Try.ntmps55
  go_wp2
  go_ret
  exact ⟨ret_bool H.out, rfl⟩

theorem ret_parts {a a' : Bool} {b b' c c' : Int} (h1 : a = a') (h2 : b = b') (h3 : c = c') : Ending.returned (.tuple #[.bool a, .int .u64 b, .int .u64 c]) = .returned (.tuple #[.bool a', .int .u64 b', .int .u64 c']) := by rw [h1, h2, h3]

def eOf (b : Nat) : Nat := b / 4503599627370496 % 2048
def fOf (b : Nat) : Nat := b % 4503599627370496

/-- cloisonneref01.Parts -/
theorem parts (b : Nat) (hb : Fl.Fits b) (w : World) : Calls Try.prog 54 #[.float .f64 b] w fun e w' => e = .returned (.tuple #[.bool (Fl.neg b), .int .u64 (eOf b : Nat), .int .u64 (fOf b : Nat)]) ∧ w = w' := by
  have H := Lib.hid (Fl.neg_iff hb)
  have g1 := hb.lt
  have H1 := Lib.hid hb.lt
  have k1 : 0 ≤ (b : Int) / 4503599627370496 := by omega
  have k2 : (b : Int) / 4503599627370496 ≤ 4095 := by omega
  clear hb g1
  go_enter Try.func54, Try.ntmps54
  go_wp2
  go_ret3
  refine ⟨ret_parts ?_ ?_ ?_, rfl⟩
  · rw [H.out, Bool.eq_iff_iff]; simp; omega
  · unfold eOf; omega
  · unfold fOf; omega

/-- cloisonneref01.NaN -/
theorem rnan (b : Nat) (hb : Fl.Fits b) (w : World) : Calls Try.prog 48 #[.float .f64 b] w fun e w' => e = .returned (.bool (Fl.nanB b)) ∧ w = w' := by
  have hq : Fl.nanB b = (decide (eOf b = 2047) && decide (0 < fOf b)) := by
    have := hb.lt
    rw [Fl.nanB_iff, Bool.eq_iff_iff]; unfold eOf fOf; simp; omega
  have H := Lib.hid hq
  clear hq
  go_enter Try.func48, Try.ntmps48
  go_wp2_with fail
  refine (parts b hb _).mono ?_
  rintro e w' ⟨rfl, rfl⟩
  go_wp2
  all_goals (go_ret; refine ⟨ret_bool ?_, rfl⟩; rw [H.out, Bool.eq_iff_iff]; simp; omega)

/-- num.Bits -/
theorem nbits (b : Nat) (w : World) : Calls Try.prog 51 #[.float .f64 b] w fun e w' => e = .returned (.int .u64 (Fl.bitsOf b : Nat)) ∧ w = w' := by
  cases hn : Fl.nanB b
  all_goals
    have G := Lib.hid hn
    clear hn
    go_enter Try.func51, Try.ntmps51
    go_wp2_with fail
    refine (isnan b _).mono ?_
    rintro e w' ⟨rfl, rfl⟩
    rw [G.out]
    go_wp2
    go_ret
    exact ⟨ret_int (by unfold Fl.bitsOf; rw [G.out]; rfl), rfl⟩

/-- cloisonneref01.Bits -/
theorem rbits (b : Nat) (hb : Fl.Fits b) (w : World) : Calls Try.prog 41 #[.float .f64 b] w fun e w' => e = .returned (.int .u64 (Fl.bitsOf b : Nat)) ∧ w = w' := by
  cases hn : Fl.nanB b
  all_goals
    have G := Lib.hid hn
    clear hn
    go_enter Try.func41, Try.ntmps41
    go_wp2_with fail
    refine (rnan b hb _).mono ?_
    rintro e w' ⟨rfl, rfl⟩
    rw [G.out]
    go_wp2
    go_ret
    exact ⟨ret_int (by unfold Fl.bitsOf; rw [G.out]; rfl), rfl⟩

/-- num.From -/
theorem nfrom (n : Int) (w : World) : Calls Try.prog 52 #[.int .u64 n] w fun e w' => e = .returned (.float .f64 (Fl.bitsOf n.toNat)) ∧ w = w' := by
  cases hn : Fl.nanB n.toNat
  all_goals
    have G := Lib.hid hn
    clear hn
    go_enter Try.func52, Try.ntmps52
    go_wp2_with fail
    refine (isnan n.toNat _).mono ?_
    rintro e w' ⟨rfl, rfl⟩
    rw [G.out]
    go_wp2
    go_ret
    exact ⟨ret_fl (by unfold Fl.bitsOf; rw [G.out]; rfl), rfl⟩

end Go.Proofs.Ytnbkekbgedioeaa
