/- expr's functions of one and two numbers: walked. -/
import Derived.Test.YtoljhoabbaigdaaG1s
import Derived.Test.YtoljhoabbaigdaaWkb
import Derived.Deep.QuietTactic
import Derived.BigQuiet
import Derived.Laws.BitsAllLaws
namespace Go.Proofs.Ytoljhoabbaigdaa
open Go.RowKit Ex Fl

theorem wl_float {P : Program} (w : World) (op : BinOp) (t : TypeId) (a b : Nat) (h3 : op = .add ∨ op = .sub ∨ op = .mul ∨ op = .quo) :
    ∃ r w', (binOp op t (.float .f64 a) (.float .f64 b)).run P w = .ok (.float .f64 r) w' ∧ bitsOf r = fopB (floatBits op .f64 a b) ∧ (w' = w ∨ w' = w.drew) := by
  cases h : floatBits op .f64 a b with
  | some r => exact ⟨r, w, run_float_arith w op t .f64 a b r h, rfl, .inl rfl⟩
  | none =>
    have nan : ∀ t : Nat, bitsOf ((t % 2) * 2 ^ 63 + 0x7ff0000000000000 + 1 + (t / 2) % (2 ^ 52 - 1)) = NANB := by
      intro t
      unfold bitsOf
      rw [if_pos]
      rw [nanB_iff]
      have hr : t / 2 % (2 ^ 52 - 1) < 4503599627370495 := Nat.mod_lt _ (by decide)
      generalize t / 2 % (2 ^ 52 - 1) = r at *
      rcases Nat.mod_two_eq_zero_or_one t with e | e <;> rw [e] <;> simp <;> omega
    refine ⟨_, w.drew, ?_, nan (w.tape w.drawn (.nanBits .f64 a b)), .inr rfl⟩
    unfold floatBits at h
    rcases h3 with rfl | rfl | rfl | rfl <;> simp only at h <;> simp [binOp, Op.floatArith, h, Question.forced, Question.cut]

/-- math.Abs -/
theorem mabs (a : Nat) (ha : Fits a) (w : World) : Calls Try.prog 44 #[.float .f64 a] w fun e w' => e = .returned (.float .f64 (a % S63)) ∧ w = w' := by
  go_enter Try.func44, Try.ntmps44
  go_wp2
  go_ret
  refine ⟨ret_fl ?_, rfl⟩
  rw [show (9223372036854775808 : Int) = ((9223372036854775808 : Nat) : Int) from rfl, u64_andNot_nat a 9223372036854775808 ha.lt (by decide)]
  show a &&& (2 ^ 63 - 1) = _
  rw [Nat.and_two_pow_sub_one_eq_mod]
  rfl

theorem floor_num {b : Nat} (h : Fl.Fits b) (hn : Fl.nanB b = false) (w : World) : (Extern.MathFloor.toIntegral "math.archFloor" .down #[.float .f64 b]).run Try.prog w = .ok (.float .f64 (Fl.floorB b)) w := by
  have ht := Fl.floor_eq h hn
  have hd : FloatKind.f64.decode b = Ieee.double.read b := rfl
  conv => lhs; arg 2; whnf
  rw [hd]
  cases hr : Ieee.double.read b with
  | number s m e => rw [hr] at ht; exact congrArg (fun x => Result.ok (Value.float FloatKind.f64 x) w) ht
  | infinity s => rw [hr] at ht; exact congrArg (fun x => Result.ok (Value.float FloatKind.f64 x) w) ht
  | nan s t =>
    exfalso
    have hb : ¬ Fl.INF < b % Fl.S63 := by unfold Fl.nanB at hn; simpa using hn
    rcases Nat.lt_or_ge (b % Fl.S63) Fl.INF with h1 | h1
    · obtain ⟨m, k, r1, _⟩ := Fl.read_num b h1
      rw [r1] at hr; cases hr
    · rw [Fl.read_inf b (by omega)] at hr; cases hr
theorem floor_nan (w : World) : (Extern.MathFloor.toIntegral "math.archFloor" .down #[.float .f64 NANB]).run Try.prog w = .ok (.float .f64 NANB) w := by
  conv => lhs; arg 2; whnf
  rfl
theorem cmp_lt0 {x y : Nat} : decide (cmpI x y < 0) = decide (x < y) := by unfold cmpI; (repeat' split) <;> simp <;> omega
theorem cmp_gt0 {x y : Nat} : decide (0 < cmpI x y) = decide (y < x) := by unfold cmpI; (repeat' split) <;> simp <;> omega

/-- what ofTwo leaves -/
def TwoP (y : Nat) (w : World) (e : Ending) (w' : World) : Prop := (∃ r, e = .returned (.float .f64 r) ∧ bitsOf r = y) ∧ Below w.heap.size w w'
end Go.Proofs.Ytoljhoabbaigdaa
