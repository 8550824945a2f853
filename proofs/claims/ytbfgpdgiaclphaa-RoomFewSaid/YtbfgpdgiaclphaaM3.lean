/- Proved parts: Wk. Conditions: each theorem's own. -/
import Derived.Test.YtbfgpdgiaclphaaM1
import Derived.Test.YtbfgpdgiaclphaaM2
import Derived.Test.YtbfgpdgiaclphaaProg
import Derived.WalkKit
import Derived.WalkLawsBesides
import Derived.Laws.Externs
import Derived.Handy
import Derived.Lib.Hide
import Derived.KernelRfl
namespace Go.Proofs.Ytbfgpdgiaclphaa
open Go.RowKit

theorem ret_fl {a b : Nat} (h : a = b) : Ending.returned (.float .f64 a) = .returned (.float .f64 b) := by rw [h]
@[go_sem] theorem run_bits (b : Nat) (w : World) : (callFunc 78 #[.float .f64 b]).run Try.prog w = .ok (.value (.int .u64 b)) w := by
  rw [run_callFunc_extern Try.func78 (by kernel_rfl) (by kernel_rfl) (by kernel_rfl) (e := Extern.MathFloatBits.float64bits) (by kernel_rfl)]
  rfl
@[go_sem] theorem run_from (n : Int) (w : World) : (callFunc 79 #[.int .u64 n]).run Try.prog w = .ok (.value (.float .f64 n.toNat)) w := by
  rw [run_callFunc_extern Try.func79 (by kernel_rfl) (by kernel_rfl) (by kernel_rfl) (e := Extern.MathFloatBits.float64frombits) (by kernel_rfl)]
  rfl

@[go_sem] theorem run_negf (b : Nat) (w : World) : (Op.unary .neg (.float .f64 b)).run Try.prog w = .ok (.float .f64 (Op.negFloat .f64 b)) w := rfl

/-- math.IsNaN -/
theorem isnan (b : Nat) (w : World) : Calls Try.prog 77 #[.float .f64 b] w fun e w' => e = .returned (.bool (Fl.nanB b)) ∧ w = w' := by
  have H := Lib.hid (Fl.order_self b)
  go_enter Try.func77, Try.ntmps77
  go_wp2
  go_ret
  exact ⟨ret_bool H.out, rfl⟩

/-- num.Bits -/
theorem nbits (b : Nat) (w : World) : Calls Try.prog 56 #[.float .f64 b] w fun e w' => e = .returned (.int .u64 (Fl.bitsOf b : Nat)) ∧ w = w' := by
  cases hn : Fl.nanB b
  all_goals
    have G := Lib.hid hn
    clear hn
    go_enter Try.func56, Try.ntmps56
    go_wp2_with fail
    refine (isnan b _).mono ?_
    rintro e w' ⟨rfl, rfl⟩
    rw [G.out]
    go_wp2
    go_ret
    exact ⟨ret_int (by unfold Fl.bitsOf; rw [G.out]; rfl), rfl⟩

/-- num.From -/
theorem nfrom (n : Int) (w : World) : Calls Try.prog 57 #[.int .u64 n] w fun e w' => e = .returned (.float .f64 (Fl.bitsOf n.toNat)) ∧ w = w' := by
  cases hn : Fl.nanB n.toNat
  all_goals
    have G := Lib.hid hn
    clear hn
    go_enter Try.func57, Try.ntmps57
    go_wp2_with fail
    refine (isnan n.toNat _).mono ?_
    rintro e w' ⟨rfl, rfl⟩
    rw [G.out]
    go_wp2
    go_ret
    exact ⟨ret_fl (by unfold Fl.bitsOf; rw [G.out]; rfl), rfl⟩

/-- num.Place -/
theorem nplace (b : Nat) (hb : Fl.Fits b) (w : World) : Calls Try.prog 98 #[.float .f64 b] w fun e w' => e = .returned (.int .u64 (Fl.place b : Nat)) ∧ w = w' := by
  have h1 := hb.lt
  have hc : Fl.place b = if Fl.bitsOf b = 9221120237041090561 then 18437736874454810626 else if 9223372036854775808 ≤ Fl.bitsOf b then 9218868437227405312 - (Fl.bitsOf b - 9223372036854775808) else 9218868437227405313 + Fl.bitsOf b := by
    unfold Fl.place Fl.bitsOf Fl.NANP Fl.NANB
    rw [Fl.neg_iff hb, Fl.INF_eq, Fl.S63_eq]
    by_cases hn : Fl.nanB b = true
    · simp [hn]
    · rw [if_neg hn, if_neg hn]
      rw [Fl.nanB_iff] at hn
      simp at hn ⊢
      (repeat' split) <;> omega
  have hq : Fl.bitsOf b ≤ 18442240474082181120 ∨ 9223372036854775808 > Fl.bitsOf b := by
    unfold Fl.bitsOf Fl.NANB
    by_cases hn : Fl.nanB b = true
    · simp [hn]
    · rw [if_neg hn]; rw [Fl.nanB_iff] at hn; simp at hn; omega
  have hq2 : Fl.bitsOf b = 9221120237041090561 ∨ 9218868437227405312 ≥ Fl.bitsOf b ∨ 9223372036854775808 ≤ Fl.bitsOf b := by
    unfold Fl.bitsOf Fl.NANB
    by_cases hn : Fl.nanB b = true
    · simp [hn]
    · rw [if_neg hn]; rw [Fl.nanB_iff] at hn; simp at hn; omega
  generalize hcb : Fl.bitsOf b = c at *
  have H := Lib.hid hc
  have H2 := Lib.hid hq
  have H3 := Lib.hid hq2
  have H4 := Lib.hid hcb
  clear hc hq hq2 h1 hb hcb
  by_cases t1 : c = 9221120237041090561
  · have T1 : ((c : Int) == 9221120237041090561) = true := by simp; omega
    have G1 := Lib.hid t1
    clear t1
    go_enter Try.func98, Try.ntmps98
    go_wp2_with fail
    refine (nbits b _).mono ?_
    rintro e w' ⟨rfl, rfl⟩
    rw [H4.out]
    go_wp2
    go_ret
    refine ⟨ret_int ?_, rfl⟩
    rw [H.out, if_pos G1.out]; rfl
  · have T1 : ((c : Int) == 9221120237041090561) = false := by simp; omega
    have G1 := Lib.hid t1
    clear t1
    by_cases t2 : 9223372036854775808 ≤ c
    · have T2 : decide ((9223372036854775808 : Int) ≤ c) = true := by simp; omega
      have G2 := Lib.hid t2
      clear t2
      go_enter Try.func98, Try.ntmps98
      go_wp2_with fail
      refine (nbits b _).mono ?_
      rintro e w' ⟨rfl, rfl⟩
      rw [H4.out]
      go_wp2
      go_ret
      refine ⟨ret_int ?_, rfl⟩
      rw [H.out, if_neg G1.out, if_pos G2.out]
      have g1 := G2.out
      have g2 := H2.out
      clear H H2 H3 H4 T1 T2 G1 G2
      simp only [IntKind.wrap_u64]; omega
    · have T2 : decide ((9223372036854775808 : Int) ≤ c) = false := by simp; omega
      have G2 := Lib.hid t2
      clear t2
      go_enter Try.func98, Try.ntmps98
      go_wp2_with fail
      refine (nbits b _).mono ?_
      rintro e w' ⟨rfl, rfl⟩
      rw [H4.out]
      go_wp2
      go_ret
      refine ⟨ret_int ?_, rfl⟩
      rw [H.out, if_neg G1.out, if_neg G2.out]
      have g0 := G1.out
      have g1 := G2.out
      have g2 := H2.out
      have g3 := H3.out
      clear H H2 H3 H4 T1 T2 G1 G2
      simp only [IntKind.wrap_u64]; omega

end Go.Proofs.Ytbfgpdgiaclphaa
