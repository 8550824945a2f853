/- What each function of layer 1 and of its reference answers, walked: those that compute with numbers alone. -/
import Derived.Test.YtoljhoabbaigdaaProg
import Derived.Test.YtoljhoabbaigdaaNum
import Derived.Test.YtoljhoabbaigdaaSl
import Derived.WalkKit
import Derived.WalkLawsBesides
import Derived.Laws.Externs
import Derived.Handy
import Derived.Lib.Hide
import Derived.KernelRfl
namespace Go.Proofs.Ytoljhoabbaigdaa
open Go.RowKit

theorem ret_fl {a b : Nat} (h : a = b) : Ending.returned (.float .f64 a) = .returned (.float .f64 b) := by rw [h]
theorem fcmp (a b : Nat) : FloatKind.f64.format.order a b = Ieee.double.order a b := rfl

@[go_sem] theorem run_bits (b : Nat) (w : World) : (callFunc 18 #[.float .f64 b]).run Try.prog w = .ok (.value (.int .u64 b)) w := by
  rw [run_callFunc_extern Try.func18 (by kernel_rfl) (by kernel_rfl) (by kernel_rfl) (e := Extern.MathFloatBits.float64bits) (by kernel_rfl)]
  rfl
@[go_sem] theorem run_from (n : Int) (w : World) : (callFunc 20 #[.int .u64 n]).run Try.prog w = .ok (.value (.float .f64 n.toNat)) w := by
  rw [run_callFunc_extern Try.func20 (by kernel_rfl) (by kernel_rfl) (by kernel_rfl) (e := Extern.MathFloatBits.float64frombits) (by kernel_rfl)]
  rfl

@[go_sem] theorem run_negf (b : Nat) (w : World) : (Op.unary .neg (.float .f64 b)).run Try.prog w = .ok (.float .f64 (Op.negFloat .f64 b)) w := rfl

/-- math.IsNaN -/
theorem isnan (b : Nat) (w : World) : Calls Try.prog 33 #[.float .f64 b] w fun e w' => e = .returned (.bool (Fl.nanB b)) ∧ w = w' := by
  have H := Lib.hid (Fl.order_self b)
  go_enter Try.func33, Try.ntmps33
  go_wp2
  go_ret
  exact ⟨ret_bool H.out, rfl⟩

theorem ret_parts {a a' : Bool} {b b' c c' : Int} (h1 : a = a') (h2 : b = b') (h3 : c = c') : Ending.returned (.tuple #[.bool a, .int .u64 b, .int .u64 c]) = .returned (.tuple #[.bool a', .int .u64 b', .int .u64 c']) := by rw [h1, h2, h3]

def eOf (b : Nat) : Nat := b / 4503599627370496 % 2048
def fOf (b : Nat) : Nat := b % 4503599627370496

/-- cloisonneref01.Parts -/
theorem parts (b : Nat) (hb : Fl.Fits b) (w : World) : Calls Try.prog 30 #[.float .f64 b] w fun e w' => e = .returned (.tuple #[.bool (Fl.neg b), .int .u64 (eOf b : Nat), .int .u64 (fOf b : Nat)]) ∧ w = w' := by
  have H := Lib.hid (Fl.neg_iff hb)
  have g1 := hb.lt
  have H1 := Lib.hid hb.lt
  have k1 : 0 ≤ (b : Int) / 4503599627370496 := by omega
  have k2 : (b : Int) / 4503599627370496 ≤ 4095 := by omega
  clear hb g1
  go_enter Try.func30, Try.ntmps30
  go_wp2
  go_ret3
  refine ⟨ret_parts ?_ ?_ ?_, rfl⟩
  · rw [H.out, Bool.eq_iff_iff]; simp; omega
  · unfold eOf; omega
  · unfold fOf; omega

/-- cloisonneref01.NaN -/
theorem rnan (b : Nat) (hb : Fl.Fits b) (w : World) : Calls Try.prog 31 #[.float .f64 b] w fun e w' => e = .returned (.bool (Fl.nanB b)) ∧ w = w' := by
  have hq : Fl.nanB b = (decide (eOf b = 2047) && decide (0 < fOf b)) := by
    have := hb.lt
    rw [Fl.nanB_iff, Bool.eq_iff_iff]; unfold eOf fOf; simp; omega
  have H := Lib.hid hq
  clear hq
  go_enter Try.func31, Try.ntmps31
  go_wp2_with fail
  refine (parts b hb _).mono ?_
  rintro e w' ⟨rfl, rfl⟩
  go_wp2
  all_goals (go_ret; refine ⟨ret_bool ?_, rfl⟩; rw [H.out, Bool.eq_iff_iff]; simp; omega)

theorem cls_ef (b : Nat) (hb : Fl.Fits b) : Fl.cls b = if eOf b = 2047 ∧ 0 < fOf b then 0 else if Fl.neg b then 9 - (if eOf b = 2047 then 8 else if eOf b = 0 ∧ fOf b = 0 then 5 else if eOf b = 0 then 6 else 7) else (if eOf b = 2047 then 8 else if eOf b = 0 ∧ fOf b = 0 then 5 else if eOf b = 0 then 6 else 7) := by
  have h1 := hb.lt
  have hq : Fl.ucr (b % Fl.S63) = (if eOf b = 2047 then 8 else if eOf b = 0 ∧ fOf b = 0 then 5 else if eOf b = 0 then 6 else 7) ∨ (eOf b = 2047 ∧ 0 < fOf b) := by
    unfold Fl.ucr eOf fOf; rw [Fl.S63_eq, Fl.S52_eq, Fl.INF_eq]
    by_cases h : b / 4503599627370496 % 2048 = 2047 ∧ 0 < b % 4503599627370496
    · exact Or.inr h
    · left; (repeat' split) <;> first | rfl | omega
  have hn : Fl.nanB b = decide (eOf b = 2047 ∧ 0 < fOf b) := by
    rw [Fl.nanB_iff, Bool.eq_iff_iff]; unfold eOf fOf; simp; omega
  unfold Fl.cls
  rw [hn]
  by_cases h : eOf b = 2047 ∧ 0 < fOf b
  · simp [h]
  · rcases hq with hq | hq
    · rw [hq]; simp [h]
    · exact absurd hq h

/-- cloisonneref01.Class -/
theorem rclass (b : Nat) (hb : Fl.Fits b) (w : World) : Calls Try.prog 32 #[.float .f64 b] w fun e w' => e = .returned (.int .i64 (Fl.cls b)) ∧ w = w' := by
  have H := Lib.hid (cls_ef b hb)
  have G := Lib.hid hb
  clear hb
  cases hs : Fl.neg b
  all_goals
    have GS := Lib.hid hs
    clear hs
    go_enter Try.func32, Try.ntmps32
    go_wp2_with fail
    refine (parts b G.out _).mono ?_
    rintro e w' ⟨rfl, rfl⟩
    rw [GS.out]
    go_wp2
    all_goals (go_ret; refine ⟨ret_int ?_, rfl⟩; rw [H.out, GS.out]; simp only [if_true, Bool.false_eq_true, if_false]; (try simp only [beq_eq_false_iff_ne, beq_iff_eq, ne_eq] at *); (repeat' split) <;> first | rfl | omega)

/-- num.Bits -/
theorem nbits (b : Nat) (w : World) : Calls Try.prog 24 #[.float .f64 b] w fun e w' => e = .returned (.int .u64 (Fl.bitsOf b : Nat)) ∧ w = w' := by
  cases hn : Fl.nanB b
  all_goals
    have G := Lib.hid hn
    clear hn
    go_enter Try.func24, Try.ntmps24
    go_wp2_with fail
    refine (isnan b _).mono ?_
    rintro e w' ⟨rfl, rfl⟩
    rw [G.out]
    go_wp2
    go_ret
    exact ⟨ret_int (by unfold Fl.bitsOf; rw [G.out]; rfl), rfl⟩

/-- cloisonneref01.Bits -/
theorem rbits (b : Nat) (hb : Fl.Fits b) (w : World) : Calls Try.prog 23 #[.float .f64 b] w fun e w' => e = .returned (.int .u64 (Fl.bitsOf b : Nat)) ∧ w = w' := by
  cases hn : Fl.nanB b
  all_goals
    have G := Lib.hid hn
    clear hn
    go_enter Try.func23, Try.ntmps23
    go_wp2_with fail
    refine (rnan b hb _).mono ?_
    rintro e w' ⟨rfl, rfl⟩
    rw [G.out]
    go_wp2
    go_ret
    exact ⟨ret_int (by unfold Fl.bitsOf; rw [G.out]; rfl), rfl⟩

/-- num.From -/
theorem nfrom (n : Int) (w : World) : Calls Try.prog 37 #[.int .u64 n] w fun e w' => e = .returned (.float .f64 (Fl.bitsOf n.toNat)) ∧ w = w' := by
  cases hn : Fl.nanB n.toNat
  all_goals
    have G := Lib.hid hn
    clear hn
    go_enter Try.func37, Try.ntmps37
    go_wp2_with fail
    refine (isnan n.toNat _).mono ?_
    rintro e w' ⟨rfl, rfl⟩
    rw [G.out]
    go_wp2
    go_ret
    exact ⟨ret_fl (by unfold Fl.bitsOf; rw [G.out]; rfl), rfl⟩

/-- num.Place -/
theorem nplace (b : Nat) (hb : Fl.Fits b) (w : World) : Calls Try.prog 35 #[.float .f64 b] w fun e w' => e = .returned (.int .u64 (Fl.place b : Nat)) ∧ w = w' := by
  have h1 := hb.lt
  have hc : Fl.place b = if Fl.bitsOf b = 9221120237041090561 then 18437736874454810626 else if 9223372036854775808 ≤ Fl.bitsOf b then 9218868437227405312 - (Fl.bitsOf b - 9223372036854775808) else 9218868437227405313 + Fl.bitsOf b := by
    unfold Fl.place Fl.bitsOf Fl.NANP Fl.NANB
    rw [Fl.neg_iff hb, Fl.INF_eq, Fl.S63_eq]
    by_cases hn : Fl.nanB b = true
    · simp [hn]
    · rw [if_neg hn, if_neg hn]
      rw [Fl.nanB_iff] at hn
      simp at hn ⊢
      (repeat' split) <;> omega
  have hq : Fl.bitsOf b ≤ 18442240474082181120 ∨ 9223372036854775808 > Fl.bitsOf b := by
    unfold Fl.bitsOf Fl.NANB
    by_cases hn : Fl.nanB b = true
    · simp [hn]
    · rw [if_neg hn]; rw [Fl.nanB_iff] at hn; simp at hn; omega
  have hq2 : Fl.bitsOf b = 9221120237041090561 ∨ 9218868437227405312 ≥ Fl.bitsOf b ∨ 9223372036854775808 ≤ Fl.bitsOf b := by
    unfold Fl.bitsOf Fl.NANB
    by_cases hn : Fl.nanB b = true
    · simp [hn]
    · rw [if_neg hn]; rw [Fl.nanB_iff] at hn; simp at hn; omega
  generalize hcb : Fl.bitsOf b = c at *
  have H := Lib.hid hc
  have H2 := Lib.hid hq
  have H3 := Lib.hid hq2
  have H4 := Lib.hid hcb
  clear hc hq hq2 h1 hb hcb
  by_cases t1 : c = 9221120237041090561
  · have T1 : ((c : Int) == 9221120237041090561) = true := by simp; omega
    have G1 := Lib.hid t1
    clear t1
    go_enter Try.func35, Try.ntmps35
    go_wp2_with fail
    refine (nbits b _).mono ?_
    rintro e w' ⟨rfl, rfl⟩
    rw [H4.out]
    go_wp2
    go_ret
    refine ⟨ret_int ?_, rfl⟩
    rw [H.out, if_pos G1.out]; rfl
  · have T1 : ((c : Int) == 9221120237041090561) = false := by simp; omega
    have G1 := Lib.hid t1
    clear t1
    by_cases t2 : 9223372036854775808 ≤ c
    · have T2 : decide ((9223372036854775808 : Int) ≤ c) = true := by simp; omega
      have G2 := Lib.hid t2
      clear t2
      go_enter Try.func35, Try.ntmps35
      go_wp2_with fail
      refine (nbits b _).mono ?_
      rintro e w' ⟨rfl, rfl⟩
      rw [H4.out]
      go_wp2
      go_ret
      refine ⟨ret_int ?_, rfl⟩
      rw [H.out, if_neg G1.out, if_pos G2.out]
      have g1 := G2.out
      have g2 := H2.out
      clear H H2 H3 H4 T1 T2 G1 G2
      simp only [IntKind.wrap_u64]; omega
    · have T2 : decide ((9223372036854775808 : Int) ≤ c) = false := by simp; omega
      have G2 := Lib.hid t2
      clear t2
      go_enter Try.func35, Try.ntmps35
      go_wp2_with fail
      refine (nbits b _).mono ?_
      rintro e w' ⟨rfl, rfl⟩
      rw [H4.out]
      go_wp2
      go_ret
      refine ⟨ret_int ?_, rfl⟩
      rw [H.out, if_neg G1.out, if_neg G2.out]
      have g0 := G1.out
      have g1 := G2.out
      have g2 := H2.out
      have g3 := H3.out
      clear H H2 H3 H4 T1 T2 G1 G2
      simp only [IntKind.wrap_u64]; omega

end Go.Proofs.Ytoljhoabbaigdaa
