/- cloisonneref14: Floor, walked. -/
import Derived.Test.YtjahaegdmfgmgaaDoorG1r
namespace Go.Proofs.YtjahaegdmfgmgaaDoor
open Go.RowKit Ex Fl

theorem pow_u64 {k : Nat} (h : k ≤ 62) : 2 ^ k ≤ 4611686018427387904 := Nat.le_trans (Nat.pow_le_pow_right (by decide) h) (by decide)
theorem sub_one {y : Nat} (h : y % S63 < INF) : Ieee.double.sub y ONE = some (less1 y) := by
  obtain ⟨m, k, hrd, _⟩ := read_num y h
  unfold less1
  have : ∃ r, Ieee.double.sub y ONE = some r := by
    unfold Ieee.Format.sub
    rw [hrd, read_ONE]
    exact ⟨_, rfl⟩
  obtain ⟨r, e⟩ := this
  rw [e]; rfl
set_option maxRecDepth 100000 in
set_option maxHeartbeats 1000000 in
/-- Floor -/
theorem rFloor (a : Nat) (ha : Fits a) (w : World) : Calls Tryd.prog 33 #[.float .f64 a] w fun e w' => e = .returned (.float .f64 (floorB a)) ∧ w = w' := by
  have hr := rung_eq ha
  have hF : F a < 4503599627370496 := by unfold F; omega
  have hE : E a < 2048 := by unfold E; omega
  have hlt := ha.lt
  have hne := neg_iff ha
  have e1 : (FloatKind.f64.format.order a 0 == some Ordering.eq) = decide (a % S63 = 0) := by
    show (Ieee.double.order a 0 == some Ordering.eq) = _
    cases hn : nanB a
    · have hm : ¬ INF < a % S63 := by unfold nanB at hn; simpa using hn
      rw [order_eq a 0 hm (by rw [INF_eq, S63_eq]; decide), show rank 0 = 0 by decide]
      unfold rank
      rw [Int.compare_eq_ite_lt, Bool.eq_iff_iff]
      generalize a % S63 = q at *
      cases neg a <;> simp <;> (repeat' split) <;> simp <;> omega
    · have hm : INF < a % S63 := by unfold nanB at hn; simpa using hn
      rw [order_nan_left a 0 hm]
      rw [INF_eq] at hm
      rw [Bool.eq_iff_iff]
      simp; omega
  have HFL := Lib.hid (show floorB a = if a % S63 = 0 ∨ 1075 ≤ E a then a else if E a < 1023 then (if neg a then MONE else 0) else if Fl.part a = 0 then a else if neg a then less1 (a - Fl.part a) else a - Fl.part a from rfl)
  have ee : ((a : Int) / 4503599627370496) % 2048 = (E a : Int) := by unfold E; omega
  have k1 : 0 ≤ (a : Int) / 4503599627370496 := by omega
  have k2 : (a : Int) / 4503599627370496 ≤ 4095 := by omega
  have NEG := Lib.hid (show decide ((9223372036854775808 : Int) ≤ (a : Int)) = neg a by rw [hne, Bool.eq_iff_iff]; simp; omega)
  by_cases q1 : a % S63 = 0 ∨ 1075 ≤ E a
  · have HY : floorB a = a := by rw [HFL.out, if_pos q1]
    rw [HY]
    have q2 : decide (a % S63 = 0) = true ∨ (decide (a % S63 = 0) = false ∧ 1075 ≤ E a) := by
      by_cases q3 : a % S63 = 0
      · exact .inl (decide_eq_true q3)
      · exact .inr ⟨decide_eq_false q3, by omega⟩
    rcases q2 with q2 | ⟨q2, q3⟩
    · rw [q2] at e1
      clear hr hF hE hlt hne q1 HY q2
      go_enter Tryd.func33, Tryd.ntmps33
      go_wp2
      go_ret
      exact ⟨rfl, rfl⟩
    · rw [q2] at e1
      have q4 : decide ((1075 : Int) ≤ (E a : Int)) = true := by simp; omega
      clear hr hF hE hlt hne q1 HY q2 q3
      go_enter Tryd.func33, Tryd.ntmps33
      go_wp2
      all_goals go_ret
      all_goals exact ⟨rfl, rfl⟩
  have d1 : decide (a % S63 = 0) = false := decide_eq_false (fun h => q1 (.inl h))
  have d2 : ¬ 1075 ≤ E a := fun h => q1 (.inr h)
  rw [d1] at e1
  obtain ⟨Ea, hEa⟩ : ∃ Ea, Ea = E a := ⟨_, rfl⟩
  have HY1 : floorB a = if Ea < 1023 then (if neg a then MONE else 0) else if Fl.part a = 0 then a else if neg a then less1 (a - Fl.part a) else a - Fl.part a := by rw [hEa, HFL.out, if_neg q1]
  rw [← hEa] at ee d2
  have d3 : decide ((1075 : Int) ≤ (Ea : Int)) = false := by simp; omega
  by_cases q3 : Ea < 1023
  · have HY2 := Lib.hid (show floorB a = if neg a then MONE else 0 by rw [HY1, if_pos q3])
    cases hn : neg a
    all_goals
      rw [hn] at NEG HY2
      have neg2 := NEG.out
      clear hr hF hE hlt hne q1 HY1 hn hEa HFL NEG d1 d2
      go_enter Tryd.func33, Tryd.ntmps33
      go_wp2
      go_ret
      exact ⟨ret_fl HY2.out.symm, rfl⟩
  · obtain ⟨P, hP⟩ : ∃ P, P = 2 ^ (1075 - Ea) := ⟨_, rfl⟩
    obtain ⟨PT, hPT⟩ : ∃ PT, PT = Fl.part a := ⟨_, rfl⟩
    obtain ⟨Y, hY⟩ : ∃ Y, Y = a - PT := ⟨_, rfl⟩
    have pt1 : PT = a % P := by rw [hPT, hP]; unfold Fl.part; rw [← hEa]
    have ple : PT ≤ F a := by
      rw [pt1, hP, mod_pow_sub a (show 1075 - Ea ≤ 52 by omega)]
      obtain ⟨k, k1', k2', k3'⟩ := pow_half (show 1075 - Ea ≤ 52 by omega)
      have k1'' : 4503599627370496 = k * 2 ^ (1075 - Ea) := k1'
      rw [show M a = F a + 2 ^ (1075 - Ea) * k by unfold M; rw [k1'', Nat.mul_comm k], Nat.add_mul_mod_self_left]
      exact Nat.mod_le _ _
    have yl : Y % S63 < INF := by rw [INF_eq, S63_eq]; rw [S63_eq] at hr; omega
    have EEH := Lib.hid ee
    have pp : 0 < P := by rw [hP]; exact Nat.two_pow_pos _
    have m1 : (a : Int) % (P : Int) = (PT : Int) := by rw [pt1]; omega
    have m2 : IntKind.u64.wrap ((a : Int) - (PT : Int)) = (Y : Int) := by rw [IntKind.wrap_u64]; omega
    have pz : ((P : Int) == 0) = false := by simp; omega
    have pz2 : ¬ (P : Int) = 0 := by omega
    have HY2 := Lib.hid (show floorB a = if PT = 0 then a else if neg a then less1 Y else Y by rw [HY1, if_neg q3, hY, hPT])
    have RUN : ∀ w : World, (binOp .sub 25 (.float .f64 Y) (.float .f64 4607182418800017408)).run Tryd.prog w = .ok (.float .f64 (less1 Y)) w := fun w => run_float_arith w .sub 25 .f64 Y 4607182418800017408 (less1 Y) (sub_one yl)
    have d4 : decide ((Ea : Int) < 1023) = false := by simp; omega
    have E3 := Lib.hid (show 1023 ≤ Ea ∧ Ea ≤ 1075 by omega)
    have HP := Lib.hid hP
    obtain ⟨NG, hNG⟩ : ∃ NG, NG = neg a := ⟨_, rfl⟩
    rw [← hNG] at NEG HY2
    have neg2 := NEG.out
    clear hr hF hE hlt hne q1 HY1 hEa HFL d1 d2 ha q3 hP hPT hY pt1 ple yl pp hNG NEG
    go_enter Tryd.func33, Tryd.ntmps33
    go_wp2_with fail
    go_loopw [6, 7] (fun vl vi wr => wr = w ∧ ∃ i L : Nat, Ea ≤ i ∧ i ≤ 1075 ∧ vl = .int .u64 (L : Int) ∧ vi = .int .u64 i ∧ Hid (L = 2 ^ (i - Ea))) (fun _ vi _ => 1075 - (intOf vi).toNat)
    case atStart => exact ⟨rfl, Ea, 1, Nat.le_refl _, E3.out.2, rfl, congrArg (Value.int .u64) EEH.out, Lib.hid (by rw [Nat.sub_self])⟩
    case round =>
      obtain ⟨rfl, i, L, h1, h2, rfl, rfl, HL⟩ := hrel
      by_cases q : i < 1075
      · have l1 : L ≤ 4611686018427387904 := by rw [HL.out]; exact pow_u64 (by have := E3.out; omega)
        have w1 : IntKind.u64.wrap (2 * (L : Int)) = ((2 * L : Nat) : Int) := by rw [IntKind.wrap_u64]; omega
        have HL2 := Lib.hid (show 2 * L = 2 ^ (i + 1 - Ea) by rw [HL.out, show i + 1 - Ea = (i - Ea) + 1 by omega, Nat.pow_succ, Nat.mul_comm])
        obtain ⟨L2, hL2⟩ : ∃ L2, L2 = 2 * L := ⟨_, rfl⟩
        rw [← hL2] at HL2 w1
        have w2 : IntKind.u64.wrap ((i : Int) + 1) = ((i + 1 : Nat) : Int) := by rw [IntKind.wrap_u64]; omega
        clear hL2
        go_wp2_with fail
        go_roundw
        case rel => exact ⟨trivial, i + 1, L2, by omega, by omega, rfl, by first | rfl | go_num, HL2⟩
        case measure => simp [intOf]; omega
      · obtain rfl : i = 1075 := by omega
        obtain rfl : L = P := by rw [HL.out, HP.out]
        by_cases z : PT = 0
        · have HY3 := Lib.hid (show floorB a = a by rw [HY2.out, if_pos z])
          have z2 : ((PT : Int) == 0) = true := by simp; omega
          clear z
          go_wp2_with fail
          go_ret
          exact ⟨ret_fl HY3.out.symm, rfl⟩
        · have z2 : ((PT : Int) == 0) = false := by simp; omega
          have HY3 := Lib.hid (show floorB a = if NG then less1 Y else Y by rw [HY2.out, if_neg z])
          clear z
          cases NG
          · go_wp2_with fail
            go_ret
            exact ⟨ret_fl HY3.out.symm, rfl⟩
          · go_wp2_with fail
            go_ret
            exact ⟨ret_fl HY3.out.symm, rfl⟩

end Go.Proofs.YtjahaegdmfgmgaaDoor
