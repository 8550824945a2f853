/- cloisonneref03.Count: walked. -/
import Derived.Test.YtmcackghpkegbaaQb
import Derived.Test.YtmcackghpkegbaaUi
namespace Go.Proofs.Ytmcackghpkegbaa
open Go.RowKit

def ctN (o : Rd Nat) : Int := match o with | .ok (n, _) => (n : Int) | .error _ => 0
def ctK (z : Nat) (o : Rd Nat) : Int := match o with | .ok (_, r) => ((z - r.length : Nat) : Int) | .error _ => 0
def ctE (o : Rd Nat) : Int := match o with | .ok _ => 0 | .error c => c
theorem ret_ct {z : Nat} {o : Rd Nat} {a b c : Int} (h1 : a = ctN o) (h2 : b = ctK z o) (h3 : c = ctE o) : Ending.returned (.tuple #[.int .u64 a, .int .i64 b, .int .i64 c]) = .returned (.tuple #[.int .u64 (ctN o), .int .i64 (ctK z o), .int .i64 (ctE o)]) := by rw [h1, h2, h3]
theorem ct_err {z : Nat} {o : Rd Nat} {c : Int} (h : o = .error c) : (0 : Int) = ctN o ∧ (0 : Int) = ctK z o ∧ c = ctE o := by subst h; exact ⟨rfl, rfl, rfl⟩
theorem p128_le {k : Nat} (h : k ≤ 8) : 128 ^ k ≤ 72057594037927936 := Nat.le_trans (Nat.pow_le_pow_right (by omega) h) (by decide)

set_option maxRecDepth 100000 in
set_option maxHeartbeats 1000000 in
/-- cloisonneref03.Count -/
theorem rCount (s : ByteArray) (w : World) (hs : s.size ≤ 1099511627776) : Calls Try.prog 27 #[.string s] w fun e w' => e = .returned (.tuple #[.int .u64 (ctN (rdNum 0 0 s.data.toList)), .int .i64 (ctK s.size (rdNum 0 0 s.data.toList)), .int .i64 (ctE (rdNum 0 0 s.data.toList))]) ∧ w = w' := by
  obtain ⟨O, hO⟩ : ∃ O, O = rdNum 0 0 s.data.toList := ⟨_, rfl⟩
  rw [← hO]
  have HO := Lib.hid hO
  clear hO
  go_enter Try.func27, Try.ntmps27
  go_wp2_with fail
  go_loop [5, 6, 7] (fun vn vs i => ∃ k n sc : Nat, k ≤ 10 ∧ k ≤ s.size ∧ i = .int .i64 k ∧ vn = .int .u64 n ∧ vs = .int .u64 sc ∧ Hid (k ≤ 9 → sc = 128 ^ k ∧ n < 128 ^ k) ∧ Hid (O = rdNum k n (s.data.toList.drop k))) (fun _ _ i => s.size - (intOf i).toNat)
  case atStart => exact ⟨0, 0, 1, by omega, Nat.zero_le _, rfl, rfl, rfl, Lib.hid (fun _ => ⟨rfl, by decide⟩), Lib.hid (by rw [HO.out]; rfl)⟩
  case round =>
    obtain ⟨k, n, sc, hk, hks, rfl, rfl, rfl, HP, HK⟩ := hrel
    by_cases hlt : k < s.size
    case neg =>
      have R := Lib.hid (ct_err (z := s.size) (show O = .error 3 by rw [HK.out, List.drop_of_length_le (by simp; omega)]; rfl))
      go_wp2_with fail
      go_ret3
      exact ⟨ret_ct R.out.1 R.out.2.1 R.out.2.2, rfl⟩
    have hdb := drop_byte s k hlt
    obtain ⟨c, hc⟩ : ∃ c, s[k] = c := ⟨_, rfl⟩
    rw [hc] at hdb
    have c256 : c.toNat < 256 := UInt8.toNat_lt c
    have H0 : O = rdNum k n (c :: s.data.toList.drop (k + 1)) := by rw [HK.out, hdb]
    rw [rdNum] at H0
    clear hdb
    by_cases h9 : 9 < k ∨ (k = 9 ∧ 1 < c.toNat % 128)
    · rw [if_pos h9] at H0
      have R := Lib.hid (ct_err (z := s.size) H0)
      clear H0
      by_cases k9 : k = 9
      · subst k9
        have T : decide ((1 : Int) < (c.toNat : Int) % 128) = true := decide_eq_true (by omega)
        clear h9
        go_wp2_with fail
        go_ret3
        exact ⟨ret_ct R.out.1 R.out.2.1 R.out.2.2, rfl⟩
      · have T0 : ((k : Int) == 9) = false := by rw [beq_eq_false_iff_ne]; omega
        have T1 : decide ((9 : Int) < (k : Int)) = true := decide_eq_true (by omega)
        clear h9 k9
        go_wp2_with fail
        go_ret3
        exact ⟨ret_ct R.out.1 R.out.2.1 R.out.2.2, rfl⟩
    rw [if_neg h9] at H0
    have k9 : k ≤ 9 := by
      rcases Nat.lt_or_ge 9 k with h | h
      · exact absurd (.inl h) h9
      · exact h
    obtain ⟨rfl, hn⟩ := HP.out k9
    obtain ⟨P, hP⟩ : ∃ P, 128 ^ k = P := ⟨_, rfl⟩
    rw [hP] at hn H0
    rw [hP]
    have TK : (((k : Int) == 9) = true ∧ decide ((1 : Int) < (c.toNat : Int) % 128) = false ∧ k = 9) ∨ (((k : Int) == 9) = false ∧ k ≤ 8) := by
      by_cases e : k = 9
      · exact .inl ⟨by rw [beq_iff_eq]; omega, decide_eq_false (fun h => h9 (.inr ⟨e, by omega⟩)), e⟩
      · exact .inr ⟨by rw [beq_eq_false_iff_ne]; omega, by omega⟩
    have T9 : decide ((9 : Int) < (k : Int)) = false := decide_eq_false (by omega)
    obtain ⟨X, hX⟩ : ∃ X, c.toNat % 128 * P = X := ⟨_, rfl⟩
    have hnX : n + X < 18446744073709551616 ∧ (k ≤ 8 → n + X < P * 128) := by
      rcases TK with ⟨_, h, e⟩ | ⟨_, h⟩
      · have h1 : ¬ (1 : Int) < (c.toNat : Int) % 128 := of_decide_eq_false h
        have e1 : P = 9223372036854775808 := by rw [← hP, e]
        have h2 : c.toNat % 128 * P ≤ 1 * P := Nat.mul_le_mul_right P (by omega)
        exact ⟨by omega, fun h => by omega⟩
      · have h3 := p128_le h
        rw [hP] at h3
        have h2 : c.toNat % 128 * P ≤ 127 * P := Nat.mul_le_mul_right P (by omega)
        exact ⟨by omega, fun _ => by omega⟩
    obtain ⟨Y, hY⟩ : ∃ Y : Nat, IntKind.u64.wrap ((P : Int) * 128) = (Y : Int) := ⟨(IntKind.u64.wrap ((P : Int) * 128)).toNat, by rw [IntKind.wrap_u64]; omega⟩
    have HY := Lib.hid (show k + 1 ≤ 9 → Y = 128 ^ (k + 1) ∧ n + X < 128 ^ (k + 1) from fun h => by
      have h3 := p128_le (show k ≤ 8 by omega)
      rw [hP] at h3
      rw [IntKind.wrap_u64] at hY
      rw [Nat.pow_succ, hP]
      exact ⟨by omega, hnX.2 (by omega)⟩)
    have hw1 : IntKind.u64.wrap ((c.toNat : Int) % 128 * (P : Int)) = (X : Int) := by
      have e : (c.toNat : Int) % 128 * (P : Int) = (X : Int) := by rw [← hX]; simp
      rw [e, IntKind.wrap_u64]; have := hnX.1; omega
    have hw2 : IntKind.u64.wrap ((n : Int) + (X : Int)) = ((n + X : Nat) : Int) := by
      rw [IntKind.wrap_u64]; have := hnX.1; omega
    rw [hX] at H0
    have hc0 : (c.toNat : Int) % 128 < 128 := by omega
    by_cases c128 : c.toNat < 128
    · rw [if_pos c128] at H0
      have C1 : decide ((c.toNat : Int) < 128) = true := decide_eq_true (by omega)
      by_cases c0 : c.toNat = 0 ∧ 0 < k
      · rw [if_pos c0] at H0
        have R := Lib.hid (ct_err (z := s.size) H0)
        have Z0 : ((c.toNat : Int) % 128 == 0) = true := by rw [beq_iff_eq]; omega
        have kp := c0.2
        have Z1 : decide ((0 : Int) < (k : Int)) = true := decide_eq_true (by omega)
        clear H0 hnX hX hP c0 c128 h9
        rcases TK with ⟨_, K1, rfl⟩ | ⟨K9, _⟩
        all_goals
          go_wp2_with fail
          go_ret3
          exact ⟨ret_ct R.out.1 R.out.2.1 R.out.2.2, rfl⟩
      · rw [if_neg c0] at H0
        have e1 : c.toNat * P = X := by rw [← hX, Nat.mod_eq_of_lt c128]
        rw [e1] at H0
        have R := Lib.hid (show ((n + X : Nat) : Int) = ctN O ∧ (k : Int) + 1 = ctK s.size O ∧ (0 : Int) = ctE O by
          rw [H0]
          refine ⟨rfl, ?_, rfl⟩
          show (k : Int) + 1 = ((s.size - (s.data.toList.drop (k + 1)).length : Nat) : Int)
          rw [List.length_drop, show s.data.toList.length = s.size by simp]; omega)
        have ik : IntKind.i64.wrap ((k : Int) + 1) = (k : Int) + 1 := by rw [IntKind.wrap_i64]; omega
        clear H0 hnX hX e1 h9
        by_cases z : c.toNat = 0
        · have k0 : k = 0 := by omega
          have Z0 : ((c.toNat : Int) % 128 == 0) = true := by rw [beq_iff_eq]; omega
          have kz : ¬ 0 < k := by omega
          have K9 : ((k : Int) == 9) = false := by rw [beq_eq_false_iff_ne]; omega
          have Z1 : decide ((0 : Int) < (k : Int)) = false := decide_eq_false (by omega)
          clear TK hP c0 z k0 c128
          go_wp2_with fail
          go_ret3
          exact ⟨ret_ct R.out.1 R.out.2.1 R.out.2.2, rfl⟩
        · have Z0 : ((c.toNat : Int) % 128 == 0) = false := by rw [beq_eq_false_iff_ne]; omega
          clear hP c0 z c128
          rcases TK with ⟨_, K1, rfl⟩ | ⟨K9, _⟩
          all_goals
            go_wp2_with fail
            go_ret3
            exact ⟨ret_ct R.out.1 R.out.2.1 R.out.2.2, rfl⟩
    · rw [if_neg c128] at H0
      have C1 : decide ((c.toNat : Int) < 128) = false := decide_eq_false (by omega)
      have R := Lib.hid H0
      clear H0 hnX hX hP h9 c128
      rcases TK with ⟨_, K1, rfl⟩ | ⟨K9, _⟩
      all_goals
        go_wp2_with fail
        go_round
        case rel => exact ⟨_, n + X, Y, by omega, by omega, by go_num, rfl, rfl, HY, R⟩
        case measure => simp [intOf]; omega

end Go.Proofs.Ytmcackghpkegbaa
