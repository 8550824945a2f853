/- (*wire.reader).number: walked. -/
import Derived.Test.YtmcackghpkegbaaRe
import Derived.Test.YtmcackghpkegbaaKb
namespace Go.Proofs.Ytmcackghpkegbaa
open Go.RowKit

theorem p128_le' {k : Nat} (h : k ≤ 8) : 128 ^ k ≤ 72057594037927936 := Nat.le_trans (Nat.pow_le_pow_right (by omega) h) (by decide)
theorem andNot128 (m : Nat) (h : m < 256) : bits .andNot .u8 (m : Int) 128 = ((m % 128 : Nat) : Int) := by
  have h2 : ∀ m : Fin 256, bits .andNot .u8 ((m.val : Nat) : Int) 128 = ((m.val % 128 : Nat) : Int) := by decide +kernel
  exact h2 ⟨m, h⟩
theorem or_add (n X P b : Nat) (hP : ∃ i, P = 2 ^ i) (hX : X = b * P) (hn : n < P) (hs : n + X < 18446744073709551616) : bits .or .u64 (n : Int) (X : Int) = ((n + X : Nat) : Int) := by
  obtain ⟨i, rfl⟩ := hP
  have e : n ||| X = n + X := by
    rw [hX, Nat.mul_comm b, Nat.or_comm, ← Nat.two_pow_add_eq_or_of_lt hn]; omega
  unfold bits
  simp only [BitVec.toNat_or, BitVec.toNat_ofInt]
  rw [show ((n : Int) % ((2 ^ IntKind.u64.bits : Nat) : Int)).toNat = n by show ((n : Int) % 18446744073709551616).toNat = n; omega,
    show ((X : Int) % ((2 ^ IntKind.u64.bits : Nat) : Int)).toNat = X by show ((X : Int) % 18446744073709551616).toNat = X; omega, e, IntKind.wrap_u64]
  omega

set_option maxRecDepth 100000 in
set_option maxHeartbeats 1000000 in
/-- (*wire.reader).number -/
theorem numberAt : NumberAt := by
  intro rb l w h hl
  obtain ⟨O, hO⟩ : ∃ O, O = rdNum 0 0 l := ⟨_, rfl⟩
  rw [← hO]
  have HO := Lib.hid hO
  have H := Lib.hid h
  clear hO h
  go_enter Try.func64, Try.ntmps64
  go_wp2_with fail
  go_loopw [3, 8] (fun vn vk wr => ∃ (k n : Nat) (r : List UInt8), k ≤ 10 ∧ vk = .int .i64 k ∧ vn = .int .u64 n ∧ r.length ≤ 1099511627776 ∧ Hid (k ≤ 9 → n < 128 ^ k) ∧ Hid (O = rdNum k n r) ∧ Hid (Rdr wr rb r) ∧ Hid (w.grownBy wr (some rb))) (fun _ vk _ => (10 - intOf vk).toNat)
  case atStart => exact ⟨0, 0, l, by omega, rfl, rfl, hl, Lib.hid (fun _ => by decide), HO, H, Lib.hid (World.grownBy.refl _ _)⟩
  case round =>
    obtain ⟨k, n, r, hk, rfl, rfl, hr, HN, HK, HR, HG⟩ := hrel
    have LN := Lib.hid (lnext rb r _ HR.out hr)
    by_cases hlt : k < 10
    case neg =>
      obtain rfl : k = 10 := by omega
      cases r with
      | nil =>
        have R := Lib.hid (show O = .error 3 by rw [HK.out]; rfl)
        go_wp2_with fail
        refine LN.out.mono ?_
        rintro e w1 hp
        obtain ⟨rfl, hg⟩ := hp.err rfl
        have G := Lib.hid (HG.out.trans hg)
        clear hg hp
        go_wp2_with fail
        exact ⟨rfl, RdPost.mkErr R.out G.out⟩
      | cons c t =>
        have R := Lib.hid (show O = .error 4 by rw [HK.out, rdNum, if_pos (.inl (by omega))])
        go_wp2_with fail
        refine LN.out.mono ?_
        rintro e w1 hp
        obtain ⟨v, rfl, rfl, hrd, hg⟩ := hp.ok rfl
        have G := Lib.hid (HG.out.trans hg)
        clear hg hp hrd
        go_wp2_with fail
        exact ⟨rfl, RdPost.mkErr R.out G.out⟩
    have k9 : k ≤ 9 := by omega
    have hn := HN.out k9
    cases r with
    | nil =>
      have R := Lib.hid (show O = .error 3 by rw [HK.out]; rfl)
      go_wp2_with fail
      refine LN.out.mono ?_
      rintro e w1 hp
      obtain ⟨rfl, hg⟩ := hp.err rfl
      have G := Lib.hid (HG.out.trans hg)
      clear hg hp
      go_wp2_with fail
      exact ⟨rfl, RdPost.mkErr R.out G.out⟩
    | cons c t =>
      have ht : t.length ≤ 1099511627776 := by rw [List.length_cons] at hr; omega
      have c256 : c.toNat < 256 := UInt8.toNat_lt c
      have hb0 := andNot128 c.toNat c256
      obtain ⟨b, hb⟩ : ∃ b, c.toNat % 128 = b := ⟨_, rfl⟩
      have H0 := HK.out
      rw [rdNum] at H0
      rw [hb] at hb0 H0
      have b128 : b < 128 := by omega
      have hbw : IntKind.u64.wrap (b : Int) = (b : Int) := by rw [IntKind.wrap_u64]; omega
      obtain ⟨P, hP⟩ : ∃ P, 128 ^ k = P := ⟨_, rfl⟩
      have hP2 : ∃ i, P = 2 ^ i := ⟨7 * k, by rw [Nat.pow_mul, ← hP]⟩
      have hPz : (2 : Int) ^ (7 * k) = (P : Int) := by
        rw [Int.pow_mul, ← hP]; simp
      have P0 : 0 < P := by rw [← hP]; exact Nat.pow_pos (by omega)
      rw [hP] at H0 hn
      obtain ⟨X, hX⟩ : ∃ X : Nat, IntKind.u64.wrap ((b : Int) * 2 ^ (7 * k)) = (X : Int) := ⟨(IntKind.u64.wrap ((b : Int) * 2 ^ (7 * k))).toNat, by rw [IntKind.wrap_u64]; omega⟩
      have hX2 : (b * P) % 18446744073709551616 = X := by
        rw [IntKind.wrap_u64, hPz] at hX
        have e : (b : Int) * (P : Int) = ((b * P : Nat) : Int) := by simp
        rw [e] at hX; omega
      by_cases h9 : k = 9 ∧ 1 < b
      · have R := Lib.hid (show O = .error 4 by rw [H0, if_pos (.inr h9)])
        have PV : P = 9223372036854775808 := by rw [← hP, h9.1]
        have hd : X / P < b := by rw [PV] at hX2 ⊢; omega
        have T1 : ((X : Int) / 2 ^ (7 * k) != (b : Int)) = true := by
          rw [hPz, bne_iff_ne]
          have e : (X : Int) / (P : Int) = ((X / P : Nat) : Int) := by simp
          rw [e]; omega
        clear H0 hn hP hP2 hPz P0 hX2 PV hd h9 hb
        go_wp2_with fail
        refine LN.out.mono ?_
        rintro e w1 hp
        obtain ⟨v, rfl, rfl, hrd, hg⟩ := hp.ok rfl
        have G := Lib.hid (HG.out.trans hg)
        clear hg hp hrd
        go_wp2_with fail
        exact ⟨rfl, RdPost.mkErr R.out G.out⟩
      have h9' : ¬ (9 < k ∨ k = 9 ∧ 1 < b) := by omega
      rw [if_neg h9'] at H0
      have bX : b * P = X ∧ n + X < 18446744073709551616 ∧ (k ≤ 8 → n + X < P * 128) := by
        by_cases e : k = 9
        · have e1 : P = 9223372036854775808 := by rw [← hP, e]
          rw [e1] at hX2 hn ⊢; omega
        · have h3 := p128_le' (show k ≤ 8 by omega)
          rw [hP] at h3
          have h2 : b * P ≤ 127 * P := Nat.mul_le_mul_right P (by omega)
          omega
      obtain ⟨hbX, hnX, hn8⟩ := bX
      have T1 : ((X : Int) / 2 ^ (7 * k) != (b : Int)) = false := by
        rw [hPz, bne_eq_false_iff_eq, ← hbX]
        have e : ((b * P : Nat) : Int) / (P : Int) = ((b * P / P : Nat) : Int) := by simp
        rw [e, Nat.mul_div_cancel _ P0]
      have hor := or_add n X P b hP2 hbX.symm hn hnX
      rw [hbX] at H0
      have HN2 := Lib.hid (show k + 1 ≤ 9 → n + X < 128 ^ (k + 1) from fun h => by rw [Nat.pow_succ, hP]; exact hn8 (by omega))
      have hnX0 := Lib.hid hnX
      clear hn hn8 hP2 hPz hX2 h9 h9' P0
      by_cases c128 : c.toNat < 128
      · rw [if_pos c128] at H0
        have bc : b = c.toNat := by omega
        have C1 : decide ((c.toNat : Int) < 128) = true := decide_eq_true (by omega)
        by_cases c0 : c.toNat = 0 ∧ 0 < k
        · rw [if_pos c0] at H0
          have R := Lib.hid H0
          have Z0 : ((c.toNat : Int) == 0) = true := by rw [beq_iff_eq]; omega
          have Z1 : 0 < k := c0.2
          clear H0 hnX hbX hP c0 c128 hb bc
          go_wp2_with fail
          refine LN.out.mono ?_
          rintro e w1 hp
          obtain ⟨v, rfl, rfl, hrd, hg⟩ := hp.ok rfl
          have G := Lib.hid (HG.out.trans hg)
          clear hg hp hrd
          go_wp2_with fail
          exact ⟨rfl, RdPost.mkErr R.out G.out⟩
        · rw [if_neg c0, ← bc, hbX] at H0
          have R := Lib.hid H0
          have TZ : (0 < k ∧ ((c.toNat : Int) == 0) = false) ∨ ¬ 0 < k := by
            by_cases z : 0 < k
            · exact .inl ⟨z, by rw [beq_eq_false_iff_ne]; omega⟩
            · exact .inr z
          clear H0 hnX hbX hP c0 c128 hb bc
          rcases TZ with ⟨Z1, Z0⟩ | Z1
          all_goals
            go_wp2_with fail
            refine LN.out.mono ?_
            rintro e w1 hp
            obtain ⟨v, rfl, rfl, hrd, hg⟩ := hp.ok rfl
            have G := Lib.hid (HG.out.trans hg)
            have HR2 := Lib.hid hrd
            clear hg hp hrd
            go_wp2_with fail
            go_ret
            exact RdPost.mkOk R.out G.out rfl HR2.out
      · rw [if_neg c128] at H0
        have R := Lib.hid H0
        have C1 : decide ((c.toNat : Int) < 128) = false := decide_eq_false (by omega)
        have Z0 : ((c.toNat : Int) == 0) = false := by rw [beq_eq_false_iff_ne]; omega
        clear H0 hnX hbX hP c128 hb
        by_cases Z1 : 0 < k
        all_goals
          go_wp2_with fail
          refine LN.out.mono ?_
          rintro e w1 hp
          obtain ⟨v, rfl, rfl, hrd, hg⟩ := hp.ok rfl
          have G := Lib.hid (HG.out.trans hg)
          have HR2 := Lib.hid hrd
          clear hg hp hrd
          go_wp2_with fail
          go_roundw
          case rel => exact ⟨k + 1, n + X, t, by omega, by go_num, rfl, ht, HN2, R, HR2, G⟩
          case measure => simp [intOf]; omega

end Go.Proofs.Ytmcackghpkegbaa
