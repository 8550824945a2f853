/- (*wire.reader).size, text, float, tags: walked, given what number does. -/
import Derived.Test.YtmcackghpkegbaaTk
import Derived.Test.YtmcackghpkegbaaUp
import Derived.Test.YtmcackghpkegbaaKb
namespace Go.Proofs.Ytmcackghpkegbaa
open Go.RowKit

/-- (*wire.reader).number does as the document says -/
def NumberAt : Prop := ∀ (rb : Nat) (l : List UInt8) (w : World), Rdr w rb l → l.length ≤ 1099511627776 →
    Calls Try.prog 64 #[.pointer (some ⟨rb, 0, none⟩)] w (RdPost rb (fun (n : Nat) _ v => v = .int .u64 (n : Int)) w (rdNum 0 0 l))

theorem rdNum_len : ∀ (g n : Nat) (l : List UInt8) (x : Nat) (r : List UInt8), rdNum g n l = .ok (x, r) → r.length ≤ l.length
  | _, _, [], _, _, h => by simp [rdNum] at h
  | g, n, c :: t, x, r, h => by
    unfold rdNum at h
    split at h
    · cases h
    · split at h
      · split at h
        · cases h
        · cases h; simp
      · have := rdNum_len _ _ t x r h; simp; omega

set_option maxRecDepth 100000 in
/-- (*wire.reader).size -/
theorem lsize (hn : NumberAt) (rb most : Nat) (l : List UInt8) (w : World) (h : Rdr w rb l) (hl : l.length ≤ 1099511627776) (hm : most ≤ 1000) :
    Calls Try.prog 57 #[.pointer (some ⟨rb, 0, none⟩), .int .i64 (most : Int)] w (RdPost rb (fun (n : Nat) _ v => v = .int .i64 (n : Int) ∧ n ≤ most) w (rdSize most l)) := by
  have N := Lib.hid (hn rb l w h hl)
  clear h hn
  cases hr : rdNum 0 0 l with
  | error c =>
    have R := Lib.hid hr
    have RS := Lib.hid (show rdSize most l = .error c by unfold rdSize; rw [hr])
    clear hr
    go_enter Try.func57, Try.ntmps57
    go_wp2_with fail
    refine N.out.mono ?_
    rintro e w' hp
    obtain ⟨rfl, hg⟩ := hp.err R.out
    have G := Lib.hid hg
    clear hg hp
    go_wp2_with fail
    exact ⟨rfl, RdPost.mkErr RS.out G.out⟩
  | ok q =>
    obtain ⟨n, r⟩ := q
    have R := Lib.hid hr
    by_cases hlt : most < n
    · have RS := Lib.hid (show rdSize most l = .error 5 by unfold rdSize; rw [hr]; simp only; rw [if_pos hlt])
      clear hr
      go_enter Try.func57, Try.ntmps57
      go_wp2_with fail
      refine N.out.mono ?_
      rintro e w' hp
      obtain ⟨v, rfl, rfl, _, hg⟩ := hp.ok R.out
      have G := Lib.hid hg
      clear hg hp
      go_wp2_with fail
      exact ⟨rfl, RdPost.mkErr RS.out G.out⟩
    · have RS := Lib.hid (show rdSize most l = .ok (n, r) by unfold rdSize; rw [hr]; simp only; rw [if_neg hlt])
      clear hr
      go_enter Try.func57, Try.ntmps57
      go_wp2_with fail
      refine N.out.mono ?_
      rintro e w' hp
      obtain ⟨v, rfl, rfl, hrd, hg⟩ := hp.ok R.out
      have G := Lib.hid hg
      have HR := Lib.hid hrd
      clear hg hp hrd
      go_wp2_with fail
      go_ret
      exact RdPost.mkOk RS.out G.out ⟨rfl, by omega⟩ HR.out

theorem rdSize_ok {most : Nat} {l : List UInt8} {n : Nat} {r : List UInt8} (h : rdSize most l = .ok (n, r)) : n ≤ most ∧ r.length ≤ l.length := by
  unfold rdSize at h
  cases hr : rdNum 0 0 l with
  | error c => rw [hr] at h; cases h
  | ok q =>
    obtain ⟨n', r'⟩ := q
    rw [hr] at h
    simp only at h
    by_cases hlt : most < n'
    · rw [if_pos hlt] at h; cases h
    · rw [if_neg hlt] at h; injection h with h; injection h with h1 h2; subst h1; subst h2
      exact ⟨by omega, rdNum_len _ _ _ _ _ hr⟩
theorem rdTake_ok {n : Nat} {l k r : List UInt8} (h : rdTake n l = .ok (k, r)) : k.length = n ∧ r.length ≤ l.length := by
  unfold rdTake at h
  by_cases hlt : l.length < n
  · rw [if_pos hlt] at h; cases h
  · rw [if_neg hlt] at h; injection h with h; injection h with h1 h2; subst h1; subst h2
    simp; omega

set_option maxRecDepth 100000 in
/-- (*wire.reader).text -/
theorem ltext (hn : NumberAt) (rb : Nat) (l : List UInt8) (w : World) (h : Rdr w rb l) (hl : l.length ≤ 1099511627776) :
    Calls Try.prog 65 #[.pointer (some ⟨rb, 0, none⟩)] w (RdPost rb (fun (k : List UInt8) _ v => v = .string (BA k)) w (rdText l)) := by
  have N := Lib.hid (lsize hn rb 200 l w h hl (by omega))
  clear h hn
  cases hr : rdSize 200 l with
  | error c =>
    have R := Lib.hid hr
    have RS := Lib.hid (show rdText l = .error c by unfold rdText; rw [hr])
    clear hr
    go_enter Try.func65, Try.ntmps65
    go_wp2_with fail
    refine N.out.mono ?_
    rintro e w' hp
    obtain ⟨rfl, hg⟩ := hp.err R.out
    have G := Lib.hid hg
    clear hg hp
    go_wp2_with fail
    exact ⟨rfl, RdPost.mkErr RS.out G.out⟩
  | ok q =>
    obtain ⟨n, r⟩ := q
    have R := Lib.hid hr
    have n200 := (rdSize_ok hr).1
    have RL := Lib.hid (show r.length ≤ 1099511627776 from Nat.le_trans (rdSize_ok hr).2 hl)
    have RT : rdText l = rdTake n r := by unfold rdText; rw [hr]
    clear hr
    cases hk : rdTake n r with
    | error c =>
      have R2 := Lib.hid hk
      have RS := Lib.hid (RT.trans hk)
      clear hk RT
      go_enter Try.func65, Try.ntmps65
      go_wp2_with fail
      refine N.out.mono ?_
      rintro e w1 hp
      obtain ⟨v, rfl, ⟨rfl, _⟩, hrd, hg⟩ := hp.ok R.out
      have G := Lib.hid hg
      have HR := Lib.hid hrd
      clear hg hp hrd
      go_wp2_with fail
      refine (ltake rb n r _ HR.out RL.out).mono ?_
      rintro e w2 hp
      obtain ⟨rfl, hg⟩ := hp.err R2.out
      have G2 := Lib.hid (G.out.trans hg)
      clear hg hp
      go_wp2_with fail
      exact ⟨rfl, RdPost.mkErr RS.out G2.out⟩
    | ok q2 =>
      obtain ⟨k, r2⟩ := q2
      have R2 := Lib.hid hk
      have RS := Lib.hid (RT.trans hk)
      have KL := Lib.hid (show (BA k).size ≤ 281474976710656 by rw [BA_size, (rdTake_ok hk).1]; omega)
      clear hk RT
      go_enter Try.func65, Try.ntmps65
      go_wp2_with fail
      refine N.out.mono ?_
      rintro e w1 hp
      obtain ⟨v, rfl, ⟨rfl, _⟩, hrd, hg⟩ := hp.ok R.out
      have G := Lib.hid hg
      have HR := Lib.hid hrd
      clear hg hp hrd
      go_wp2_with fail
      refine (ltake rb n r _ HR.out RL.out).mono ?_
      rintro e w2 hp
      obtain ⟨v, rfl, rfl, hrd, hg⟩ := hp.ok R2.out
      have G2 := Lib.hid (G.out.trans hg)
      have HR2 := Lib.hid hrd
      clear hg hp hrd
      go_wp2_with fail
      refine (lclone (BA k) _ KL.out).mono ?_
      rintro e w3 ⟨rfl, hb⟩
      have G3 := Lib.hid (G2.out.trans (grown_below hb (some rb)))
      have HR3 := Lib.hid (HR2.out.below hb)
      clear hb
      go_wp2_with fail
      go_ret
      exact RdPost.mkOk RS.out G3.out rfl HR3.out

theorem p128_le' {k : Nat} (h : k ≤ 8) : 128 ^ k ≤ 72057594037927936 := Nat.le_trans (Nat.pow_le_pow_right (by omega) h) (by decide)
theorem andNot128 (m : Nat) (h : m < 256) : bits .andNot .u8 (m : Int) 128 = ((m % 128 : Nat) : Int) := by
  have h2 : ∀ m : Fin 256, bits .andNot .u8 ((m.val : Nat) : Int) 128 = ((m.val % 128 : Nat) : Int) := by decide +kernel
  exact h2 ⟨m, h⟩
theorem or_add (n X P b : Nat) (hP : ∃ i, P = 2 ^ i) (hX : X = b * P) (hn : n < P) (hs : n + X < 18446744073709551616) : bits .or .u64 (n : Int) (X : Int) = ((n + X : Nat) : Int) := by
  obtain ⟨i, rfl⟩ := hP
  have e : n ||| X = n + X := by
    rw [hX, Nat.mul_comm b, Nat.or_comm, ← Nat.two_pow_add_eq_or_of_lt hn]; omega
  unfold bits
  simp only [BitVec.toNat_or, BitVec.toNat_ofInt]
  rw [show ((n : Int) % ((2 ^ IntKind.u64.bits : Nat) : Int)).toNat = n by show ((n : Int) % 18446744073709551616).toNat = n; omega,
    show ((X : Int) % ((2 ^ IntKind.u64.bits : Nat) : Int)).toNat = X by show ((X : Int) % 18446744073709551616).toNat = X; omega, e, IntKind.wrap_u64]
  omega

set_option maxRecDepth 100000 in
set_option maxHeartbeats 1000000 in
/-- (*wire.reader).number -/
theorem numberAt : NumberAt := by
  intro rb l w h hl
  obtain ⟨O, hO⟩ : ∃ O, O = rdNum 0 0 l := ⟨_, rfl⟩
  rw [← hO]
  have HO := Lib.hid hO
  have H := Lib.hid h
  clear hO h
  go_enter Try.func64, Try.ntmps64
  go_wp2_with fail
  go_loopw [3, 8] (fun vn vk wr => ∃ (k n : Nat) (r : List UInt8), k ≤ 10 ∧ vk = .int .i64 k ∧ vn = .int .u64 n ∧ r.length ≤ 1099511627776 ∧ Hid (k ≤ 9 → n < 128 ^ k) ∧ Hid (O = rdNum k n r) ∧ Hid (Rdr wr rb r) ∧ Hid (w.grownBy wr (some rb))) (fun _ vk _ => (10 - intOf vk).toNat)
  case atStart => exact ⟨0, 0, l, by omega, rfl, rfl, hl, Lib.hid (fun _ => by decide), HO, H, Lib.hid (World.grownBy.refl _ _)⟩
  case round =>
    obtain ⟨k, n, r, hk, rfl, rfl, hr, HN, HK, HR, HG⟩ := hrel
    have LN := Lib.hid (lnext rb r _ HR.out hr)
    by_cases hlt : k < 10
    case neg =>
      obtain rfl : k = 10 := by omega
      cases r with
      | nil =>
        have R := Lib.hid (show O = .error 3 by rw [HK.out]; rfl)
        go_wp2_with fail
        refine LN.out.mono ?_
        rintro e w1 hp
        obtain ⟨rfl, hg⟩ := hp.err rfl
        have G := Lib.hid (HG.out.trans hg)
        clear hg hp
        go_wp2_with fail
        exact ⟨rfl, RdPost.mkErr R.out G.out⟩
      | cons c t =>
        have R := Lib.hid (show O = .error 4 by rw [HK.out, rdNum, if_pos (.inl (by omega))])
        go_wp2_with fail
        refine LN.out.mono ?_
        rintro e w1 hp
        obtain ⟨v, rfl, rfl, hrd, hg⟩ := hp.ok rfl
        have G := Lib.hid (HG.out.trans hg)
        clear hg hp hrd
        go_wp2_with fail
        exact ⟨rfl, RdPost.mkErr R.out G.out⟩
    have k9 : k ≤ 9 := by omega
    have hn := HN.out k9
    cases r with
    | nil =>
      have R := Lib.hid (show O = .error 3 by rw [HK.out]; rfl)
      go_wp2_with fail
      refine LN.out.mono ?_
      rintro e w1 hp
      obtain ⟨rfl, hg⟩ := hp.err rfl
      have G := Lib.hid (HG.out.trans hg)
      clear hg hp
      go_wp2_with fail
      exact ⟨rfl, RdPost.mkErr R.out G.out⟩
    | cons c t =>
      have ht : t.length ≤ 1099511627776 := by rw [List.length_cons] at hr; omega
      have c256 : c.toNat < 256 := UInt8.toNat_lt c
      have hb0 := andNot128 c.toNat c256
      obtain ⟨b, hb⟩ : ∃ b, c.toNat % 128 = b := ⟨_, rfl⟩
      have H0 := HK.out
      rw [rdNum] at H0
      rw [hb] at hb0 H0
      have b128 : b < 128 := by omega
      have hbw : IntKind.u64.wrap (b : Int) = (b : Int) := by rw [IntKind.wrap_u64]; omega
      obtain ⟨P, hP⟩ : ∃ P, 128 ^ k = P := ⟨_, rfl⟩
      have hP2 : ∃ i, P = 2 ^ i := ⟨7 * k, by rw [Nat.pow_mul, ← hP]⟩
      have hPz : (2 : Int) ^ (7 * k) = (P : Int) := by
        rw [Int.pow_mul, ← hP]; simp
      have P0 : 0 < P := by rw [← hP]; exact Nat.pow_pos (by omega)
      rw [hP] at H0 hn
      obtain ⟨X, hX⟩ : ∃ X : Nat, IntKind.u64.wrap ((b : Int) * 2 ^ (7 * k)) = (X : Int) := ⟨(IntKind.u64.wrap ((b : Int) * 2 ^ (7 * k))).toNat, by rw [IntKind.wrap_u64]; omega⟩
      have hX2 : (b * P) % 18446744073709551616 = X := by
        rw [IntKind.wrap_u64, hPz] at hX
        have e : (b : Int) * (P : Int) = ((b * P : Nat) : Int) := by simp
        rw [e] at hX; omega
      by_cases h9 : k = 9 ∧ 1 < b
      · have R := Lib.hid (show O = .error 4 by rw [H0, if_pos (.inr h9)])
        have PV : P = 9223372036854775808 := by rw [← hP, h9.1]
        have hd : X / P < b := by rw [PV] at hX2 ⊢; omega
        have T1 : ((X : Int) / 2 ^ (7 * k) != (b : Int)) = true := by
          rw [hPz, bne_iff_ne]
          have e : (X : Int) / (P : Int) = ((X / P : Nat) : Int) := by simp
          rw [e]; omega
        clear H0 hn hP hP2 hPz P0 hX2 PV hd h9 hb
        go_wp2_with fail
        refine LN.out.mono ?_
        rintro e w1 hp
        obtain ⟨v, rfl, rfl, hrd, hg⟩ := hp.ok rfl
        have G := Lib.hid (HG.out.trans hg)
        clear hg hp hrd
        go_wp2_with fail
        exact ⟨rfl, RdPost.mkErr R.out G.out⟩
      have h9' : ¬ (9 < k ∨ k = 9 ∧ 1 < b) := by omega
      rw [if_neg h9'] at H0
      have bX : b * P = X ∧ n + X < 18446744073709551616 ∧ (k ≤ 8 → n + X < P * 128) := by
        by_cases e : k = 9
        · have e1 : P = 9223372036854775808 := by rw [← hP, e]
          rw [e1] at hX2 hn ⊢; omega
        · have h3 := p128_le' (show k ≤ 8 by omega)
          rw [hP] at h3
          have h2 : b * P ≤ 127 * P := Nat.mul_le_mul_right P (by omega)
          omega
      obtain ⟨hbX, hnX, hn8⟩ := bX
      have T1 : ((X : Int) / 2 ^ (7 * k) != (b : Int)) = false := by
        rw [hPz, bne_eq_false_iff_eq, ← hbX]
        have e : ((b * P : Nat) : Int) / (P : Int) = ((b * P / P : Nat) : Int) := by simp
        rw [e, Nat.mul_div_cancel _ P0]
      have hor := or_add n X P b hP2 hbX.symm hn hnX
      rw [hbX] at H0
      have HN2 := Lib.hid (show k + 1 ≤ 9 → n + X < 128 ^ (k + 1) from fun h => by rw [Nat.pow_succ, hP]; exact hn8 (by omega))
      have hnX0 := Lib.hid hnX
      clear hn hn8 hP2 hPz hX2 h9 h9' P0
      by_cases c128 : c.toNat < 128
      · rw [if_pos c128] at H0
        have bc : b = c.toNat := by omega
        have C1 : decide ((c.toNat : Int) < 128) = true := decide_eq_true (by omega)
        by_cases c0 : c.toNat = 0 ∧ 0 < k
        · rw [if_pos c0] at H0
          have R := Lib.hid H0
          have Z0 : ((c.toNat : Int) == 0) = true := by rw [beq_iff_eq]; omega
          have Z1 : 0 < k := c0.2
          clear H0 hnX hbX hP c0 c128 hb bc
          go_wp2_with fail
          refine LN.out.mono ?_
          rintro e w1 hp
          obtain ⟨v, rfl, rfl, hrd, hg⟩ := hp.ok rfl
          have G := Lib.hid (HG.out.trans hg)
          clear hg hp hrd
          go_wp2_with fail
          exact ⟨rfl, RdPost.mkErr R.out G.out⟩
        · rw [if_neg c0, ← bc, hbX] at H0
          have R := Lib.hid H0
          have TZ : (0 < k ∧ ((c.toNat : Int) == 0) = false) ∨ ¬ 0 < k := by
            by_cases z : 0 < k
            · exact .inl ⟨z, by rw [beq_eq_false_iff_ne]; omega⟩
            · exact .inr z
          clear H0 hnX hbX hP c0 c128 hb bc
          rcases TZ with ⟨Z1, Z0⟩ | Z1
          all_goals
            go_wp2_with fail
            refine LN.out.mono ?_
            rintro e w1 hp
            obtain ⟨v, rfl, rfl, hrd, hg⟩ := hp.ok rfl
            have G := Lib.hid (HG.out.trans hg)
            have HR2 := Lib.hid hrd
            clear hg hp hrd
            go_wp2_with fail
            go_ret
            exact RdPost.mkOk R.out G.out rfl HR2.out
      · rw [if_neg c128] at H0
        have R := Lib.hid H0
        have C1 : decide ((c.toNat : Int) < 128) = false := decide_eq_false (by omega)
        have Z0 : ((c.toNat : Int) == 0) = false := by rw [beq_eq_false_iff_ne]; omega
        clear H0 hnX hbX hP c128 hb
        by_cases Z1 : 0 < k
        all_goals
          go_wp2_with fail
          refine LN.out.mono ?_
          rintro e w1 hp
          obtain ⟨v, rfl, rfl, hrd, hg⟩ := hp.ok rfl
          have G := Lib.hid (HG.out.trans hg)
          have HR2 := Lib.hid hrd
          clear hg hp hrd
          go_wp2_with fail
          go_roundw
          case rel => exact ⟨k + 1, n + X, t, by omega, by go_num, rfl, ht, HN2, R, HR2, G⟩
          case measure => simp [intOf]; omega

end Go.Proofs.Ytmcackghpkegbaa
