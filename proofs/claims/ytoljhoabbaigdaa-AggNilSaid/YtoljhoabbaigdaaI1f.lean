/- The reference's Up, Round, Exact: walked. -/
import Derived.Test.YtoljhoabbaigdaaI1e
namespace Go.Proofs.Ytoljhoabbaigdaa
open Go.RowKit Ex Fl Ag Ieee
attribute [local go_sem] Oper.semAt_some

theorem rwhole15 (b : Nat) (h : Fl.Fits b) (w : World) : Calls Try.prog 19 #[.float .f64 b] w (SomeW b w) := by
  by_cases c1 : Fl.E b < 1023 ∨ 1086 < Fl.E b
  · exact rwhole_far b h c1 w
  · by_cases c2 : Fl.E b < 1075
    · exact rwhole_mid b h (by omega) c2 w
    · exact rwhole_up b h (by omega) (by omega) w

set_option maxRecDepth 100000 in
set_option maxHeartbeats 2000000 in
theorem rUp (n : Nat) (hn : n ≤ 4611686018427387904) (w : World) : Calls Try.prog 39 #[.int .u64 (n : Int)] w fun e w' => e = .returned (.float .f64 (ofI (n : Int))) ∧ w' = w := by
  obtain ⟨N, hN⟩ : ∃ N : Int, N = n := ⟨_, rfl⟩
  obtain ⟨T, hT⟩ : ∃ T, T = ofI (n : Int) := ⟨_, rfl⟩
  rw [← hT, ← hN]
  have HN := Lib.hid hN
  have HT := Lib.hid hT
  have HL := Lib.hid hn
  have N0 : 0 ≤ N := by omega
  have N1 : N ≤ 4611686018427387904 := by omega
  clear hN hT hn
  go_enter Try.func39, Try.ntmps39
  go_wp2_with fail
  go_loopw [3] (fun v wr => ∃ s : Int, v = .int .u64 s ∧ 1 ≤ s ∧ s ≤ 1024 ∧ Hid (wr = w) ∧ Hid (∃ (S j : Nat), s = S ∧ S = 2 ^ j ∧ j ≤ 10 ∧ (0 < j → 9007199254740992 < n / 2 ^ (j - 1)))) (fun v _ => 2048 - (intOf v).toNat)
  case atStart => exact ⟨1, rfl, by omega, by omega, Lib.hid rfl, Lib.hid ⟨1, 0, rfl, rfl, by omega, fun h => absurd h (by omega)⟩⟩
  case round =>
    obtain ⟨s, rfl, s1, s2, HW, HJ⟩ := hrel
    obtain ⟨S, j, hs, hS, hj, hlow⟩ := HJ.out
    have hp : 0 < S := by rw [hS]; exact Nat.two_pow_pos j
    have hS2 : S ≤ 1024 := by omega
    obtain ⟨q, hq⟩ : ∃ q, q = n / S := ⟨_, rfl⟩
    obtain ⟨r, hr⟩ : ∃ r, r = n % S := ⟨_, rfl⟩
    obtain ⟨Q, hQ⟩ : ∃ Q : Int, Q = N / s := ⟨_, rfl⟩
    obtain ⟨R, hR⟩ : ∃ R : Int, R = N % s := ⟨_, rfl⟩
    have eQ : Q = (q : Int) := by rw [hQ, HN.out, hs, hq]; rfl
    have eR : R = (r : Int) := by rw [hR, HN.out, hs, hr]; rfl
    have hrS : r < S := by rw [hr]; exact Nat.mod_lt _ hp
    have hqn : q ≤ n := by rw [hq]; exact Nat.div_le_self _ _
    have hl := HL.out
    have Q0 : 0 ≤ Q := by omega
    have Q1 : Q ≤ 4611686018427387904 := by omega
    have R0 : 0 ≤ R := by omega
    have R1 : R ≤ 1024 := by omega
    have fq := hQ.symm
    have fr := hR.symm
    by_cases g : 9007199254740992 < Q
    · have hj9 : j ≤ 9 := by
        rcases Nat.lt_or_ge 9 j with c | c
        · exfalso
          have : S = 1024 := by rw [hS, show j = 10 by omega]
          rw [this] at hq; omega
        · exact c
      have hs9 : s ≤ 512 := by
        have : S ≤ 2 ^ 9 := by rw [hS]; exact Nat.pow_le_pow_right (by omega) hj9
        omega
      have HJ2 := Lib.hid (show ∃ (S j : Nat), 2 * s = S ∧ S = 2 ^ j ∧ j ≤ 10 ∧ (0 < j → 9007199254740992 < n / 2 ^ (j - 1)) from ⟨2 * S, j + 1, by omega, by rw [Nat.pow_succ, hS]; omega, by omega, fun _ => by rw [Nat.add_sub_cancel, ← hS, ← hq]; omega⟩)
      by_cases g2 : 18014398509481984 ≤ Q
      · clear hj9 hS hq hr HJ hlow hj hs hQ hR eQ eR hrS hqn hl hp hS2
        go_wp2_with fail
        go_roundw
        case rel => exact ⟨2 * s, by go_num, by omega, by omega, HW, HJ2⟩
        case measure => simp [intOf]; omega
      · clear hj9 hS hq hr HJ hlow hj hs hQ hR eQ eR hrS hqn hl hp hS2
        go_wp2_with fail
        go_roundw
        case rel => exact ⟨2 * s, by go_num, by omega, by omega, HW, HJ2⟩
        case measure => simp [intOf]; omega
    · have g2 : ¬ 18014398509481984 ≤ Q := by omega
      have RU := Lib.hid (round_up n j (by omega) (by rw [← hS, ← hq]; omega) hlow)
      rw [← hS] at RU
      have ER : rhe n S = q + if S < 2 * r ∨ (S = 2 * r ∧ q % 2 = 1) then 1 else 0 := by unfold rhe; rw [← hq, ← hr]
      have key : ∀ m : Int, ((rhe n S : Nat) : Int) = m → ∀ W, (binOp .mul 36 (.float .f64 (floatOfInt .f64 m)) (.float .f64 (floatOfInt .f64 s))).run Try.prog W = .ok (.float .f64 T) W := by
        intro m hm W
        refine run_float_arith W .mul 36 .f64 _ _ _ ?_
        have := RU.out
        rw [hm, ← hs, ← HT.out] at this
        exact this
      have KEY := Lib.hid key
      have END := Lib.hid HW.out
      by_cases c1 : s < 2 * R
      · have hm := KEY.out (Q + 1) (by rw [ER, if_pos (.inl (by omega))]; omega)
        clear hS hq hr HJ hlow hj hs hQ hR eQ eR hrS hqn hl hp hS2 key ER
        go_wp2_with fail
        go_ret
        exact ⟨rfl, END.out⟩
      · by_cases c2 : 2 * R = s
        · by_cases c3 : Q % 2 = 1
          · have hm := KEY.out (Q + 1) (by rw [ER, if_pos (.inr ⟨by omega, by omega⟩)]; omega)
            have c4 : 1 < s := by omega
            clear hS hq hr HJ hlow hj hs hQ hR eQ eR hrS hqn hl hp hS2 key ER
            go_wp2_with fail
            go_ret
            exact ⟨rfl, END.out⟩
          · have hm := KEY.out Q (by rw [ER, if_neg (by omega)]; omega)
            clear hS hq hr HJ hlow hj hs hQ hR eQ eR hrS hqn hl hp hS2 key ER
            go_wp2_with fail
            go_ret
            exact ⟨rfl, END.out⟩
        · have hm := KEY.out Q (by rw [ER, if_neg (by omega)]; omega)
          clear hS hq hr HJ hlow hj hs hQ hR eQ eR hrS hqn hl hp hS2 key ER
          go_wp2_with fail
          go_ret
          exact ⟨rfl, END.out⟩

theorem rRound (n : Int) (h1 : -4611686018427387904 ≤ n) (h2 : n ≤ 4611686018427387904) (w : World) : Calls Try.prog 29 #[.int .i64 n] w fun e w' => e = .returned (.float .f64 (ofI n)) ∧ w' = w := by
  by_cases p : n < 0
  · obtain ⟨m, hm⟩ : ∃ m : Nat, (m : Int) = -n := ⟨(-n).toNat, by omega⟩
    have U := Lib.hid (rUp m (by omega))
    have NE := Lib.hid (show Op.negFloat .f64 (ofI (m : Int)) = ofI n by rw [ofI_neg m (by omega)]; congr 1; omega)
    obtain ⟨M, hM⟩ : ∃ M : Int, M = -n := ⟨_, rfl⟩
    rw [hm, ← hM] at U NE
    have fM := hM.symm
    have M1 : 1 ≤ M := by omega
    have M2 : M ≤ 4611686018427387904 := by omega
    clear hm hM
    go_enter Try.func29, Try.ntmps29
    go_wp2_with fail
    refine (U.out _).mono ?_
    rintro e w1 ⟨rfl, rfl⟩
    go_wp2_with fail
    go_ret
    exact ⟨ret_fl NE.out, rfl⟩
  · obtain ⟨m, hm⟩ : ∃ m : Nat, (m : Int) = n := ⟨n.toNat, by omega⟩
    have U := Lib.hid (rUp m (by omega))
    rw [hm] at U
    clear hm
    go_enter Try.func29, Try.ntmps29
    go_wp2_with fail
    refine (U.out _).mono ?_
    rintro e w1 ⟨rfl, rfl⟩
    go_wp2_with fail
    go_ret
    exact ⟨rfl, rfl⟩

set_option maxRecDepth 100000 in
set_option maxHeartbeats 2000000 in
/-- the reference's Exact -/
theorem rExact (zs : List Nat) (A : Option Addr) (c : Nat) (w : World) (h : SlF w A zs) (hf : AllFits zs) (hl : zs.length ≤ 1000) :
    Calls Try.prog 17 #[.slice A zs.length c] w fun e w' => e = .returned (.tuple #[.float .f64 (exV zs), .int .i64 (exE zs)]) ∧ w' = w := by
  obtain ⟨n, hn⟩ : ∃ n, n = zs.length := ⟨_, rfl⟩
  obtain ⟨E, hE⟩ : ∃ E, E = exE zs := ⟨_, rfl⟩
  obtain ⟨Y, hY⟩ : ∃ Y, Y = exV zs := ⟨_, rfl⟩
  rw [← hn, ← hE, ← hY]
  have NO := Lib.hid (show ∀ i, i < n → isX (zs.getD i 0) = false → E = 1 ∧ Y = 0 from fun i hi hx => by
    have e : exE zs = 1 := by unfold exE; rw [not_all (by omega) hx]; rfl
    refine ⟨by rw [hE, e], ?_⟩
    rw [hY]; unfold exV; rw [e]; rfl)
  have LONG := Lib.hid (show (∀ j, j < n → isX (zs.getD j 0) = true) → 512 < n → E = 5 ∧ Y = 0 from fun ha hx => by
    have e : exE zs = 5 := by unfold exE; rw [all_of (fun i hi => ha i (by omega)), if_pos rfl, if_pos (by omega)]
    refine ⟨by rw [hE, e], ?_⟩
    rw [hY]; unfold exV; rw [e]; rfl)
  have YES := Lib.hid (show (∀ j, j < n → isX (zs.getD j 0) = true) → ¬ 512 < n → E = 0 ∧ Y = ofI (tot (zs.take n)) from fun ha hx => by
    have e : exE zs = 0 := by unfold exE; rw [all_of (fun i hi => ha i (by omega)), if_pos rfl, if_neg (by omega)]
    refine ⟨by rw [hE, e], ?_⟩
    rw [hY, hn, List.take_length]; unfold exV; rw [e]; rfl)
  have TB := Lib.hid (fun i (hi : i ≤ n) (ha : ∀ j, j < i → isX (zs.getD j 0) = true) => tot_bound (zs := zs) i (by omega) ha)
  have TS := Lib.hid (fun i (hi : i < n) => show tot (zs.take (i + 1)) = tot (zs.take i) + wVal (zs.getD i 0) by rw [take_snoc (by omega), tot_snoc])
  have XC := Lib.hid (fun i (hi : i < n) => show ∃ b o, A = some ⟨b, o, none⟩ ∧ b < w.heap.size ∧ w.cell? ⟨b, o + i, none⟩ = some (.float .f64 (zs.getD i 0)) by
    obtain ⟨b, o, e, hlt, k⟩ := h.at_ (k := i) (by omega)
    exact ⟨b, o, e, hlt, k i (by omega)⟩)
  have XI := Lib.hid (fun i (hi : i < n) => rwhole15 (zs.getD i 0) (hf.get (by omega)))
  have hl' : n ≤ 1000 := by omega
  clear h hf hl hE hY hn
  go_enter Try.func17, Try.ntmps17
  go_wp2_with fail
  go_loopw [4, 5] (fun vs vi wr => ∃ (i : Nat) (t : Int), i ≤ n ∧ vs = .int .i64 t ∧ vi = .int .i64 i ∧ Hid (t = tot (zs.take (min i 512))) ∧ Hid (∀ j, j < i → isX (zs.getD j 0) = true) ∧ Hid (wr = w)) (fun _ vi _ => n - (intOf vi).toNat)
  case atStart => exact ⟨0, 0, Nat.zero_le _, rfl, rfl, Lib.hid rfl, Lib.hid (fun j hj => by cases hj), Lib.hid rfl⟩
  case round =>
    obtain ⟨i, t, hi, rfl, rfl, HT, HM, HW⟩ := hrel
    obtain rfl := HW.out
    by_cases q : i < n
    · obtain ⟨b, o, rfl, hb, ci⟩ := XC.out i q
      have O1 := Lib.hid (XI.out i q)
      obtain ⟨x, hx⟩ : ∃ x, x = zs.getD i 0 := ⟨_, rfl⟩
      rw [← hx] at ci O1
      cases hX : isX x with
      | true =>
        obtain ⟨hw, r1, r2⟩ := isX_parts hX
        have HM2 := Lib.hid (show ∀ j, j < i + 1 → isX (zs.getD j 0) = true from fun j hj => by
          rcases Nat.lt_or_ge j i with q2 | q2
          · exact HM.out j q2
          · rw [show j = i by omega, ← hx]; exact hX)
        have OK := Lib.hid hw
        obtain ⟨y, hy⟩ : ∃ y, y = wVal x := ⟨_, rfl⟩
        rw [← hy] at r1 r2
        have HY := Lib.hid hy
        by_cases q5 : i < 512
        · have g1 := TB.out i (by omega) HM.out
          have m1 : min i 512 = i := by omega
          have m2 : min (i + 1) 512 = i + 1 := by omega
          have HT1 := HT.out
          rw [m1] at HT1
          rw [← HT1] at g1
          have HT2 := Lib.hid (show t + y = tot (zs.take (min (i + 1) 512)) by rw [m2, TS.out i q, ← hx, ← hy, HT1])
          have b1 : -9223372036854775808 ≤ t + y := by omega
          have b2 : t + y ≤ 9223372036854775807 := by omega
          clear hX hx hb hw hy m1 m2 HT1 g1
          go_wp2_with fail
          refine (O1.out _).mono ?_
          rintro e w3 ⟨z, rfl, hz, rfl⟩
          obtain rfl : z = y := by rw [hz OK.out, HY.out]
          rw [OK.out]
          clear hz
          go_wp2_with fail
          go_roundw
          case rel => exact ⟨i + 1, t + z, by omega, by go_num, by go_num, HT2, HM2, (by first | exact Lib.hid rfl | exact Lib.hid trivial)⟩
          case measure => simp [intOf]; omega
        · have m2 : min (i + 1) 512 = min i 512 := by omega
          have HT2 := Lib.hid (show t = tot (zs.take (min (i + 1) 512)) by rw [m2, HT.out])
          clear hX hx hb hw hy m2
          go_wp2_with fail
          refine (O1.out _).mono ?_
          rintro e w3 ⟨z, rfl, hz, rfl⟩
          obtain rfl : z = y := by rw [hz OK.out, HY.out]
          rw [OK.out]
          clear hz
          go_wp2_with fail
          go_roundw
          case rel => exact ⟨i + 1, t, by omega, rfl, by go_num, HT2, HM2, (by first | exact Lib.hid rfl | exact Lib.hid trivial)⟩
          case measure => simp [intOf]; omega
      | false =>
        obtain ⟨e1, e2⟩ := NO.out i q (by rw [← hx]; exact hX)
        cases hw : wOk x with
        | false =>
          have HWF := Lib.hid hw
          clear hX hx hb hw
          go_wp2_with fail
          refine (O1.out _).mono ?_
          rintro e w3 ⟨z, rfl, hz, rfl⟩
          rw [HWF.out]
          clear hz
          go_wp2_with fail
          go_ret2
          exact ⟨by first | rfl | (rw [e1, e2]; rfl), rfl⟩
        | true =>
          have r1 : wVal x < -9007199254740992 ∨ 9007199254740992 < wVal x := by
            unfold isX at hX; rw [hw] at hX; simp at hX; omega
          have OK := Lib.hid hw
          obtain ⟨y, hy⟩ : ∃ y, y = wVal x := ⟨_, rfl⟩
          rw [← hy] at r1
          have HY := Lib.hid hy
          clear hX hx hb hw hy
          by_cases r2 : 9007199254740992 < y
          · go_wp2_with fail
            refine (O1.out _).mono ?_
            rintro e w3 ⟨z, rfl, hz, rfl⟩
            obtain rfl : z = y := by rw [hz OK.out, HY.out]
            rw [OK.out]
            clear hz
            go_wp2_with fail
            go_ret2
            exact ⟨by first | rfl | (rw [e1, e2]; rfl), rfl⟩
          · have r3 : y < -9007199254740992 := by omega
            go_wp2_with fail
            refine (O1.out _).mono ?_
            rintro e w3 ⟨z, rfl, hz, rfl⟩
            obtain rfl : z = y := by rw [hz OK.out, HY.out]
            rw [OK.out]
            clear hz
            go_wp2_with fail
            go_ret2
            exact ⟨by first | rfl | (rw [e1, e2]; rfl), rfl⟩
    · have hin : i = n := by omega
      subst hin
      by_cases q5 : 512 < i
      · obtain ⟨e1, e2⟩ := LONG.out HM.out q5
        go_wp2_with fail
        go_ret2
        exact ⟨by first | rfl | (rw [e1, e2]; rfl), rfl⟩
      · obtain ⟨e1, e2⟩ := YES.out HM.out q5
        have g1 := TB.out i (by omega) HM.out
        have HT1 := HT.out
        rw [show min i 512 = i by omega] at HT1
        rw [← HT1] at g1 e2
        have RR := Lib.hid (rRound t (by omega) (by omega))
        clear g1 HT1
        go_wp2_with fail
        refine (RR.out _).mono ?_
        rintro e w3 ⟨rfl, rfl⟩
        go_wp2_with fail
        go_ret2
        exact ⟨by first | rfl | (rw [e1, e2]; rfl), rfl⟩

end Go.Proofs.Ytoljhoabbaigdaa
