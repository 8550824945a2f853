/- slices.breakPatternsOrdered at uint64, walked. -/
import Derived.Test.YtodindfchkpecaaBp
namespace Go.Proofs.Ytodindfchkpecaa
open Go.RowKit Go.Sort

theorem and_below (x M : Nat) (hx : x < 18446744073709551616) (hM : M < 18446744073709551616) (h1 : 1 ≤ M) : ∃ O : Nat, bits .and .u64 (x : Int) ((M : Int) - 1) = (O : Int) ∧ O < M := by
  refine ⟨x &&& (M - 1), ?_, ?_⟩
  · rw [show ((M : Int) - 1) = ((M - 1 : Nat) : Int) by omega, bits_and_u64_nat _ _ hx (by omega)]
  · have := @Nat.and_le_right x (M - 1)
    omega

set_option maxHeartbeats 4000000 in
set_option maxRecDepth 100000 in
/-- slices.breakPatternsOrdered, of more than twelve places -/
theorem obreak (g cap : Nat) (Z : List Value) (d : Array Int) (a b : Nat) (w : World) (h : Sw w w g Z d) (hab : a + 12 < b) (hb : b ≤ d.size) (hsz : d.size < 256) :
    Calls Try.prog 55 #[.slice (some ⟨g, 0, none⟩) d.size cap, .int .i64 a, .int .i64 b] w (PermPost g Z a b d w) := by
  obtain ⟨n, hn⟩ : ∃ n : Nat, (b : Int) - (a : Int) = n := ⟨b - a, by omega⟩
  have NB := Lib.hid hn
  have n12 : 12 < n := by omega
  have n256 : n < 256 := by omega
  have nb : a + n = b := by omega
  obtain ⟨Q, hQ⟩ : ∃ Q : Nat, (n : Int) / 4 = Q := ⟨n / 4, by omega⟩
  have QH := Lib.hid hQ
  have q0 : 3 ≤ Q := by omega
  have q1 : 4 * Q ≤ n := by omega
  have H := Lib.hid (Ct.made h 75 (.int .u64 (n : Int)))
  clear h hQ hn
  have l8 : (8 : Int) ≤ (n : Int) := by omega
  go_enter Try.func55, Try.ntmps55
  go_upto_region 1 with fail
  rw [NB.out]
  go_wp2_with fail
  refine (onextpow n (by omega) (by omega) _).mono ?_
  rintro e w1 ⟨M, rfl, m0, m1, rfl⟩
  go_wp2_with fail
  rw [QH.out]
  have mm : M < 512 := by omega
  have m2 : 1 ≤ M := by omega
  go_loopw [9] (fun vi wr => ∃ (i x : Nat) (dk : Array Int), vi = .int .i64 i ∧ a ≤ i ∧ i ≤ a + 2 * Q + 2 ∧ x < 18446744073709551616 ∧ Hid (dk.size = d.size) ∧ Hid (PermIn a b d dk) ∧ Hid (Ct w wr g Z dk w.heap.size 75 (.int .u64 (x : Int)))) (fun vi _ => ((a : Int) + 2 * Q + 2 - intOf vi).toNat)
  case atStart => exact ⟨a + 2 * Q - 1, n, d, by congr 1; omega, by omega, by omega, by omega, rfl, permIn_refl _ _ _, H.out⟩
  case round =>
    obtain ⟨i, x, dk, rfl, ia, ib, xl, DS, PM, HK⟩ := hrel
    have hq := QH.out
    by_cases hle : (i : Int) ≤ (a : Int) + (n : Int) / 4 * 2 + 1
    · have il : i < a + 2 * Q + 2 := by omega
      clear hq
      go_wp2_with fail
      refine (onext g Z dk w.heap.size x 75 w _ HK.out xl).mono ?_
      rintro e w1 ⟨y, rfl, yl, hc⟩
      obtain ⟨O, e1, ol⟩ := and_below y M yl (by omega) m2
      have HC := Lib.hid hc
      clear hc
      have ci := HC.out.sw.cell i (by rw [DS.out]; omega)
      have fi := HC.out.sw.frozen i
      obtain ⟨u, hu⟩ : ∃ u, dk[i]! = u := ⟨_, rfl⟩
      rw [hu] at ci
      have i1 : (i : Int) < d.size := by omega
      have i2 : ((i : Int)).toNat = i := by omega
      have i3 : (0 : Int) ≤ (i : Int) := by omega
      by_cases hOn : (n : Int) ≤ (O : Int)
      · skip
        obtain ⟨j, hj⟩ : ∃ j : Nat, a + O - n = j := ⟨_, rfl⟩
        have ja : a ≤ j := by omega
        have jb : j < b := by omega
        have k1 : (a : Int) + ((O : Int) - (n : Int)) < d.size := by omega
        have k2 : ((a : Int) + ((O : Int) - (n : Int))).toNat = j := by omega
        have k3 : 0 ≤ (a : Int) + ((O : Int) - (n : Int)) := by omega
        have cj := HC.out.sw.cell j (by rw [DS.out]; omega)
        have fj := HC.out.sw.frozen j
        have SX := Lib.hid (HC.out.swap i j (by rw [DS.out]; omega) (by rw [DS.out]; omega)).drew
        have PN := Lib.hid (permIn_trans _ _ _ _ _ PM.out (swp_permIn dk a b i j ia (by omega) ja jb (by rw [DS.out]; exact hb)))
        have DN : Hid ((swp dk i j).size = d.size) := by show _ = _; rw [size_swp]; exact DS.out
        obtain ⟨v, hv⟩ : ∃ v, dk[j]! = v := ⟨_, rfl⟩
        rw [hu, hv] at SX
        rw [hv] at cj
        clear hj
        by_cases hij : i = j
        · subst hij
          obtain rfl : u = v := by rw [← hu, ← hv]
          clear hu hv
          go_wp2_with fail
          go_region
          go_wp2
          go_roundw
          case rel => exact ⟨i + 1, y, swp dk i i, by go_num, by omega, by omega, yl, DN.out, PN.out, SX.out⟩
          case measure => simp [intOf]; omega
        · clear hu hv
          go_wp2_with fail
          go_region
          go_wp2
          go_roundw
          case rel => exact ⟨i + 1, y, swp dk i j, by go_num, by omega, by omega, yl, DN.out, PN.out, SX.out⟩
          case measure => simp [intOf]; omega
      · skip
        obtain ⟨j, hj⟩ : ∃ j : Nat, a + O = j := ⟨_, rfl⟩
        have ja : a ≤ j := by omega
        have jb : j < b := by omega
        have k1 : (a : Int) + (O : Int) < d.size := by omega
        have k2 : ((a : Int) + (O : Int)).toNat = j := by omega
        have k3 : 0 ≤ (a : Int) + (O : Int) := by omega
        have cj := HC.out.sw.cell j (by rw [DS.out]; omega)
        have fj := HC.out.sw.frozen j
        have SX := Lib.hid (HC.out.swap i j (by rw [DS.out]; omega) (by rw [DS.out]; omega)).drew
        have PN := Lib.hid (permIn_trans _ _ _ _ _ PM.out (swp_permIn dk a b i j ia (by omega) ja jb (by rw [DS.out]; exact hb)))
        have DN : Hid ((swp dk i j).size = d.size) := by show _ = _; rw [size_swp]; exact DS.out
        obtain ⟨v, hv⟩ : ∃ v, dk[j]! = v := ⟨_, rfl⟩
        rw [hu, hv] at SX
        rw [hv] at cj
        clear hj
        by_cases hij : i = j
        · subst hij
          obtain rfl : u = v := by rw [← hu, ← hv]
          clear hu hv
          go_wp2_with fail
          go_region
          go_wp2
          go_roundw
          case rel => exact ⟨i + 1, y, swp dk i i, by go_num, by omega, by omega, yl, DN.out, PN.out, SX.out⟩
          case measure => simp [intOf]; omega
        · clear hu hv
          go_wp2_with fail
          go_region
          go_wp2
          go_roundw
          case rel => exact ⟨i + 1, y, swp dk i j, by go_num, by omega, by omega, yl, DN.out, PN.out, SX.out⟩
          case measure => simp [intOf]; omega
    · clear hq
      go_wp2
      go_end0
      exact ⟨rfl, dk, PM.out, HK.out.sw⟩

end Go.Proofs.Ytodindfchkpecaa
