/- slices.heapSortOrdered at uint64, walked. -/
import Derived.Test.YtodindfchkpecaaSh
namespace Go.Proofs.Ytodindfchkpecaa
open Go.RowKit Go.Sort

theorem heapBuild_succ (hi F k : Nat) (d : Array Int) : heapBuild ltInt hi F (k + 1) d = heapBuild ltInt hi F k (siftDown ltInt hi F k d) := rfl
theorem heapPop_succ (F k : Nat) (d : Array Int) : heapPop ltInt F (k + 1) d = heapPop ltInt F k (siftDown ltInt k F 0 (swp d F (F + k))) := rfl
theorem sift_size (hi F : Nat) : ∀ (n r : Nat) (d : Array Int), hi - r ≤ n → (siftDown ltInt hi F r d).size = d.size
  | 0, r, d, h => by rw [sift_end hi F r d (by omega)]
  | n + 1, r, d, h => by
    by_cases h1 : hi ≤ 2 * r + 1
    · rw [sift_end hi F r d h1]
    · by_cases h2 : 2 * r + 2 < hi ∧ d[F + (2 * r + 1)]! < d[F + (2 * r + 2)]!
      · by_cases h3 : d[F + r]! < d[F + (2 * r + 2)]!
        · rw [sift_b_go hi F r d h2.1 h2.2 h3, sift_size hi F n _ _ (by omega), size_swp]
        · rw [sift_b_stop hi F r d h2.1 h2.2 h3]
      · by_cases h3 : d[F + r]! < d[F + (2 * r + 1)]!
        · rw [sift_c_go hi F r d (by omega) h2 h3, sift_size hi F n _ _ (by omega), size_swp]
        · rw [sift_c_stop hi F r d (by omega) h2 h3]

/-- siftDown, the row's length under a name of its own -/
theorem osift_n (g cap : Nat) (Z : List Value) (d : Array Int) (n lo hi F : Nat) (w : World) (h : Sw w w g Z d) (hn : d.size = n) (hb : F + hi ≤ n) (hlo : lo ≤ 1024) (hsz : n ≤ 1024) :
    Calls Try.prog 64 #[.slice (some ⟨g, 0, none⟩) n cap, .int .i64 lo, .int .i64 hi, .int .i64 F] w fun e w' => e = .returned (.tuple #[]) ∧ Sw w w' g Z (siftDown ltInt hi F lo d) := by
  subst hn; exact osift g cap Z d lo hi F w h hb hlo hsz

theorem build_size (hi F : Nat) : ∀ (k : Nat) (d : Array Int), (heapBuild ltInt hi F k d).size = d.size
  | 0, _ => rfl
  | k + 1, d => by rw [heapBuild_succ, build_size hi F k, sift_size hi F _ _ _ (Nat.le_refl _)]

set_option maxHeartbeats 4000000 in
set_option maxRecDepth 100000 in
/-- slices.heapSortOrdered -/
theorem oheap (g cap : Nat) (Z : List Value) (d : Array Int) (a b : Nat) (w : World) (h : Sw w w g Z d) (hab : a < b) (hb : b ≤ d.size) (hsz : d.size ≤ 1024) :
    Calls Try.prog 54 #[.slice (some ⟨g, 0, none⟩) d.size cap, .int .i64 a, .int .i64 b] w (SortPost g Z a b d w) := by
  have H := Lib.hid h
  have FIN := Lib.hid (heapSort_holds (lt := ltInt) swo_ltInt d a b (by omega) hb)
  obtain ⟨N, hN⟩ : ∃ N, N = b - a := ⟨_, rfl⟩
  obtain ⟨M, hM⟩ : ∃ M, M = (N - 1) / 2 := ⟨_, rfl⟩
  have HS := Lib.hid (show heapSort ltInt d a b = heapPop ltInt a N (heapBuild ltInt N a (M + 1) d) by
    unfold heapSort; rw [← hN, ← hM])
  have EN := Lib.hid (show (b : Int) - (a : Int) = (N : Int) by omega)
  have EM := Lib.hid (show ((N : Int) - 1) / 2 = (M : Int) by omega)
  have hNa : a + N ≤ d.size := by omega
  have hMN : M < N := by omega
  clear h hN hM
  go_enter Try.func54, Try.ntmps54
  go_wp2_with fail
  rw [EN.out, EM.out]
  go_loopw [9] (fun vi wr => ∃ (k : Nat) (z : Int) (dk : Array Int), vi = .int .i64 z ∧ z + 1 ≤ k ∧ (k : Int) ≤ z + 1 ∧ k ≤ M + 1 ∧ Hid (dk.size = d.size) ∧ Hid (heapBuild ltInt N a k dk = heapBuild ltInt N a (M + 1) d) ∧ Hid (Sw w wr g Z dk)) (fun vi _ => (intOf vi + 1).toNat)
  case atStart => exact ⟨M + 1, M, d, rfl, by omega, by omega, Nat.le_refl _, rfl, rfl, H⟩
  case round =>
    obtain ⟨k, z, dk, rfl, z0, z1, kM, DS, EQ, HW⟩ := hrel
    by_cases hz : 0 ≤ z
    · obtain ⟨j, rfl⟩ := Int.eq_ofNat_of_zero_le hz
      obtain rfl : k = j + 1 := by omega
      have hS := osift g cap Z dk j N a wr HW.out.self (by rw [DS.out]; exact hNa) (by omega) (by rw [DS.out]; exact hsz)
      rw [DS.out] at hS
      have HSS := Lib.hid hS
      have D2 := Lib.hid (sift_size N a _ j dk (Nat.le_refl _))
      clear hS
      go_wp2_with fail
      refine HSS.out.mono ?_
      rintro e w1 ⟨rfl, hw1⟩
      have HW1 := Lib.hid (HW.out.trans hw1)
      clear hw1
      go_wp2
      go_roundw
      case rel => exact ⟨j, (j : Int) - 1, siftDown ltInt N a j dk, rfl, by omega, by omega, by omega, (by rw [D2.out]; exact DS.out : (siftDown ltInt N a j dk).size = d.size), EQ, HW1⟩
      case measure => simp [intOf]
    · obtain rfl : k = 0 := by omega
      obtain ⟨d1, hd1⟩ : ∃ d1, d1 = heapBuild ltInt N a (M + 1) d := ⟨_, rfl⟩
      have ED : Hid (dk = d1) := by show _ = _; rw [hd1]; exact EQ.out
      have HS1 : Hid (heapSort ltInt d a b = heapPop ltInt a N dk) := by show _ = _; rw [HS.out, ← hd1, ED.out]
      clear hd1
      go_wp2_with fail
      go_loopw [10] (fun vi ws => ∃ (k : Nat) (z : Int) (dj : Array Int), vi = .int .i64 z ∧ z + 1 ≤ k ∧ (k : Int) ≤ z + 1 ∧ k ≤ N ∧ Hid (dj.size = d.size) ∧ Hid (heapPop ltInt a k dj = heapPop ltInt a N dk) ∧ Hid (Sw w ws g Z dj)) (fun vi _ => (intOf vi + 1).toNat)
      case atStart => exact ⟨N, (N : Int) - 1, dk, by first | rfl | go_num, by omega, by omega, Nat.le_refl _, DS, rfl, HW⟩
      case round =>
        obtain ⟨k2, z2, dj, rfl, y0, y1, kN, DJ, EJ, HJ⟩ := hrel
        by_cases hz2 : 0 ≤ z2
        · obtain ⟨j, rfl⟩ := Int.eq_ofNat_of_zero_le hz2
          obtain rfl : k2 = j + 1 := by omega
          have hja : a + j < d.size := by omega
          have ha0 : a < d.size := by omega
          have ca := HJ.out.cell a (by rw [DJ.out]; exact ha0)
          have cj := HJ.out.cell (a + j) (by rw [DJ.out]; exact hja)
          have fa := HJ.out.frozen a
          have fj := HJ.out.frozen (a + j)
          have SW := Lib.hid (HJ.out.swap a (a + j) (by rw [DJ.out]; exact ha0) (by rw [DJ.out]; exact hja)).drew
          obtain ⟨dn, hdn⟩ : ∃ dn, dn = swp dj a (a + j) := ⟨_, rfl⟩
          have dnz : dn.size = d.size := by rw [hdn, size_swp, DJ.out]
          have EP : Hid (heapPop ltInt a N dk = heapPop ltInt a j (siftDown ltInt j a 0 dn)) := by show _ = _; rw [← EJ.out, heapPop_succ, ← hdn]
          rw [← hdn] at SW
          have DN := Lib.hid dnz
          have D2 := Lib.hid (sift_size j a _ 0 dn (Nat.le_refl _))
          obtain ⟨x, hx⟩ : ∃ x, dj[a]! = x := ⟨_, rfl⟩
          obtain ⟨y, hy⟩ : ∃ y, dj[a + j]! = y := ⟨_, rfl⟩
          rw [hx, hy] at SW
          rw [hx] at ca
          rw [hy] at cj
          have a0 : (0 : Int) ≤ (a : Int) + (j : Int) := by omega
          have a1 : (a : Int) + (j : Int) < d.size := by omega
          have a2 : ((a : Int) + (j : Int)).toNat = a + j := by omega
          have a3 : IntKind.i64.wrap ((a : Int) + (j : Int)) = (a : Int) + (j : Int) := by rw [IntKind.wrap_i64]; omega
          rcases Nat.eq_zero_or_pos j with hj0 | hj0
          · subst hj0
            rw [Nat.add_zero] at cj fj SW
            obtain rfl : x = y := by rw [← hx, ← hy, Nat.add_zero]
            clear hx hy dnz hdn a0 a1 a2 a3
            go_wp2_with fail
            go_region
            go_wp2_with fail
            refine (osift_n g cap Z dn d.size 0 0 a _ SW.out.self DN.out (by omega) (by omega) (by omega)).mono ?_
            rintro e w1 ⟨rfl, hw1⟩
            have HW1 := Lib.hid (SW.out.trans hw1)
            clear hw1
            go_wp2
            go_roundw
            case rel => exact ⟨0, -1, siftDown ltInt 0 a 0 dn, rfl, by omega, by omega, by omega, (by rw [D2.out]; exact DN.out : (siftDown ltInt 0 a 0 dn).size = d.size), EP.out.symm, HW1⟩
            case measure => simp [intOf]
          · clear hx hy dnz hdn
            go_wp2_with fail
            go_region
            go_wp2_with fail
            refine (osift_n g cap Z dn d.size 0 j a _ SW.out.self DN.out (by omega) (by omega) (by omega)).mono ?_
            rintro e w1 ⟨rfl, hw1⟩
            have HW1 := Lib.hid (SW.out.trans hw1)
            clear hw1
            go_wp2
            go_roundw
            case rel => exact ⟨j, (j : Int) - 1, siftDown ltInt j a 0 dn, rfl, by omega, by omega, by omega, (by rw [D2.out]; exact DN.out : (siftDown ltInt j a 0 dn).size = d.size), EP.out.symm, HW1⟩
            case measure => simp [intOf]
        · obtain rfl : k2 = 0 := by omega
          go_wp2
          go_end0
          have h9 : dj = heapSort ltInt d a b := by rw [HS1.out, ← EJ.out]; rfl
          exact ⟨rfl, dj, by rw [h9]; exact FIN.out.1, by rw [h9]; exact FIN.out.2, HJ.out⟩

end Go.Proofs.Ytodindfchkpecaa
