/- slices.partialInsertionSortOrdered at uint64, walked. -/
import Derived.Test.YtodindfchkpecaaSp
namespace Go.Proofs.Ytodindfchkpecaa
open Go.RowKit Go.Sort

theorem scan_go (b i : Nat) (d : Array Int) (h1 : i < b) (h2 : ¬ d[i]! < d[i - 1]!) : scanSorted ltInt d b i = scanSorted ltInt d b (i + 1) := by
  rw [scanSorted, if_pos (by simp [ltInt, h1, h2])]
theorem scan_end (b i : Nat) (d : Array Int) (h1 : ¬ i < b) : scanSorted ltInt d b i = i := by
  rw [scanSorted, if_neg (by simp [h1])]
theorem scan_stop (b i : Nat) (d : Array Int) (h2 : d[i]! < d[i - 1]!) : scanSorted ltInt d b i = i := by
  rw [scanSorted, if_neg (by simp [ltInt, h2])]
theorem down_go (j : Nat) (d : Array Int) (h : d[j + 1]! < d[j]!) : shiftDown ltInt (j + 1) d = shiftDown ltInt j (swp d (j + 1) j) := by
  rw [shiftDown, if_neg (by simp [ltInt, h])]
theorem down_stop (j : Nat) (d : Array Int) (h : ¬ d[j + 1]! < d[j]!) : shiftDown ltInt (j + 1) d = d := by
  rw [shiftDown, if_pos (by simp [ltInt, h])]
theorem down_zero (d : Array Int) : shiftDown ltInt 0 d = d := rfl
theorem up_go (b j : Nat) (d : Array Int) (h1 : j < b) (h : d[j]! < d[j - 1]!) : shiftUp ltInt b j d = shiftUp ltInt b (j + 1) (swp d j (j - 1)) := by
  rw [shiftUp, if_pos h1, if_neg (by simp [ltInt, h])]
theorem up_stop (b j : Nat) (d : Array Int) (h : ¬ d[j]! < d[j - 1]!) : shiftUp ltInt b j d = d := by
  rw [shiftUp]
  split
  · rw [if_pos (by simp [ltInt, h])]
  · rfl
theorem up_end (b j : Nat) (d : Array Int) (h1 : ¬ j < b) : shiftUp ltInt b j d = d := by
  rw [shiftUp, if_neg h1]

set_option maxHeartbeats 4000000 in
set_option maxRecDepth 100000 in
/-- slices.partialInsertionSortOrdered -/
theorem opartial (g cap : Nat) (Z : List Value) (d : Array Int) (a b : Nat) (w : World) (h : Sw w w g Z d) (hab : a < b) (hb : b ≤ d.size) (hsz : d.size ≤ 1024) :
    Calls Try.prog 58 #[.slice (some ⟨g, 0, none⟩) d.size cap, .int .i64 a, .int .i64 b] w
      fun e w' => e = .returned (.bool (partialInsertionSort ltInt d a b).2) ∧ Sw w w' g Z (partialInsertionSort ltInt d a b).1 := by
  have H := Lib.hid h
  clear h
  obtain ⟨R, hR⟩ : ∃ R, partialInsertionSort ltInt d a b = R := ⟨_, rfl⟩
  have E0 : Hid (partialIns ltInt a b 5 (a + 1) d = R) := hR
  rw [hR]
  clear hR
  go_enter Try.func58, Try.ntmps58
  go_wp2_with fail
  go_loopw [7, 8] (fun vi vc wr => ∃ (i s : Nat) (c : Int) (dk : Array Int), vi = .int .i64 i ∧ vc = .int .i64 c ∧ c + s = 5 ∧ 0 ≤ c ∧ a + 1 ≤ i ∧ i ≤ b ∧ Hid (dk.size = d.size) ∧ Hid (partialIns ltInt a b s i dk = R) ∧ Hid (Sw w wr g Z dk)) (fun _ vc _ => (5 - intOf vc).toNat)
  case atStart => exact ⟨a + 1, 5, 0, d, by go_num, rfl, rfl, by omega, Nat.le_refl _, by omega, rfl, E0, H⟩
  case round =>
    obtain ⟨i0, s, c, dk, rfl, rfl, cs, c0, ai0, ib0, DS, EQ, HW⟩ := hrel
    rcases s with _ | s
    · have c5 : c = 5 := by omega
      subst c5
      go_wp2_with fail
      go_ret
      have e := EQ.out
      rw [show R = (dk, false) from e.symm]
      exact ⟨rfl, HW.out⟩
    · have c5 : c < 5 := by omega
      have E1 := Lib.hid (partialIns_succ (lt := ltInt) a b s i0 dk)
      go_upto_block 2 with fail
      go_cut [7] from 13 to 132 (fun vi wx => ∃ K : Nat, vi = .int .i64 ((K : Int) + 1) ∧ a ≤ K ∧ K + 1 ≤ b ∧ Hid (scanSorted ltInt dk b i0 = K + 1) ∧ Hid (Sw w wx g Z dk))
      case first =>
        go_wp2_with fail
        go_loopw [7] (fun vi wr => ∃ k : Nat, vi = .int .i64 k ∧ a + 1 ≤ k ∧ k ≤ b ∧ Hid (scanSorted ltInt dk b i0 = scanSorted ltInt dk b k) ∧ Hid (Sw w wr g Z dk)) (fun vi _ => ((b : Int) - intOf vi).toNat)
        case atStart => exact ⟨i0, rfl, ai0, ib0, rfl, HW⟩
        case round =>
          obtain ⟨k, rfl, ak, kb, SC, HS⟩ := hrel
          obtain ⟨k, rfl⟩ : ∃ m, k = m + 1 := ⟨k - 1, by omega⟩
          by_cases hkb : k + 1 < b
          · have T0 : decide ((k : Int) + 1 < (b : Int)) = true := decide_eq_true (by omega)
            have cj := HS.out.cell (k + 1) (by rw [DS.out]; omega)
            have ck := HS.out.cell k (by rw [DS.out]; omega)
            have fj := HS.out.frozen (k + 1)
            have fk := HS.out.frozen k
            have GO := Lib.hid (scan_go b (k + 1) dk hkb)
            have ST := Lib.hid (scan_stop b (k + 1) dk)
            simp only [Nat.add_sub_cancel] at GO ST
            obtain ⟨x, hx⟩ : ∃ x, dk[k + 1]! = x := ⟨_, rfl⟩
            obtain ⟨y, hy⟩ : ∃ y, dk[k]! = y := ⟨_, rfl⟩
            rw [hx] at cj
            rw [hy] at ck
            rw [hx, hy] at GO ST
            clear hx hy
            have i0 : (0 : Int) ≤ (k : Int) + 1 := by omega
            have i1 : (k : Int) + 1 < d.size := by omega
            have i2 : ((k : Int) + 1).toNat = k + 1 := by omega
            have i3 : IntKind.i64.wrap (k : Int) = (k : Int) := by rw [IntKind.wrap_i64]; omega
            have i4 : (0 : Int) ≤ (k : Int) := by omega
            have i5 : (k : Int) < d.size := by omega
            have i6 : ((k : Int)).toNat = k := by omega
            by_cases hxy : x < y
            · go_wp2_with fail
              go_quiet ((go_at_call 42; exact Calls.quiet_of_same ((cless x y _).mono fun _ _ hh => ⟨hh.1, hh.2.symm⟩)))
              go_wp2_with fail
              go_meet
              exact ⟨k, rfl, by omega, by omega, (by rw [SC.out, ST.out hxy] : _ = _), HS.out.drewN _⟩
            · have T9 : decide (x < y) = false := decide_eq_false hxy
              go_wp2_with fail
              go_quiet ((go_at_call 42; exact Calls.quiet_of_same ((cless x y _).mono fun _ _ hh => ⟨hh.1, hh.2.symm⟩)))
              go_wp2
              go_roundw
              case rel => exact ⟨k + 1 + 1, by go_num, by omega, by omega, (by rw [SC.out, GO.out hxy] : _ = _), HS.out.drewN _⟩
              case measure => simp [intOf]; omega
          · have T0 : decide ((k : Int) + 1 < (b : Int)) = false := decide_eq_false (by omega)
            have EN := Lib.hid (scan_end b (k + 1) dk hkb)
            go_wp2_with fail
            go_quiet (fail)
            go_wp2_with fail
            go_meet
            exact ⟨k, rfl, by omega, by omega, (by rw [SC.out, EN.out] : _ = _), HS.out.drewN _⟩
      case rest =>
        obtain ⟨K, rfl, aK, Kb, SC, HS⟩ := hcut
        have E2 : Hid (partialIns ltInt a b (s + 1) i0 dk = R) := EQ
        by_cases hKb : (K : Int) + 1 = (b : Int)
        · have e9 : R = (dk, true) := by
            rw [← E2.out, E1.out, SC.out, if_pos (by omega)]
          go_wp2_with fail
          go_ret
          rw [e9]
          exact ⟨rfl, HS.out⟩
        · by_cases h50 : (b : Int) - (a : Int) < 50
          · have e9 : R = (dk, false) := by
              rw [← E2.out, E1.out, SC.out, if_neg (by omega), if_pos (by omega)]
            go_wp2_with fail
            go_ret
            rw [e9]
            exact ⟨rfl, HS.out⟩
          · have E3 : Hid (partialIns ltInt a b s (K + 1) (fixUp ltInt b (K + 1) (fixDown ltInt a (K + 1) (swp dk (K + 1) K))) = R) := by
              show _ = _
              rw [← E2.out, E1.out, SC.out, if_neg (by omega), if_neg (by omega)]
              rfl
            obtain ⟨d1, hd1⟩ : ∃ d1, swp dk (K + 1) K = d1 := ⟨_, rfl⟩
            have cj := HS.out.cell (K + 1) (by rw [DS.out]; omega)
            have ck := HS.out.cell K (by rw [DS.out]; omega)
            have fj := HS.out.frozen (K + 1)
            have fk := HS.out.frozen K
            have SX := Lib.hid (HS.out.swap (K + 1) K (by rw [DS.out]; omega) (by rw [DS.out]; omega)).drew
            have D1 : Hid (d1.size = d.size) := by show _ = _; rw [← hd1, size_swp]; exact DS.out
            rw [hd1] at SX E3
            clear hd1
            obtain ⟨x, hx⟩ : ∃ x, dk[K + 1]! = x := ⟨_, rfl⟩
            obtain ⟨y, hy⟩ : ∃ y, dk[K]! = y := ⟨_, rfl⟩
            rw [hx] at cj
            rw [hy] at ck
            rw [hx, hy] at SX
            clear hx hy
            have i0 : (0 : Int) ≤ (K : Int) + 1 := by omega
            have i1 : (K : Int) + 1 < d.size := by omega
            have i2 : ((K : Int) + 1).toNat = K + 1 := by omega
            have i3 : IntKind.i64.wrap (K : Int) = (K : Int) := by rw [IntKind.wrap_i64]; omega
            have i4 : (0 : Int) ≤ (K : Int) := by omega
            have i5 : (K : Int) < d.size := by omega
            have i6 : ((K : Int)).toNat = K := by omega
            by_cases h2a : (2 : Int) ≤ (K : Int) + 1 - (a : Int)
            · go_wp2_with fail
              go_region
              generalize ((wc.setCell ⟨g, K + 1, none⟩ (.int .u64 y)).setCell ⟨g, K, none⟩ (.int .u64 x)).drew = w5 at SX ⊢
              clear cj ck fj fk
              go_upto_block 4 with fail
              go_cut [9] from 13 to 132 (fun _ wx => ∃ d2 : Array Int, Hid (d2.size = d.size) ∧ Hid (fixDown ltInt a (K + 1) d1 = d2) ∧ Hid (Sw w wx g Z d2))
              case first =>
                go_wp2_with fail
                go_loopw [9] (fun vj ws => ∃ (j : Nat) (dj : Array Int), vj = .int .i64 j ∧ j ≤ K ∧ Hid (dj.size = d.size) ∧ Hid (fixDown ltInt a (K + 1) d1 = shiftDown ltInt j dj) ∧ Hid (Sw w ws g Z dj)) (fun vj _ => (intOf vj).toNat)
                case atStart => exact ⟨K, d1, by first | rfl | go_num, Nat.le_refl _, D1, (by rw [fixDown, if_pos (by omega)]; rfl : _ = _), SX⟩
                case round =>
                  obtain ⟨j, dj, rfl, jK, DJ, EJ, HJ⟩ := hrel
                  rcases j with _ | j
                  · go_wp2_with fail
                    go_meet
                    exact ⟨dj, DJ, (by rw [EJ.out]; rfl : _ = _), HJ⟩
                  · clear i0 i1 i2 i3 i4 i5 i6
                    have j1 : (1 : Int) ≤ (j : Int) + 1 := by omega
                    have cj := HJ.out.cell (j + 1) (by rw [DJ.out]; omega)
                    have ck := HJ.out.cell j (by rw [DJ.out]; omega)
                    have fj := HJ.out.frozen (j + 1)
                    have fk := HJ.out.frozen j
                    have GO := Lib.hid (down_go j dj)
                    have ST := Lib.hid (down_stop j dj)
                    have SWN := Lib.hid (fun n => (HJ.out.drewN n).swap (j + 1) j (by rw [DJ.out]; omega) (by rw [DJ.out]; omega))
                    obtain ⟨x2, hx⟩ : ∃ x2, dj[j + 1]! = x2 := ⟨_, rfl⟩
                    obtain ⟨y2, hy⟩ : ∃ y2, dj[j]! = y2 := ⟨_, rfl⟩
                    rw [hx] at cj
                    rw [hy] at ck
                    rw [hx, hy] at GO ST SWN
                    clear hx hy
                    have i0 : (0 : Int) ≤ (j : Int) + 1 := by omega
                    have i1 : (j : Int) + 1 < d.size := by omega
                    have i2 : ((j : Int) + 1).toNat = j + 1 := by omega
                    have i3 : IntKind.i64.wrap (j : Int) = (j : Int) := by rw [IntKind.wrap_i64]; omega
                    have i4 : (0 : Int) ≤ (j : Int) := by omega
                    have i5 : (j : Int) < d.size := by omega
                    have i6 : ((j : Int)).toNat = j := by omega
                    by_cases hxy : x2 < y2
                    · go_wp2_with fail
                      go_quiet ((go_at_call 42; exact Calls.quiet_of_same ((cless x2 y2 _).mono fun _ _ hh => ⟨hh.1, hh.2.symm⟩)))
                      go_wp2_with fail
                      go_region
                      go_wp2
                      go_roundw
                      case rel => exact ⟨j, swp dj (j + 1) j, by first | rfl | go_num, by omega, (by rw [size_swp]; exact DJ.out : (swp dj (j + 1) j).size = d.size), (by rw [EJ.out, GO.out hxy] : _ = _), SWN.out _⟩
                      case measure => simp [intOf]
                    · have T9 : decide (x2 < y2) = false := decide_eq_false hxy
                      go_wp2_with fail
                      go_quiet ((go_at_call 42; exact Calls.quiet_of_same ((cless x2 y2 _).mono fun _ _ hh => ⟨hh.1, hh.2.symm⟩)))
                      go_wp2_with fail
                      go_meet
                      exact ⟨dj, DJ, (by rw [EJ.out, ST.out hxy] : _ = _), HJ.out.drewN _⟩
              case rest =>
                obtain ⟨d2, D2, F2, S2⟩ := hcut
                rw [F2.out] at E3
                by_cases h2b : (2 : Int) ≤ (b : Int) - ((K : Int) + 1)
                · go_wp2_with fail
                  go_loopw [10] (fun vj ws => ∃ (j : Nat) (dj : Array Int), vj = .int .i64 ((j : Int) + 1) ∧ j + 1 ≤ b ∧ Hid (dj.size = d.size) ∧ Hid (fixUp ltInt b (K + 1) d2 = shiftUp ltInt b (j + 1) dj) ∧ Hid (Sw w ws g Z dj)) (fun vj _ => ((b : Int) - intOf vj).toNat)
                  case atStart => exact ⟨K + 1, d2, by first | rfl | go_num, by omega, D2, (by rw [fixUp, if_pos (by omega)] : _ = _), S2⟩
                  case round =>
                    obtain ⟨j, dj, rfl, jb, DJ, EJ, HJ⟩ := hrel
                    clear i0 i1 i2 i3 i4 i5 i6
                    by_cases hjb : (j : Int) + 1 < (b : Int)
                    · skip
                      have cj := HJ.out.cell (j + 1) (by rw [DJ.out]; omega)
                      have ck := HJ.out.cell j (by rw [DJ.out]; omega)
                      have fj := HJ.out.frozen (j + 1)
                      have fk := HJ.out.frozen j
                      have GO := Lib.hid (up_go b (j + 1) dj (by omega))
                      have ST := Lib.hid (up_stop b (j + 1) dj)
                      simp only [Nat.add_sub_cancel] at GO ST
                      have SWN := Lib.hid (fun n => (HJ.out.drewN n).swap (j + 1) j (by rw [DJ.out]; omega) (by rw [DJ.out]; omega))
                      obtain ⟨x2, hx⟩ : ∃ x2, dj[j + 1]! = x2 := ⟨_, rfl⟩
                      obtain ⟨y2, hy⟩ : ∃ y2, dj[j]! = y2 := ⟨_, rfl⟩
                      rw [hx] at cj
                      rw [hy] at ck
                      rw [hx, hy] at GO ST SWN
                      clear hx hy
                      have i0 : (0 : Int) ≤ (j : Int) + 1 := by omega
                      have i1 : (j : Int) + 1 < d.size := by omega
                      have i2 : ((j : Int) + 1).toNat = j + 1 := by omega
                      have i3 : IntKind.i64.wrap (j : Int) = (j : Int) := by rw [IntKind.wrap_i64]; omega
                      have i4 : (0 : Int) ≤ (j : Int) := by omega
                      have i5 : (j : Int) < d.size := by omega
                      have i6 : ((j : Int)).toNat = j := by omega
                      by_cases hxy : x2 < y2
                      · go_wp2_with fail
                        go_quiet ((go_at_call 42; exact Calls.quiet_of_same ((cless x2 y2 _).mono fun _ _ hh => ⟨hh.1, hh.2.symm⟩)))
                        go_wp2_with fail
                        go_region
                        go_wp2
                        go_roundw
                        case rel => exact ⟨j + 1, swp dj (j + 1) j, by first | rfl | go_num, by omega, (by rw [size_swp]; exact DJ.out : (swp dj (j + 1) j).size = d.size), (by rw [EJ.out, GO.out hxy] : _ = _), SWN.out _⟩
                        case measure => simp [intOf] <;> omega
                      · have T9 : decide (x2 < y2) = false := decide_eq_false hxy
                        go_wp2_with fail
                        go_quiet ((go_at_call 42; exact Calls.quiet_of_same ((cless x2 y2 _).mono fun _ _ hh => ⟨hh.1, hh.2.symm⟩)))
                        go_wp2
                        go_roundw
                        case rel => exact ⟨K + 1, s, c + 1, dj, by first | rfl | go_num, by first | rfl | go_num, by omega, by omega, by omega, Kb, DJ, (by rw [← E3.out, EJ.out, ST.out hxy] : _ = _), HJ.out.drewN _⟩
                        case measure => simp [intOf] <;> omega
                    · have EN := Lib.hid (up_end b (j + 1) dj (by omega))
                      go_wp2
                      go_roundw
                      case rel => exact ⟨K + 1, s, c + 1, dj, by first | rfl | go_num, by first | rfl | go_num, by omega, by omega, by omega, Kb, DJ, (by rw [← E3.out, EJ.out, EN.out] : _ = _), HJ⟩
                      case measure => simp [intOf] <;> omega
                · have F3 : Hid (fixUp ltInt b (K + 1) d2 = d2) := by show _ = _; rw [fixUp, if_neg (by omega)]
                  rw [F3.out] at E3
                  go_wp2
                  go_roundw
                  case rel => exact ⟨K + 1, s, c + 1, d2, by first | rfl | go_num, by first | rfl | go_num, by omega, by omega, by omega, Kb, D2, E3, S2⟩
                  case measure => simp [intOf] <;> omega
            · have F2 : Hid (fixDown ltInt a (K + 1) d1 = d1) := by show _ = _; rw [fixDown, if_neg (by omega)]
              have D2 := D1
              go_wp2_with fail
              go_region
              have S2 := SX
              generalize ((wc.setCell ⟨g, K + 1, none⟩ (.int .u64 y)).setCell ⟨g, K, none⟩ (.int .u64 x)).drew = w5 at S2 ⊢
              clear cj ck fj fk SX
              obtain ⟨d2, hd2⟩ : ∃ d2, d1 = d2 := ⟨_, rfl⟩
              rw [hd2] at S2 D2
              have F2 : Hid (fixDown ltInt a (K + 1) d1 = d2) := F2.out.trans hd2
              clear hd2
              rw [F2.out] at E3
              by_cases h2b : (2 : Int) ≤ (b : Int) - ((K : Int) + 1)
              · go_wp2_with fail
                go_loopw [10] (fun vj ws => ∃ (j : Nat) (dj : Array Int), vj = .int .i64 ((j : Int) + 1) ∧ j + 1 ≤ b ∧ Hid (dj.size = d.size) ∧ Hid (fixUp ltInt b (K + 1) d2 = shiftUp ltInt b (j + 1) dj) ∧ Hid (Sw w ws g Z dj)) (fun vj _ => ((b : Int) - intOf vj).toNat)
                case atStart => exact ⟨K + 1, d2, by first | rfl | go_num, by omega, D2, (by rw [fixUp, if_pos (by omega)] : _ = _), S2⟩
                case round =>
                  obtain ⟨j, dj, rfl, jb, DJ, EJ, HJ⟩ := hrel
                  clear i0 i1 i2 i3 i4 i5 i6
                  by_cases hjb : (j : Int) + 1 < (b : Int)
                  · skip
                    have cj := HJ.out.cell (j + 1) (by rw [DJ.out]; omega)
                    have ck := HJ.out.cell j (by rw [DJ.out]; omega)
                    have fj := HJ.out.frozen (j + 1)
                    have fk := HJ.out.frozen j
                    have GO := Lib.hid (up_go b (j + 1) dj (by omega))
                    have ST := Lib.hid (up_stop b (j + 1) dj)
                    simp only [Nat.add_sub_cancel] at GO ST
                    have SWN := Lib.hid (fun n => (HJ.out.drewN n).swap (j + 1) j (by rw [DJ.out]; omega) (by rw [DJ.out]; omega))
                    obtain ⟨x2, hx⟩ : ∃ x2, dj[j + 1]! = x2 := ⟨_, rfl⟩
                    obtain ⟨y2, hy⟩ : ∃ y2, dj[j]! = y2 := ⟨_, rfl⟩
                    rw [hx] at cj
                    rw [hy] at ck
                    rw [hx, hy] at GO ST SWN
                    clear hx hy
                    have i0 : (0 : Int) ≤ (j : Int) + 1 := by omega
                    have i1 : (j : Int) + 1 < d.size := by omega
                    have i2 : ((j : Int) + 1).toNat = j + 1 := by omega
                    have i3 : IntKind.i64.wrap (j : Int) = (j : Int) := by rw [IntKind.wrap_i64]; omega
                    have i4 : (0 : Int) ≤ (j : Int) := by omega
                    have i5 : (j : Int) < d.size := by omega
                    have i6 : ((j : Int)).toNat = j := by omega
                    by_cases hxy : x2 < y2
                    · go_wp2_with fail
                      go_quiet ((go_at_call 42; exact Calls.quiet_of_same ((cless x2 y2 _).mono fun _ _ hh => ⟨hh.1, hh.2.symm⟩)))
                      go_wp2_with fail
                      go_region
                      go_wp2
                      go_roundw
                      case rel => exact ⟨j + 1, swp dj (j + 1) j, by first | rfl | go_num, by omega, (by rw [size_swp]; exact DJ.out : (swp dj (j + 1) j).size = d.size), (by rw [EJ.out, GO.out hxy] : _ = _), SWN.out _⟩
                      case measure => simp [intOf] <;> omega
                    · have T9 : decide (x2 < y2) = false := decide_eq_false hxy
                      go_wp2_with fail
                      go_quiet ((go_at_call 42; exact Calls.quiet_of_same ((cless x2 y2 _).mono fun _ _ hh => ⟨hh.1, hh.2.symm⟩)))
                      go_wp2
                      go_roundw
                      case rel => exact ⟨K + 1, s, c + 1, dj, by first | rfl | go_num, by first | rfl | go_num, by omega, by omega, by omega, Kb, DJ, (by rw [← E3.out, EJ.out, ST.out hxy] : _ = _), HJ.out.drewN _⟩
                      case measure => simp [intOf] <;> omega
                  · have EN := Lib.hid (up_end b (j + 1) dj (by omega))
                    go_wp2
                    go_roundw
                    case rel => exact ⟨K + 1, s, c + 1, dj, by first | rfl | go_num, by first | rfl | go_num, by omega, by omega, by omega, Kb, DJ, (by rw [← E3.out, EJ.out, EN.out] : _ = _), HJ⟩
                    case measure => simp [intOf] <;> omega
              · exfalso; omega

end Go.Proofs.Ytodindfchkpecaa
