/- slices.siftDownOrdered and heapSortOrdered at uint64, walked. -/
import Derived.Test.YtodindfchkpecaaSi
namespace Go.Proofs.Ytodindfchkpecaa
open Go.RowKit Go.Sort

/-- a quiet call behind a quiet region -/
theorem qa {P : Program} {f : FuncId} {args : Array Value} {w : World} {a n : Nat} {v : Value}
    (h : Calls P f args (w.drewN (a + n)) fun e w' => e = .returned v ∧ w' = w.drewN (a + n)) :
    Calls P f args (w.drewN (a + n)) fun e w'' => e = .returned v ∧ ∃ m, w'' = w.drewN (a + m) := h.mono fun _ _ hh => ⟨hh.1, n, hh.2⟩

theorem sift_end (hi F r : Nat) (d : Array Int) (h : hi ≤ 2 * r + 1) : siftDown ltInt hi F r d = d := by
  rw [siftDown, dif_pos h]
theorem sift_b_stop (hi F r : Nat) (d : Array Int) (h : 2 * r + 2 < hi) (hl : d[F + (2 * r + 1)]! < d[F + (2 * r + 2)]!) (hs : ¬ d[F + r]! < d[F + (2 * r + 2)]!) : siftDown ltInt hi F r d = d := by
  rw [siftDown, dif_neg (by omega), if_pos, if_pos]
  · simp [ltInt]; omega
  · rw [Bool.and_eq_true]; exact ⟨decide_eq_true (by omega), decide_eq_true hl⟩
theorem sift_b_go (hi F r : Nat) (d : Array Int) (h : 2 * r + 2 < hi) (hl : d[F + (2 * r + 1)]! < d[F + (2 * r + 2)]!) (hs : d[F + r]! < d[F + (2 * r + 2)]!) : siftDown ltInt hi F r d = siftDown ltInt hi F (2 * r + 2) (swp d (F + r) (F + (2 * r + 2))) := by
  rw [siftDown, dif_neg (by omega), if_pos, if_neg, dif_pos h]
  · simp [ltInt]; omega
  · rw [Bool.and_eq_true]; exact ⟨decide_eq_true (by omega), decide_eq_true hl⟩
theorem sift_c_stop (hi F r : Nat) (d : Array Int) (h : 2 * r + 1 < hi) (hl : ¬ (2 * r + 2 < hi ∧ d[F + (2 * r + 1)]! < d[F + (2 * r + 2)]!)) (hs : ¬ d[F + r]! < d[F + (2 * r + 1)]!) : siftDown ltInt hi F r d = d := by
  rw [siftDown, dif_neg (by omega), if_neg, if_pos]
  · simp [ltInt]; omega
  · rw [Bool.and_eq_true]; rintro ⟨h1, h2⟩; exact hl ⟨by have := of_decide_eq_true h1; omega, of_decide_eq_true h2⟩
theorem sift_c_go (hi F r : Nat) (d : Array Int) (h : 2 * r + 1 < hi) (hl : ¬ (2 * r + 2 < hi ∧ d[F + (2 * r + 1)]! < d[F + (2 * r + 2)]!)) (hs : d[F + r]! < d[F + (2 * r + 1)]!) : siftDown ltInt hi F r d = siftDown ltInt hi F (2 * r + 1) (swp d (F + r) (F + (2 * r + 1))) := by
  rw [siftDown, dif_neg (by omega), if_neg, if_neg]
  · simp [ltInt]; omega
  · rw [Bool.and_eq_true]; rintro ⟨h1, h2⟩; exact hl ⟨by have := of_decide_eq_true h1; omega, of_decide_eq_true h2⟩

set_option maxHeartbeats 4000000 in
set_option maxRecDepth 100000 in
/-- slices.siftDownOrdered -/
theorem osift (g cap : Nat) (Z : List Value) (d : Array Int) (lo hi F : Nat) (w : World) (h : Sw w w g Z d) (hb : F + hi ≤ d.size) (hlo : lo ≤ 1024) (hsz : d.size ≤ 1024) :
    Calls Try.prog 64 #[.slice (some ⟨g, 0, none⟩) d.size cap, .int .i64 lo, .int .i64 hi, .int .i64 F] w fun e w' => e = .returned (.tuple #[]) ∧ Sw w w' g Z (siftDown ltInt hi F lo d) := by
  have H := Lib.hid h
  clear h
  go_enter Try.func64, Try.ntmps64
  go_wp2
  go_loopw [8] (fun vr wr => ∃ (r : Nat) (dk : Array Int), vr = .int .i64 r ∧ r ≤ 1024 ∧ Hid (dk.size = d.size) ∧ Hid (siftDown ltInt hi F lo d = siftDown ltInt hi F r dk) ∧ Hid (Sw w wr g Z dk)) (fun vr _ => 2000 - (intOf vr).toNat)
  case atStart => exact ⟨lo, d, rfl, hlo, rfl, rfl, H⟩
  case round =>
    obtain ⟨r, dk, rfl, hr, DS, EQ, HW⟩ := hrel
    by_cases hend : hi ≤ 2 * r + 1
    · have EN := Lib.hid (sift_end hi F r dk hend)
      go_wp2
      go_end0
      exact ⟨rfl, by rw [EQ.out, EN.out]; exact HW.out⟩
    · have hc : F + (2 * r + 1) < d.size := by omega
      have cr := HW.out.cell (F + r) (by rw [DS.out]; omega)
      have cc := HW.out.cell (F + (2 * r + 1)) (by rw [DS.out]; exact hc)
      have fr := HW.out.frozen (F + r)
      have fc := HW.out.frozen (F + (2 * r + 1))
      have LS := Lib.hid (sift_c_stop hi F r dk (by omega))
      have LG := Lib.hid (sift_c_go hi F r dk (by omega))
      have SWC := Lib.hid (fun n => (HW.out.drewN n).swap (F + r) (F + (2 * r + 1)) (by rw [DS.out]; omega) (by rw [DS.out]; exact hc))
      obtain ⟨x, hx⟩ : ∃ x, dk[F + r]! = x := ⟨_, rfl⟩
      obtain ⟨y, hy⟩ : ∃ y, dk[F + (2 * r + 1)]! = y := ⟨_, rfl⟩
      rw [hx] at cr LS LG
      rw [hy] at cc LS LG
      rw [hx, hy] at SWC
      have a0 : (0 : Int) ≤ (F : Int) + (r : Int) := by omega
      have a1 : (F : Int) + (r : Int) < d.size := by omega
      have a2 : ((F : Int) + (r : Int)).toNat = F + r := by omega
      have a3 : IntKind.i64.wrap ((F : Int) + (r : Int)) = (F : Int) + (r : Int) := by rw [IntKind.wrap_i64]; omega
      have b0 : (0 : Int) ≤ (F : Int) + (2 * (r : Int) + 1) := by omega
      have b1 : (F : Int) + (2 * (r : Int) + 1) < d.size := by omega
      have b2 : ((F : Int) + (2 * (r : Int) + 1)).toNat = F + (2 * r + 1) := by omega
      have b3 : IntKind.i64.wrap ((F : Int) + (2 * (r : Int) + 1)) = (F : Int) + (2 * (r : Int) + 1) := by rw [IntKind.wrap_i64]; omega
      have d3 : IntKind.i64.wrap (2 * (r : Int) + 1 + 1) = 2 * (r : Int) + 1 + 1 := by rw [IntKind.wrap_i64]; omega
      by_cases h2 : 2 * r + 2 < hi
      · have hc2 : F + (2 * r + 2) < d.size := by omega
        have c2 := HW.out.cell (F + (2 * r + 2)) (by rw [DS.out]; exact hc2)
        have f2 := HW.out.frozen (F + (2 * r + 2))
        have BS := Lib.hid (sift_b_stop hi F r dk h2)
        have BG := Lib.hid (sift_b_go hi F r dk h2)
        have SWB := Lib.hid (fun n => (HW.out.drewN n).swap (F + r) (F + (2 * r + 2)) (by rw [DS.out]; omega) (by rw [DS.out]; exact hc2))
        have T0 : decide (2 * (r : Int) + 1 + 1 < (hi : Int)) = true := decide_eq_true (by omega)
        obtain ⟨z, hz⟩ : ∃ z, dk[F + (2 * r + 2)]! = z := ⟨_, rfl⟩
        rw [hz] at c2 LS LG BS BG SWB
        rw [hx] at BS BG SWB
        rw [hy] at BS BG
        have e0 : (0 : Int) ≤ (F : Int) + (2 * (r : Int) + 1) + 1 := by omega
        have e1 : (F : Int) + (2 * (r : Int) + 1) + 1 < d.size := by omega
        have e2 : ((F : Int) + (2 * (r : Int) + 1) + 1).toNat = F + (2 * r + 2) := by omega
        have e3 : IntKind.i64.wrap ((F : Int) + (2 * (r : Int) + 1) + 1) = (F : Int) + (2 * (r : Int) + 1) + 1 := by rw [IntKind.wrap_i64]; omega
        have g0 : (0 : Int) ≤ (F : Int) + (2 * (r : Int) + 1 + 1) := by omega
        have g1 : (F : Int) + (2 * (r : Int) + 1 + 1) < d.size := by omega
        have g2 : ((F : Int) + (2 * (r : Int) + 1 + 1)).toNat = F + (2 * r + 2) := by omega
        have g3 : IntKind.i64.wrap ((F : Int) + (2 * (r : Int) + 1 + 1)) = (F : Int) + (2 * (r : Int) + 1 + 1) := by rw [IntKind.wrap_i64]; omega
        clear hx hy hz
        by_cases hyz : y < z
        · have HL : Hid (y < z) := hyz
          by_cases hxy : x < z
          · go_wp2_with fail
            go_quiet ((go_at_call 42; exact Calls.quiet_of_same ((cless y z _).mono fun _ _ hh => ⟨hh.1, hh.2.symm⟩)))
            go_wp2_with fail
            go_quiet ((go_at_call 42; first | exact Calls.quiet_of_same ((cless x z _).mono fun _ _ hh => ⟨hh.1, hh.2.symm⟩) | exact qa ((cless x z _).mono fun _ _ hh => ⟨hh.1, hh.2.symm⟩)))
            go_wp2_with fail
            go_region
            go_wp2
            go_roundw
            case rel => exact ⟨2 * r + 2, swp dk (F + r) (F + (2 * r + 2)), by first | rfl | go_num, by omega, (by rw [size_swp]; exact DS.out : (swp dk (F + r) (F + (2 * r + 2))).size = d.size), (by rw [EQ.out]; exact BG.out HL.out hxy : _ = _), SWB.out _⟩
            case measure => simp [intOf]; omega
          · have T9 : decide (x < z) = false := decide_eq_false hxy
            go_wp2_with fail
            go_quiet ((go_at_call 42; exact Calls.quiet_of_same ((cless y z _).mono fun _ _ hh => ⟨hh.1, hh.2.symm⟩)))
            go_wp2_with fail
            go_quiet ((go_at_call 42; first | exact Calls.quiet_of_same ((cless x z _).mono fun _ _ hh => ⟨hh.1, hh.2.symm⟩) | exact qa ((cless x z _).mono fun _ _ hh => ⟨hh.1, hh.2.symm⟩)))
            go_wp2
            refine bodyPost_ret (results_none rfl _ _ _) rfl ?_
            exact ⟨rfl, by rw [EQ.out, BS.out HL.out hxy]; first | exact HW.out.drewN _ | exact (HW.out.drewN _).drewN _⟩
        · have HL : Hid (¬ (2 * r + 2 < hi ∧ y < z)) := fun hh => hyz hh.2
          by_cases hxy : x < y
          · go_wp2_with fail
            go_quiet ((go_at_call 42; exact Calls.quiet_of_same ((cless y z _).mono fun _ _ hh => ⟨hh.1, hh.2.symm⟩)))
            go_wp2_with fail
            go_quiet ((go_at_call 42; first | exact Calls.quiet_of_same ((cless x y _).mono fun _ _ hh => ⟨hh.1, hh.2.symm⟩) | exact qa ((cless x y _).mono fun _ _ hh => ⟨hh.1, hh.2.symm⟩)))
            go_wp2_with fail
            go_region
            go_wp2
            go_roundw
            case rel => exact ⟨2 * r + 1, swp dk (F + r) (F + (2 * r + 1)), by first | rfl | go_num, by omega, (by rw [size_swp]; exact DS.out : (swp dk (F + r) (F + (2 * r + 1))).size = d.size), (by rw [EQ.out]; exact LG.out HL.out hxy : _ = _), SWC.out _⟩
            case measure => simp [intOf]; omega
          · have T9 : decide (x < y) = false := decide_eq_false hxy
            go_wp2_with fail
            go_quiet ((go_at_call 42; exact Calls.quiet_of_same ((cless y z _).mono fun _ _ hh => ⟨hh.1, hh.2.symm⟩)))
            go_wp2_with fail
            go_quiet ((go_at_call 42; first | exact Calls.quiet_of_same ((cless x y _).mono fun _ _ hh => ⟨hh.1, hh.2.symm⟩) | exact qa ((cless x y _).mono fun _ _ hh => ⟨hh.1, hh.2.symm⟩)))
            go_wp2
            refine bodyPost_ret (results_none rfl _ _ _) rfl ?_
            exact ⟨rfl, by rw [EQ.out, LS.out HL.out hxy]; first | exact HW.out.drewN _ | exact (HW.out.drewN _).drewN _⟩
      · have T0 : decide (2 * (r : Int) + 1 + 1 < (hi : Int)) = false := decide_eq_false (by omega)
        have HL : Hid (¬ (2 * r + 2 < hi ∧ y < dk[F + (2 * r + 2)]!)) := fun hh => h2 hh.1
        clear hx hy
        by_cases hxy : x < y
        · go_wp2_with fail
          go_quiet (fail)
          go_wp2_with fail
          go_quiet ((go_at_call 42; first | exact Calls.quiet_of_same ((cless x y _).mono fun _ _ hh => ⟨hh.1, hh.2.symm⟩) | exact qa ((cless x y _).mono fun _ _ hh => ⟨hh.1, hh.2.symm⟩)))
          go_wp2_with fail
          go_region
          go_wp2
          go_roundw
          case rel => exact ⟨2 * r + 1, swp dk (F + r) (F + (2 * r + 1)), by first | rfl | go_num, by omega, (by rw [size_swp]; exact DS.out : (swp dk (F + r) (F + (2 * r + 1))).size = d.size), (by rw [EQ.out]; exact LG.out HL.out hxy : _ = _), SWC.out _⟩
          case measure => simp [intOf]; omega
        · have T9 : decide (x < y) = false := decide_eq_false hxy
          go_wp2_with fail
          go_quiet (fail)
          go_wp2_with fail
          go_quiet ((go_at_call 42; first | exact Calls.quiet_of_same ((cless x y _).mono fun _ _ hh => ⟨hh.1, hh.2.symm⟩) | exact qa ((cless x y _).mono fun _ _ hh => ⟨hh.1, hh.2.symm⟩)))
          go_wp2
          refine bodyPost_ret (results_none rfl _ _ _) rfl ?_
          exact ⟨rfl, by rw [EQ.out, LS.out HL.out hxy]; first | exact HW.out.drewN _ | exact (HW.out.drewN _).drewN _⟩

end Go.Proofs.Ytodindfchkpecaa
