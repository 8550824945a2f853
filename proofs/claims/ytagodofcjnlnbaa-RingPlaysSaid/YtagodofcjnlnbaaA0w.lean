/- RingPlays: walked, given what the program's ring does. -/
import Derived.Test.YtagodofcjnlnbaaA0t
import Derived.Test.YtagodofcjnlnbaaLa
import Derived.Lib.SmallJoins
namespace Go.Proofs.Ytagodofcjnlnbaa.ringPlays
open Go.Proofs.Ytagodofcjnlnbaa Go.Joins Go.ChangeShapes Go.WideShapes Go.ChangeAt Go.RowKit Go.Deep

theorem fits_no {s q : Int} (h : Rg.fits s q = false) : s < 1 ∨ (1 ≤ s ∧ 16 < s) ∨ (1 ≤ s ∧ s ≤ 16 ∧ q < 0) ∨ (1 ≤ s ∧ s ≤ 16 ∧ 0 ≤ q ∧ 1073741824 < q) := by
  unfold Rg.fits at h
  simp only [Bool.and_eq_false_iff, decide_eq_false_iff_not] at h
  omega
theorem fits_yes {s q : Int} (h : Rg.fits s q = true) : 1 ≤ s ∧ s ≤ 16 ∧ 0 ≤ q ∧ q ≤ 1073741824 := by
  unfold Rg.fits at h
  simp only [Bool.and_eq_true, decide_eq_true_eq] at h
  exact h

set_option maxRecDepth 100000 in
set_option maxHeartbeats 2000000 in
theorem walk {R : RelR} (X : RingAt R) (s q : Int) (A : Option Addr) (c : Nat) (l : List Int) (A2 : Option Addr) (c2 : Nat) (l2 : List Int) (w : World) (h : Sl w A l) (hu : La.U64 l) (hl : l.length ≤ maxLen) (h2 : Sl w A2 l2) (hu2 : La.U64 l2) (hl2 : l2.length ≤ maxLen) :
    Calls Try.prog 3 #[.int .i64 s, .int .i64 q, .slice A l.length c, .slice A2 l2.length c2] w fun e w' => e = .returned (.bool true) ∧ Below w.heap.size w w' := by
  obtain ⟨n, hn⟩ : ∃ n, n = l.length := ⟨_, rfl⟩
  obtain ⟨n2, hn2⟩ : ∃ n, n = l2.length := ⟨_, rfl⟩
  rw [← hn, ← hn2]
  have HN := Lib.hid hn
  have HN2 := Lib.hid hn2
  have X' := Lib.hid X
  have AW := Lib.hid (awake0 X w)
  have CN := Lib.hid (X.new s q)
  have HS := Lib.hid h
  have HU := Lib.hid hu
  have HS2 := Lib.hid h2
  have HU2 := Lib.hid hu2
  have HL := Lib.hid hl
  have HL2 := Lib.hid hl2
  clear hn hn2 X h hu hl h2 hu2 hl2
  go_enter Try.func3, Try.ntmps3
  go_wp2_with fail
  refine AW.out.mono ?_
  rintro e w1 ⟨rfl, hb1⟩
  have B1 := Lib.hid hb1
  clear hb1 AW
  go_wp2_with fail
  refine (CN.out _).mono ?_
  rintro e w2 ⟨hb2, hh⟩
  have B2 := Lib.hid (B1.out.trans (hb2.mono B1.out.size))
  rcases hh with ⟨hfit, b, F, rfl, hr, hF⟩ | ⟨hfit, rfl⟩
  case inr =>
    clear hb2
    rcases fits_no hfit with d | ⟨d1, d⟩ | ⟨d1, d2, d⟩ | ⟨d1, d2, d3, d⟩
    · clear hfit
      go_wp2_with fail
      go_ret
      exact ⟨rfl, B2.out⟩
    · clear hfit
      go_wp2_with fail
      go_ret
      exact ⟨rfl, B2.out⟩
    · clear hfit
      go_wp2_with fail
      go_ret
      exact ⟨rfl, B2.out⟩
    · have d' : decide ((1073741824 : Int) < q) = true := decide_eq_true d
      clear hfit d
      go_wp2_with fail
      go_ret
      exact ⟨rfl, B2.out⟩
  obtain ⟨d1, d2, d3, d⟩ := fits_yes hfit
  have d' : decide ((1073741824 : Int) < q) = false := decide_eq_false (by omega)
  obtain ⟨S, rfl⟩ := Int.eq_ofNat_of_zero_le (show 0 ≤ s by omega)
  obtain ⟨Q, rfl⟩ := Int.eq_ofNat_of_zero_le d3
  obtain ⟨b', hbb'⟩ : ∃ p, p = w2.heap.size := ⟨_, rfl⟩
  have hr : R w2 b F ⟨S, Q, []⟩ := hr
  have O2 := Lib.hid (BoR.made (s := S) (q := Q) X'.out hb2 hr hF)
  rw [← hbb'] at O2
  have HP := Lib.hid hbb'
  clear hb2 hr hF CN hfit hbb' d
  go_wp2_with fail
  rw [← HP.out]
  have BB := Lib.hid (fun (w9 : World) r (h : BoR R w1 (fun k => k < w1.heap.size) w9 b r b' r) => show Below w.heap.size w w9 from B1.out.trans ((stays h.chg (Nat.le_refl _) (fun _ e => e)).mono B1.out.size))
  go_loopw [12] (fun vi wr => ∃ (i : Nat) (r : Rg), i ≤ n ∧ i ≤ 100 ∧ vi = .int .i64 i ∧ Hid (r.l.length ≤ i) ∧ Hid (r.size = S ∧ r.beg = Q) ∧ Hid (BoR R w1 (fun k => k < w1.heap.size) wr b r b' r)) (fun vi _ => 100 - (intOf vi).toNat)
  case atStart => exact ⟨0, ⟨S, Q, []⟩, Nat.zero_le _, by omega, rfl, Lib.hid (Nat.le_refl _), Lib.hid ⟨rfl, rfl⟩, O2⟩
  case round =>
    obtain ⟨i, r, hi, hi2, rfl, HLR, HSQ, HO⟩ := hrel
    by_cases q1 : i < n
    · by_cases q2 : i < 100
      · obtain ⟨bb, o, rfl, hbb, cc⟩ := HS.out.at_ (k := i) (by rw [← HN.out]; exact q1)
        have cl := cc i (by rw [← HN.out]; exact q1)
        have zu : 0 ≤ l.getD i 0 ∧ l.getD i 0 ≤ 18446744073709551615 := by
          have := HU.out.get i (by rw [← HN.out]; exact q1)
          omega
        obtain ⟨z, hz⟩ : ∃ z, z = l.getD i 0 := ⟨_, rfl⟩
        rw [← hz] at cl zu
        have CLZ := Lib.hid (show ∀ W, Below w.heap.size w W → W.cell? ⟨bb, o + i, none⟩ = some (.int .u64 z) from fun W hb => (hb.cell (p := ⟨bb, o + i, none⟩) hbb).trans cl)
        have ZU := Lib.hid zu
        have LP := Lib.hid (show (r.push z).l.length ≤ i + 1 by have := r.push_len z; have := HLR.out; omega)
        have SQ1 := Lib.hid (show (r.push z).size = S ∧ (r.push z).beg = Q by rw [Rg.push_size, Rg.push_beg]; exact HSQ.out)
        have TB := Lib.hid (fun (w9 : World) r1 c rc (h : TriR R w1 (fun k => k < w1.heap.size) w9 b r1 b' r1 c rc) => show Below w.heap.size w w9 from B1.out.trans ((stays h.chg (Nat.le_refl _) (fun _ e => e)).mono B1.out.size))
        have TB2 := Lib.hid (fun (w9 : World) r1 r2 c rc (h : TriR R w1 (fun k => k < w1.heap.size) w9 b r1 b' r2 c rc) => show Below w.heap.size w w9 from B1.out.trans ((stays h.chg (Nat.le_refl _) (fun _ e => e)).mono B1.out.size))
        have OK := Lib.hid (BoR.ok X'.out HO.out)
        have OK1 := Lib.hid (Rg.push_ok OK.out z)
        have lr : r.l.length ≤ 1000 := by have := HLR.out; omega
        have LR := Lib.hid lr
        have K1 := Lib.hid (bClone X'.out HO.out lr)
        have K2 := Lib.hid (fun w5 c (h : TriR R w1 (fun k => k < w1.heap.size) w5 b r b' r c r) => tSeqR X'.out h OK.out)
        have K3 := Lib.hid (fun w5 c (h : TriR R w1 (fun k => k < w1.heap.size) w5 b r b' r c r) => tPush X'.out z h ZU.out.1 ZU.out.2 LR.out)
        have K4 := Lib.hid (fun w5 c (h : TriR R w1 (fun k => k < w1.heap.size) w5 b (r.push z) b' r c r) => tPushR X'.out z h OK.out LR.out)
        have K5 := Lib.hid (fun w5 c (h : TriR R w1 (fun k => k < w1.heap.size) w5 b (r.push z) b' (r.push z) c r) => tSeqP X'.out h)
        have K6 := Lib.hid (fun w5 c (h : TriR R w1 (fun k => k < w1.heap.size) w5 b (r.push z) b' (r.push z) c r) => tSeqR X'.out h OK1.out)
        have K7 := Lib.hid (fun w5 c (h : TriR R w1 (fun k => k < w1.heap.size) w5 b (r.push z) b' (r.push z) c r) => tSizeP X'.out h)
        have K8 := Lib.hid (fun w5 c (h : TriR R w1 (fun k => k < w1.heap.size) w5 b (r.push z) b' (r.push z) c r) => tSeq X'.out h)
        obtain ⟨r1, hr1⟩ : ∃ r1, r1 = r.push z := ⟨_, rfl⟩
        obtain ⟨T, hT⟩ : ∃ a, a = r.told z := ⟨_, rfl⟩
        obtain ⟨E, hE⟩ : ∃ a, a = r.no z := ⟨_, rfl⟩
        obtain ⟨s0, hs0⟩ : ∃ a, a = r.seq := ⟨_, rfl⟩
        obtain ⟨s1, hs1⟩ : ∃ a, a = r1.seq := ⟨_, rfl⟩
        simp only [← hr1] at K3 K4 K5 K6 K7 K8 LP SQ1 OK1
        simp only [← hT, ← hE] at K3 K4
        simp only [← hs0] at K2 K8
        simp only [← hs1] at K5 K6
        simp only [SQ1.out.1] at K7
        have HS1 := Lib.hid hs1
        have i0 : (0 : Int) ≤ (i : Int) := by omega
        have i1 : (i : Int) < (n : Int) := by omega
        clear cc hbb zu hz hr1 hT hE hs0 hs1 cl lr
        go_wp2_with fail
        refine K1.out.mono ?_
        rintro e w4 ⟨c4, rfl, t4⟩
        have T4 := Lib.hid t4
        clear t4 K1
        go_wp2_with fail
        refine (K2.out _ _ T4.out).mono ?_
        rintro e w5 ⟨rfl, t5⟩
        have cl := CLZ.out w5 (TB2.out _ _ _ _ _ t5)
        have T5 := Lib.hid t5
        clear t5 K2
        go_wp2_with fail
        refine (K3.out _ _ T5.out).mono ?_
        rintro e w6 ⟨rfl, t6⟩
        have cl6 := CLZ.out w6 (TB2.out _ _ _ _ _ t6)
        have T6 := Lib.hid t6
        clear t6 K3 cl
        go_wp2_with fail
        refine (K4.out _ _ T6.out).mono ?_
        rintro e w7 ⟨rfl, t7⟩
        have T7 := Lib.hid t7
        clear t7 K4 cl6
        go_wp2_with fail
        refine (K5.out _ _ T7.out).mono ?_
        rintro e w8 ⟨rfl, t8⟩
        have T8 := Lib.hid t8
        clear t8 K5
        go_wp2_with fail
        refine (K6.out _ _ T8.out).mono ?_
        rintro e w9 ⟨rfl, t9⟩
        have T9 := Lib.hid t9
        clear t9 K6
        go_wp2_with fail
        refine (K7.out _ _ T9.out).mono ?_
        rintro e w10 ⟨rfl, t10⟩
        have T10 := Lib.hid t10
        clear t10 K7
        go_wp2_with fail
        refine (K8.out _ _ T10.out).mono ?_
        rintro e w11 ⟨rfl, t11⟩
        have T11 := Lib.hid t11
        clear t11 K8
        go_wp2_with fail
        have LP1 := Lib.hid (show r1.l.length ≤ 1000 by have := LP.out; omega)
        have M1 := Lib.hid (fun W y (h : BoR R w1 (fun k => k < w1.heap.size) W b r1 b' r1) (h0 : 0 ≤ y) (h1 : y ≤ 18446744073709551615) => bAsOfP X'.out y h h0 h1 LP1.out)
        have M2 := Lib.hid (fun W y (h : BoR R w1 (fun k => k < w1.heap.size) W b r1 b' r1) => bAsOf X'.out y h OK1.out LP1.out)
        go_loopw [19] (fun vj wr => ∃ j : Nat, j ≤ 11 ∧ vj = .int .i64 j ∧ Hid (BoR R w1 (fun k => k < w1.heap.size) wr b r1 b' r1)) (fun vj _ => 11 - (intOf vj).toNat)
        case atStart => exact ⟨0, by omega, rfl, T11⟩
        case round =>
          obtain ⟨j, hj, rfl, HI⟩ := hrel
          by_cases q3 : j ≤ n2
          · by_cases q4 : j ≤ 10
            · have bw := BB.out _ _ HI.out
              have cl := CLZ.out _ bw
              have j0 : (0 : Int) ≤ (j : Int) := by omega
              by_cases q5 : j < n2 ∧ j < 10
              · obtain ⟨q5, q6⟩ := q5
                obtain ⟨bb2, o2, rfl, hbb2, cc⟩ := HS2.out.at_ (k := j) (by rw [← HN2.out]; exact q5)
                have cl2 := cc j (by rw [← HN2.out]; exact q5)
                have yu : 0 ≤ l2.getD j 0 ∧ l2.getD j 0 ≤ 18446744073709551615 := by
                  have := HU2.out.get j (by rw [← HN2.out]; exact q5)
                  omega
                have cl2 := (bw.cell (p := ⟨bb2, o2 + j, none⟩) hbb2).trans cl2
                obtain ⟨y, hy⟩ : ∃ y, y = l2.getD j 0 := ⟨_, rfl⟩
                rw [← hy] at cl2 yu
                have YU := Lib.hid yu
                have P1 := Lib.hid (M1.out _ y HI.out yu.1 yu.2)
                have P2 := Lib.hid (fun W h => M2.out W y h)
                have j1 : (j : Int) < (n2 : Int) := by omega
                clear cc hbb2 yu hy bw
                obtain ⟨t, ht⟩ : ∃ a, a = r1.asOf y := ⟨_, rfl⟩
                obtain ⟨e9, he9⟩ : ∃ a, a = r1.asNo y := ⟨_, rfl⟩
                rw [← ht, ← he9] at P1
                simp only [← ht, ← he9] at P2
                clear ht he9 YU
                go_wp2_with fail
                refine P1.out.mono ?_
                rintro e w12 ⟨rfl, o12⟩
                have O12 := Lib.hid o12
                clear o12
                go_wp2_with fail
                refine (P2.out _ O12.out).mono ?_
                rintro e w13 ⟨rfl, o13⟩
                have O13 := Lib.hid o13
                clear o13
                go_wp2_with fail
                go_roundw
                case rel => exact ⟨j + 1, by omega, by go_num, O13⟩
                case measure => simp [intOf]; omega
              · obtain ⟨y, hy⟩ : ∃ y, y = z := ⟨_, rfl⟩
                rw [← hy] at cl
                have YU := Lib.hid hy
                have P1 := Lib.hid (M1.out _ y HI.out (by rw [hy]; exact ZU.out.1) (by rw [hy]; exact ZU.out.2))
                have P2 := Lib.hid (fun W h => M2.out W y h)
                clear hy bw
                by_cases q6 : j < n2
                · have q7 : ¬ j < 10 := fun e => q5 ⟨q6, e⟩
                  clear q5
                  obtain ⟨t, ht⟩ : ∃ a, a = r1.asOf y := ⟨_, rfl⟩
                  obtain ⟨e9, he9⟩ : ∃ a, a = r1.asNo y := ⟨_, rfl⟩
                  rw [← ht, ← he9] at P1
                  simp only [← ht, ← he9] at P2
                  clear ht he9 YU
                  go_wp2_with fail
                  refine P1.out.mono ?_
                  rintro e w12 ⟨rfl, o12⟩
                  have O12 := Lib.hid o12
                  clear o12
                  go_wp2_with fail
                  refine (P2.out _ O12.out).mono ?_
                  rintro e w13 ⟨rfl, o13⟩
                  have O13 := Lib.hid o13
                  clear o13
                  go_wp2_with fail
                  go_roundw
                  case rel => exact ⟨j + 1, by omega, by go_num, O13⟩
                  case measure => simp [intOf]; omega
                · clear q5
                  obtain ⟨t, ht⟩ : ∃ a, a = r1.asOf y := ⟨_, rfl⟩
                  obtain ⟨e9, he9⟩ : ∃ a, a = r1.asNo y := ⟨_, rfl⟩
                  rw [← ht, ← he9] at P1
                  simp only [← ht, ← he9] at P2
                  clear ht he9 YU
                  go_wp2_with fail
                  refine P1.out.mono ?_
                  rintro e w12 ⟨rfl, o12⟩
                  have O12 := Lib.hid o12
                  clear o12
                  go_wp2_with fail
                  refine (P2.out _ O12.out).mono ?_
                  rintro e w13 ⟨rfl, o13⟩
                  have O13 := Lib.hid o13
                  clear o13
                  go_wp2_with fail
                  go_roundw
                  case rel => exact ⟨j + 1, by omega, by go_num, O13⟩
                  case measure => simp [intOf]; omega
            · skip
              have K9 := Lib.hid (bSeq X'.out HI.out OK1.out)
              rw [← HS1.out] at K9
              have KF := Lib.hid (fun W (h : BoR R w1 (fun k => k < w1.heap.size) W b r1 b' r1) => bFloorP X'.out h)
              obtain ⟨f1, hf1⟩ : ∃ a, a = r1.floor := ⟨_, rfl⟩
              simp only [← hf1] at KF
              have sl := OK1.out.sq
              rw [← HS1.out] at sl
              have fe : (f1 : Int) = max ((s1 : Int) - (S : Int) + 1) (Q : Int) := by
                rw [hf1]; unfold Rg.floor
                rw [← HS1.out, SQ1.out.1, SQ1.out.2]
                omega
              clear hf1
              by_cases z3 : (s1 : Int) - (S : Int) + 1 < (Q : Int)
              · have f2 : f1 = Q := by omega
                have F2 := Lib.hid f2
                clear f2 fe
                go_wp2_with fail
                refine K9.out.mono ?_
                rintro e w12 ⟨rfl, o12⟩
                have O12 := Lib.hid o12
                clear o12
                go_wp2_with fail
                refine (KF.out _ O12.out).mono ?_
                rintro e w13 ⟨rfl, o13⟩
                have O13 := Lib.hid o13
                clear o13
                rw [F2.out]
                go_wp2_with fail
                go_roundw
                case rel => exact ⟨i + 1, r1, by omega, by omega, by go_num, LP, SQ1, O13⟩
                case measure => simp [intOf]; omega
              · have f2 : (f1 : Int) = (s1 : Int) - (S : Int) + 1 := by omega
                have F2 := Lib.hid f2
                clear f2 fe
                go_wp2_with fail
                refine K9.out.mono ?_
                rintro e w12 ⟨rfl, o12⟩
                have O12 := Lib.hid o12
                clear o12
                go_wp2_with fail
                refine (KF.out _ O12.out).mono ?_
                rintro e w13 ⟨rfl, o13⟩
                have O13 := Lib.hid o13
                clear o13
                rw [F2.out]
                go_wp2_with fail
                go_roundw
                case rel => exact ⟨i + 1, r1, by omega, by omega, by go_num, LP, SQ1, O13⟩
                case measure => simp [intOf]; omega
          · skip
            have K9 := Lib.hid (bSeq X'.out HI.out OK1.out)
            rw [← HS1.out] at K9
            have KF := Lib.hid (fun W (h : BoR R w1 (fun k => k < w1.heap.size) W b r1 b' r1) => bFloorP X'.out h)
            obtain ⟨f1, hf1⟩ : ∃ a, a = r1.floor := ⟨_, rfl⟩
            simp only [← hf1] at KF
            have sl := OK1.out.sq
            rw [← HS1.out] at sl
            have fe : (f1 : Int) = max ((s1 : Int) - (S : Int) + 1) (Q : Int) := by
              rw [hf1]; unfold Rg.floor
              rw [← HS1.out, SQ1.out.1, SQ1.out.2]
              omega
            clear hf1
            by_cases z3 : (s1 : Int) - (S : Int) + 1 < (Q : Int)
            · have f2 : f1 = Q := by omega
              have F2 := Lib.hid f2
              clear f2 fe
              go_wp2_with fail
              refine K9.out.mono ?_
              rintro e w12 ⟨rfl, o12⟩
              have O12 := Lib.hid o12
              clear o12
              go_wp2_with fail
              refine (KF.out _ O12.out).mono ?_
              rintro e w13 ⟨rfl, o13⟩
              have O13 := Lib.hid o13
              clear o13
              rw [F2.out]
              go_wp2_with fail
              go_roundw
              case rel => exact ⟨i + 1, r1, by omega, by omega, by go_num, LP, SQ1, O13⟩
              case measure => simp [intOf]; omega
            · have f2 : (f1 : Int) = (s1 : Int) - (S : Int) + 1 := by omega
              have F2 := Lib.hid f2
              clear f2 fe
              go_wp2_with fail
              refine K9.out.mono ?_
              rintro e w12 ⟨rfl, o12⟩
              have O12 := Lib.hid o12
              clear o12
              go_wp2_with fail
              refine (KF.out _ O12.out).mono ?_
              rintro e w13 ⟨rfl, o13⟩
              have O13 := Lib.hid o13
              clear o13
              rw [F2.out]
              go_wp2_with fail
              go_roundw
              case rel => exact ⟨i + 1, r1, by omega, by omega, by go_num, LP, SQ1, O13⟩
              case measure => simp [intOf]; omega
      · go_wp2_with fail
        go_ret
        exact ⟨rfl, BB.out _ _ HO.out⟩
    · go_wp2_with fail
      go_ret
      exact ⟨rfl, BB.out _ _ HO.out⟩

end Go.Proofs.Ytagodofcjnlnbaa.ringPlays
