/- chain's At, Sweep: walked. -/
import Derived.Test.YtpafnjdaiagdiaaC9k
namespace Go.Proofs.Ytpafnjdaiagdiaa
open Go.RowKit

theorem lastL_take {l : List Ver} {k : Nat} (h : 0 < k) (hk : k ≤ l.length) : lastL (l.take k) = l.getD (k - 1) Ver.Z := by
  unfold lastL
  rw [List.length_take, show min k l.length - 1 = k - 1 by omega, List.getD_eq_getElem?_getD, List.getElem?_take, if_pos (by omega), ← List.getD_eq_getElem?_getD]
set_option maxRecDepth 100000 in
set_option maxHeartbeats 2000000 in
/-- At -/
theorem xAt9 (l : List Ver) (A : Option Addr) (c : Nat) (s : Int) (w : World) (hc : l.length ≤ c) (h : SlV w A l) (hg : GoodL l) :
    Calls Try.prog 10 #[.slice A l.length c, .int .i64 s] w fun e w' => e = .returned (.tuple #[(if rightL l then atL l s else Ver.Z).v, .bool (rightL l && atOk l s)]) ∧ Below w.heap.size w w' := by
  have CR := Lib.hid (fun W (hs : SlV W A l) => xRight9 l A c W hs hg)
  have CU := Lib.hid (fun (hr : rightL l = true) W (hs : SlV W A l) => xUntil9 l A c s W hs (rise_of_right hr) hg.len)
  obtain ⟨n, hn⟩ : ∃ n, n = l.length := ⟨_, rfl⟩
  obtain ⟨B, hB⟩ : ∃ B, B = w.heap.size := ⟨_, rfl⟩
  obtain ⟨K, hK⟩ : ∃ K, K = cnt s l := ⟨_, rfl⟩
  have kn : K ≤ n := by rw [hK, hn]; exact cnt_le s l
  have tl : (l.take K).length = K := by rw [List.length_take]; omega
  have CE := Lib.hid (fun W (hs : SlV W A l) => show Calls Try.prog 23 #[.slice A K c] W _ from by
    have := xEnd9 (l.take K) A c W (hs.take K) (hg.take K)
    rw [tl] at this
    exact this)
  have hl := hg.len
  rw [← hn] at hl hc ⊢
  rw [← hB]
  simp only [← hn] at CR CU
  simp only [← hK] at CU
  obtain ⟨R, hR⟩ : ∃ R, R = rightL l := ⟨_, rfl⟩
  obtain ⟨D, hD⟩ : ∃ D, D = decide (0 < K) := ⟨_, rfl⟩
  obtain ⟨y, hy⟩ : ∃ y, y = (if D = true then lastL (l.take K) else Ver.Z) := ⟨_, rfl⟩
  rw [← hR]
  simp only [← hR] at CR
  simp only [← hD, ← hy] at CE
  have CE : Hid (∀ W, SlV W A l → Calls Try.prog 23 #[.slice A K c] W fun e w' => e = .returned (.tuple #[.agg #[.int .i64 y.seq, .bool y.gone, .bool y.val.num, .string y.val.txt, .int .u64 (y.val.bits : Int)], .bool D]) ∧ Below W.heap.size W w') := CE
  obtain ⟨u, hu⟩ : ∃ u, u = (if R = true then atL l s else Ver.Z) := ⟨_, rfl⟩
  obtain ⟨E, hE⟩ : ∃ E, E = (R && atOk l s) := ⟨_, rfl⟩
  have eu : u = (if (R && (D && !y.gone)) = true then y else Ver.Z) ∧ E = (R && (D && !y.gone)) := by
    have ea : atOk l s = (D && !y.gone) := by
      unfold atOk
      rw [← hK, hD, hy, hD]
      by_cases k0 : 0 < K
      · rw [decide_eq_true k0, if_pos rfl, lastL_take k0 (by omega)]
      · rw [decide_eq_false k0]; rfl
    refine ⟨?_, by rw [hE, ea]⟩
    rw [hu]
    unfold atL
    rw [ea]
    cases R with
    | false => rfl
    | true =>
      rw [if_pos rfl, Bool.true_and]
      cases q : (D && !y.gone) with
      | false => rfl
      | true =>
        have d1 : D = true := by simp at q; exact q.1
        rw [if_pos rfl, if_pos rfl, hy, if_pos d1, lastL_take (by rw [hD] at d1; exact of_decide_eq_true d1) (by omega), ← hK]
  rw [← hu, ← hE]
  have EU := Lib.hid eu.1
  have EE := Lib.hid eu.2
  have B0 := Lib.hid (show Below B w (w.alloc (.cells Ver.Z.cs.toArray 29)) by rw [hB]; exact (Below.refl _ _).alloc (Nat.le_refl _) _)
  have S0 := Lib.hid (h.below (show Below w.heap.size w (w.alloc (.cells Ver.Z.cs.toArray 29)) from (Below.refl _ _).alloc (Nat.le_refl _) _))
  have R0 := RowAt.new w Ver.Z.cs 29
  rw [← hB] at R0
  have R0 := Lib.hid R0
  have CV := Lib.hid (fun (q : R = true) => CU.out (by rw [← hR]; exact q))
  have HB := Lib.hid hB
  have k1 : (K : Int) ≤ (c : Int) := by omega
  have k2 : (0 : Int) ≤ (K : Int) := by omega
  have kc : K ≤ c := by omega
  clear CU hn hB hK tl hR hD hy hu hE eu h hg
  go_enter Try.func10, Try.ntmps10
  go_wp2_with fail
  rw [← HB.out]
  refine (CR.out _ S0.out).mono ?_
  rintro e w1 ⟨rfl, hb1⟩
  have S1 := Lib.hid (S0.out.below hb1)
  have R1 := Lib.hid (R0.out.below hb1)
  have B1 := Lib.hid (show Below B w w1 from B0.out.trans (hb1.mono (by rw [HB.out]; exact B0.out.size)))
  clear hb1
  cases R with
  | false =>
    obtain ⟨g0, g1, g2, g3, g4, e0, e1, e2, e3, e4⟩ := zeroF R1.out
    have F1 := Lib.hid (show Below B w (setV w1 B Ver.Z) from setV_below B1.out (Nat.le_refl _))
    have F2 := Lib.hid (show RowAt (setV w1 B Ver.Z) B Ver.Z.cs _ from setV_row R1.out)
    go_wp2_with fail
    refine bodyPost_ret (results_cell_tmp rfl _ (setV w1 B Ver.Z) B _ _ _ rfl F2.out Try.underlying29 rfl (by kernel_rfl)) rfl ?_
    exact ⟨by rw [EU.out, EE.out]; rfl, F1.out⟩
  | true =>
    have CW := Lib.hid (CV.out rfl w1 S1.out)
    go_wp2_with fail
    refine CW.out.mono ?_
    rintro e w2 ⟨rfl, hb2⟩
    have S2 := Lib.hid (S1.out.below hb2)
    have R2 := Lib.hid (R1.out.below hb2)
    have B2 := Lib.hid (show Below B w w2 from B1.out.trans (hb2.mono (by rw [HB.out]; exact B1.out.size)))
    clear hb2 CW
    go_wp2_with fail
    refine (CE.out _ S2.out).mono ?_
    rintro e w3 ⟨rfl, hb3⟩
    have r3 := R2.out.below hb3
    have b3 : Below B w w3 := B2.out.trans (hb3.mono (by rw [HB.out]; exact B2.out.size))
    obtain ⟨q, g, v⟩ := y
    obtain ⟨m, t, k⟩ := v
    have b4 : Below B w (w3.alloc (.cells #[.int .i64 q, .bool g, .bool m, .string t, .int .u64 (k : Int)] 29)) := b3.alloc (by rw [HB.out]; exact b3.size) _
    have r4 : RowAt (w3.alloc (.cells #[.int .i64 q, .bool g, .bool m, .string t, .int .u64 (k : Int)] 29)) B Ver.Z.cs 29 := r3.alloc _
    obtain ⟨g0, g1, g2, g3, g4, e0, e1, e2, e3, e4⟩ := zeroF r4
    have F1 := Lib.hid (fun x => show Below B w (setV (w3.alloc (.cells #[.int .i64 q, .bool g, .bool m, .string t, .int .u64 (k : Int)] 29)) B x) from setV_below b4 (Nat.le_refl _))
    have F2 := Lib.hid (fun x => show RowAt (setV (w3.alloc (.cells #[.int .i64 q, .bool g, .bool m, .string t, .int .u64 (k : Int)] 29)) B x) B x.cs _ from setV_row r4)
    clear hb3 b3 r3 b4 r4 CE
    by_cases z : (D && !g) = true
    · obtain ⟨rfl, rfl⟩ : D = true ∧ g = false := by simpa using z
      clear z
      go_wp2_with fail
      refine bodyPost_ret (results_cell_tmp rfl _ (setV (w3.alloc (.cells #[.int .i64 q, .bool false, .bool m, .string t, .int .u64 (k : Int)] 29)) B ⟨q, false, ⟨m, t, k⟩⟩) B _ _ _ rfl (F2.out ⟨q, false, ⟨m, t, k⟩⟩) Try.underlying29 rfl (by kernel_rfl)) rfl ?_
      exact ⟨by rw [EU.out, EE.out]; rfl, F1.out ⟨q, false, ⟨m, t, k⟩⟩⟩
    · have z2 : (D && !g) = false := by simpa using z
      have EU2 := Lib.hid (show u = Ver.Z by rw [EU.out, z2]; rfl)
      have EE2 := Lib.hid (show E = false by rw [EE.out, z2]; rfl)
      clear EU EE
      cases D with
      | false =>
        clear z z2
        go_wp2_with fail
        refine bodyPost_ret (results_cell_tmp rfl _ (setV (w3.alloc (.cells #[.int .i64 q, .bool g, .bool m, .string t, .int .u64 (k : Int)] 29)) B Ver.Z) B _ _ _ rfl (F2.out Ver.Z) Try.underlying29 rfl (by kernel_rfl)) rfl ?_
        exact ⟨by rw [EU2.out, EE2.out]; rfl, F1.out Ver.Z⟩
      | true =>
        cases g with
        | false => exact absurd rfl z
        | true =>
          clear z z2
          go_wp2_with fail
          refine bodyPost_ret (results_cell_tmp rfl _ (setV (w3.alloc (.cells #[.int .i64 q, .bool true, .bool m, .string t, .int .u64 (k : Int)] 29)) B Ver.Z) B _ _ _ rfl (F2.out Ver.Z) Try.underlying29 rfl (by kernel_rfl)) rfl ?_
          exact ⟨by rw [EU2.out, EE2.out]; rfl, F1.out Ver.Z⟩

theorem SlV.sliced {w : World} {A : Option Addr} {l : List Ver} (h : SlV w A l) (k : Nat) : SlV w (Option.map (fun x => x.add (k * 5)) A) (l.drop k) := by
  by_cases p : 0 < l.length
  · obtain ⟨b, o, e, _⟩ := h p
    subst e
    have ad : (⟨b, o, none⟩ : Addr).add (k * 5) = ⟨b, o + k * 5, none⟩ := by
      unfold Addr.add
      split
      · rename_i e
        rw [e]; rfl
      · rfl
    show SlV w (some ((⟨b, o, none⟩ : Addr).add (k * 5))) _
    rw [ad]
    exact h.drop k
  · intro hp
    rw [List.length_drop] at hp
    omega
set_option maxRecDepth 100000 in
set_option maxHeartbeats 1000000 in
/-- Sweep -/
theorem xSweep9 (l : List Ver) (A : Option Addr) (c : Nat) (f : Int) (w : World) (hc : l.length ≤ c) (h : SlV w A l) (hg : GoodL l) :
    Calls Try.prog 20 #[.slice A l.length c, .int .i64 f] w fun e w' => ∃ A' c', e = .returned (.slice A' (if rightL l then sweepL l f else []).length c') ∧ (if rightL l then sweepL l f else []).length ≤ c' ∧ SlV w' A' (if rightL l then sweepL l f else []) ∧ Below w.heap.size w w' := by
  have CR := Lib.hid (xRight9 l A c w h hg)
  have CO := Lib.hid (fun W (hs : SlV W A l) => xOld9 l A c f W hs hg)
  have CC := Lib.hid (fun A' c' W (hs : SlV W A' (sweepL l f)) => xCopied9 (sweepL l f) A' c' W hs (hg.sweep f))
  have o1 := oldL_le l f
  have o2 := cnt_le f l
  obtain ⟨n, hn⟩ : ∃ n, n = l.length := ⟨_, rfl⟩
  obtain ⟨O, hO⟩ : ∃ O, O = oldL l f := ⟨_, rfl⟩
  have sl : (sweepL l f).length = n - O := by unfold sweepL; rw [List.length_drop, hn, hO]
  obtain ⟨T, hT⟩ : ∃ T, T = (if rightL l = true then sweepL l f else []) := ⟨_, rfl⟩
  have hl := hg.len
  rw [← hn] at hl hc CR o2 ⊢
  rw [← hO] at o1
  simp only [← hn, ← hO] at CO
  simp only [sl] at CC
  have CC := Lib.hid (fun A' c' W (hs : SlV W A' (sweepL l f)) => (CC.out A' c' W hs).mono (R' := fun e w' => ∃ g, e = .returned (.slice (some ⟨g, 0, none⟩) (n - O) (n - O)) ∧ SlV w' (some ⟨g, 0, none⟩) (sweepL l f) ∧ Below W.heap.size W w') fun e w' ⟨g, h1, h2, h3, h4⟩ => ⟨g, h1, fun hp => by
    obtain ⟨A2, c2, e2, s2, _⟩ := (h2.own (B := 0) (Nat.zero_le _) (by unfold maxLen; have := (hg.sweep f).len; omega)).sl
    injection e2 with e2 _ _
    rw [e2]
    exact s2 hp, h4⟩)
  rw [← hT]
  obtain ⟨N, hN⟩ : ∃ N, N = T.length := ⟨_, rfl⟩
  rw [← hN]
  have HN := Lib.hid hn
  have HS := Lib.hid h
  have HO := Lib.hid hO
  clear hn h hg hO sl
  obtain ⟨R, hR⟩ : ∃ R, R = rightL l := ⟨_, rfl⟩
  rw [← hR] at CR hT
  simp only [← hR] at CO
  have on : O ≤ n := by omega
  clear o1 o2 hR
  go_enter Try.func20, Try.ntmps20
  go_wp2_with fail
  refine CR.out.mono ?_
  rintro e w1 ⟨rfl, hb1⟩
  have S1 := Lib.hid (HS.out.below hb1)
  have B1 := Lib.hid hb1
  clear hb1
  cases R with
  | false =>
    have HT := Lib.hid hT
    have HL := Lib.hid hN
    clear hT hN
    go_wp2_with fail
    go_ret
    have e : T = [] := HT.out
    exact ⟨none, 0, by rw [HL.out, e]; rfl, by rw [HL.out, e]; exact Nat.le_refl _, by rw [e]; exact SlV.nil _ _, B1.out⟩
  | true =>
    rw [if_pos rfl] at hT
    simp only [if_true] at CO
    have nd : N = n - O := by rw [hN, hT]; unfold sweepL; rw [List.length_drop, ← HN.out, ← HO.out]
    rw [← hT] at CC
    have HT := Lib.hid hT
    have HL := Lib.hid hN
    clear hT hN
    go_wp2_with fail
    refine (CO.out _ S1.out).mono ?_
    rintro e w2 ⟨rfl, hb2⟩
    have S2 := S1.out.below hb2
    have B2 := Lib.hid (B1.out.trans (hb2.mono B1.out.size))
    have sd : SlV w2 (Option.map (fun x => x.add (O * 5)) A) T := by
      rw [HT.out]
      unfold sweepL
      rw [← HO.out]
      exact S2.sliced O
    have CD := Lib.hid (fun c' => CC.out (Option.map (fun x => x.add (O * 5)) A) c' w2 sd)
    have CN := Lib.hid (fun (h : N = 0) A' c' => CC.out A' c' w2 (by rw [show T = [] from List.length_eq_zero_iff.1 (by rw [← HL.out]; exact h)]; exact SlV.nil _ _))
    have o2 : (0 : Int) ≤ (O : Int) := by omega
    have o3 : (O : Int) ≤ (n : Int) := by omega
    clear hb2 S2 sd
    go_wp2_with fail
    · refine (CN.out (by omega) _ _).mono ?_
      rintro e w3 ⟨g, rfl, s3, hb3⟩
      have S3 := Lib.hid s3
      have B3 := Lib.hid (B2.out.trans (hb3.mono B2.out.size))
      clear hb3 s3
      go_wp2_with fail
      go_ret
      exact ⟨some ⟨g, 0, none⟩, n - O, by rw [nd]; rfl, by omega, S3.out, B3.out⟩
    · refine (CD.out _).mono ?_
      rintro e w3 ⟨g, rfl, s3, hb3⟩
      have S3 := Lib.hid s3
      have B3 := Lib.hid (B2.out.trans (hb3.mono B2.out.size))
      clear hb3 s3
      go_wp2_with fail
      go_ret
      exact ⟨some ⟨g, 0, none⟩, n - O, by rw [nd]; rfl, by omega, S3.out, B3.out⟩

end Go.Proofs.Ytpafnjdaiagdiaa
