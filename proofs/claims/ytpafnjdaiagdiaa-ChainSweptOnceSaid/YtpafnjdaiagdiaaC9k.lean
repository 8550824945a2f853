/- chain's Old, Last, Weight, At, Sweep: walked. -/
import Derived.Test.YtpafnjdaiagdiaaC9h
namespace Go.Proofs.Ytpafnjdaiagdiaa
open Go.RowKit

theorem SlV.take {w : World} {A : Option Addr} {l : List Ver} (h : SlV w A l) (k : Nat) : SlV w A (l.take k) := fun hp => by
  rw [List.length_take] at hp
  obtain ⟨b, o, e, hl, hc⟩ := h (by omega)
  refine ⟨b, o, e, hl, fun j hj => ?_⟩
  rw [List.length_take] at hj
  have := hc j (by omega)
  rw [List.getD_eq_getElem?_getD, List.getElem?_take, if_pos (by omega), ← List.getD_eq_getElem?_getD]
  exact this
theorem GoodL.take {l : List Ver} (h : GoodL l) (k : Nat) : GoodL (l.take k) :=
  ⟨fun x hx => h.fits x (List.mem_of_mem_take hx), fun x hx => h.texts x (List.mem_of_mem_take hx), by rw [List.length_take]; have := h.len; omega⟩

set_option maxRecDepth 100000 in
set_option maxHeartbeats 1000000 in
/-- Old -/
theorem xOld9 (l : List Ver) (A : Option Addr) (c : Nat) (f : Int) (w : World) (h : SlV w A l) (hg : GoodL l) :
    Calls Try.prog 14 #[.slice A l.length c, .int .i64 f] w fun e w' => e = .returned (.int .i64 (if rightL l then oldL l f else 0 : Nat)) ∧ Below w.heap.size w w' := by
  have CR := Lib.hid (xRight9 l A c w h hg)
  have CU := Lib.hid (fun (hr : rightL l = true) W (hs : SlV W A l) => xUntil9 l A c f W hs (rise_of_right hr) hg.len)
  obtain ⟨n, hn⟩ : ∃ n, n = l.length := ⟨_, rfl⟩
  have hl := hg.len
  rw [← hn] at hl CR ⊢
  simp only [← hn] at CU
  have HN := Lib.hid hn
  have HS := Lib.hid h
  clear hn h hg
  obtain ⟨R, hR⟩ : ∃ R, R = rightL l := ⟨_, rfl⟩
  rw [← hR] at CR ⊢
  obtain ⟨O, hO⟩ : ∃ O, O = (if R = true then oldL l f else 0) := ⟨_, rfl⟩
  rw [← hO]
  go_enter Try.func14, Try.ntmps14
  go_wp2_with fail
  refine CR.out.mono ?_
  rintro e w1 ⟨rfl, hb1⟩
  have S1 := Lib.hid (HS.out.below hb1)
  have B1 := Lib.hid hb1
  clear hb1
  cases R with
  | false =>
    have HO := Lib.hid hO
    clear hR hO
    go_wp2_with fail
    go_ret
    exact ⟨by rw [HO.out]; rfl, B1.out⟩
  | true =>
    rw [if_pos rfl] at hO
    have C2 := Lib.hid (CU.out hR.symm w1 S1.out)
    have ho : oldL l f = (if cnt f l = 0 then 0 else if (l.getD (cnt f l - 1) Ver.Z).gone then cnt f l else cnt f l - 1) := rfl
    have hk := cnt_le f l
    obtain ⟨K, hK⟩ : ∃ K, K = cnt f l := ⟨_, rfl⟩
    rw [← hK] at C2 ho hk
    rw [← HN.out] at hk
    rw [← hO] at ho
    clear hK hO hR
    by_cases k0 : K = 0
    · rw [if_pos k0] at ho
      have HO := Lib.hid ho
      subst k0
      clear ho hk
      go_wp2_with fail
      refine C2.out.mono ?_
      rintro e w2 ⟨rfl, hb2⟩
      have B2 := Lib.hid (B1.out.trans (hb2.mono B1.out.size))
      clear hb2
      go_wp2_with fail
      go_ret
      exact ⟨by rw [HO.out]; rfl, B2.out⟩
    · rw [if_neg k0] at ho
      obtain ⟨i, hi⟩ : ∃ i, i = K - 1 := ⟨_, rfl⟩
      rw [← hi] at ho
      obtain ⟨b, o, rfl, hb, _, c1, _⟩ := S1.out.at (j := i) (by rw [← HN.out]; omega)
      obtain ⟨g, hg⟩ : ∃ g, g = (l.getD i Ver.Z).gone := ⟨_, rfl⟩
      rw [← hg] at c1 ho
      have HO := Lib.hid ho
      have i1 : (K : Int) - 1 = (i : Int) := by omega
      have i2 : (0 : Int) ≤ (i : Int) := by omega
      have i3 : (i : Int) < (n : Int) := by omega
      have k1 : ((K : Int) == 0) = false := by rw [beq_eq_false_iff_ne]; omega
      have C1 := Lib.hid c1
      clear ho hg hb c1 hi k0
      go_wp2_with fail
      refine C2.out.mono ?_
      rintro e w2 ⟨rfl, hb2⟩
      have c1 := (hb2.cell (p := ⟨b, o + i * 5 + 1, none⟩) (block_lt_of_cell C1.out)).trans C1.out
      have B2 := Lib.hid (B1.out.trans (hb2.mono B1.out.size))
      clear hb2
      cases g with
      | true =>
        go_wp2_with fail
        go_ret
        exact ⟨by rw [HO.out]; rfl, B2.out⟩
      | false =>
        go_wp2_with fail
        go_ret
        exact ⟨by rw [HO.out]; rfl, B2.out⟩

set_option maxRecDepth 100000 in
set_option maxHeartbeats 1000000 in
/-- Last -/
theorem xLast9 (l : List Ver) (A : Option Addr) (c : Nat) (w : World) (h : SlV w A l) (hg : GoodL l) :
    Calls Try.prog 11 #[.slice A l.length c] w fun e w' => e = .returned (.tuple #[(if rightL l && decide (0 < l.length) then lastL l else Ver.Z).v, .bool (rightL l && decide (0 < l.length))]) ∧ Below w.heap.size w w' := by
  have CR := Lib.hid (fun W (hs : SlV W A l) => xRight9 l A c W hs hg)
  have CE := Lib.hid (fun W (hs : SlV W A l) => xEnd9 l A c W hs hg)
  obtain ⟨n, hn⟩ : ∃ n, n = l.length := ⟨_, rfl⟩
  obtain ⟨B, hB⟩ : ∃ B, B = w.heap.size := ⟨_, rfl⟩
  have hl := hg.len
  rw [← hn] at hl ⊢
  rw [← hB]
  simp only [← hn] at CR CE
  obtain ⟨R, hR⟩ : ∃ R, R = rightL l := ⟨_, rfl⟩
  obtain ⟨D, hD⟩ : ∃ D, D = decide (0 < n) := ⟨_, rfl⟩
  obtain ⟨y, hy⟩ : ∃ y, y = (if D = true then lastL l else Ver.Z) := ⟨_, rfl⟩
  rw [← hR, ← hD]
  simp only [← hR] at CR
  simp only [← hD, ← hy] at CE
  have CE : Hid (∀ W, SlV W A l → Calls Try.prog 23 #[.slice A n c] W fun e w' => e = .returned (.tuple #[.agg #[.int .i64 y.seq, .bool y.gone, .bool y.val.num, .string y.val.txt, .int .u64 (y.val.bits : Int)], .bool D]) ∧ Below W.heap.size W w') := CE
  have HY := Lib.hid hy
  obtain ⟨u, hu⟩ : ∃ u, u = (if (R && D) = true then lastL l else Ver.Z) := ⟨_, rfl⟩
  obtain ⟨E, hE⟩ : ∃ E, E = (R && D) := ⟨_, rfl⟩
  rw [← hu, ← hE]
  have HU := Lib.hid hu
  have HE := Lib.hid hE
  clear hu hE
  have HS := Lib.hid h
  have HB := Lib.hid hB
  have R0 := RowAt.new w Ver.Z.cs 29
  rw [← hB] at R0
  have B0 := Lib.hid (show Below B w (w.alloc (.cells Ver.Z.cs.toArray 29)) by rw [hB]; exact (Below.refl _ _).alloc (Nat.le_refl _) _)
  have S0 := Lib.hid (h.below (show Below w.heap.size w (w.alloc (.cells Ver.Z.cs.toArray 29)) from (Below.refl _ _).alloc (Nat.le_refl _) _))
  have R0 := Lib.hid R0
  clear hn hB h hg hR hD hy
  go_enter Try.func11, Try.ntmps11
  go_wp2_with fail
  rw [← HB.out]
  refine (CR.out _ S0.out).mono ?_
  rintro e w1 ⟨rfl, hb1⟩
  have S1 := Lib.hid (S0.out.below hb1)
  have R1 := Lib.hid (R0.out.below hb1)
  have B1 := Lib.hid (show Below B w w1 from B0.out.trans (hb1.mono (by rw [HB.out]; exact B0.out.size)))
  clear hb1
  cases R with
  | false =>
    obtain ⟨g0, g1, g2, g3, g4, e0, e1, e2, e3, e4⟩ := zeroF R1.out
    have F1 := Lib.hid (show Below B w (setV w1 B Ver.Z) from setV_below B1.out (Nat.le_refl _))
    have F2 := Lib.hid (show RowAt (setV w1 B Ver.Z) B Ver.Z.cs _ from setV_row R1.out)
    go_wp2_with fail
    refine bodyPost_ret (results_cell_tmp rfl _ (setV w1 B Ver.Z) B _ _ _ rfl F2.out Try.underlying29 rfl (by kernel_rfl)) rfl ?_
    exact ⟨by rw [HU.out, HE.out]; rfl, F1.out⟩
  | true =>
    go_wp2_with fail
    refine (CE.out _ S1.out).mono ?_
    rintro e w2 ⟨rfl, hb2⟩
    have r2 := R1.out.below hb2
    have b2 : Below B w w2 := B1.out.trans (hb2.mono (by rw [HB.out]; exact B1.out.size))
    obtain ⟨g0, g1, g2, g3, g4, e0, e1, e2, e3, e4⟩ := zeroF r2
    have F1 := Lib.hid (show Below B w (setV w2 B y) from setV_below b2 (Nat.le_refl _))
    have F2 := Lib.hid (show RowAt (setV w2 B y) B y.cs _ from setV_row r2)
    clear hb2 r2 b2
    go_wp2_with fail
    refine bodyPost_ret (results_cell_tmp rfl _ (setV w2 B y) B _ _ _ rfl F2.out Try.underlying29 rfl (by kernel_rfl)) rfl ?_
    refine ⟨?_, F1.out⟩
    rw [HU.out, HE.out, Bool.true_and, ← HY.out]; rfl

set_option maxRecDepth 100000 in
set_option maxHeartbeats 1000000 in
/-- Weight -/
theorem xWeight9 (l : List Ver) (A : Option Addr) (c : Nat) (w : World) (h : SlV w A l) (hg : GoodL l) :
    Calls Try.prog 13 #[.slice A l.length c] w fun e w' => e = .returned (.int .i64 (if rightL l then weightL l else 0 : Nat)) ∧ Below w.heap.size w w' := by
  have CL := xLast9 l A c w h hg
  obtain ⟨y, hy⟩ : ∃ y, y = (if (rightL l && decide (0 < l.length)) = true then lastL l else Ver.Z) := ⟨_, rfl⟩
  obtain ⟨D, hD⟩ : ∃ D, D = (rightL l && decide (0 < l.length)) := ⟨_, rfl⟩
  obtain ⟨n, hn⟩ : ∃ n, n = l.length := ⟨_, rfl⟩
  obtain ⟨W0, hW⟩ : ∃ W, W = (if rightL l = true then weightL l else 0) := ⟨_, rfl⟩
  rw [← hy, ← hD, ← hn] at CL
  rw [← hn, ← hW]
  have CL : Calls Try.prog 11 #[.slice A n c] w fun e w' => e = .returned (.tuple #[.agg #[.int .i64 y.seq, .bool y.gone, .bool y.val.num, .string y.val.txt, .int .u64 (y.val.bits : Int)], .bool D]) ∧ Below w.heap.size w w' := CL
  have EW : W0 = if D && !y.gone then y.val.pack.size else 0 := by
    rw [hW, hD, hy]
    cases hr : rightL l with
    | false => simp
    | true =>
      by_cases p : 0 < l.length
      · rw [decide_eq_true p]
        simp only [Bool.and_self, if_true, Bool.true_and]
        unfold weightL
        cases g : (lastL l).gone with
        | true => rw [if_pos (.inr rfl)]; simp
        | false => rw [if_neg (fun z => z.elim (fun z => by omega) (fun z => by cases z))]; simp
      · rw [decide_eq_false p]
        unfold weightL
        rw [if_pos rfl, if_pos (.inl (by omega))]; simp
  have YF : D = true → y.val.Fits ∧ y.val.txt.size ≤ 1000 ∧ y.val.ok = (y.val.ok || y.gone) := by
    intro hd
    rw [hD] at hd
    have h1 : rightL l = true := by simp at hd; exact hd.1
    have h2 : 0 < l.length := by simp at hd; exact hd.2
    have hi : l.length - 1 < l.length := by omega
    rw [hy, if_pos hd]
    have := (rightL_iff l).1 h1 _ hi
    obtain ⟨x1, x2⟩ := hg.get hi
    refine ⟨x1, x2, ?_⟩
    unfold mayV at this
    simp only [Bool.and_eq_true] at this
    show (lastL l).val.ok = _
    rw [show (lastL l).val.ok = true from this.2.2.1]; rfl
  have YO : D = true → y.val.ok = true := by
    intro hd
    rw [hD] at hd
    have h1 : rightL l = true := by simp at hd; exact hd.1
    have h2 : 0 < l.length := by simp at hd; exact hd.2
    have hi : l.length - 1 < l.length := by omega
    rw [hy, if_pos hd]
    have := (rightL_iff l).1 h1 _ hi
    unfold mayV at this
    simp only [Bool.and_eq_true] at this
    exact this.2.2.1
  have CW := Lib.hid (fun (hd : D = true) w => show Calls Try.prog 26 #[y.val.v] w fun e w' => e = .returned (.int .i64 (y.val.pack.size : Nat)) ∧ Below w.heap.size w w' by
    have := vpWeight y.val w (YF hd).1 (YF hd).2.1
    rw [YO hd, if_pos rfl] at this
    exact this)
  have HE := Lib.hid EW
  have CL := Lib.hid CL
  have A0 := Lib.hid (fun w1 => RowAt.new w1 y.cs 29)
  clear hy hD hn hW h hg YF YO EW
  go_enter Try.func13, Try.ntmps13
  go_wp2_with fail
  refine CL.out.mono ?_
  rintro e w1 ⟨rfl, hb1⟩
  have AB := Lib.hid (hb1.alloc hb1.size (.cells y.cs.toArray 29))
  obtain ⟨s, g, v⟩ := y
  obtain ⟨m, t, k⟩ := v
  clear hb1
  cases D with
  | false =>
    go_wp2_with fail
    go_ret
    exact ⟨by rw [HE.out]; rfl, AB.out⟩
  | true =>
    have CX : Hid (∀ w, Calls Try.prog 26 #[.agg #[.bool m, .string t, .int .u64 (k : Int)]] w fun e w' => e = .returned (.int .i64 ((Val.pack ⟨m, t, k⟩).size : Nat)) ∧ Below w.heap.size w w') := Lib.hid (fun w => CW.out rfl w)
    obtain ⟨z, hz⟩ : ∃ z, z = (Val.pack ⟨m, t, k⟩).size := ⟨_, rfl⟩
    simp only [← hz] at CX
    have HF := Lib.hid (show W0 = if true && !g then z else 0 by rw [hz]; exact HE.out)
    clear hz CW HE
    cases g with
    | true =>
      go_wp2_with fail
      go_ret
      exact ⟨by rw [HF.out]; rfl, AB.out⟩
    | false =>
      go_wp2_with fail
      refine (CX.out _).mono ?_
      rintro e w2 ⟨rfl, hb2⟩
      have B2 := Lib.hid (below_then AB.out hb2)
      clear hb2
      go_wp2_with fail
      go_ret
      exact ⟨by rw [HF.out]; rfl, B2.out⟩

end Go.Proofs.Ytpafnjdaiagdiaa
