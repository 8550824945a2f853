/- RingRises: walked, given what the program's ring does. -/
import Derived.Test.YtagodofcjnlnbaaA0o
import Derived.Test.YtagodofcjnlnbaaLa
import Derived.Lib.SmallJoins
namespace Go.Proofs.Ytagodofcjnlnbaa.ringRises
open Go.Proofs.Ytagodofcjnlnbaa Go.Joins Go.ChangeShapes Go.WideShapes Go.ChangeAt Go.RowKit Go.Deep

theorem floor_push (r : Rg) (x : Int) : r.floor ≤ (r.push x).floor := by
  unfold Rg.push
  by_cases e : r.no x = 0
  · rw [if_pos e]
    unfold Rg.floor Rg.seq
    simp only [List.length_append, List.length_cons, List.length_nil]
    omega
  · rw [if_neg e]; exact Nat.le_refl _
theorem asOf_in {r : Rg} (ok : r.Ok) {x : Int} (h : r.old x = false) : r.floor ≤ r.asOf x ∧ r.asOf x ≤ r.seq ∧ r.asNo x = 0 := by
  have u := r.upto_le x
  have s1 := ok.s1
  unfold Rg.asOf Rg.asNo Rg.floor Rg.seq
  rw [h]
  unfold Rg.old at h
  have h := of_decide_eq_false h
  refine ⟨?_, ?_, rfl⟩
  · simp only [Bool.false_eq_true, if_false]; omega
  · simp only [Bool.false_eq_true, if_false]; omega
theorem upto_mono (r : Rg) {x y : Int} (h : x ≤ y) : r.upto x ≤ r.upto y := by
  unfold Rg.upto
  exact List.countP_mono_left (fun z _ hz => by simp at hz ⊢; omega)
theorem asOf_mono {r : Rg} {x y : Int} (hxy : x ≤ y) (h : r.old x = false) : r.old y = false ∧ r.asOf x ≤ r.asOf y := by
  have u := upto_mono r hxy
  have hy : r.old y = false := by
    unfold Rg.old at h ⊢
    have h := of_decide_eq_false h
    exact decide_eq_false (by omega)
  refine ⟨hy, ?_⟩
  unfold Rg.asOf
  rw [h, hy]
  simp only [Bool.false_eq_true, if_false]
  omega
theorem asNo_old {r : Rg} {x : Int} (h : r.old x = true) : r.asNo x = 14 := by unfold Rg.asNo; rw [if_pos h]
theorem floor_le {r : Rg} (ok : r.Ok) : r.floor ≤ r.seq := by
  have := ok.s1
  unfold Rg.floor Rg.seq
  omega

set_option maxRecDepth 100000 in
set_option maxHeartbeats 1000000 in
theorem walk {R : RelR} (X : RingAt R) (s q : Int) (A : Option Addr) (c : Nat) (l : List Int) (x y : Int) (w : World) (h : Sl w A l) (hu : La.U64 l) (hl : l.length ≤ maxLen) (x0 : 0 ≤ x ∧ x ≤ 18446744073709551615) (y0 : 0 ≤ y ∧ y ≤ 18446744073709551615) :
    Calls Try.prog 4 #[.int .i64 s, .int .i64 q, .slice A l.length c, .int .u64 x, .int .u64 y] w fun e w' => e = .returned (.bool true) ∧ Below w.heap.size w w' := by
  obtain ⟨n, hn⟩ : ∃ n, n = l.length := ⟨_, rfl⟩
  rw [← hn]
  have HN := Lib.hid hn
  have X' := Lib.hid X
  have AW := Lib.hid (awake0 X w)
  have CN := Lib.hid (X.new s q)
  have HS := Lib.hid h
  have HU := Lib.hid hu
  have mn : 0 ≤ min x y ∧ min x y ≤ 18446744073709551615 := by omega
  have mx : 0 ≤ max x y ∧ max x y ≤ 18446744073709551615 := by omega
  have mm : min x y ≤ max x y := by omega
  have MN := Lib.hid mn
  have MX := Lib.hid mx
  have MM := Lib.hid mm
  have HL := Lib.hid hl
  clear hn X h hu hl mn mx mm x0 y0
  go_enter Try.func4, Try.ntmps4
  go_wp2_with fail
  refine AW.out.mono ?_
  rintro e w1 ⟨rfl, hb1⟩
  have B1 := Lib.hid hb1
  clear hb1 AW
  go_wp2_with fail
  refine (CN.out _).mono ?_
  rintro e w2 ⟨hb2, hh⟩
  have B2 := Lib.hid (B1.out.trans (hb2.mono B1.out.size))
  rcases hh with ⟨hfit, b, F, rfl, hr, hF⟩ | ⟨_, rfl⟩
  case inr =>
    clear hb2
    go_wp2_with fail
    go_ret
    exact ⟨rfl, B2.out⟩
  have O2 := Lib.hid (show OneR R w1 (fun k => k < w1.heap.size) w2 b (Rg.new s q) from OneR.new hb2 hr hF)
  have L2 := Lib.hid (show (Rg.new s q).l.length ≤ 0 from Nat.le_refl _)
  clear hb2 hr hF CN hfit
  obtain ⟨r0, hr0⟩ : ∃ r, r = Rg.new s q := ⟨_, rfl⟩
  rw [← hr0] at O2 L2
  clear hr0
  go_wp2_with fail
  refine (oFloor X'.out O2.out).mono ?_
  rintro e w3 ⟨rfl, o3⟩
  have O3 := Lib.hid o3
  clear o3
  have BB := Lib.hid (fun (w9 : World) r (h : OneR R w1 (fun k => k < w1.heap.size) w9 b r) => show Below w.heap.size w w9 from B1.out.trans ((h.base (Nat.le_refl _) (fun _ e => e)).mono B1.out.size))
  go_wp2_with fail
  go_loopw [13, 14] (fun vf vi wr => ∃ (i : Nat) (r : Rg), i ≤ n ∧ i ≤ 100 ∧ vf = .int .i64 (r.floor : Nat) ∧ vi = .int .i64 i ∧ Hid (r.l.length ≤ i) ∧ Hid (OneR R w1 (fun k => k < w1.heap.size) wr b r)) (fun _ vi _ => 100 - (intOf vi).toNat)
  case atStart => exact ⟨0, r0, Nat.zero_le _, by omega, rfl, rfl, L2, O3⟩
  case round =>
    obtain ⟨i, r, hi, hi2, rfl, rfl, HLR, HO⟩ := hrel
    by_cases q1 : i < n
    · by_cases q2 : i < 100
      · obtain ⟨bb, o, rfl, hbb, cc⟩ := HS.out.at_ (k := i) (by rw [← HN.out]; exact q1)
        have cl := cc i (by rw [← HN.out]; exact q1)
        have bw : Below w.heap.size w wr := BB.out wr r HO.out
        have cl : wr.cell? ⟨bb, o + i, none⟩ = some (.int .u64 (l.getD i 0)) := (bw.cell (p := ⟨bb, o + i, none⟩) hbb).trans cl
        have zu : 0 ≤ l.getD i 0 ∧ l.getD i 0 ≤ 18446744073709551615 := by
          have := HU.out.get i (by rw [← HN.out]; exact q1)
          omega
        obtain ⟨z, hz⟩ : ∃ z, z = l.getD i 0 := ⟨_, rfl⟩
        rw [← hz] at cl zu
        have CP := Lib.hid (oPush X'.out z HO.out zu.1 zu.2 (by have := HLR.out; omega))
        have LP := Lib.hid (show (r.push z).l.length ≤ i + 1 by have := r.push_len z; have := HLR.out; omega)
        have FP := Lib.hid (floor_push r z)
        obtain ⟨r1, hr1⟩ : ∃ r1, r1 = r.push z := ⟨_, rfl⟩
        rw [← hr1] at CP LP FP
        have i0 : (0 : Int) ≤ (i : Int) := by omega
        have i1 : (i : Int) < (n : Int) := by omega
        clear cc hbb bw zu hz hr1
        go_wp2_with fail
        refine CP.out.mono ?_
        rintro e w4 ⟨rfl, o4⟩
        have O4 := Lib.hid o4
        clear o4 CP cl
        have K1 := Lib.hid (fun w5 (h : OneR R w1 (fun k => k < w1.heap.size) w5 b r1) => oAsOf X'.out (min x y) h MN.out.1 MN.out.2 (by have := LP.out; omega))
        have K2 := Lib.hid (fun w5 (h : OneR R w1 (fun k => k < w1.heap.size) w5 b r1) => oAsOf X'.out (max x y) h MX.out.1 MX.out.2 (by have := LP.out; omega))
        have K3 := Lib.hid (fun w5 (h : OneR R w1 (fun k => k < w1.heap.size) w5 b r1) => oFloor X'.out h)
        have K4 := Lib.hid (fun w5 (h : OneR R w1 (fun k => k < w1.heap.size) w5 b r1) => oSeq X'.out h)
        have OK := Lib.hid (OneR.ok X'.out O4.out)
        have AI := Lib.hid (fun h => asOf_in OK.out (x := min x y) h)
        have AM := Lib.hid (fun h => asOf_mono (r := r1) MM.out h)
        have AJ := Lib.hid (fun h => asOf_in OK.out (x := max x y) h)
        have AN := Lib.hid (fun h => asNo_old (r := r1) (x := min x y) h)
        obtain ⟨a1, ha1⟩ : ∃ a, a = r1.asOf (min x y) := ⟨_, rfl⟩
        obtain ⟨e1, he1⟩ : ∃ a, a = r1.asNo (min x y) := ⟨_, rfl⟩
        obtain ⟨a2, ha2⟩ : ∃ a, a = r1.asOf (max x y) := ⟨_, rfl⟩
        obtain ⟨e2, he2⟩ : ∃ a, a = r1.asNo (max x y) := ⟨_, rfl⟩
        obtain ⟨f1, hf1⟩ : ∃ a, a = r1.floor := ⟨_, rfl⟩
        obtain ⟨f0, hf0⟩ : ∃ a, a = r.floor := ⟨_, rfl⟩
        obtain ⟨s1, hs1⟩ : ∃ a, a = r1.seq := ⟨_, rfl⟩
        simp only [← ha1, ← he1] at K1
        simp only [← ha2, ← he2] at K2
        simp only [← hf1] at K3
        simp only [← hs1] at K4
        rw [← hf0, ← hf1] at FP
        simp only [← ha1, ← hf1, ← hs1, ← he1] at AI
        simp only [← ha2, ← hf1, ← hs1, ← he2] at AJ
        simp only [← ha1, ← ha2] at AM
        simp only [← he1] at AN
        rw [← hf0]
        have F1 := Lib.hid hf1
        have fp := FP.out
        have cases0 : (r1.old (min x y) = true ∧ e1 = 14) ∨ (e1 = 0 ∧ f1 ≤ a1 ∧ a1 ≤ s1 ∧ e2 = 0 ∧ a1 ≤ a2) := by
          cases ho : r1.old (min x y) with
          | true => exact .inl ⟨rfl, AN.out ho⟩
          | false =>
            obtain ⟨t1, t2, t3⟩ := AI.out ho
            obtain ⟨t4, t5⟩ := AM.out ho
            obtain ⟨_, _, t6⟩ := AJ.out t4
            exact .inr ⟨t3, t1, t2, t6, t5⟩
        clear ha1 he1 ha2 he2 hf1 hf0 hs1 AI AJ AM AN
        have CC := Lib.hid cases0
        clear cases0
        rcases Int.lt_trichotomy x y with xy | xy | xy
        · simp only [show min x y = x by omega] at K1
          simp only [show max x y = y by omega] at K2
          go_wp2_with fail
          refine (K1.out _ O4.out).mono ?_
          rintro e w5 ⟨rfl, o5⟩
          have O5 := Lib.hid o5
          clear o5 K1
          go_wp2_with fail
          refine (K2.out _ O5.out).mono ?_
          rintro e w6 ⟨rfl, o6⟩
          have O6 := Lib.hid o6
          clear o6 K2
          go_wp2_with fail
          refine (K3.out _ O6.out).mono ?_
          rintro e w7 ⟨rfl, o7⟩
          have O7 := Lib.hid o7
          clear o7
          rcases CC.out with ⟨_, rfl⟩ | ⟨rfl, t1, t2, rfl, t3⟩
          · go_wp2_with fail
            refine (K3.out _ O7.out).mono ?_
            rintro e w8 ⟨rfl, o8⟩
            have O8 := Lib.hid o8
            clear o8
            go_wp2_with fail
            go_roundw
            case rel => exact ⟨i + 1, r1, by omega, by omega, by rw [F1.out], by go_num, LP, O8⟩
            case measure => simp [intOf]; omega
          · go_wp2_with fail
            refine (K3.out _ O7.out).mono ?_
            rintro e w8 ⟨rfl, o8⟩
            have O8 := Lib.hid o8
            clear o8
            go_wp2_with fail
            refine (K4.out _ O8.out).mono ?_
            rintro e w9 ⟨rfl, o9⟩
            have O9 := Lib.hid o9
            clear o9
            go_wp2_with fail
            refine (K3.out _ O9.out).mono ?_
            rintro e w10 ⟨rfl, o10⟩
            have O10 := Lib.hid o10
            clear o10
            go_wp2_with fail
            go_roundw
            case rel => exact ⟨i + 1, r1, by omega, by omega, by rw [F1.out], by go_num, LP, O10⟩
            case measure => simp [intOf]; omega
        · subst xy
          simp only [show min x x = x by omega] at K1
          simp only [show max x x = x by omega] at K2
          go_wp2_with fail
          refine (K1.out _ O4.out).mono ?_
          rintro e w5 ⟨rfl, o5⟩
          have O5 := Lib.hid o5
          clear o5 K1
          go_wp2_with fail
          refine (K2.out _ O5.out).mono ?_
          rintro e w6 ⟨rfl, o6⟩
          have O6 := Lib.hid o6
          clear o6 K2
          go_wp2_with fail
          refine (K3.out _ O6.out).mono ?_
          rintro e w7 ⟨rfl, o7⟩
          have O7 := Lib.hid o7
          clear o7
          rcases CC.out with ⟨_, rfl⟩ | ⟨rfl, t1, t2, rfl, t3⟩
          · go_wp2_with fail
            refine (K3.out _ O7.out).mono ?_
            rintro e w8 ⟨rfl, o8⟩
            have O8 := Lib.hid o8
            clear o8
            go_wp2_with fail
            go_roundw
            case rel => exact ⟨i + 1, r1, by omega, by omega, by rw [F1.out], by go_num, LP, O8⟩
            case measure => simp [intOf]; omega
          · go_wp2_with fail
            refine (K3.out _ O7.out).mono ?_
            rintro e w8 ⟨rfl, o8⟩
            have O8 := Lib.hid o8
            clear o8
            go_wp2_with fail
            refine (K4.out _ O8.out).mono ?_
            rintro e w9 ⟨rfl, o9⟩
            have O9 := Lib.hid o9
            clear o9
            go_wp2_with fail
            refine (K3.out _ O9.out).mono ?_
            rintro e w10 ⟨rfl, o10⟩
            have O10 := Lib.hid o10
            clear o10
            go_wp2_with fail
            go_roundw
            case rel => exact ⟨i + 1, r1, by omega, by omega, by rw [F1.out], by go_num, LP, O10⟩
            case measure => simp [intOf]; omega
        · simp only [show min x y = y by omega] at K1
          simp only [show max x y = x by omega] at K2
          go_wp2_with fail
          refine (K1.out _ O4.out).mono ?_
          rintro e w5 ⟨rfl, o5⟩
          have O5 := Lib.hid o5
          clear o5 K1
          go_wp2_with fail
          refine (K2.out _ O5.out).mono ?_
          rintro e w6 ⟨rfl, o6⟩
          have O6 := Lib.hid o6
          clear o6 K2
          go_wp2_with fail
          refine (K3.out _ O6.out).mono ?_
          rintro e w7 ⟨rfl, o7⟩
          have O7 := Lib.hid o7
          clear o7
          rcases CC.out with ⟨_, rfl⟩ | ⟨rfl, t1, t2, rfl, t3⟩
          · go_wp2_with fail
            refine (K3.out _ O7.out).mono ?_
            rintro e w8 ⟨rfl, o8⟩
            have O8 := Lib.hid o8
            clear o8
            go_wp2_with fail
            go_roundw
            case rel => exact ⟨i + 1, r1, by omega, by omega, by rw [F1.out], by go_num, LP, O8⟩
            case measure => simp [intOf]; omega
          · go_wp2_with fail
            refine (K3.out _ O7.out).mono ?_
            rintro e w8 ⟨rfl, o8⟩
            have O8 := Lib.hid o8
            clear o8
            go_wp2_with fail
            refine (K4.out _ O8.out).mono ?_
            rintro e w9 ⟨rfl, o9⟩
            have O9 := Lib.hid o9
            clear o9
            go_wp2_with fail
            refine (K3.out _ O9.out).mono ?_
            rintro e w10 ⟨rfl, o10⟩
            have O10 := Lib.hid o10
            clear o10
            go_wp2_with fail
            go_roundw
            case rel => exact ⟨i + 1, r1, by omega, by omega, by rw [F1.out], by go_num, LP, O10⟩
            case measure => simp [intOf]; omega
      · skip
        obtain ⟨f0, hf0⟩ : ∃ a, a = r.floor := ⟨_, rfl⟩
        obtain ⟨s1, hs1⟩ : ∃ a, a = r.seq := ⟨_, rfl⟩
        have fl : f0 ≤ s1 := by rw [hf0, hs1]; exact floor_le (OneR.ok X'.out HO.out)
        have K4 := Lib.hid (oSeq X'.out HO.out)
        rw [← hs1] at K4
        rw [← hf0]
        clear hf0 hs1
        go_wp2_with fail
        refine K4.out.mono ?_
        rintro e w9 ⟨rfl, o9⟩
        have B9 := Lib.hid (BB.out _ _ o9)
        clear o9
        go_wp2_with fail
        go_ret
        exact ⟨rfl, B9.out⟩
    · skip
      obtain ⟨f0, hf0⟩ : ∃ a, a = r.floor := ⟨_, rfl⟩
      obtain ⟨s1, hs1⟩ : ∃ a, a = r.seq := ⟨_, rfl⟩
      have fl : f0 ≤ s1 := by rw [hf0, hs1]; exact floor_le (OneR.ok X'.out HO.out)
      have K4 := Lib.hid (oSeq X'.out HO.out)
      rw [← hs1] at K4
      rw [← hf0]
      clear hf0 hs1
      go_wp2_with fail
      refine K4.out.mono ?_
      rintro e w9 ⟨rfl, o9⟩
      have B9 := Lib.hid (BB.out _ _ o9)
      clear o9
      go_wp2_with fail
      go_ret
      exact ⟨rfl, B9.out⟩

end Go.Proofs.Ytagodofcjnlnbaa.ringRises
