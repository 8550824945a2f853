/- Proved parts: D4b. Conditions: each theorem's own. -/
import Derived.Test.YtnbkekbgedioeaaM34
import Derived.Test.YtnbkekbgedioeaaM31
import Derived.Test.YtnbkekbgedioeaaM33
import Derived.Lib.SmallJoins
import Derived.Deep.CutBlock
import Derived.Deep.CutRange
namespace Go.Proofs.Ytnbkekbgedioeaa.wsetBack
open Go.Proofs.Ytnbkekbgedioeaa Go.Joins Go.ChangeShapes Go.WideShapes Go.ChangeAt Go.RowKit Go.Deep

theorem key_dec (x : AcW) (h : x.far = false) : x.key.size ≤ 200 := by
  unfold AcW.far at h
  simp only [Bool.or_eq_false_iff, decide_eq_false_iff_not] at h
  omega
/-- the first marks are these -/
def Kept (P : List Wl) (a : Ws) : Prop := a.M.take P.length = P
theorem Kept.len {P : List Wl} {a : Ws} (h : Kept P a) : P.length ≤ a.M.length := by
  have := congrArg List.length h
  rw [List.length_take] at this
  omega
theorem Kept.step {P : List Wl} {a : Ws} (h : Kept P a) (y : AcW) (hy : y.kind = 4 → (P.length : Int) ≤ y.n) : Kept P (a.step y) := by
  have hl := h.len
  unfold Ws.step
  by_cases k1 : y.kind = 1
  · rw [if_pos k1]; exact h
  rw [if_neg k1]
  by_cases k2 : y.kind = 2
  · rw [if_pos k2]; exact h
  rw [if_neg k2]
  by_cases k3 : y.kind = 3
  · rw [if_pos k3]
    unfold Ws.mk'
    split
    · exact h
    · show (a.M ++ [a.L]).take P.length = P
      rw [List.take_append_of_le_length hl]; exact h
  rw [if_neg k3]
  by_cases k4 : y.kind = 4
  · rw [if_pos k4]
    have := hy k4
    unfold Ws.bk
    split
    · exact h
    · show (a.M.take y.n.toNat).take P.length = P
      rw [List.take_take, Nat.min_eq_left (by omega)]; exact h
  · rw [if_neg k4]; exact h
/-- back to the last of them -/
theorem Kept.back {M : List Wl} {L : Wl} {a : Ws} (h : Kept (M ++ [L]) a) : a.bkE ((M.length : Int) + 1) = 0 ∧ a.bk ((M.length : Int) + 1) = ⟨L, M ++ [L]⟩ := by
  have hl := h.len
  rw [List.length_append, List.length_singleton] at hl
  have n : ¬ (((M.length : Int) + 1) < 1 ∨ (a.M.length : Int) < (M.length : Int) + 1) := by omega
  have t : (((M.length : Int) + 1)).toNat = M.length + 1 := by omega
  have h' : a.M.take (M.length + 1) = M ++ [L] := by
    have := h
    unfold Kept at this
    rwa [List.length_append, List.length_singleton] at this
  refine ⟨by unfold Ws.bkE; rw [if_neg n], ?_⟩
  unfold Ws.bk
  rw [if_neg n, t, h', Nat.add_sub_cancel]
  have e : a.M.getD M.length [] = L := by
    have := congrArg (fun l => l.getD M.length []) h'
    rw [getD_takeW _ _ (by omega)] at this
    rw [this, List.getD_eq_getElem?_getD, List.getElem?_append_right (Nat.le_refl _), Nat.sub_self]; rfl
  rw [e]
theorem Kept.self (P : List Wl) (L : Wl) : Kept P ⟨L, P⟩ := List.take_length
set_option maxRecDepth 100000 in
set_option maxHeartbeats 10000000 in
theorem walk (A : Option Addr) (c : Nat) (l : List AcW) (A9 : Option Addr) (c9 : Nat) (l9 : List AcW) (w : World) (sa : SlAcW w A l) (oa : ∀ y, y ∈ l → y.Ok) (la : l.length ≤ maxLen) (sa9 : SlAcW w A9 l9) (oa9 : ∀ y, y ∈ l9 → y.Ok) (la9 : l9.length ≤ maxLen) :
    Calls Try.prog 4 #[.slice A l.length c, .slice A9 l9.length c9] w fun e w' => e = .returned (.bool true) ∧ Below w.heap.size w w' := by
  obtain ⟨n, hn⟩ : ∃ n, n = l.length := ⟨_, rfl⟩
  obtain ⟨n9, hn9⟩ : ∃ n, n = l9.length := ⟨_, rfl⟩
  have SA := Lib.hid sa
  have OA := Lib.hid oa
  have HN := Lib.hid hn
  have SA9 := Lib.hid sa9
  have OA9 := Lib.hid oa9
  have HN9 := Lib.hid hn9
  have AW := Lib.hid (awakeW w)
  unfold maxLen at la la9
  rw [← hn] at la ⊢
  rw [← hn9] at la9 ⊢
  clear sa oa hn sa9 oa9 hn9
  go_enter Try.func4, Try.ntmps4
  go_wp2_with fail
  refine AW.out.mono ?_
  rintro e w1 ⟨rfl, hb1⟩
  have B1 := Lib.hid hb1
  clear hb1 AW
  have BW := Lib.hid (fun W os (h : Side w1 (fun k => k < w1.heap.size) W os) => show Below w.heap.size w W from below_then B1.out (h.base (Nat.le_refl _) fun _ e => e))
  have KN := Lib.hid (sNew (Side.nil w1))
  go_wp2_with fail
  refine KN.out.mono ?_
  rintro e w2 ⟨⟨b, rfl, h2⟩, -⟩
  have h3 := mNewSet h2
  obtain ⟨p, hp⟩ : ∃ p, p = w2.heap.size := ⟨_, rfl⟩
  rw [← hp] at h3
  have HP := Lib.hid hp
  have H3 : Hid (Side w1 (fun k => k < w1.heap.size) (w2.alloc (.cells #[.slice none 0 0, .slice none 0 0] TR)) [obS TS b Ws.new, obS TR p Ws.new]) := Lib.hid h3
  clear h2 h3 hp KN
  go_upto_region 5 with fail
  rw [← HP.out]
  generalize w2.alloc (.cells #[.slice none 0 0, .slice none 0 0] TR) = w3 at H3 ⊢
  clear HP
  go_upto_block 0 with fail
  go_cut [7] from 18 to 40 (fun _ wx => Hid (∃ a m, Side w1 (fun k => k < w1.heap.size) wx [obS TS b a, obS TR p m]))
  case first =>
    go_wp2_with fail
    go_loopw [7] (fun vi W => ∃ (i : Nat) (a m : Ws), i ≤ n ∧ i ≤ 120 ∧ vi = .int .i64 i ∧ Hid (Side w1 (fun k => k < w1.heap.size) W [obS TS b a, obS TR p m])) (fun vi _ => 120 - (intOf vi).toNat)
    case atStart => exact ⟨0, Ws.new, Ws.new, Nat.zero_le _, Nat.zero_le _, rfl, H3⟩
    case round =>
      obtain ⟨i, a, m, hi, hi2, rfl, HI⟩ := hrel
      clear H3
      by_cases z1 : i < n
      · by_cases z2 : i < 120
        · skip
          have il : i < l.length := by rw [← HN.out]; exact z1
          obtain ⟨ab, ao, rfl, k0, k1, k2, k3, k4, k5⟩ := SA.out.at (BW.out _ _ HI.out) il
          have CC := Lib.hid (fun W (hb : Below w.heap.size w W) => SA.out.at hb il)
          have hy : (l.getD i AcW.Z).Ok := OA.out _ (by rw [List.getD_eq_getElem?_getD, List.getElem?_eq_getElem il]; exact List.getElem_mem _)
          obtain ⟨y, ey⟩ : ∃ y, y = l.getD i AcW.Z := ⟨_, rfl⟩
          rw [← ey] at hy k0 k1 k2 k3 k4 k5
          simp only [← ey] at CC
          have CC := Lib.hid (show ∀ W, Below w.heap.size w W → W.cell? ⟨ab, ao + i * 6, none⟩ = some (.int .i64 y.kind) ∧ W.cell? ⟨ab, ao + i * 6 + 1, none⟩ = some (.string y.key) ∧ W.cell? ⟨ab, ao + i * 6 + 2, none⟩ = some (.bool y.val.num) ∧ W.cell? ⟨ab, ao + i * 6 + 3, none⟩ = some (.string y.val.txt) ∧ W.cell? ⟨ab, ao + i * 6 + 4, none⟩ = some (.int .u64 (y.val.bits : Int)) ∧ W.cell? ⟨ab, ao + i * 6 + 5, none⟩ = some (.int .i64 y.n) from fun W hb => by
            obtain ⟨b', o', e, q⟩ := CC.out W hb
            injection e with e
            injection e with e1 e2 _
            subst e1; subst e2
            exact q)
          have KF := Lib.hid (fun W => lFarW y W)
          have HK := Lib.hid (key_dec y)
          have HY := Lib.hid hy.1
          have i0 : (0 : Int) ≤ (i : Int) := by omega
          have i1 : (i : Int) < (n : Int) := by omega
          have i2 : (i : Int) < 120 := by omega
          obtain ⟨Fa, hFa⟩ : ∃ T, T = y.far := ⟨_, rfl⟩
          simp only [← hFa] at KF HK
          clear hFa hy ey il
          go_wp2_with fail
          refine (KF.out _).mono ?_
          rintro e w4 ⟨rfl, hb⟩
          have H4 := Lib.hid (HI.out.below hb)
          clear hb k0 k1 k2 k3 k4 k5 KF
          cases Fa with
          | true =>
            go_wp2_with fail
            go_roundw
            case rel => exact ⟨i + 1, a, m, by omega, by omega, by go_num, H4⟩
            case measure => simp [intOf]; omega
          | false =>
            have KD := Lib.hid (show Calls Try.prog 10 #[PtrW b, PtrW p, .agg #[.int .i64 y.kind, .string y.key, .bool y.val.num, .string y.val.txt, .int .u64 (y.val.bits : Int), .int .i64 y.n]] w4 _ from
              lDoesW H4.out (i := 0) (j := 1) rfl rfl (by decide) y HY.out (by have := HK.out rfl; omega))
            obtain ⟨k0, k1, k2, k3, k4, k5⟩ := CC.out _ (BW.out _ _ H4.out)
            go_wp2_with fail
            refine KD.out.mono ?_
            rintro e w5 ⟨rfl, h5⟩
            have H5 : Hid (Side w1 (fun k => k < w1.heap.size) w5 [obS TS b (a.step y), obS TR p (m.step y)]) := Lib.hid h5
            clear h5 KD k0 k1 k2 k3 k4 k5
            go_wp2_with fail
            go_roundw
            case rel => exact ⟨i + 1, a.step y, m.step y, by omega, by omega, by go_num, H5⟩
            case measure => simp [intOf]; omega
        · obtain rfl : i = 120 := by omega
          go_wp2_with fail
          go_meet
          exact Lib.hid ⟨a, m, HI.out⟩
      · obtain rfl : i = n := by omega
        go_wp2_with fail
        go_meet
        exact Lib.hid ⟨a, m, HI.out⟩
  case rest =>
    obtain ⟨a, m, hI⟩ := hcut.out
    have HI := Lib.hid hI
    clear hI hcut
    have OK0 := Lib.hid (sOk HI.out (i := 0) rfl)
    have KA := Lib.hid (sAll HI.out (i := 0) rfl)
    go_wp2_with fail
    refine KA.out.mono ?_
    rintro e w6 ⟨⟨v6, rfl, n6, o6⟩, hb6, -⟩
    have h6 := HI.out.more hb6 (o := oWr v6 a.L) (F' := fun k => v6.ownBlock = some k) ⟨n6, fun _ => Iff.rfl⟩ o6
    have H6 : Hid (Side w1 (fun k => k < w1.heap.size) w6 [obS TS b a, obS TR p m, oWr v6 a.L]) := Lib.hid h6
    have KM := sMark H6.out (i := 0) rfl
    obtain ⟨M0, hM0⟩ : ∃ M, M = a.M := ⟨_, rfl⟩
    obtain ⟨L0, hL0⟩ : ∃ L, L = a.L := ⟨_, rfl⟩
    obtain ⟨K, hK⟩ : ∃ K, K = M0.length := ⟨_, rfl⟩
    have m4 : K ≤ 4 := by rw [hK, hM0]; exact OK0.out.len
    have EN : a.mkN = if 4 ≤ K then 0 else (K : Int) + 1 := by unfold Ws.mkN; rw [hK, hM0]
    have EE : a.mkE = if 4 ≤ K then 5 else 0 := by unfold Ws.mkE; rw [hK, hM0]
    have EM : a.mk' = if 4 ≤ K then a else ⟨L0, M0 ++ [L0]⟩ := by unfold Ws.mk'; rw [hK, hM0, hL0]
    rw [EN, EE, EM] at KM
    have KL := Lib.hid hK
    have LO := Lib.hid (show L0.length ≤ 16 from by rw [hL0]; exact OK0.out.l.len)
    rw [← hL0] at H6
    have HM0 := Lib.hid hM0
    have HL0 := Lib.hid hL0
    clear KA n6 o6 hb6 h6 EN EE EM hK hM0 hL0 HI
    by_cases z4 : 4 ≤ K
    · rw [if_pos z4, if_pos z4, if_pos z4] at KM
      have k4 : K = 4 := by omega
      have KM := Lib.hid (show Calls Try.prog 20 #[PtrW b] w6 fun e w' => e = .returned (.tuple #[.int .i64 0, .int .i64 5]) ∧ Side w1 (fun k => k < w1.heap.size) w' [obS TS b a, obS TR p m, oWr v6 a.L] from KM)
      have KQ := Lib.hid (fun W (h : Side w1 (fun k => k < w1.heap.size) W [obS TS b a, obS TR p m, oWr v6 a.L]) => show Calls Try.prog 14 #[PtrW b] W fun e w' => e = .returned (.int .i64 4) ∧ Below W.heap.size W w' ∧ Side w1 (fun k => k < w1.heap.size) w' [obS TS b a, obS TR p m, oWr v6 a.L] from by
        have k := sMarks h (i := 0) rfl
        rw [show ((a.M.length : Nat) : Int) = 4 by rw [← HM0.out, ← KL.out, k4]; rfl] at k
        exact k)
      clear z4 k4
      go_wp2_with fail
      refine KM.out.mono ?_
      rintro e w7 ⟨rfl, h7⟩
      have H7 := Lib.hid h7
      clear h7 KM
      go_wp2_with fail
      refine (KQ.out _ H7.out).mono ?_
      rintro e w8 ⟨rfl, -, h8⟩
      have BE := Lib.hid (BW.out _ _ h8)
      clear h8
      go_wp2_with fail
      go_ret
      exact ⟨rfl, BE.out⟩
    · rw [if_neg z4, if_neg z4, if_neg z4] at KM
      rw [← HL0.out] at KM
      have KM := Lib.hid (show Calls Try.prog 20 #[PtrW b] w6 fun e w' => e = .returned (.tuple #[.int .i64 ((K : Int) + 1), .int .i64 0]) ∧ Side w1 (fun k => k < w1.heap.size) w' [obS TS b ⟨L0, M0 ++ [L0]⟩, obS TR p m, oWr v6 L0] from KM)
      obtain ⟨PP, hPP⟩ : ∃ P, P = M0 ++ [L0] := ⟨_, rfl⟩
      have PE := Lib.hid hPP
      have PN := Lib.hid (show (PP.length : Int) = (K : Int) + 1 by rw [hPP, List.length_append, List.length_singleton, KL.out]; omega)
      have K0 := Lib.hid (show Kept PP ⟨L0, M0 ++ [L0]⟩ from by rw [hPP]; exact Kept.self _ _)
      obtain ⟨ll, hll⟩ : ∃ x, x = L0.length := ⟨_, rfl⟩
      have LL := Lib.hid hll
      clear hPP hll
      go_wp2_with fail
      refine KM.out.mono ?_
      rintro e w7 ⟨rfl, h7⟩
      have H7 := Lib.hid h7
      clear h7 KM H6
      go_wp2_with fail
      go_loopw [11] (fun vk W => ∃ (k : Nat) (a2 m2 : Ws), k ≤ 2 ∧ vk = .int .i64 k ∧ Hid (Kept PP a2) ∧ Hid (Side w1 (fun k => k < w1.heap.size) W [obS TS b a2, obS TR p m2, oWr v6 L0])) (fun vk _ => 2 - (intOf vk).toNat)
      case atStart => exact ⟨0, _, m, by decide, rfl, K0, H7⟩
      case round =>
        obtain ⟨k, a2, m2, hk, rfl, HP2, HJ2⟩ := hrel
        clear H7
        by_cases zk : k < 2
        · have zk2 : (k : Int) < 2 := by omega
          go_upto_block 4 with fail
          go_cut [12] from 61 to 99 (fun _ wx => Hid (∃ a3 m3, Kept PP a3 ∧ Side w1 (fun k => k < w1.heap.size) wx [obS TS b a3, obS TR p m3, oWr v6 L0]))
          case first =>
            go_wp2_with fail
            go_loopw [12] (fun vi wi => ∃ (i : Nat) (a3 m3 : Ws), i ≤ n9 ∧ i ≤ 120 ∧ vi = .int .i64 i ∧ Hid (Kept PP a3) ∧ Hid (Side w1 (fun k => k < w1.heap.size) wi [obS TS b a3, obS TR p m3, oWr v6 L0])) (fun vi _ => 120 - (intOf vi).toNat)
            case atStart => exact ⟨0, a2, m2, Nat.zero_le _, Nat.zero_le _, rfl, HP2, HJ2⟩
            case round =>
              obtain ⟨i, a3, m3, hi, hi2, rfl, HP3, HJ⟩ := hrel
              clear HP2 HJ2
              obtain ⟨wi, hwi⟩ : ∃ x, x = wr := ⟨_, rfl⟩
              subst hwi
              by_cases z1 : i < n9
              · by_cases z2 : i < 120
                · skip
                  have il : i < l9.length := by rw [← HN9.out]; exact z1
                  obtain ⟨ab, ao, rfl, k0, k1, k2, k3, k4, k5⟩ := SA9.out.at (BW.out _ _ HJ.out) il
                  have CC := Lib.hid (fun W (hb : Below w.heap.size w W) => SA9.out.at hb il)
                  have hy : (l9.getD i AcW.Z).Ok := OA9.out _ (by rw [List.getD_eq_getElem?_getD, List.getElem?_eq_getElem il]; exact List.getElem_mem _)
                  obtain ⟨y, ey⟩ : ∃ y, y = l9.getD i AcW.Z := ⟨_, rfl⟩
                  rw [← ey] at hy k0 k1 k2 k3 k4 k5
                  simp only [← ey] at CC
                  have CC := Lib.hid (show ∀ W, Below w.heap.size w W → W.cell? ⟨ab, ao + i * 6, none⟩ = some (.int .i64 y.kind) ∧ W.cell? ⟨ab, ao + i * 6 + 1, none⟩ = some (.string y.key) ∧ W.cell? ⟨ab, ao + i * 6 + 2, none⟩ = some (.bool y.val.num) ∧ W.cell? ⟨ab, ao + i * 6 + 3, none⟩ = some (.string y.val.txt) ∧ W.cell? ⟨ab, ao + i * 6 + 4, none⟩ = some (.int .u64 (y.val.bits : Int)) ∧ W.cell? ⟨ab, ao + i * 6 + 5, none⟩ = some (.int .i64 y.n) from fun W hb => by
                    obtain ⟨b', o', e, q⟩ := CC.out W hb
                    injection e with e
                    injection e with e1 e2 _
                    subst e1; subst e2
                    exact q)
                  have KF := Lib.hid (fun W => lFarW y W)
                  have HK := Lib.hid (key_dec y)
                  have HY := Lib.hid hy.1
                  have i0 : (0 : Int) ≤ (i : Int) := by omega
                  have i1 : (i : Int) < (n9 : Int) := by omega
                  have i2 : (i : Int) < 120 := by omega
                  obtain ⟨Fa, hFa⟩ : ∃ T, T = y.far := ⟨_, rfl⟩
                  simp only [← hFa] at KF HK
                  clear hFa hy ey il
                  go_wp2_with fail
                  refine (KF.out _).mono ?_
                  rintro e w4 ⟨rfl, hb⟩
                  have H4 := Lib.hid (HJ.out.below hb)
                  clear hb k0 k1 k2 k3 k4 k5 KF
                  obtain ⟨k0, k1, k2, k3, k4, k5⟩ := CC.out _ (BW.out _ _ H4.out)
                  cases Fa with
                  | true =>
                    go_wp2_with fail
                    go_roundw
                    case rel => exact ⟨i + 1, a3, m3, by omega, by omega, by go_num, HP3, H4⟩
                    case measure => simp [intOf]; omega
                  | false =>
                  have KD := Lib.hid (show Calls Try.prog 10 #[PtrW b, PtrW p, .agg #[.int .i64 y.kind, .string y.key, .bool y.val.num, .string y.val.txt, .int .u64 (y.val.bits : Int), .int .i64 y.n]] w4 fun e w' => e = .returned (.bool (decide (a3.ans y = m3.ans y))) ∧ Side w1 (fun k => k < w1.heap.size) w' [obS TS b (a3.step y), obS TR p (m3.step y), oWr v6 L0] from
                    lDoesW H4.out (i := 0) (j := 1) rfl rfl (by decide) y HY.out (by have := HK.out rfl; omega))
                  have HP4 := Lib.hid (fun (h : y.kind = 4 → ¬ y.n < (K : Int) + 1) => show Kept PP (a3.step y) from HP3.out.step y (fun e => by have := h e; have := PN.out; omega))
                  obtain ⟨D, hD⟩ : ∃ D, D = decide (a3.ans y = m3.ans y) := ⟨_, rfl⟩
                  obtain ⟨a4, ha4⟩ : ∃ D, D = a3.step y := ⟨_, rfl⟩
                  obtain ⟨m4', hm4⟩ : ∃ D, D = m3.step y := ⟨_, rfl⟩
                  rw [← hD, ← ha4, ← hm4] at KD
                  rw [← ha4] at HP4
                  obtain ⟨kd, hkd⟩ : ∃ D, D = y.kind := ⟨_, rfl⟩
                  obtain ⟨nn, hnn⟩ : ∃ D, D = y.n := ⟨_, rfl⟩
                  rw [← hkd, ← hnn] at KD HP4
                  rw [← hkd] at k0
                  rw [← hnn] at k5
                  clear hD ha4 hm4 hkd hnn CC HK HY
                  by_cases z6 : kd = 4
                  · subst z6
                    by_cases z7 : nn < (K : Int) + 1
                    · go_wp2_with fail
                      go_roundw
                      case rel => exact ⟨i + 1, a3, m3, by omega, by omega, by go_num, HP3, H4⟩
                      case measure => simp [intOf]; omega
                    · have HP5 := Lib.hid (HP4.out fun _ => z7)
                      clear HP4
                      go_wp2_with fail
                      refine KD.out.mono ?_
                      rintro e w5 ⟨rfl, h5⟩
                      have H5 := Lib.hid h5
                      clear h5 KD k0 k1 k2 k3 k4 k5
                      go_wp2_with fail
                      go_roundw
                      case rel => exact ⟨i + 1, a4, m4', by omega, by omega, by go_num, HP5, H5⟩
                      case measure => simp [intOf]; omega
                  · have HP5 := Lib.hid (HP4.out fun e => absurd e z6)
                    clear HP4
                    go_wp2_with fail
                    refine KD.out.mono ?_
                    rintro e w5 ⟨rfl, h5⟩
                    have H5 := Lib.hid h5
                    clear h5 KD k0 k1 k2 k3 k4 k5
                    go_wp2_with fail
                    go_roundw
                    case rel => exact ⟨i + 1, a4, m4', by omega, by omega, by go_num, HP5, H5⟩
                    case measure => simp [intOf]; omega
                · obtain rfl : i = 120 := by omega
                  go_wp2_with fail
                  go_meet
                  exact Lib.hid ⟨a3, m3, HP3.out, HJ.out⟩
              · obtain rfl : i = n9 := by omega
                go_wp2_with fail
                go_meet
                exact Lib.hid ⟨a3, m3, HP3.out, HJ.out⟩
          case rest =>
            obtain ⟨a3, m3, hp3, hj⟩ := hcut.out
            have HP3 := Lib.hid hp3
            have HJ := Lib.hid hj
            clear hp3 hj hcut HP2 HJ2
            have KB := sBack HJ.out (i := 0) rfl ((K : Int) + 1)
            have hbk := HP3.out
            rw [PE.out] at hbk
            obtain ⟨q1, q2⟩ := Kept.back hbk
            rw [← KL.out] at q1 q2
            rw [q1, q2] at KB
            have KB := Lib.hid (show Calls Try.prog 21 #[PtrW b, .int .i64 ((K : Int) + 1)] wc fun e w' => e = .returned (.int .i64 0) ∧ Side w1 (fun k => k < w1.heap.size) w' [obS TS b ⟨L0, M0 ++ [L0]⟩, obS TR p m3, oWr v6 L0] from KB)
            clear q1 q2 hbk
            go_wp2_with fail
            refine KB.out.mono ?_
            rintro e x1 ⟨rfl, h1⟩
            have J1 := Lib.hid h1
            have KA2 := Lib.hid (sAll h1 (i := 0) rfl)
            clear h1 KB
            go_wp2_with fail
            refine KA2.out.mono ?_
            rintro e x2 ⟨⟨v7, rfl, n7, -⟩, -, h2⟩
            have J2 := Lib.hid h2
            obtain ⟨F7, p7⟩ := h2.get (i := 2) (o := oWr v6 L0) rfl
            obtain ⟨A7, c7, e7, s7, -⟩ := n7.sl
            obtain ⟨A8, c8, e8, s8, -⟩ := p7.1.sl
            have s7 : SlWr x2 A7 L0 := s7
            have e7 : v7 = .slice A7 L0.length c7 := e7
            rw [← LL.out] at e7 e8
            have KS := rSameW L0 A7 A8 c7 c8 x2 s7 s8 (by have := LO.out; omega)
            rw [← LL.out] at KS
            rw [← e8] at KS
            have KS := Lib.hid KS
            have KQ := Lib.hid (fun W (h : Side w1 (fun k => k < w1.heap.size) W [obS TS b ⟨L0, M0 ++ [L0]⟩, obS TR p m3, oWr v6 L0]) => show Calls Try.prog 14 #[PtrW b] W fun e w' => e = .returned (.int .i64 ((K : Int) + 1)) ∧ Below W.heap.size W w' ∧ Side w1 (fun k => k < w1.heap.size) w' [obS TS b ⟨L0, M0 ++ [L0]⟩, obS TR p m3, oWr v6 L0] from by
              have k := sMarks h (i := 0) rfl
              rw [show (((Ws.mk L0 (M0 ++ [L0])).M.length : Nat) : Int) = (K : Int) + 1 by show (((M0 ++ [L0]).length : Nat) : Int) = _; rw [List.length_append, List.length_singleton, KL.out]; omega] at k
              exact k)
            subst e7
            clear h2 n7 p7 s7 s8 J1 KA2 e8
            go_wp2_with fail
            refine KS.out.mono ?_
            rintro e x3 ⟨rfl, hb3⟩
            have J3 := Lib.hid (J2.out.below hb3)
            clear hb3 KS J2
            go_wp2_with fail
            refine (KQ.out _ J3.out).mono ?_
            rintro e x4 ⟨rfl, -, h4⟩
            have J4 := Lib.hid h4
            clear h4 J3 KQ
            have KS2 := Lib.hid (show Kept PP ⟨L0, M0 ++ [L0]⟩ from by rw [PE.out]; exact Kept.self _ _)
            go_wp2_with fail

            go_roundw
            case rel => exact ⟨k + 1, ⟨L0, M0 ++ [L0]⟩, m3, by omega, by go_num, KS2, J4⟩
            case measure => simp [intOf]; omega
        · obtain rfl : k = 2 := by omega
          have BE := Lib.hid (BW.out _ _ HJ2.out)
          go_wp2_with fail
          go_ret
          exact ⟨rfl, BE.out⟩

end Go.Proofs.Ytnbkekbgedioeaa.wsetBack
