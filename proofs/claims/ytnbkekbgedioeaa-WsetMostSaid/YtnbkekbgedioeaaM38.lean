/- Proved parts: D4m. Conditions: each theorem's own. -/
import Derived.Test.YtnbkekbgedioeaaM34
import Derived.Test.YtnbkekbgedioeaaM31
import Derived.Test.YtnbkekbgedioeaaM33
import Derived.Lib.SmallJoins
import Derived.Deep.CutBlock
import Derived.Deep.CutRange
namespace Go.Proofs.Ytnbkekbgedioeaa.wsetMost
open Go.Proofs.Ytnbkekbgedioeaa Go.Joins Go.ChangeShapes Go.WideShapes Go.ChangeAt Go.RowKit Go.Deep

/-- what is refused turns nothing -/
theorem step_same (m : Ws) (x : AcW) (h : (m.ans x).2 ≠ 0) : m.step x = m := by
  unfold Ws.ans at h
  unfold Ws.step
  by_cases k1 : x.kind = 1
  · rw [if_pos k1] at h ⊢
    unfold Ws.wr Wl.wL
    rw [if_neg h]
  rw [if_neg k1] at h ⊢
  by_cases k2 : x.kind = 2
  · rw [if_pos k2] at h ⊢
    unfold Ws.wr Wl.wL
    rw [if_neg h]
  rw [if_neg k2] at h ⊢
  by_cases k3 : x.kind = 3
  · rw [if_pos k3] at h ⊢
    unfold Ws.mkE at h
    unfold Ws.mk'
    by_cases q : 4 ≤ m.M.length
    · rw [if_pos q]
    · rw [if_neg q] at h; exact absurd rfl h
  rw [if_neg k3] at h ⊢
  by_cases k4 : x.kind = 4
  · rw [if_pos k4] at h ⊢
    unfold Ws.bkE at h
    unfold Ws.bk
    by_cases q : x.n < 1 ∨ (m.M.length : Int) < x.n
    · rw [if_pos q]
    · rw [if_neg q] at h; exact absurd rfl h
  · rw [if_neg k4]
theorem keyOk_dec2 (x : AcW) (h : x.far = false) : x.key.size ≤ 200 ∧ x.val.txt.size ≤ 200 := by
  unfold AcW.far at h
  simp only [Bool.or_eq_false_iff, decide_eq_false_iff_not] at h
  omega
set_option maxRecDepth 100000 in
set_option maxHeartbeats 4000000 in
theorem walk (A : Option Addr) (c : Nat) (l : List AcW) (w : World) (sa : SlAcW w A l) (oa : ∀ y, y ∈ l → y.Ok) (la : l.length ≤ maxLen) :
    Calls Try.prog 6 #[.slice A l.length c] w fun e w' => e = .returned (.bool true) ∧ Below w.heap.size w w' := by
  obtain ⟨n, hn⟩ : ∃ n, n = l.length := ⟨_, rfl⟩
  have SA := Lib.hid sa
  have OA := Lib.hid oa
  have HN := Lib.hid hn
  have AW := Lib.hid (awakeW w)
  unfold maxLen at la
  rw [← hn] at la ⊢
  clear sa oa hn
  go_enter Try.func6, Try.ntmps6
  go_wp2_with fail
  refine AW.out.mono ?_
  rintro e w1 ⟨rfl, hb1⟩
  have B1 := Lib.hid hb1
  clear hb1 AW
  have BW := Lib.hid (fun W os (h : Side w1 (fun k => k < w1.heap.size) W os) => show Below w.heap.size w W from below_then B1.out (h.base (Nat.le_refl _) fun _ e => e))
  have KN := Lib.hid (sNew (Side.nil w1))
  go_wp2_with fail
  refine KN.out.mono ?_
  rintro e w2 ⟨⟨b, rfl, h2⟩, -⟩
  have H3 : Hid (Side w1 (fun k => k < w1.heap.size) w2 [obS TS b Ws.new]) := Lib.hid h2
  clear h2 KN
  go_wp2_with fail
  go_loopw [4] (fun vi W => ∃ (i : Nat) (m : Ws), i ≤ n ∧ i ≤ 120 ∧ vi = .int .i64 i ∧ Hid (Side w1 (fun k => k < w1.heap.size) W [obS TS b m])) (fun vi _ => 120 - (intOf vi).toNat)
  case atStart => exact ⟨0, Ws.new, Nat.zero_le _, Nat.zero_le _, rfl, H3⟩
  case round =>
    obtain ⟨i, m, hi, hi2, rfl, HI⟩ := hrel
    clear H3
    by_cases z1 : i < n
    · by_cases z2 : i < 120
      · have il : i < l.length := by rw [← HN.out]; exact z1
        obtain ⟨ab, ao, rfl, k0, k1, k2, k3, k4, k5⟩ := SA.out.at (BW.out _ _ HI.out) il
        have hy : (l.getD i AcW.Z).Ok := OA.out _ (by rw [List.getD_eq_getElem?_getD, List.getElem?_eq_getElem il]; exact List.getElem_mem _)
        obtain ⟨y, ey⟩ : ∃ y, y = l.getD i AcW.Z := ⟨_, rfl⟩
        rw [← ey] at hy k0 k1 k2 k3 k4 k5
        have KF := Lib.hid (fun W => lFarW y W)
        have HY := Lib.hid hy
        have h4 := HI.out.rowNew y.cs 36
        have H4 : Hid (Side w1 (fun k => k < w1.heap.size) (wr.alloc (.cells #[.int .i64 y.kind, .string y.key, .bool y.val.num, .string y.val.txt, .int .u64 (y.val.bits : Int), .int .i64 y.n] 36)) [obS TS b m, Ob.row wr.heap.size y.cs 36]) := Lib.hid h4
        have i0 : (0 : Int) ≤ (i : Int) := by omega
        have i1 : (i : Int) < (n : Int) := by omega
        have i2 : (i : Int) < 120 := by omega
        have HF := Lib.hid (keyOk_dec2 y)
        obtain ⟨Fa, hFa⟩ : ∃ T, T = y.far := ⟨_, rfl⟩
        simp only [← hFa] at KF HF
        clear hFa hy ey il h4
        go_upto_region 8 with fail
        generalize wr.alloc (.cells #[.int .i64 y.kind, .string y.key, .bool y.val.num, .string y.val.txt, .int .u64 (y.val.bits : Int), .int .i64 y.n] 36) = w4 at H4 ⊢
        generalize wr.heap.size = bx at H4 ⊢
        clear k0 k1 k2 k3 k4 k5
        have CX := Lib.hid (fun W (o : Ob) (os : List Ob) (h : Side w1 (fun k => k < w1.heap.size) W (o :: Ob.row bx y.cs 36 :: os)) => show W.cell? ⟨bx, 0, none⟩ = some (.int .i64 y.kind) ∧ W.cell? ⟨bx, 1, none⟩ = some (.string y.key) ∧ W.cell? ⟨bx, 2, none⟩ = some (.bool y.val.num) ∧ W.cell? ⟨bx, 3, none⟩ = some (.string y.val.txt) ∧ W.cell? ⟨bx, 4, none⟩ = some (.int .u64 (y.val.bits : Int)) ∧ W.cell? ⟨bx, 5, none⟩ = some (.int .i64 y.n) from
          ⟨(h.rowAt (i := 1) rfl).cell 0, (h.rowAt (i := 1) rfl).cell 1, (h.rowAt (i := 1) rfl).cell 2, (h.rowAt (i := 1) rfl).cell 3, (h.rowAt (i := 1) rfl).cell 4, (h.rowAt (i := 1) rfl).cell 5⟩)
        obtain ⟨d0, d1, d2, d3, d4, d5⟩ := CX.out _ _ _ H4.out
        go_wp2_with fail
        refine (KF.out _).mono ?_
        rintro e w5 ⟨rfl, hb⟩
        have H5 := Lib.hid (H4.out.below hb)
        clear hb d0 d1 d2 d3 d4 d5 KF H4
        cases Fa with
        | true =>
          have H6 : Hid (Side w1 (fun k => k < w1.heap.size) w5 [obS TS b m]) := Lib.hid (Side.drop (os := [obS TS b m]) H5.out)
          go_wp2_with fail
          go_roundw
          case rel => exact ⟨i + 1, m, by omega, by omega, by go_num, H6⟩
          case measure => simp [intOf]; omega
        | false =>
          obtain ⟨f1, f2⟩ := HF.out rfl
          have KA := Lib.hid (sAll H5.out (i := 0) rfl)
          have OL := Lib.hid (sOk H5.out (i := 0) rfl)
          have ES := Lib.hid (step_same m y)
          go_wp2_with fail
          refine KA.out.mono ?_
          rintro e w6 ⟨⟨v6, rfl, n6, o6⟩, hb6, h6⟩
          obtain ⟨A6, c6, e6, -⟩ := n6.sl
          obtain ⟨L0, hL0⟩ : ∃ n, n = m.L.length := ⟨_, rfl⟩
          rw [← hL0] at e6
          subst e6
          have h6b := H5.out.more hb6 (o := oWr (.slice A6 L0 c6) m.L) (F' := fun k => (Value.slice A6 L0 c6).ownBlock = some k) ⟨n6, fun _ => Iff.rfl⟩ o6
          have H6 : Hid (Side w1 (fun k => k < w1.heap.size) w6 [obS TS b m, Ob.row bx y.cs 36, oWr (.slice A6 L0 c6) m.L]) := Lib.hid h6b
          have KM := Lib.hid (sMarks H6.out (i := 0) rfl)
          obtain ⟨M0, hM0⟩ : ∃ n, n = m.M.length := ⟨_, rfl⟩
          rw [← hM0] at KM
          have HL0 := Lib.hid hL0
          have HM0 := Lib.hid hM0
          clear h6 h6b hb6 n6 o6 KA hL0 hM0 H5
          go_wp2_with fail
          refine KM.out.mono ?_
          rintro e w7 ⟨rfl, -, h7⟩
          have H7 := Lib.hid h7
          clear h7 KM H6
          obtain ⟨d0, d1, d2, d3, d4, d5⟩ := CX.out _ _ _ H7.out
          go_upto_block 2 with fail
          go_cut [8] from 36 to 62 (fun ve wx => ve = .int .i64 (m.ans y).2 ∧ Hid (Side w1 (fun k => k < w1.heap.size) wx [obS TS b (m.step y), Ob.row bx y.cs 36, oWr (.slice A6 L0 c6) m.L]))
          case first =>
            have K1 := sPut H7.out (i := 0) rfl y.key y.val HY.out.1
            have K2 := sDel H7.out (i := 0) rfl y.key
            have K3 := sMark H7.out (i := 0) rfl
            have K4 := sBack H7.out (i := 0) rfl y.n
            obtain ⟨kd, kk, ⟨vm, vt, vb⟩, nn⟩ := y
            by_cases k1 : kd = 1
            · subst k1
              have K1 := Lib.hid (show Calls Try.prog 22 #[PtrW b, .string kk, .agg #[.bool vm, .string vt, .int .u64 (vb : Int)]] w7 _ from K1)
              clear K2 K3 K4
              go_wp2_with fail
              refine K1.out.mono ?_
              rintro e w8 ⟨rfl, h8⟩
              have H8 := Lib.hid h8
              clear h8 K1
              go_wp2_with fail
              go_meet
              exact ⟨by unfold Ws.ans; rw [if_pos rfl], H8⟩
            by_cases k2 : kd = 2
            · subst k2
              replace K2 := Lib.hid K2
              clear K1 K3 K4
              go_wp2_with fail
              refine K2.out.mono ?_
              rintro e w8 ⟨rfl, h8⟩
              have H8 := Lib.hid h8
              clear h8 K2
              go_wp2_with fail
              go_meet
              exact ⟨by unfold Ws.ans; rw [if_neg (show ¬ (2 : Int) = 1 by decide), if_pos rfl], H8⟩
            have EA : (m.ans ⟨kd, kk, ⟨vm, vt, vb⟩, nn⟩).2 = if kd = 3 then m.mkE else if kd = 4 then m.bkE nn else 0 := by
              unfold Ws.ans
              rw [if_neg k1, if_neg k2]
              split
              · rfl
              · split <;> rfl
            have ES2 : m.step ⟨kd, kk, ⟨vm, vt, vb⟩, nn⟩ = if kd = 3 then m.mk' else if kd = 4 then m.bk nn else m := by
              unfold Ws.step
              rw [if_neg k1, if_neg k2]
            have EA := Lib.hid EA
            have ES2 := Lib.hid ES2
            by_cases k3 : kd = 3
            · subst k3
              replace K3 := Lib.hid K3
              clear K1 K2 K4
              go_wp2_with fail
              refine K3.out.mono ?_
              rintro e w8 ⟨rfl, h8⟩
              have H8 := Lib.hid h8
              clear h8 K3
              go_wp2_with fail
              go_meet
              rw [EA.out, ES2.out]
              simp only [if_true, true_and]
              exact H8
            by_cases k4 : kd = 4
            · subst k4
              replace K4 := Lib.hid K4
              clear K1 K2 K3
              go_wp2_with fail
              refine K4.out.mono ?_
              rintro e w8 ⟨rfl, h8⟩
              have H8 := Lib.hid h8
              clear h8 K4
              go_wp2_with fail
              go_meet
              rw [EA.out, ES2.out, if_neg k3, if_neg k3]
              simp only [if_true, true_and]
              exact H8
            · clear K1 K2 K3 K4
              go_wp2_with fail
              go_meet
              rw [EA.out, ES2.out, if_neg k3, if_neg k3, if_neg k4, if_neg k4]
              exact ⟨rfl, H7⟩
          case rest =>
            obtain ⟨rfl, H8⟩ := hcut
            clear H7 d0 d1 d2 d3 d4 d5
            obtain ⟨m', hm'⟩ : ∃ a, a = m.step y := ⟨_, rfl⟩
            obtain ⟨E, hE⟩ : ∃ a, a = (m.ans y).2 := ⟨_, rfl⟩
            rw [← hm'] at H8 ES
            rw [← hE] at ES ⊢
            have KA := Lib.hid (sAll H8.out (i := 0) rfl)
            have OK := Lib.hid (sOk H8.out (i := 0) rfl)
            clear hm' hE
            go_wp2_with fail
            refine KA.out.mono ?_
            rintro e w9 ⟨⟨v9, rfl, n9, o9⟩, hb9, -⟩
            have h9 := H8.out.more hb9 (o := oWr v9 m'.L) (F' := fun k => v9.ownBlock = some k) ⟨n9, fun _ => Iff.rfl⟩ o9
            obtain ⟨A9, c9, e9, s9, -⟩ := n9.sl
            obtain ⟨L9, hL9⟩ : ∃ n, n = m'.L.length := ⟨_, rfl⟩
            rw [← hL9] at e9
            subst e9
            have H9 : Hid (Side w1 (fun k => k < w1.heap.size) w9 [obS TS b m', Ob.row bx y.cs 36, oWr (.slice A6 L0 c6) m.L, oWr (.slice A9 L9 c9) m'.L]) := Lib.hid h9
            have HL9 := Lib.hid hL9
            have KS := Lib.hid (show E ≠ 0 → m' = m → Calls Try.prog 11 #[.slice A6 L0 c6, .slice A9 L9 c9] w9 fun e w' => e = .returned (.bool true) ∧ Below w9.heap.size w9 w' from fun _ hm => by
              obtain ⟨F6, p6⟩ := h9.get (i := 2) (o := oWr (.slice A6 L0 c6) m.L) rfl
              obtain ⟨A8, c8, e8, s8, -⟩ := p6.1.sl
              injection e8 with e8a e8b e8c
              have s8 : SlWr w9 A8 m.L := s8
              rw [← e8a] at s8
              have k := rSameW m.L A6 A9 c6 c9 w9 s8 (hm ▸ s9) (by have := OK.out.l.len; rw [hm] at this; omega)
              rw [← HL0.out] at k
              have e : L9 = L0 := by rw [hL9, HL0.out, hm]
              rw [← e] at k ⊢
              exact k)
            clear h9 s9 n9 o9 hb9 KA hL9 H8
            have L16 := Lib.hid (show L9 ≤ 16 from by rw [HL9.out]; exact OK.out.l.len)
            by_cases zE : E = 0
            · subst zE
              clear KS ES
              obtain ⟨wq, hwq⟩ : ∃ x, x = w9 := ⟨_, rfl⟩
              subst hwq
              have HQ := H9
              clear H9
              go_wp2_with fail
              go_loopw [10] (fun vk wk => ∃ k : Nat, 1 ≤ k ∧ k ≤ L9 + 1 ∧ vk = .int .i64 (k : Int) ∧ Hid (Side w1 (fun k => k < w1.heap.size) wk [obS TS b m', Ob.row bx y.cs 36, oWr (.slice A6 L0 c6) m.L, oWr (.slice A9 L9 c9) m'.L])) (fun vk _ => L9 + 2 - (intOf vk).toNat)
              case atStart => exact ⟨1, Nat.le_refl _, by omega, rfl, HQ⟩
              case round =>
                obtain ⟨k, hk1, hk2, rfl, HK⟩ := hrel
                clear HQ
                obtain ⟨wk, hwk⟩ : ∃ x, x = wr := ⟨_, rfl⟩
                subst hwk
                by_cases zj : k < L9
                · have j0 : (0 : Int) ≤ (k : Int) := by omega
                  have j1 : (k : Int) < (L9 : Int) := by omega
                  obtain ⟨j, hj⟩ : ∃ j, k = j + 1 := ⟨k - 1, by omega⟩
                  have j2 : (0 : Int) ≤ (j : Int) := by omega
                  have j3 : (j : Int) < (L9 : Int) := by omega
                  have l16 : (L9 : Int) ≤ 16 := by have := L16.out; omega
                  have i4 : wrap64 ((k : Int) - 1) = (j : Int) := by
                    have : (k : Int) - 1 = (j : Int) := by omega
                    rw [this]
                    first | exact wrap64_small (by omega) (by omega) | (unfold wrap64; omega) | (simp only [wrap64, IntKind.wrap_i64]; omega)
                  have i4' : IntKind.i64.wrap ((k : Int) - 1) = (j : Int) := by rw [IntKind.wrap_i64]; omega
                  obtain ⟨F9, p9⟩ := HK.out.get (i := 3) (o := oWr (.slice A9 L9 c9) m'.L) rfl
                  obtain ⟨A8, c8, e8, s8, -⟩ := p9.1.sl
                  injection e8 with e8a e8b e8c
                  have s8 : SlWr wk A8 m'.L := s8
                  rw [← e8a] at s8
                  obtain ⟨g1, o1, rfl, _, t1, -⟩ := s8.at (j := j) (by rw [← HL9.out]; omega)
                  obtain ⟨g2, o2, eg, _, t2, -⟩ := s8.at (j := k) (by rw [← HL9.out]; omega)
                  injection eg with eg
                  injection eg with eg1 eg2 _
                  subst eg1; subst eg2
                  have LT := Lib.hid (Wl.rise_at OK.out.l.rise (show j < k by omega) (by rw [← HL9.out]; omega))
                  unfold Wl.key at LT
                  obtain ⟨ka, hka⟩ : ∃ u, u = (m'.L.getD j Wr.Z).key := ⟨_, rfl⟩
                  obtain ⟨kb, hkb⟩ : ∃ u, u = (m'.L.getD k Wr.Z).key := ⟨_, rfl⟩
                  rw [← hka, ← hkb] at LT
                  rw [← hka] at t1
                  rw [← hkb] at t2
                  have D := Lib.hid (fun n => HK.out.below (below_drewN (Below.refl wk.heap.size wk) n))
                  have LT2 : Op.bytesLess ka.toList kb.toList = true := LT.out
                  clear hka hkb F9 p9 e8b e8c s8 e8a hj
                  go_wp2_with fail
                  go_quiet (fail)
                  go_wp2_with fail
                  go_roundw
                  case rel => exact ⟨k + 1, by omega, by omega, by go_num, Lib.hid (D.out _)⟩
                  case measure => simp [intOf]; omega
                · have zk : ¬ ((k : Int) < (L9 : Int)) := by omega
                  have l16 : (L9 : Int) ≤ 16 := by have := L16.out; omega
                  have l17 : ¬ ((16 : Int) < (L9 : Int)) := by omega
                  have KN := sLen HK.out (i := 0) rfl
                  rw [← HL9.out] at KN
                  replace KN := Lib.hid KN
                  have M4 := Lib.hid OK.out.len
                  go_wp2_with fail
                  refine KN.out.mono ?_
                  rintro e x1 ⟨rfl, -, g1⟩
                  have G1 := Lib.hid g1
                  have KM4 := sMarks g1 (i := 0) rfl
                  obtain ⟨M5, hM5⟩ : ∃ n, n = m'.M.length := ⟨_, rfl⟩
                  rw [← hM5] at KM4 M4
                  replace KM4 := Lib.hid KM4
                  have m5 : (M5 : Int) ≤ 4 := by have := M4.out; omega
                  have m6 : ¬ ((4 : Int) < (M5 : Int)) := by omega
                  clear g1 KN hM5
                  go_wp2_with fail
                  refine KM4.out.mono ?_
                  rintro e x2 ⟨rfl, -, g2⟩
                  have G2 : Hid (Side w1 (fun k => k < w1.heap.size) x2 [obS TS b m']) := Lib.hid (Side.drop (os := [obS TS b m']) (Side.drop (os := [obS TS b m', Ob.row bx y.cs 36]) (Side.drop (os := [obS TS b m', Ob.row bx y.cs 36, oWr (.slice A6 L0 c6) m.L]) g2)))
                  clear g2 KM4
                  go_wp2_with fail
                  go_roundw
                  case rel => exact ⟨i + 1, m', by omega, by omega, by go_num, G2⟩
                  case measure => simp [intOf]; omega
            · have hmm := ES.out zE
              replace KS := Lib.hid (KS.out zE hmm)
              clear ES
              go_wp2_with fail
              refine KS.out.mono ?_
              rintro e w10 ⟨rfl, hb⟩
              have H10 := Lib.hid (H9.out.below hb)
              have KM := (sMarks H10.out (i := 0) rfl)
              rw [show ((m'.M.length : Nat) : Int) = (M0 : Int) from by rw [hmm, HM0.out]] at KM
              replace KM := Lib.hid KM
              clear hb KS H9 hmm
              go_wp2_with fail
              refine KM.out.mono ?_
              rintro e wq ⟨rfl, -, hq⟩
              have HQ := Lib.hid hq
              clear hq KM H10
              go_wp2_with fail
              go_loopw [10] (fun vk wk => ∃ k : Nat, 1 ≤ k ∧ k ≤ L9 + 1 ∧ vk = .int .i64 (k : Int) ∧ Hid (Side w1 (fun k => k < w1.heap.size) wk [obS TS b m', Ob.row bx y.cs 36, oWr (.slice A6 L0 c6) m.L, oWr (.slice A9 L9 c9) m'.L])) (fun vk _ => L9 + 2 - (intOf vk).toNat)
              case atStart => exact ⟨1, Nat.le_refl _, by omega, rfl, HQ⟩
              case round =>
                obtain ⟨k, hk1, hk2, rfl, HK⟩ := hrel
                clear HQ
                obtain ⟨wk, hwk⟩ : ∃ x, x = wr := ⟨_, rfl⟩
                subst hwk
                by_cases zj : k < L9
                · have j0 : (0 : Int) ≤ (k : Int) := by omega
                  have j1 : (k : Int) < (L9 : Int) := by omega
                  obtain ⟨j, hj⟩ : ∃ j, k = j + 1 := ⟨k - 1, by omega⟩
                  have j2 : (0 : Int) ≤ (j : Int) := by omega
                  have j3 : (j : Int) < (L9 : Int) := by omega
                  have l16 : (L9 : Int) ≤ 16 := by have := L16.out; omega
                  have i4 : wrap64 ((k : Int) - 1) = (j : Int) := by
                    have : (k : Int) - 1 = (j : Int) := by omega
                    rw [this]
                    first | exact wrap64_small (by omega) (by omega) | (unfold wrap64; omega) | (simp only [wrap64, IntKind.wrap_i64]; omega)
                  have i4' : IntKind.i64.wrap ((k : Int) - 1) = (j : Int) := by rw [IntKind.wrap_i64]; omega
                  obtain ⟨F9, p9⟩ := HK.out.get (i := 3) (o := oWr (.slice A9 L9 c9) m'.L) rfl
                  obtain ⟨A8, c8, e8, s8, -⟩ := p9.1.sl
                  injection e8 with e8a e8b e8c
                  have s8 : SlWr wk A8 m'.L := s8
                  rw [← e8a] at s8
                  obtain ⟨g1, o1, rfl, _, t1, -⟩ := s8.at (j := j) (by rw [← HL9.out]; omega)
                  obtain ⟨g2, o2, eg, _, t2, -⟩ := s8.at (j := k) (by rw [← HL9.out]; omega)
                  injection eg with eg
                  injection eg with eg1 eg2 _
                  subst eg1; subst eg2
                  have LT := Lib.hid (Wl.rise_at OK.out.l.rise (show j < k by omega) (by rw [← HL9.out]; omega))
                  unfold Wl.key at LT
                  obtain ⟨ka, hka⟩ : ∃ u, u = (m'.L.getD j Wr.Z).key := ⟨_, rfl⟩
                  obtain ⟨kb, hkb⟩ : ∃ u, u = (m'.L.getD k Wr.Z).key := ⟨_, rfl⟩
                  rw [← hka, ← hkb] at LT
                  rw [← hka] at t1
                  rw [← hkb] at t2
                  have D := Lib.hid (fun n => HK.out.below (below_drewN (Below.refl wk.heap.size wk) n))
                  have LT2 : Op.bytesLess ka.toList kb.toList = true := LT.out
                  clear hka hkb F9 p9 e8b e8c s8 e8a hj
                  go_wp2_with fail
                  go_quiet (fail)
                  go_wp2_with fail
                  go_roundw
                  case rel => exact ⟨k + 1, by omega, by omega, by go_num, Lib.hid (D.out _)⟩
                  case measure => simp [intOf]; omega
                · have zk : ¬ ((k : Int) < (L9 : Int)) := by omega
                  have l16 : (L9 : Int) ≤ 16 := by have := L16.out; omega
                  have l17 : ¬ ((16 : Int) < (L9 : Int)) := by omega
                  have KN := sLen HK.out (i := 0) rfl
                  rw [← HL9.out] at KN
                  replace KN := Lib.hid KN
                  have M4 := Lib.hid OK.out.len
                  go_wp2_with fail
                  refine KN.out.mono ?_
                  rintro e x1 ⟨rfl, -, g1⟩
                  have G1 := Lib.hid g1
                  have KM4 := sMarks g1 (i := 0) rfl
                  obtain ⟨M5, hM5⟩ : ∃ n, n = m'.M.length := ⟨_, rfl⟩
                  rw [← hM5] at KM4 M4
                  replace KM4 := Lib.hid KM4
                  have m5 : (M5 : Int) ≤ 4 := by have := M4.out; omega
                  have m6 : ¬ ((4 : Int) < (M5 : Int)) := by omega
                  clear g1 KN hM5
                  go_wp2_with fail
                  refine KM4.out.mono ?_
                  rintro e x2 ⟨rfl, -, g2⟩
                  have G2 : Hid (Side w1 (fun k => k < w1.heap.size) x2 [obS TS b m']) := Lib.hid (Side.drop (os := [obS TS b m']) (Side.drop (os := [obS TS b m', Ob.row bx y.cs 36]) (Side.drop (os := [obS TS b m', Ob.row bx y.cs 36, oWr (.slice A6 L0 c6) m.L]) g2)))
                  clear g2 KM4
                  go_wp2_with fail
                  go_roundw
                  case rel => exact ⟨i + 1, m', by omega, by omega, by go_num, G2⟩
                  case measure => simp [intOf]; omega
      · obtain rfl : i = 120 := by omega
        have BE := Lib.hid (BW.out _ _ HI.out)
        go_wp2_with fail
        go_ret
        exact ⟨rfl, BE.out⟩
    · obtain rfl : i = n := by omega
      have BE := Lib.hid (BW.out _ _ HI.out)
      go_wp2_with fail
      go_ret
      exact ⟨rfl, BE.out⟩

end Go.Proofs.Ytnbkekbgedioeaa.wsetMost
