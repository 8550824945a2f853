/- Proved parts: D4p. Conditions: each theorem's own. -/
import Derived.Test.YtnbkekbgedioeaaM34
import Derived.Test.YtnbkekbgedioeaaM31
import Derived.Test.YtnbkekbgedioeaaM33
namespace Go.Proofs.Ytnbkekbgedioeaa.wsetPlays
open Go.Proofs.Ytnbkekbgedioeaa Go.Joins Go.ChangeShapes Go.WideShapes Go.ChangeAt Go.RowKit Go.Deep

theorem keyOk_dec (x : AcW) (h : x.far = false) : x.key.size ≤ 200 ∧ x.val.txt.size ≤ 200 := by
  unfold AcW.far at h
  simp only [Bool.or_eq_false_iff, decide_eq_false_iff_not] at h
  omega
set_option maxRecDepth 100000 in
set_option maxHeartbeats 4000000 in
theorem walk (A : Option Addr) (c : Nat) (l : List AcW) (key : ByteArray) (w : World) (sa : SlAcW w A l) (oa : ∀ y, y ∈ l → y.Ok) (la : l.length ≤ maxLen) (_ : key.size ≤ maxLen) :
    Calls Try.prog 3 #[.slice A l.length c, .string key] w fun e w' => e = .returned (.bool true) ∧ Below w.heap.size w w' := by
  obtain ⟨n, hn⟩ : ∃ n, n = l.length := ⟨_, rfl⟩
  have SA := Lib.hid sa
  have OA := Lib.hid oa
  have HN := Lib.hid hn
  have AW := Lib.hid (awakeW w)
  unfold maxLen at la
  rw [← hn] at la ⊢
  clear sa oa hn
  go_enter Try.func3, Try.ntmps3
  go_wp2_with fail
  refine AW.out.mono ?_
  rintro e w1 ⟨rfl, hb1⟩
  have B1 := Lib.hid hb1
  clear hb1 AW
  by_cases z200 : 200 < key.size
  · go_wp2_with fail
    go_ret
    exact ⟨rfl, B1.out⟩
  have BW := Lib.hid (fun W os (h : Side w1 (fun k => k < w1.heap.size) W os) => show Below w.heap.size w W from below_then B1.out (h.base (Nat.le_refl _) fun _ e => e))
  have KN := Lib.hid (sNew (Side.nil w1))
  go_wp2_with fail
  refine KN.out.mono ?_
  rintro e w2 ⟨⟨b, rfl, h2⟩, -⟩
  have h3 := mNewSet h2
  obtain ⟨p, hp⟩ : ∃ p, p = w2.heap.size := ⟨_, rfl⟩
  rw [← hp] at h3
  have HP := Lib.hid hp
  have H3 : Hid (Side w1 (fun k => k < w1.heap.size) (w2.alloc (.cells #[.slice none 0 0, .slice none 0 0] TR)) [obS TS b Ws.new, obS TR p Ws.new]) := Lib.hid h3
  clear h2 h3 hp KN
  go_upto_region 7 with fail
  rw [← HP.out]
  generalize w2.alloc (.cells #[.slice none 0 0, .slice none 0 0] TR) = w3 at H3 ⊢
  clear HP
  go_wp2_with fail
  go_loopw [7] (fun vi W => ∃ (i : Nat) (m : Ws), i ≤ n ∧ i ≤ 120 ∧ vi = .int .i64 i ∧ Hid (Side w1 (fun k => k < w1.heap.size) W [obS TS b m, obS TR p m])) (fun vi _ => 120 - (intOf vi).toNat)
  case atStart => exact ⟨0, Ws.new, Nat.zero_le _, Nat.zero_le _, rfl, H3⟩
  case round =>
    obtain ⟨i, m, hi, hi2, rfl, HI⟩ := hrel
    clear H3
    by_cases z1 : i < n
    · by_cases z2 : i < 120
      · have il : i < l.length := by rw [← HN.out]; exact z1
        obtain ⟨ab, ao, rfl, k0, k1, k2, k3, k4, k5⟩ := SA.out.at (BW.out _ _ HI.out) il
        have CC := Lib.hid (fun W (hb : Below w.heap.size w W) => SA.out.at hb il)
        have hy : (l.getD i AcW.Z).Ok := OA.out _ (by rw [List.getD_eq_getElem?_getD, List.getElem?_eq_getElem il]; exact List.getElem_mem _)
        obtain ⟨y, ey⟩ : ∃ y, y = l.getD i AcW.Z := ⟨_, rfl⟩
        rw [← ey] at hy k0 k1 k2 k3 k4 k5
        simp only [← ey] at CC
        have CC := Lib.hid (show ∀ W, Below w.heap.size w W → W.cell? ⟨ab, ao + i * 6, none⟩ = some (.int .i64 y.kind) ∧ W.cell? ⟨ab, ao + i * 6 + 1, none⟩ = some (.string y.key) ∧ W.cell? ⟨ab, ao + i * 6 + 2, none⟩ = some (.bool y.val.num) ∧ W.cell? ⟨ab, ao + i * 6 + 3, none⟩ = some (.string y.val.txt) ∧ W.cell? ⟨ab, ao + i * 6 + 4, none⟩ = some (.int .u64 (y.val.bits : Int)) ∧ W.cell? ⟨ab, ao + i * 6 + 5, none⟩ = some (.int .i64 y.n) from fun W hb => by
          obtain ⟨b', o', e, q⟩ := CC.out W hb
          injection e with e
          injection e with e1 e2 _
          subst e1; subst e2
          exact q)
        have KF := Lib.hid (fun W => lFarW y W)
        have KD := Lib.hid (fun W (hf : y.far = false) (h : Side w1 (fun k => k < w1.heap.size) W [obS TS b m, obS TR p m]) => show Calls Try.prog 10 #[PtrW b, PtrW p, .agg #[.int .i64 y.kind, .string y.key, .bool y.val.num, .string y.val.txt, .int .u64 (y.val.bits : Int), .int .i64 y.n]] W fun e w' => e = .returned (.bool true) ∧ Side w1 (fun k => k < w1.heap.size) w' [obS TS b (m.step y), obS TR p (m.step y)] from by
          have k := lDoesW h (i := 0) (j := 1) rfl rfl (by decide) y hy.1 (by have := (keyOk_dec y hf).1; omega)
          rw [decide_eq_true rfl] at k
          exact k)
        have i0 : (0 : Int) ≤ (i : Int) := by omega
        have i1 : (i : Int) < (n : Int) := by omega
        have i2 : (i : Int) < 120 := by omega
        obtain ⟨Fa, hFa⟩ : ∃ T, T = y.far := ⟨_, rfl⟩
        simp only [← hFa] at KF KD
        clear hFa hy ey il
        go_wp2_with fail
        refine (KF.out _).mono ?_
        rintro e w4 ⟨rfl, hb⟩
        have H4 := Lib.hid (HI.out.below hb)
        clear hb k0 k1 k2 k3 k4 k5 KF
        cases Fa with
        | true =>
          go_wp2_with fail
          go_roundw
          case rel => exact ⟨i + 1, m, by omega, by omega, by go_num, H4⟩
          case measure => simp [intOf]; omega
        | false =>
          have KD2 := Lib.hid (fun W => KD.out W rfl)
          obtain ⟨m', hm'⟩ : ∃ a, a = m.step y := ⟨_, rfl⟩
          simp only [← hm'] at KD2
          clear hm' KD
          have BX := Lib.hid (BW.out _ _ (H4.out.below (w' := w4.drew) (Below.refl _ _).drew))
          go_wp2_with fail
          refine wp_region_held_drew (S := (fun W => Below w.heap.size w W)) (by kernel_rfl) (BX.out) (fun hHeld => ?_)
          refine rgnTake 0 rfl (by kernel_rfl) (by kernel_rfl) (by kernel_rfl) (fun _ _ _ h => h) (by rfl) (v := ?v1) ?hy1 hHeld ?rest1
          case hy1 => (intro v hSw; obtain ⟨y0, y1, y2, y3, y4, y5⟩ := CC.out _ hSw; first | (go_simp; done) | (go_simp; with_reducible rfl))
          try simp only [Act.put, List.setIfInBounds_toArray, List.set_cons_zero, List.set_cons_succ]
          refine rgnTake 1 rfl (by kernel_rfl) (by kernel_rfl) (by kernel_rfl) (fun _ _ _ h => h) (by rfl) (v := ?v2) ?hy2 hHeld ?rest2
          case hy2 => (intro v hSw; obtain ⟨y0, y1, y2, y3, y4, y5⟩ := CC.out _ hSw; first | (go_simp; done) | (go_simp; with_reducible rfl))
          try simp only [Act.put, List.setIfInBounds_toArray, List.set_cons_zero, List.set_cons_succ]
          refine rgnTake 2 rfl (by kernel_rfl) (by kernel_rfl) (by kernel_rfl) (fun _ _ _ h => h) (by rfl) (v := ?v3) ?hy3 hHeld ?rest3
          case hy3 => (intro v hSw; obtain ⟨y0, y1, y2, y3, y4, y5⟩ := CC.out _ hSw; first | (go_simp; done) | (go_simp; with_reducible rfl))
          try simp only [Act.put, List.setIfInBounds_toArray, List.set_cons_zero, List.set_cons_succ]
          refine rgnTake 3 rfl (by kernel_rfl) (by kernel_rfl) (by kernel_rfl) (fun _ _ _ h => h) (by rfl) (v := ?v4) ?hy4 hHeld ?rest4
          case hy4 => (intro v hSw; obtain ⟨y0, y1, y2, y3, y4, y5⟩ := CC.out _ hSw; first | (go_simp; done) | (go_simp; with_reducible rfl))
          try simp only [Act.put, List.setIfInBounds_toArray, List.set_cons_zero, List.set_cons_succ]
          refine rgnTake 4 rfl (by kernel_rfl) (by kernel_rfl) (by kernel_rfl) (fun _ _ _ h => h) (by rfl) (v := ?v5) ?hy5 hHeld ?rest5
          case hy5 => (intro v hSw; obtain ⟨y0, y1, y2, y3, y4, y5⟩ := CC.out _ hSw; first | (go_simp; done) | (go_simp; with_reducible rfl))
          try simp only [Act.put, List.setIfInBounds_toArray, List.set_cons_zero, List.set_cons_succ]
          refine rgnTake 5 rfl (by kernel_rfl) (by kernel_rfl) (by kernel_rfl) (fun _ _ _ h => h) (by rfl) (v := ?v6) ?hy6 hHeld ?rest6
          case hy6 => (intro v hSw; obtain ⟨y0, y1, y2, y3, y4, y5⟩ := CC.out _ hSw; first | (go_simp; done) | (go_simp; with_reducible rfl))
          try simp only [Act.put, List.setIfInBounds_toArray, List.set_cons_zero, List.set_cons_succ]
          refine rgnOne 6 rfl (by kernel_rfl) (fun K hK => ?_)
          go_simp
          refine (KD2.out _ (H4.out.below (Below.refl _ _).drew)).mono ?_
          rintro e w5 ⟨rfl, h5⟩
          have H5 := Lib.hid h5
          clear h5
          refine hK.out _ _ ((BW.out _ _ H5.out)) (fun hHeld => ?_)
          clear hK K
          try simp only [Act.put, List.setIfInBounds_toArray, List.set_cons_zero, List.set_cons_succ]
          refine rgnTake 7 rfl (by kernel_rfl) (by kernel_rfl) (by kernel_rfl) (fun _ _ _ h => h) (by rfl) (v := ?v7) ?hy7 hHeld ?rest7
          case hy7 => (intro v hSw; obtain ⟨y0, y1, y2, y3, y4, y5⟩ := CC.out _ hSw; first | (go_simp; done) | (go_simp; with_reducible rfl))
          try simp only [Act.put, List.setIfInBounds_toArray, List.set_cons_zero, List.set_cons_succ]
          refine rgnTake 8 rfl (by kernel_rfl) (by kernel_rfl) (by kernel_rfl) (fun _ _ _ h => h) (by rfl) (v := ?v8) ?hy8 hHeld ?rest8
          case hy8 => (intro v hSw; obtain ⟨y0, y1, y2, y3, y4, y5⟩ := CC.out _ hSw; first | (go_simp; done) | (go_simp; with_reducible rfl))
          try simp only [Act.put, List.setIfInBounds_toArray, List.set_cons_zero, List.set_cons_succ]
          obtain ⟨Am, cm, A2, c2, q0, qs, q1, qp⟩ := mCells H5.out (i := 1) rfl
          obtain ⟨L1, hL1⟩ : ∃ n, n = m'.L.length := ⟨_, rfl⟩
          obtain ⟨M1, hM1⟩ : ∃ n, n = m'.M.length := ⟨_, rfl⟩
          rw [← hL1] at q0
          rw [← hM1] at q1
          have QS := Lib.hid qs
          have QQ := Lib.hid (fun W (hb : Below w5.heap.size w5 W) => show W.cell? ⟨p, 0, none⟩ = some (.slice Am L1 cm) ∧ W.cell? ⟨p, 1, none⟩ = some (.slice A2 M1 c2) from
            ⟨(hb.cell (p := ⟨p, 0, none⟩) qp).trans q0, (hb.cell (p := ⟨p, 1, none⟩) qp).trans q1⟩)
          have OL := Lib.hid (sOk H5.out (i := 0) rfl).l.len
          have KA := Lib.hid (sAll H5.out (i := 0) rfl)
          have KL := Lib.hid (fun W (h : Side w1 (fun k => k < w1.heap.size) W [obS TS b m', obS TR p m']) => sLen h (i := 0) rfl)
          have KM := Lib.hid (fun W (h : Side w1 (fun k => k < w1.heap.size) W [obS TS b m', obS TR p m']) => sMarks h (i := 0) rfl)
          have HL1 := Lib.hid hL1
          simp only [← hL1] at KL
          simp only [← hM1] at KM
          clear q0 q1 qs qp hL1 hM1 KD2
          refine rgnRaise (fun W => W.cell? ⟨p, 0, none⟩ = some (.slice Am L1 cm) ∧ W.cell? ⟨p, 1, none⟩ = some (.slice A2 M1 c2) ∧ Below w.heap.size w W) (fun _ h => h.2.2) ⟨(QQ.out _ (Below.refl _ _)).1, (QQ.out _ (Below.refl _ _)).2, BW.out _ _ H5.out⟩ (fun hHeld => ?_)
          refine rgnTake 9 rfl (by kernel_rfl) (by kernel_rfl) (by kernel_rfl) (fun _ _ _ h => h) (by rfl) (v := ?v9) ?hy9 hHeld ?rest9
          case hy9 => (intro v hSw; obtain ⟨y0, y1, -⟩ := hSw; first | (go_simp; done) | (go_simp; with_reducible rfl))
          try simp only [Act.put, List.setIfInBounds_toArray, List.set_cons_zero, List.set_cons_succ]
          refine rgnTake 11 rfl (by kernel_rfl) (by kernel_rfl) (by kernel_rfl) (fun _ _ _ h => h) (by rfl) (v := ?v10) ?hy10 hHeld ?rest10
          case hy10 => (intro v hSw; obtain ⟨y0, y1, -⟩ := hSw; first | (go_simp; done) | (go_simp; with_reducible rfl))
          try simp only [Act.put, List.setIfInBounds_toArray, List.set_cons_zero, List.set_cons_succ]
          refine rgnTake 12 rfl (by kernel_rfl) (by kernel_rfl) (by kernel_rfl) (fun _ _ _ h => h) (by rfl) (v := ?v11) ?hy11 hHeld ?rest11
          case hy11 => (intro v hSw; obtain ⟨y0, y1, -⟩ := hSw; first | (go_simp; done) | (go_simp; with_reducible rfl))
          try simp only [Act.put, List.setIfInBounds_toArray, List.set_cons_zero, List.set_cons_succ]
          refine rgnTake 13 rfl (by kernel_rfl) (by kernel_rfl) (by kernel_rfl) (fun _ _ _ h => h) (by rfl) (v := ?v12) ?hy12 hHeld ?rest12
          case hy12 => (intro v hSw; obtain ⟨y0, y1, -⟩ := hSw; first | (go_simp; done) | (go_simp; with_reducible rfl))
          try simp only [Act.put, List.setIfInBounds_toArray, List.set_cons_zero, List.set_cons_succ]
          refine rgnTake 14 rfl (by kernel_rfl) (by kernel_rfl) (by kernel_rfl) (fun _ _ _ h => h) (by rfl) (v := ?v13) ?hy13 hHeld ?rest13
          case hy13 => (intro v hSw; obtain ⟨y0, y1, -⟩ := hSw; first | (go_simp; done) | (go_simp; with_reducible rfl))
          try simp only [Act.put, List.setIfInBounds_toArray, List.set_cons_zero, List.set_cons_succ]
          refine rgnOne 10 rfl (by kernel_rfl) (fun K hK => ?_)
          go_simp
          refine KA.out.mono ?_
          rintro e w6 ⟨⟨v6, rfl, n6, -⟩, hb6, h6⟩
          obtain ⟨A6, c6, e6, s6, -⟩ := n6.sl
          rw [← HL1.out] at e6
          subst e6
          have H6 := Lib.hid h6
          have B6 := Lib.hid hb6
          have S6 := Lib.hid s6
          have KS := Lib.hid (rSameW m'.L A6 Am c6 cm w6 s6 (QS.out.below hb6) (by have := OL.out; omega))
          rw [← HL1.out] at KS
          clear h6 hb6 s6 n6 KA
          refine hK.out _ _ (⟨(QQ.out _ B6.out).1, (QQ.out _ B6.out).2, BW.out _ _ H6.out⟩) (fun hHeld => ?_)
          clear hK K
          try simp only [Act.put, List.setIfInBounds_toArray, List.set_cons_zero, List.set_cons_succ]
          refine rgnOne 15 rfl (by kernel_rfl) (fun K hK => ?_)
          go_simp
          refine KS.out.mono ?_
          rintro e w7 ⟨rfl, hb7⟩
          have H7 := Lib.hid (H6.out.below hb7)
          have B7 := Lib.hid (below_then B6.out hb7)
          clear hb7 KS
          refine hK.out _ _ (⟨(QQ.out _ B7.out).1, (QQ.out _ B7.out).2, BW.out _ _ H7.out⟩) (fun hHeld => ?_)
          clear hK K
          try simp only [Act.put, List.setIfInBounds_toArray, List.set_cons_zero, List.set_cons_succ]
          refine rgnTake 16 rfl (by kernel_rfl) (by kernel_rfl) (by kernel_rfl) (fun _ _ _ h => h) (by rfl) (v := ?v14) ?hy14 hHeld ?rest14
          case hy14 => (intro v hSw; obtain ⟨y0, y1, -⟩ := hSw; first | (go_simp; done) | (go_simp; with_reducible rfl))
          try simp only [Act.put, List.setIfInBounds_toArray, List.set_cons_zero, List.set_cons_succ]
          refine rgnTake 17 rfl (by kernel_rfl) (by kernel_rfl) (by kernel_rfl) (fun _ _ _ h => h) (by rfl) (v := ?v15) ?hy15 hHeld ?rest15
          case hy15 => (intro v hSw; obtain ⟨y0, y1, -⟩ := hSw; first | (go_simp; done) | (go_simp; with_reducible rfl))
          try simp only [Act.put, List.setIfInBounds_toArray, List.set_cons_zero, List.set_cons_succ]
          refine rgnTake 18 rfl (by kernel_rfl) (by kernel_rfl) (by kernel_rfl) (fun _ _ _ h => h) (by rfl) (v := ?v16) ?hy16 hHeld ?rest16
          case hy16 => (intro v hSw; obtain ⟨y0, y1, -⟩ := hSw; first | (go_simp; done) | (go_simp; with_reducible rfl))
          try simp only [Act.put, List.setIfInBounds_toArray, List.set_cons_zero, List.set_cons_succ]
          refine rgnTake 19 rfl (by kernel_rfl) (by kernel_rfl) (by kernel_rfl) (fun _ _ _ h => h) (by rfl) (v := ?v17) ?hy17 hHeld ?rest17
          case hy17 => (intro v hSw; obtain ⟨y0, y1, -⟩ := hSw; first | (go_simp; done) | (go_simp; with_reducible rfl))
          try simp only [Act.put, List.setIfInBounds_toArray, List.set_cons_zero, List.set_cons_succ]
          refine rgnTake 21 rfl (by kernel_rfl) (by kernel_rfl) (by kernel_rfl) (fun _ _ _ h => h) (by rfl) (v := ?v18) ?hy18 hHeld ?rest18
          case hy18 => (intro v hSw; obtain ⟨y0, y1, -⟩ := hSw; first | (go_simp; done) | (go_simp; with_reducible rfl))
          try simp only [Act.put, List.setIfInBounds_toArray, List.set_cons_zero, List.set_cons_succ]
          refine rgnTake 22 rfl (by kernel_rfl) (by kernel_rfl) (by kernel_rfl) (fun _ _ _ h => h) (by rfl) (v := ?v19) ?hy19 hHeld ?rest19
          case hy19 => (intro v hSw; obtain ⟨y0, y1, -⟩ := hSw; first | (go_simp; done) | (go_simp; with_reducible rfl))
          try simp only [Act.put, List.setIfInBounds_toArray, List.set_cons_zero, List.set_cons_succ]
          refine rgnTake 23 rfl (by kernel_rfl) (by kernel_rfl) (by kernel_rfl) (fun _ _ _ h => h) (by rfl) (v := ?v20) ?hy20 hHeld ?rest20
          case hy20 => (intro v hSw; obtain ⟨y0, y1, -⟩ := hSw; first | (go_simp; done) | (go_simp; with_reducible rfl))
          try simp only [Act.put, List.setIfInBounds_toArray, List.set_cons_zero, List.set_cons_succ]
          refine rgnTake 24 rfl (by kernel_rfl) (by kernel_rfl) (by kernel_rfl) (fun _ _ _ h => h) (by rfl) (v := ?v21) ?hy21 hHeld ?rest21
          case hy21 => (intro v hSw; obtain ⟨y0, y1, -⟩ := hSw; first | (go_simp; done) | (go_simp; with_reducible rfl))
          try simp only [Act.put, List.setIfInBounds_toArray, List.set_cons_zero, List.set_cons_succ]
          refine rgnTake 25 rfl (by kernel_rfl) (by kernel_rfl) (by kernel_rfl) (fun _ _ _ h => h) (by rfl) (v := ?v22) ?hy22 hHeld ?rest22
          case hy22 => (intro v hSw; obtain ⟨y0, y1, -⟩ := hSw; first | (go_simp; done) | (go_simp; with_reducible rfl))
          try simp only [Act.put, List.setIfInBounds_toArray, List.set_cons_zero, List.set_cons_succ]
          refine rgnOne 20 rfl (by kernel_rfl) (fun K hK => ?_)
          go_simp
          refine (KL.out _ H7.out).mono ?_
          rintro e w8 ⟨rfl, hb8, h8⟩
          have H8 := Lib.hid h8
          have B8 := Lib.hid (below_then B7.out hb8)
          clear hb8 h8 KL
          refine hK.out _ _ (⟨(QQ.out _ B8.out).1, (QQ.out _ B8.out).2, BW.out _ _ H8.out⟩) (fun hHeld => ?_)
          clear hK K
          try simp only [Act.put, List.setIfInBounds_toArray, List.set_cons_zero, List.set_cons_succ]
          refine rgnTake 26 rfl (by kernel_rfl) (by kernel_rfl) (by kernel_rfl) (fun _ _ _ h => h) (by rfl) (v := ?v23) ?hy23 hHeld ?rest23
          case hy23 => (intro v hSw; obtain ⟨y0, y1, -⟩ := hSw; first | (go_simp; done) | (go_simp; with_reducible rfl))
          try simp only [Act.put, List.setIfInBounds_toArray, List.set_cons_zero, List.set_cons_succ]
          refine rgnTake 27 rfl (by kernel_rfl) (by kernel_rfl) (by kernel_rfl) (fun _ _ _ h => h) (by rfl) (v := ?v24) ?hy24 hHeld ?rest24
          case hy24 => (intro v hSw; obtain ⟨y0, y1, -⟩ := hSw; first | (go_simp; done) | (go_simp; with_reducible rfl))
          try simp only [Act.put, List.setIfInBounds_toArray, List.set_cons_zero, List.set_cons_succ]
          refine rgnTake 28 rfl (by kernel_rfl) (by kernel_rfl) (by kernel_rfl) (fun _ _ _ h => h) (by rfl) (v := ?v25) ?hy25 hHeld ?rest25
          case hy25 => (intro v hSw; obtain ⟨y0, y1, -⟩ := hSw; first | (go_simp; done) | (go_simp; with_reducible rfl))
          try simp only [Act.put, List.setIfInBounds_toArray, List.set_cons_zero, List.set_cons_succ]
          refine rgnTake 29 rfl (by kernel_rfl) (by kernel_rfl) (by kernel_rfl) (fun _ _ _ h => h) (by rfl) (v := ?v26) ?hy26 hHeld ?rest26
          case hy26 => (intro v hSw; obtain ⟨y0, y1, -⟩ := hSw; first | (go_simp; done) | (go_simp; with_reducible rfl))
          try simp only [Act.put, List.setIfInBounds_toArray, List.set_cons_zero, List.set_cons_succ]
          refine rgnTake 31 rfl (by kernel_rfl) (by kernel_rfl) (by kernel_rfl) (fun _ _ _ h => h) (by rfl) (v := ?v27) ?hy27 hHeld ?rest27
          case hy27 => (intro v hSw; obtain ⟨y0, y1, -⟩ := hSw; first | (go_simp; done) | (go_simp; with_reducible rfl))
          try simp only [Act.put, List.setIfInBounds_toArray, List.set_cons_zero, List.set_cons_succ]
          refine rgnTake 32 rfl (by kernel_rfl) (by kernel_rfl) (by kernel_rfl) (fun _ _ _ h => h) (by rfl) (v := ?v28) ?hy28 hHeld ?rest28
          case hy28 => (intro v hSw; obtain ⟨y0, y1, -⟩ := hSw; first | (go_simp; done) | (go_simp; with_reducible rfl))
          try simp only [Act.put, List.setIfInBounds_toArray, List.set_cons_zero, List.set_cons_succ]
          refine rgnTake 33 rfl (by kernel_rfl) (by kernel_rfl) (by kernel_rfl) (fun _ _ _ h => h) (by rfl) (v := ?v29) ?hy29 hHeld ?rest29
          case hy29 => (intro v hSw; obtain ⟨y0, y1, -⟩ := hSw; first | (go_simp; done) | (go_simp; with_reducible rfl))
          try simp only [Act.put, List.setIfInBounds_toArray, List.set_cons_zero, List.set_cons_succ]
          refine rgnTake 34 rfl (by kernel_rfl) (by kernel_rfl) (by kernel_rfl) (fun _ _ _ h => h) (by rfl) (v := ?v30) ?hy30 hHeld ?rest30
          case hy30 => (intro v hSw; obtain ⟨y0, y1, -⟩ := hSw; first | (go_simp; done) | (go_simp; with_reducible rfl))
          try simp only [Act.put, List.setIfInBounds_toArray, List.set_cons_zero, List.set_cons_succ]
          refine rgnTake 35 rfl (by kernel_rfl) (by kernel_rfl) (by kernel_rfl) (fun _ _ _ h => h) (by rfl) (v := ?v31) ?hy31 hHeld ?rest31
          case hy31 => (intro v hSw; obtain ⟨y0, y1, -⟩ := hSw; first | (go_simp; done) | (go_simp; with_reducible rfl))
          try simp only [Act.put, List.setIfInBounds_toArray, List.set_cons_zero, List.set_cons_succ]
          refine rgnOne 30 rfl (by kernel_rfl) (fun K hK => ?_)
          go_simp
          refine (KM.out _ H8.out).mono ?_
          rintro e w9 ⟨rfl, hb9, h9⟩
          have H9 := Lib.hid h9
          have B9 := Lib.hid (below_then B8.out hb9)
          clear hb9 h9 KM
          refine hK.out _ _ (⟨(QQ.out _ B9.out).1, (QQ.out _ B9.out).2, BW.out _ _ H9.out⟩) (fun hHeld => ?_)
          clear hK K
          try simp only [Act.put, List.setIfInBounds_toArray, List.set_cons_zero, List.set_cons_succ]
          refine rgnTake 36 rfl (by kernel_rfl) (by kernel_rfl) (by kernel_rfl) (fun _ _ _ h => h) (by rfl) (v := ?v32) ?hy32 hHeld ?rest32
          case hy32 => (intro v hSw; obtain ⟨y0, y1, -⟩ := hSw; first | (go_simp; done) | (go_simp; with_reducible rfl))
          try simp only [Act.put, List.setIfInBounds_toArray, List.set_cons_zero, List.set_cons_succ]
          refine rgnTake 37 rfl (by kernel_rfl) (by kernel_rfl) (by kernel_rfl) (fun _ _ _ h => h) (by rfl) (v := ?v33) ?hy33 hHeld ?rest33
          case hy33 => (intro v hSw; obtain ⟨y0, y1, -⟩ := hSw; first | (go_simp; done) | (go_simp; with_reducible rfl))
          try simp only [Act.put, List.setIfInBounds_toArray, List.set_cons_zero, List.set_cons_succ]
          refine wpAnyH_done (by kernel_rfl) ?_ _
          clear QQ QS OL B6 B7 B8 B9 H5 H6 H7 H8 S6 HL1
          have KG := fun W (h : Side w1 (fun k => k < w1.heap.size) W [obS TS b m', obS TR p m']) => sGet h (i := 0) rfl key
          have KH := fun W (h : Side w1 (fun k => k < w1.heap.size) W [obS TS b m', obS TR p m']) => mGet h (i := 1) rfl key
          have KI := fun W (h : Side w1 (fun k => k < w1.heap.size) W [obS TS b m', obS TR p m']) => sAfter h (i := 0) rfl key
          have KJ := fun W (h : Side w1 (fun k => k < w1.heap.size) W [obS TS b m', obS TR p m']) => mFromW h (i := 1) rfl key true
          have KK := fun W (h : Side w1 (fun k => k < w1.heap.size) W [obS TS b m', obS TR p m']) => sSeek h (i := 0) rfl key
          have KL := fun W (h : Side w1 (fun k => k < w1.heap.size) W [obS TS b m', obS TR p m']) => mFromW h (i := 1) rfl key false
          obtain ⟨y1, hy1⟩ : ∃ y, y = m'.L.getV key := ⟨_, rfl⟩
          obtain ⟨T1, hT1⟩ : ∃ y, y = m'.L.has key := ⟨_, rfl⟩
          obtain ⟨y2, hy2⟩ : ∃ y, y = m'.L.atV (m'.L.frm key true) := ⟨_, rfl⟩
          obtain ⟨T2, hT2⟩ : ∃ y, y = decide (m'.L.frm key true < m'.L.length) := ⟨_, rfl⟩
          obtain ⟨y3, hy3⟩ : ∃ y, y = m'.L.atV (m'.L.frm key false) := ⟨_, rfl⟩
          obtain ⟨T3, hT3⟩ : ∃ y, y = decide (m'.L.frm key false < m'.L.length) := ⟨_, rfl⟩
          simp only [← hy1, ← hT1] at KG KH
          simp only [← hy2, ← hT2] at KI KJ
          simp only [← hy3, ← hT3] at KK KL
          clear hy1 hT1 hy2 hT2 hy3 hT3
          have KG : Hid (∀ W, Side w1 (fun k => k < w1.heap.size) W [obS TS b m', obS TR p m'] → Calls Try.prog 15 #[PtrW b, .string key] W fun e w' => e = .returned (.tuple #[.agg #[.string y1.key, .bool y1.gone, .bool y1.val.num, .string y1.val.txt, .int .u64 (y1.val.bits : Int)], .bool T1]) ∧ Below W.heap.size W w' ∧ Side w1 (fun k => k < w1.heap.size) w' [obS TS b m', obS TR p m']) := Lib.hid KG
          have KH : Hid (∀ W, Side w1 (fun k => k < w1.heap.size) W [obS TS b m', obS TR p m'] → Calls Try.prog 16 #[PtrW p, .string key] W fun e w' => e = .returned (.tuple #[.agg #[.string y1.key, .bool y1.gone, .bool y1.val.num, .string y1.val.txt, .int .u64 (y1.val.bits : Int)], .bool T1]) ∧ Below W.heap.size W w' ∧ Side w1 (fun k => k < w1.heap.size) w' [obS TS b m', obS TR p m']) := Lib.hid KH
          have KI : Hid (∀ W, Side w1 (fun k => k < w1.heap.size) W [obS TS b m', obS TR p m'] → Calls Try.prog 17 #[PtrW b, .string key] W fun e w' => e = .returned (.tuple #[.agg #[.string y2.key, .bool y2.gone, .bool y2.val.num, .string y2.val.txt, .int .u64 (y2.val.bits : Int)], .bool T2]) ∧ Below W.heap.size W w' ∧ Side w1 (fun k => k < w1.heap.size) w' [obS TS b m', obS TR p m']) := Lib.hid KI
          have KJ : Hid (∀ W, Side w1 (fun k => k < w1.heap.size) W [obS TS b m', obS TR p m'] → Calls Try.prog 18 #[PtrW p, .string key, .bool true] W fun e w' => e = .returned (.tuple #[.agg #[.string y2.key, .bool y2.gone, .bool y2.val.num, .string y2.val.txt, .int .u64 (y2.val.bits : Int)], .bool T2]) ∧ Below W.heap.size W w' ∧ Side w1 (fun k => k < w1.heap.size) w' [obS TS b m', obS TR p m']) := Lib.hid KJ
          have KK : Hid (∀ W, Side w1 (fun k => k < w1.heap.size) W [obS TS b m', obS TR p m'] → Calls Try.prog 19 #[PtrW b, .string key] W fun e w' => e = .returned (.tuple #[.agg #[.string y3.key, .bool y3.gone, .bool y3.val.num, .string y3.val.txt, .int .u64 (y3.val.bits : Int)], .bool T3]) ∧ Below W.heap.size W w' ∧ Side w1 (fun k => k < w1.heap.size) w' [obS TS b m', obS TR p m']) := Lib.hid KK
          have KL : Hid (∀ W, Side w1 (fun k => k < w1.heap.size) W [obS TS b m', obS TR p m'] → Calls Try.prog 18 #[PtrW p, .string key, .bool false] W fun e w' => e = .returned (.tuple #[.agg #[.string y3.key, .bool y3.gone, .bool y3.val.num, .string y3.val.txt, .int .u64 (y3.val.bits : Int)], .bool T3]) ∧ Below W.heap.size W w' ∧ Side w1 (fun k => k < w1.heap.size) w' [obS TS b m', obS TR p m']) := Lib.hid KL
          have Ny1 : ∀ w, (binOp .neq 42 (.agg #[.string y1.key, .bool y1.gone, .bool y1.val.num, .string y1.val.txt, .int .u64 (y1.val.bits : Int)]) (.agg #[.string y1.key, .bool y1.gone, .bool y1.val.num, .string y1.val.txt, .int .u64 (y1.val.bits : Int)])).run Try.prog w = .ok (.bool false) w := neq_selfW y1
          have Ny1 := Lib.hid Ny1
          have Ny2 : ∀ w, (binOp .neq 42 (.agg #[.string y2.key, .bool y2.gone, .bool y2.val.num, .string y2.val.txt, .int .u64 (y2.val.bits : Int)]) (.agg #[.string y2.key, .bool y2.gone, .bool y2.val.num, .string y2.val.txt, .int .u64 (y2.val.bits : Int)])).run Try.prog w = .ok (.bool false) w := neq_selfW y2
          have Ny2 := Lib.hid Ny2
          have Ny3 : ∀ w, (binOp .neq 42 (.agg #[.string y3.key, .bool y3.gone, .bool y3.val.num, .string y3.val.txt, .int .u64 (y3.val.bits : Int)]) (.agg #[.string y3.key, .bool y3.gone, .bool y3.val.num, .string y3.val.txt, .int .u64 (y3.val.bits : Int)])).run Try.prog w = .ok (.bool false) w := neq_selfW y3
          have Ny3 := Lib.hid Ny3
          go_wp2_with fail
          refine (KG.out _ H9.out).mono ?_
          rintro e x0 ⟨rfl, hb, hs⟩
          have r : RowAt (x0.alloc (.cells #[.string y1.key, .bool y1.gone, .bool y1.val.num, .string y1.val.txt, .int .u64 (y1.val.bits : Int)] 42)) x0.heap.size y1.cs 42 := RowAt.new x0 y1.cs _
          have ba : Below x0.heap.size x0 (x0.alloc (.cells #[.string y1.key, .bool y1.gone, .bool y1.val.num, .string y1.val.txt, .int .u64 (y1.val.bits : Int)] 42)) := (Below.refl _ _).alloc (Nat.le_refl _) _
          have bb := below_then hb ba
          have hx := hs.below ba
          clear hb hs ba
          go_upto_region 14 with fail
          generalize x0.alloc (.cells #[.string y1.key, .bool y1.gone, .bool y1.val.num, .string y1.val.txt, .int .u64 (y1.val.bits : Int)] 42) = v0 at r bb hx ⊢
          generalize x0.heap.size = g0 at r ⊢
          have Q0 := Lib.hid r
          have J0 := Lib.hid hx
          clear r bb hx KG H9
          go_wp2_with fail
          refine (KH.out _ J0.out).mono ?_
          rintro e x1 ⟨rfl, hb, hs⟩
          have r : RowAt (x1.alloc (.cells #[.string y1.key, .bool y1.gone, .bool y1.val.num, .string y1.val.txt, .int .u64 (y1.val.bits : Int)] 42)) x1.heap.size y1.cs 42 := RowAt.new x1 y1.cs _
          have ba : Below x1.heap.size x1 (x1.alloc (.cells #[.string y1.key, .bool y1.gone, .bool y1.val.num, .string y1.val.txt, .int .u64 (y1.val.bits : Int)] 42)) := (Below.refl _ _).alloc (Nat.le_refl _) _
          have bb := below_then hb ba
          have hx := hs.below ba
          clear hb hs ba
          go_upto_region 15 with fail
          generalize x1.alloc (.cells #[.string y1.key, .bool y1.gone, .bool y1.val.num, .string y1.val.txt, .int .u64 (y1.val.bits : Int)] 42) = v1 at r bb hx ⊢
          generalize x1.heap.size = g1 at r ⊢
          have Q1 := Lib.hid r
          replace Q0 := Lib.hid (Q0.out.below bb)
          have J1 := Lib.hid hx
          clear r bb hx KH J0
          go_wp2_with fail
          refine (KI.out _ J1.out).mono ?_
          rintro e x2 ⟨rfl, hb, hs⟩
          have r : RowAt (x2.alloc (.cells #[.string y2.key, .bool y2.gone, .bool y2.val.num, .string y2.val.txt, .int .u64 (y2.val.bits : Int)] 42)) x2.heap.size y2.cs 42 := RowAt.new x2 y2.cs _
          have ba : Below x2.heap.size x2 (x2.alloc (.cells #[.string y2.key, .bool y2.gone, .bool y2.val.num, .string y2.val.txt, .int .u64 (y2.val.bits : Int)] 42)) := (Below.refl _ _).alloc (Nat.le_refl _) _
          have bb := below_then hb ba
          have hx := hs.below ba
          clear hb hs ba
          go_upto_region 16 with fail
          generalize x2.alloc (.cells #[.string y2.key, .bool y2.gone, .bool y2.val.num, .string y2.val.txt, .int .u64 (y2.val.bits : Int)] 42) = v2 at r bb hx ⊢
          generalize x2.heap.size = g2 at r ⊢
          have Q2 := Lib.hid r
          replace Q0 := Lib.hid (Q0.out.below bb)
          replace Q1 := Lib.hid (Q1.out.below bb)
          have J2 := Lib.hid hx
          clear r bb hx KI J1
          go_wp2_with fail
          refine (KJ.out _ J2.out).mono ?_
          rintro e x3 ⟨rfl, hb, hs⟩
          have r : RowAt (x3.alloc (.cells #[.string y2.key, .bool y2.gone, .bool y2.val.num, .string y2.val.txt, .int .u64 (y2.val.bits : Int)] 42)) x3.heap.size y2.cs 42 := RowAt.new x3 y2.cs _
          have ba : Below x3.heap.size x3 (x3.alloc (.cells #[.string y2.key, .bool y2.gone, .bool y2.val.num, .string y2.val.txt, .int .u64 (y2.val.bits : Int)] 42)) := (Below.refl _ _).alloc (Nat.le_refl _) _
          have bb := below_then hb ba
          have hx := hs.below ba
          clear hb hs ba
          go_upto_region 17 with fail
          generalize x3.alloc (.cells #[.string y2.key, .bool y2.gone, .bool y2.val.num, .string y2.val.txt, .int .u64 (y2.val.bits : Int)] 42) = v3 at r bb hx ⊢
          generalize x3.heap.size = g3 at r ⊢
          have Q3 := Lib.hid r
          replace Q0 := Lib.hid (Q0.out.below bb)
          replace Q1 := Lib.hid (Q1.out.below bb)
          replace Q2 := Lib.hid (Q2.out.below bb)
          have J3 := Lib.hid hx
          clear r bb hx KJ J2
          go_wp2_with fail
          refine (KK.out _ J3.out).mono ?_
          rintro e x4 ⟨rfl, hb, hs⟩
          have r : RowAt (x4.alloc (.cells #[.string y3.key, .bool y3.gone, .bool y3.val.num, .string y3.val.txt, .int .u64 (y3.val.bits : Int)] 42)) x4.heap.size y3.cs 42 := RowAt.new x4 y3.cs _
          have ba : Below x4.heap.size x4 (x4.alloc (.cells #[.string y3.key, .bool y3.gone, .bool y3.val.num, .string y3.val.txt, .int .u64 (y3.val.bits : Int)] 42)) := (Below.refl _ _).alloc (Nat.le_refl _) _
          have bb := below_then hb ba
          have hx := hs.below ba
          clear hb hs ba
          go_upto_region 18 with fail
          generalize x4.alloc (.cells #[.string y3.key, .bool y3.gone, .bool y3.val.num, .string y3.val.txt, .int .u64 (y3.val.bits : Int)] 42) = v4 at r bb hx ⊢
          generalize x4.heap.size = g4 at r ⊢
          have Q4 := Lib.hid r
          replace Q0 := Lib.hid (Q0.out.below bb)
          replace Q1 := Lib.hid (Q1.out.below bb)
          replace Q2 := Lib.hid (Q2.out.below bb)
          replace Q3 := Lib.hid (Q3.out.below bb)
          have J4 := Lib.hid hx
          clear r bb hx KK J3
          go_wp2_with fail
          refine (KL.out _ J4.out).mono ?_
          rintro e x5 ⟨rfl, hb, hs⟩
          have r : RowAt (x5.alloc (.cells #[.string y3.key, .bool y3.gone, .bool y3.val.num, .string y3.val.txt, .int .u64 (y3.val.bits : Int)] 42)) x5.heap.size y3.cs 42 := RowAt.new x5 y3.cs _
          have ba : Below x5.heap.size x5 (x5.alloc (.cells #[.string y3.key, .bool y3.gone, .bool y3.val.num, .string y3.val.txt, .int .u64 (y3.val.bits : Int)] 42)) := (Below.refl _ _).alloc (Nat.le_refl _) _
          have bb := below_then hb ba
          have hx := hs.below ba
          clear hb hs ba
          go_upto_region 19 with fail
          generalize x5.alloc (.cells #[.string y3.key, .bool y3.gone, .bool y3.val.num, .string y3.val.txt, .int .u64 (y3.val.bits : Int)] 42) = v5 at r bb hx ⊢
          generalize x5.heap.size = g5 at r ⊢
          have Q5 := Lib.hid r
          replace Q0 := Lib.hid (Q0.out.below bb)
          replace Q1 := Lib.hid (Q1.out.below bb)
          replace Q2 := Lib.hid (Q2.out.below bb)
          replace Q3 := Lib.hid (Q3.out.below bb)
          replace Q4 := Lib.hid (Q4.out.below bb)
          have J5 := Lib.hid hx
          clear r bb hx KL J4
          obtain ⟨a00, a01, a02, a03, a04⟩ := wrF Q0.out
          obtain ⟨a10, a11, a12, a13, a14⟩ := wrF Q1.out
          obtain ⟨a20, a21, a22, a23, a24⟩ := wrF Q2.out
          obtain ⟨a30, a31, a32, a33, a34⟩ := wrF Q3.out
          obtain ⟨a40, a41, a42, a43, a44⟩ := wrF Q4.out
          obtain ⟨a50, a51, a52, a53, a54⟩ := wrF Q5.out
          have n1 := Ny1.out
          have n2 := Ny2.out
          have n3 := Ny3.out
          clear Ny1 Ny2 Ny3
          go_wp2_with fail
          go_roundw
          case rel => exact ⟨i + 1, m', by omega, by omega, by go_num, J5⟩
          case measure => simp [intOf]; omega
      · obtain rfl : i = 120 := by omega
        have BE := Lib.hid (BW.out _ _ HI.out)
        go_wp2_with fail
        go_ret
        exact ⟨rfl, BE.out⟩
    · obtain rfl : i = n := by omega
      have BE := Lib.hid (BW.out _ _ HI.out)
      go_wp2_with fail
      go_ret
      exact ⟨rfl, BE.out⟩

end Go.Proofs.Ytnbkekbgedioeaa.wsetPlays
