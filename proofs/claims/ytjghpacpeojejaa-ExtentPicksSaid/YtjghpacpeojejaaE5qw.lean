/- ExtentPicks, walked, given what the program's extent does. -/
import Derived.Test.YtjghpacpeojejaaE5j
import Derived.Lib.SmallJoins
import Derived.Deep.CutBlock
import Derived.Deep.CutRange
import Derived.ChangeMaps5
namespace Go.Proofs.Ytjghpacpeojejaa.extentPicks
open Go.Proofs.Ytjghpacpeojejaa Go.Joins Go.ChangeShapes Go.WideShapes Go.ChangeAt Go.RowKit Go.Deep

set_option maxRecDepth 100000 in
set_option maxHeartbeats 2000000 in
theorem walk {R : RelE} (X : ExtAt R) (A1 A3 : Option Addr) (c1 c3 : Nat) (l : List Act5) (ps : List (Int × Int)) (w : World)
    (h1 : SlAc w.heap.size w A1 l) (o1 : AcsOk l) (h3 : SlPk w A3 ps) (n3 : A3 = none → ps = [] ∧ c3 = 0) (b3 : 0 < ps.length → ∀ q o, A3 = some ⟨q, o, none⟩ → q < w.heap.size) (k3 : PkOk ps) :
    Calls Try.prog 5 #[.slice A1 l.length c1, .slice A3 ps.length c3] w fun r w' => r = .returned (.bool true) ∧ Below w.heap.size w w' := by
  obtain ⟨B, hB⟩ : ∃ B, B = w.heap.size := ⟨_, rfl⟩
  rw [← hB] at h1 b3 ⊢
  obtain ⟨n1, hn1⟩ : ∃ n, n = l.length := ⟨_, rfl⟩
  obtain ⟨n3', hn3⟩ : ∃ n, n = ps.length := ⟨_, rfl⟩
  rw [← hn1, ← hn3]
  have m1 : n1 ≤ 9223372036854775807 := by rw [hn1]; exact o1.1
  have m3 : n3' ≤ 9223372036854775807 := by rw [hn3]; exact k3.1
  have X' := Lib.hid X
  have AW := Lib.hid (awake5 X)
  have H1 := Lib.hid h1
  have O1 := Lib.hid o1
  have HN1 := Lib.hid hn1
  have HN3 := Lib.hid hn3
  have HB := Lib.hid hB
  have B0 := Lib.hid (show Below B w w from Below.refl _ _)
  have NW := Lib.hid (fun v => X.new 4 6 v ⟨by decide, by decide⟩ ⟨by decide, by decide⟩)
  have PS := Lib.hid (show ∀ v, Below B w v → SlPk v A3 ps from fun v hv => h3.belowB hv b3)
  have CR := Lib.hid (show ∀ v F m b, R v b F m → (∀ k, F k → B ≤ k) → Below B w v → Calls Try.prog 22 #[.pointer (some ⟨b, 0, none⟩), .slice A3 n3' c3] v fun x w' => x = .returned (.int .i64 (m.crash ps).2) ∧ LeftE R b F v (m.crash ps).1 w' from by
    intro v F m b hr hF hv
    rw [hn3]
    exact X.crash b F m A3 c3 ps v hr (h3.belowB hv b3) (fun hp g o e hg => by have := b3 hp g o e; have := hF g hg; omega) k3 n3)
  clear h1 o1 hn1 hn3 X h3 n3 b3 k3 hB
  go_enter Try.func5, Try.ntmps5
  go_wp2_with fail
  refine (AW.out _).mono ?_
  rintro r w1 ⟨rfl, hb1⟩
  have B1 := Lib.hid (B0.out.trans (by rw [HB.out]; exact hb1))
  have S1 := Lib.hid (show B ≤ w1.heap.size from by rw [HB.out]; exact hb1.size)
  clear hb1
  by_cases h100 : 100 < n3'
  · go_wp2_with fail
    go_ret
    exact ⟨rfl, B1.out⟩
  go_wp2_with fail
  refine (NW.out _).mono ?_
  rintro r w2 ⟨hb2, ⟨_, b, F, rfl, hr, hF⟩ | ⟨hf, _⟩⟩
  case inr => exact absurd hf (by decide)
  have A2' := Lib.hid (show HasE R B w2 b (Ext.new 4 6) from ⟨F, hr, fun k hk => Nat.le_trans S1.out (hF k hk)⟩)
  have B2 := Lib.hid (B1.out.trans (hb2.mono S1.out))
  have SH2 := Lib.hid (show Shape (Ext.new 4 6) from ⟨rfl, rfl⟩)
  have S2 := Lib.hid (show B ≤ w2.heap.size from Nat.le_trans S1.out hb2.size)
  clear hb2 hr hF
  go_upto_block 0 with fail
  go_cut [7] from 27 to 42 (fun _ wx => Hid (∃ m, Shape m ∧ Calm m ∧ HasE R B wx b m) ∧ Hid (Below B w wx) ∧ Hid (B ≤ wx.heap.size))
  case first =>
    go_wp2_with fail
    go_loopw [7] (fun vi wr => ∃ k : Nat, vi = .int .i64 k ∧ k ≤ n1 ∧ k ≤ 120 ∧ Hid (∃ m, Shape m ∧ Calm m ∧ HasE R B wr b m) ∧ Hid (Below B w wr) ∧ Hid (B ≤ wr.heap.size)) (fun vi _ => n1 - (intOf vi).toNat)
    case atStart => exact ⟨0, rfl, Nat.zero_le _, by omega, Lib.hid ⟨_, SH2.out, calm_new 4 6, A2'.out⟩, B2, S2⟩
    case round =>
      obtain ⟨k, rfl, kn, k120, HM, HW, HS⟩ := hrel
      by_cases q1 : k < n1
      · by_cases q2 : k < 120
        · obtain ⟨m, sh, ca, hm⟩ := HM.out
          obtain ⟨F, hr, hF⟩ := hm
          obtain ⟨bA, oA, xk, xe, xa, xs, ps', PL, AP, cP, rfl, _, ok, hPL, hc, hN, hA⟩ := elem_at H1.out O1.out (k := k) (by rw [← HN1.out]; exact q1)
          obtain ⟨e0, e1, e2, e3, e4, sp⟩ := hc wr HW.out
          have PV := Lib.hid (play5v X'.out F xk xe xa xs ps' PL AP cP hPL ok hN hA wr hr hF HS.out sp)
          have PO := Lib.hid (fun w' (hl : LeftE R b F wr (m.play ⟨xk, xe, xa, xs, ps'⟩) w') => hl.has hF HS.out)
          have SH := Lib.hid (play_shape sh ⟨xk, xe, xa, xs, ps'⟩)
          have CA := Lib.hid (ca.play ⟨xk, xe, xa, xs, ps'⟩)
          have i0 : (0 : Int) ≤ (k : Int) := by omega
          have i1 : (k : Int) < (n1 : Int) := by omega
          clear hr hF ok hPL hc hN hA sp sh ca
          go_wp2_with fail
          refine PV.out.mono ?_
          rintro r w4 ⟨rfl, hl⟩
          obtain ⟨h5, h6⟩ := PO.out w4 hl
          have Q5 := Lib.hid (show ∃ m, Shape m ∧ Calm m ∧ HasE R B w4 b m from ⟨_, SH.out, CA.out, h5⟩)
          have Q6 := Lib.hid (HW.out.trans h6)
          have Q7 := Lib.hid (show B ≤ w4.heap.size from Nat.le_trans HS.out h6.size)
          clear hl h5 h6
          go_wp2_with fail
          go_roundw
          case rel => exact ⟨k + 1, by go_num, by omega, by omega, Q5, Q6, Q7⟩
          case measure => simp [intOf]; omega
        · go_wp2_with fail
          go_meet
          exact ⟨HM, HW, HS⟩
      · go_wp2_with fail
        go_meet
        exact ⟨HM, HW, HS⟩
  case rest =>
    obtain ⟨HM, HW, HS⟩ := hcut
    go_wp2_with fail
    obtain ⟨m, sh, ca, hm⟩ := HM.out
    obtain ⟨F, hr, hF⟩ := hm
    refine (X'.out.start b F m _ hr).mono ?_
    rintro r w5 ⟨rfl, hl⟩
    obtain ⟨h5, h6⟩ := hl.has hF HS.out
    obtain ⟨m1', hm1⟩ : ∃ m1', m1' = m.start.1 := ⟨_, rfl⟩
    obtain ⟨C, hC⟩ : ∃ C, C = m.start.2 := ⟨_, rfl⟩
    rw [← hm1] at h5
    rw [← hC]
    have SH5 := Lib.hid (show Shape m1' by rw [hm1]; exact start_shape sh)
    have CA5 := Lib.hid (show Calm m1' by rw [hm1]; exact ca.start)
    have ON5 := Lib.hid (show m1'.off = false by rw [hm1]; exact start_on m)
    have H5 := Lib.hid h5
    have B5 := Lib.hid (HW.out.trans h6)
    have S5 := Lib.hid (show B ≤ w5.heap.size from Nat.le_trans HS.out h6.size)
    clear hl h5 h6 hm1 hC hr hF sh ca
    go_wp2_with fail
    go_loopw [8, 9] (fun vw va wr => ∃ (k : Nat) (zs : List ByteArray) (V : Value), k ≤ 24 ∧ va = .int .i64 k ∧ V = vw ∧ Hid (zs = (List.range k).map fun j => wantTo m1' ps j ps.length) ∧ Hid (Beside R B wr b m1' V zs) ∧ Hid (Below B w wr) ∧ Hid (B ≤ wr.heap.size)) (fun _ va _ => 24 - (intOf va).toNat)
    case atStart => exact ⟨0, [], _, by omega, rfl, rfl, Lib.hid rfl, Lib.hid (Beside.made X'.out H5.out S5.out), Lib.hid (B5.out.alloc S5.out _), Lib.hid (by have := S5.out; simp; omega)⟩
    case round =>
      obtain ⟨k, zs, vw, k24, rfl, rfl, HZ, HO, HW6, HS6⟩ := hrel
      by_cases q1 : k < 24
      · obtain ⟨F6, hr, hF, hst⟩ := HO.out.call HS6.out
        have RD := Lib.hid (X'.out.dry b F6 m1' ((k : Int) / 6) ((k : Int) % 6) wr hr ⟨by omega, by omega⟩ ⟨by omega, by omega⟩)
        rw [dry24 SH5.out q1] at RD
        have ST := Lib.hid hst
        clear hr hF hst
        have k0 : (0 : Int) ≤ (k : Int) := by omega
        go_wp2_with fail
        refine RD.out.mono ?_
        rintro r w7 ⟨rfl, hl⟩
        have H7 := Lib.hid ((ST.out _ _ hl).1)
        have B7 := Lib.hid (HW6.out.trans (ST.out _ _ hl).2)
        have S7 := Lib.hid (show B ≤ w7.heap.size from Nat.le_trans HS6.out (ST.out _ _ hl).2.size)
        clear hl
        obtain ⟨wo, hwo⟩ : ∃ wo, wo = wr := ⟨_, rfl⟩
        subst hwo
        go_wp2_with fail
        go_loopw [10, 12] (fun vs vj wr => ∃ (j : Nat) (y : ByteArray), j ≤ n3' ∧ vj = .int .i64 j ∧ vs = .string y ∧ Hid (y = wantTo m1' ps k j) ∧ Hid (Beside R B wr b m1' vw zs) ∧ Hid (Below B w wr) ∧ Hid (B ≤ wr.heap.size)) (fun _ vj _ => n3' - (intOf vj).toNat)
        case atStart => exact ⟨0, _, Nat.zero_le _, rfl, rfl, Lib.hid (wantTo_zero _ _ _).symm, H7, B7, S7⟩
        case round =>
          obtain ⟨j, y, jn, rfl, rfl, HY, HO7, HW7, HS7⟩ := hrel
          by_cases q2 : j < n3'
          · obtain ⟨bp, op, rfl, _, hc⟩ := PS.out _ HW7.out (by rw [← HN3.out]; omega)
            obtain ⟨e0, e1⟩ := hc j (by rw [← HN3.out]; exact q2)
            obtain ⟨p1, hp1⟩ : ∃ p, p = (ps.getD j (0, 0)).1 := ⟨_, rfl⟩
            obtain ⟨p2, hp2⟩ : ∃ p, p = (ps.getD j (0, 0)).2 := ⟨_, rfl⟩
            rw [← hp1] at e0
            rw [← hp2] at e1
            have WS := Lib.hid (wantTo_succ m1' ps k j (by rw [← HN3.out]; exact q2))
            have HP1 := Lib.hid hp1
            have HP2 := Lib.hid hp2
            have j0 : (0 : Int) ≤ (j : Int) := by omega
            have j1 : (j : Int) < (n3' : Int) := by omega
            clear hc hp1 hp2
            have NM := Lib.hid (show names k (ps.getD j (0, 0)) = (decide (p1 = (k : Int) / 6) && decide (p2 = (k : Int) % 6)) by unfold names; rw [HP1.out, HP2.out])
            obtain ⟨F7, hr, hF, hst⟩ := HO7.out.call HS7.out
            have RE := Lib.hid (X'.out.read b F7 m1' ((k : Int) / 6) ((k : Int) % 6) _ hr ⟨by omega, by omega⟩ ⟨by omega, by omega⟩)
            rw [read24 SH5.out ON5.out q1] at RE
            have ST7 := Lib.hid hst
            clear hr hF hst
            by_cases t1 : p1 = (k : Int) / 6
            · by_cases t2 : p2 = (k : Int) % 6
              · have WS2 := Lib.hid (show (m1'.secAt k).now = wantTo m1' ps k (j + 1) by rw [WS.out, NM.out, decide_eq_true t1, decide_eq_true t2]; rfl)
                go_wp2_with fail
                refine RE.out.mono ?_
                rintro r w8 ⟨rfl, hl⟩
                have H8 := Lib.hid ((ST7.out _ _ hl).1)
                have B8 := Lib.hid (HW7.out.trans (ST7.out _ _ hl).2)
                have S8 := Lib.hid (show B ≤ w8.heap.size from Nat.le_trans HS7.out (ST7.out _ _ hl).2.size)
                clear hl
                go_wp2_with fail
                go_roundw
                case rel => first | exact ⟨j + 1, _, by omega, by go_num, rfl, WS2, H8, B8, S8⟩ | ((repeat apply Exists.intro); exact ⟨⟨j + 1, _, by omega, by go_num, rfl, WS2, H8, B8, S8⟩, rfl⟩)
                case measure => simp [intOf]; omega
              · have WS2 := Lib.hid (show y = wantTo m1' ps k (j + 1) by rw [WS.out, NM.out, decide_eq_false t2, Bool.and_false, HY.out]; rfl)
                go_wp2_with fail
                go_roundw
                case rel => first | exact ⟨j + 1, _, by omega, by go_num, rfl, WS2, HO7, HW7, HS7⟩ | ((repeat apply Exists.intro); exact ⟨⟨j + 1, _, by omega, by go_num, rfl, WS2, HO7, HW7, HS7⟩, rfl⟩)
                case measure => simp [intOf]; omega
            · have WS2 := Lib.hid (show y = wantTo m1' ps k (j + 1) by rw [WS.out, NM.out, decide_eq_false t1, Bool.false_and, HY.out]; rfl)
              go_wp2_with fail
              go_roundw
              case rel => first | exact ⟨j + 1, _, by omega, by go_num, rfl, WS2, HO7, HW7, HS7⟩ | ((repeat apply Exists.intro); exact ⟨⟨j + 1, _, by omega, by go_num, rfl, WS2, HO7, HW7, HS7⟩, rfl⟩)
              case measure => simp [intOf]; omega
          · have jn3 : j = n3' := by omega
            subst jn3
            have LZ := Lib.hid (show zs.length = k by rw [HZ.out]; simp)
            have NZ := Lib.hid (show zs ++ [y] = (List.range (k + 1)).map fun j => wantTo m1' ps j ps.length by rw [List.range_succ, List.map_append, HZ.out, HY.out, HN3.out]; rfl)
            go_wp2_with (at_builtin; refine wp_putT X'.out rfl (.tmp 84) (.tmp 86) rfl B _ zs rfl (HO7.out.below X'.out ((Below.refl _ _).alloc (Nat.le_refl _) _)) _ y rfl (cell_new1 _ _ _) (by rw [LZ.out]; omega) (by have := HS7.out; simp; omega) ?_; intro v1 w8 hown1 hb1; have HO1 := Lib.hid hown1; have HB1 := Lib.hid ((HW7.out.alloc HS7.out _).trans hb1); have HS1 := Lib.hid (show B ≤ w8.heap.size from by have h1 := hb1.size; have h2 := HS7.out; simp at h1; omega); clear hown1 hb1)
            go_roundw
            case rel => first | exact ⟨k + 1, _, _, by omega, by go_num, rfl, NZ, HO1, HB1, HS1⟩ | ((repeat apply Exists.intro); exact ⟨⟨k + 1, _, _, by omega, by go_num, rfl, NZ, HO1, HB1, HS1⟩, rfl⟩)
            case measure => simp [intOf]; omega
      · have k24' : k = 24 := by omega
        subst k24'
        have LZ := Lib.hid (show zs.length = 24 by rw [HZ.out]; simp)
        obtain ⟨g, cw, hv⟩ := HO.out.open_ (by rw [LZ.out]; omega)
        rw [LZ.out] at hv
        subst hv
        have GZ := Lib.hid (show ∀ j, j < 24 → zs.getD j ⟨#[]⟩ = wantTo m1' ps j ps.length from fun j hj => by rw [HZ.out]; rw [List.getD_eq_getElem?_getD, List.getElem?_map, List.getElem?_range hj]; rfl)
        obtain ⟨p0, p1, p2, p3, p4⟩ := picked SH5.out (HO.out.ok X'.out) CA5.out ON5.out ps
        obtain ⟨F, hr, hF, hst⟩ := HO.out.call HS6.out
        have CC := Lib.hid (CR.out _ F m1' b hr hF HW6.out)
        have ST := Lib.hid hst
        obtain ⟨m4, hm4⟩ : ∃ m4, m4 = (m1'.crash ps).1 := ⟨_, rfl⟩
        rw [p0] at CC
        rw [← hm4] at CC p1 p2 p3 p4
        have P1 := Lib.hid p1
        obtain ⟨m5, hm5⟩ : ∃ m5, m5 = m4.start.1 := ⟨_, rfl⟩
        rw [← hm5] at p2 p3 p4
        have ON := Lib.hid p2
        have SH := Lib.hid p3
        have PP := Lib.hid p4
        have HM5 := Lib.hid hm5
        clear hr hF hst hm4 p0 p1 p2 p3 p4 hm5
        go_wp2_with fail
        refine CC.out.mono ?_
        rintro r w9 ⟨rfl, hl⟩
        have H9 := Lib.hid ((ST.out _ _ hl).1)
        have B9 := Lib.hid (HW6.out.trans (ST.out _ _ hl).2)
        have S9 := Lib.hid (show B ≤ w9.heap.size from Nat.le_trans HS6.out (ST.out _ _ hl).2.size)
        clear hl
        obtain ⟨F9, hr, hF, hst⟩ := H9.out.call S9.out
        have SS := Lib.hid (X'.out.start b F9 m4 _ hr)
        rw [P1.out, ← HM5.out] at SS
        have ST9 := Lib.hid hst
        clear hr hF hst
        go_wp2_with fail
        refine SS.out.mono ?_
        rintro r w10 ⟨rfl, hl⟩
        have H10 := Lib.hid ((ST9.out _ _ hl).1)
        have B10 := Lib.hid (B9.out.trans (ST9.out _ _ hl).2)
        have S10 := Lib.hid (show B ≤ w10.heap.size from Nat.le_trans S9.out (ST9.out _ _ hl).2.size)
        clear hl
        go_wp2_with fail
        go_loopw [13] (fun va wr => ∃ a : Nat, a ≤ 24 ∧ va = .int .i64 a ∧ Hid (Beside R B wr b m5 (.slice (some ⟨g, 0, none⟩) 24 cw) zs) ∧ Hid (Below B w wr) ∧ Hid (B ≤ wr.heap.size)) (fun va _ => 24 - (intOf va).toNat)
        case atStart => exact ⟨0, by omega, rfl, H10, B10, S10⟩
        case round =>
          obtain ⟨a, a24, rfl, HO9, HW9, HS9⟩ := hrel
          by_cases q1 : a < 24
          · obtain ⟨F9, hr, hF, hst⟩ := HO9.out.call HS9.out
            have RD := Lib.hid (X'.out.read b F9 m5 ((a : Int) / 6) ((a : Int) % 6) _ hr ⟨by omega, by omega⟩ ⟨by omega, by omega⟩)
            rw [read24 SH.out ON.out q1] at RD
            obtain ⟨y, hy⟩ : ∃ y, y = (m5.secAt a).now := ⟨_, rfl⟩
            rw [← hy] at RD
            have YZ := Lib.hid (show zs.getD a ⟨#[]⟩ = y by rw [hy, (PP.out a q1).1]; exact GZ.out a q1)
            have ST9 := Lib.hid hst
            have a0 : (0 : Int) ≤ (a : Int) := by omega
            have a1 : (a : Int) < 24 := by omega
            clear hr hF hst hy
            go_wp2_with fail
            refine RD.out.mono ?_
            rintro r w11 ⟨rfl, hl⟩
            have H11 := Lib.hid ((ST9.out _ _ hl).1)
            have B11 := Lib.hid (HW9.out.trans (ST9.out _ _ hl).2)
            have S11 := Lib.hid (show B ≤ w11.heap.size from Nat.le_trans HS9.out (ST9.out _ _ hl).2.size)
            have cl := H11.out.cell (j := a) (by rw [LZ.out]; exact q1)
            rw [YZ.out] at cl
            clear hl
            obtain ⟨F11, hr, hF, hst⟩ := H11.out.call S11.out
            have WT := Lib.hid (X'.out.wet b F11 m5 ((a : Int) / 6) _ hr ⟨by omega, by omega⟩)
            rw [wet24 SH.out (fun k hk => (PP.out k hk).2) a] at WT
            have ST11 := Lib.hid hst
            clear hr hF hst
            go_wp2_with fail
            refine WT.out.mono ?_
            rintro r w12 ⟨⟨A9, c9, rfl, _⟩, hl⟩
            have H12 := Lib.hid ((ST11.out _ _ hl).1)
            have B12 := Lib.hid (B11.out.trans (ST11.out _ _ hl).2)
            have S12 := Lib.hid (show B ≤ w12.heap.size from Nat.le_trans S11.out (ST11.out _ _ hl).2.size)
            clear hl
            go_wp2_with fail
            go_roundw
            case rel => first | exact ⟨a + 1, by omega, by go_num, H12, B12, S12⟩ | ((repeat apply Exists.intro); exact ⟨⟨a + 1, by omega, by go_num, H12, B12, S12⟩, rfl⟩)
            case measure => simp [intOf]; omega
          · go_wp2_with fail
            go_ret
            exact ⟨rfl, HW9.out⟩

end Go.Proofs.Ytjghpacpeojejaa.extentPicks
