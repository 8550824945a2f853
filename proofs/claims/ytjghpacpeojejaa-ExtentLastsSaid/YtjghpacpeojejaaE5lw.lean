/- ExtentLasts, walked, given what the program's extent does. -/
import Derived.Test.YtjghpacpeojejaaE5t
import Derived.Lib.SmallJoins
import Derived.Deep.CutBlock
import Derived.Deep.CutRange
import Derived.ChangeMaps5
namespace Go.Proofs.Ytjghpacpeojejaa.extentLasts
open Go.Proofs.Ytjghpacpeojejaa Go.Joins Go.ChangeShapes Go.WideShapes Go.ChangeAt Go.RowKit Go.Deep
open Go.ChangeMaps (open_string shut_string)

set_option maxRecDepth 100000 in
set_option maxHeartbeats 2000000 in
theorem walk {R : RelE} (X : ExtAt R) (A1 A2 A3 : Option Addr) (c1 c2 c3 : Nat) (l then' : List Act5) (z : Int) (ps : List (Int × Int)) (w : World)
    (h1 : SlAc w.heap.size w A1 l) (o1 : AcsOk l) (h2 : SlAc w.heap.size w A2 then') (o2 : AcsOk then') (h3 : SlPk w A3 ps) (n3 : A3 = none → ps = [] ∧ c3 = 0) (b3 : 0 < ps.length → ∀ q o, A3 = some ⟨q, o, none⟩ → q < w.heap.size) (k3 : PkOk ps) :
    Calls Try.prog 4 #[.slice A1 l.length c1, .slice A2 then'.length c2, .int .i64 z, .slice A3 ps.length c3] w fun r w' => r = .returned (.bool true) ∧ Below w.heap.size w w' := by
  obtain ⟨B, hB⟩ : ∃ B, B = w.heap.size := ⟨_, rfl⟩
  rw [← hB] at h1 h2 b3 ⊢
  obtain ⟨n1, hn1⟩ : ∃ n, n = l.length := ⟨_, rfl⟩
  obtain ⟨n2, hn2⟩ : ∃ n, n = then'.length := ⟨_, rfl⟩
  obtain ⟨n3', hn3⟩ : ∃ n, n = ps.length := ⟨_, rfl⟩
  rw [← hn1, ← hn2, ← hn3]
  have m1 : n1 ≤ 9223372036854775807 := by rw [hn1]; exact o1.1
  have m2 : n2 ≤ 9223372036854775807 := by rw [hn2]; exact o2.1
  have m3 : n3' ≤ 9223372036854775807 := by rw [hn3]; exact k3.1
  obtain ⟨o, ho4, hoz⟩ := and3 z
  have X' := Lib.hid X
  have AW := Lib.hid (awake5 X)
  have H1 := Lib.hid h1
  have H2 := Lib.hid h2
  have O1 := Lib.hid o1
  have O2 := Lib.hid o2
  have HN1 := Lib.hid hn1
  have HN2 := Lib.hid hn2
  have HN3 := Lib.hid hn3
  have HB := Lib.hid hB
  have B0 := Lib.hid (show Below B w w from Below.refl _ _)
  have NW := Lib.hid (fun v => X.new 4 6 v ⟨by decide, by decide⟩ ⟨by decide, by decide⟩)
  have CR := Lib.hid (show ∀ v F m b, R v b F m → (∀ k, F k → B ≤ k) → Below B w v → Calls Try.prog 22 #[.pointer (some ⟨b, 0, none⟩), .slice A3 n3' c3] v fun x w' => x = .returned (.int .i64 (m.crash ps).2) ∧ LeftE R b F v (m.crash ps).1 w' from by
    intro v F m b hr hF hv
    rw [hn3]
    exact X.crash b F m A3 c3 ps v hr (h3.belowB hv b3) (fun hp g o e hg => by have := b3 hp g o e; have := hF g hg; omega) k3 n3)
  clear h1 h2 o1 o2 hn1 hn2 hn3 X h3 n3 b3 k3 hB
  go_enter Try.func4, Try.ntmps4
  go_wp2_with fail
  refine (AW.out _).mono ?_
  rintro r w1 ⟨rfl, hb1⟩
  have B1 := Lib.hid (B0.out.trans (by rw [HB.out]; exact hb1))
  have S1 := Lib.hid (show B ≤ w1.heap.size from by rw [HB.out]; exact hb1.size)
  clear hb1
  by_cases h100 : 100 < n3'
  · go_wp2_with fail
    go_ret
    exact ⟨rfl, B1.out⟩
  go_wp2_with fail
  refine (NW.out _).mono ?_
  rintro r w2 ⟨hb2, ⟨_, b, F, rfl, hr, hF⟩ | ⟨hf, _⟩⟩
  case inr => exact absurd hf (by decide)
  have A2' := Lib.hid (show HasE R B w2 b (Ext.new 4 6) from ⟨F, hr, fun k hk => Nat.le_trans S1.out (hF k hk)⟩)
  have B2 := Lib.hid (B1.out.trans (hb2.mono S1.out))
  have SH2 := Lib.hid (show Shape (Ext.new 4 6) from ⟨rfl, rfl⟩)
  have S2 := Lib.hid (show B ≤ w2.heap.size from Nat.le_trans S1.out hb2.size)
  clear hb2 hr hF
  go_upto_block 0 with fail
  go_cut [11] from 33 to 48 (fun _ wx => Hid (∃ m, Shape m ∧ HasE R B wx b m) ∧ Hid (Below B w wx) ∧ Hid (B ≤ wx.heap.size))
  case first =>
    go_wp2_with fail
    go_loopw [11] (fun vi wr => ∃ k : Nat, vi = .int .i64 k ∧ k ≤ n1 ∧ k ≤ 120 ∧ Hid (∃ m, Shape m ∧ HasE R B wr b m) ∧ Hid (Below B w wr) ∧ Hid (B ≤ wr.heap.size)) (fun vi _ => n1 - (intOf vi).toNat)
    case atStart => exact ⟨0, rfl, Nat.zero_le _, by omega, Lib.hid ⟨_, SH2.out, A2'.out⟩, B2, S2⟩
    case round =>
      obtain ⟨k, rfl, kn, k120, HM, HW, HS⟩ := hrel
      by_cases q1 : k < n1
      · by_cases q2 : k < 120
        · obtain ⟨m, sh, hm⟩ := HM.out
          obtain ⟨F, hr, hF⟩ := hm
          obtain ⟨bA, oA, xk, xe, xa, xs, ps', PL, AP, cP, rfl, _, ok, hPL, hc, hN, hA⟩ := elem_at H1.out O1.out (k := k) (by rw [← HN1.out]; exact q1)
          obtain ⟨e0, e1, e2, e3, e4, sp⟩ := hc wr HW.out
          have PV := Lib.hid (play5v X'.out F xk xe xa xs ps' PL AP cP hPL ok hN hA wr hr hF HS.out sp)
          have PO := Lib.hid (fun w' (hl : LeftE R b F wr (m.play ⟨xk, xe, xa, xs, ps'⟩) w') => hl.has hF HS.out)
          have SH := Lib.hid (play_shape sh ⟨xk, xe, xa, xs, ps'⟩)
          have i0 : (0 : Int) ≤ (k : Int) := by omega
          have i1 : (k : Int) < (n1 : Int) := by omega
          clear hr hF ok hPL hc hN hA sp sh
          go_wp2_with fail
          refine PV.out.mono ?_
          rintro r w4 ⟨rfl, hl⟩
          obtain ⟨h5, h6⟩ := PO.out w4 hl
          have Q5 := Lib.hid (show ∃ m, Shape m ∧ HasE R B w4 b m from ⟨_, SH.out, h5⟩)
          have Q6 := Lib.hid (HW.out.trans h6)
          have Q7 := Lib.hid (show B ≤ w4.heap.size from Nat.le_trans HS.out h6.size)
          clear hl h5 h6
          go_wp2_with fail
          go_roundw
          case rel => exact ⟨k + 1, by go_num, by omega, by omega, Q5, Q6, Q7⟩
          case measure => simp [intOf]; omega
        · go_wp2_with fail
          go_meet
          exact ⟨HM, HW, HS⟩
      · go_wp2_with fail
        go_meet
        exact ⟨HM, HW, HS⟩
  case rest =>
    obtain ⟨HM, HW, HS⟩ := hcut
    go_wp2_with fail
    obtain ⟨m, sh, hm⟩ := HM.out
    obtain ⟨F, hr, hF⟩ := hm
    refine (X'.out.start b F m _ hr).mono ?_
    rintro r w5 ⟨rfl, hl⟩
    obtain ⟨h5, h6⟩ := hl.has hF HS.out
    obtain ⟨m1', hm1⟩ : ∃ m1', m1' = m.start.1 := ⟨_, rfl⟩
    obtain ⟨C, hC⟩ : ∃ C, C = m.start.2 := ⟨_, rfl⟩
    rw [← hm1] at h5
    rw [← hC]
    have SH5 := Lib.hid (show Shape m1' by rw [hm1]; exact start_shape sh)
    have ON5 := Lib.hid (show m1'.off = false by rw [hm1]; exact start_on m)
    have H5 := Lib.hid h5
    have B5 := Lib.hid (HW.out.trans h6)
    have S5 := Lib.hid (show B ≤ w5.heap.size from Nat.le_trans HS.out h6.size)
    clear hl h5 h6 hm1 hC hr hF sh
    go_wp2_with fail
    obtain ⟨F5, hr, hF⟩ := H5.out
    refine (X'.out.flush b F5 m1' (o : Int) _ hr ⟨by omega, by omega⟩).mono ?_
    rintro r w6 ⟨rfl, hl⟩
    obtain ⟨f0, f1, f2⟩ := flush_sits SH5.out (HasE.ok X'.out H5.out) ho4 ON5.out
    obtain ⟨f, hf⟩ : ∃ f : Nat → ByteArray, f = fun a => (m1'.secAt (o * 6 + a)).now := ⟨_, rfl⟩
    rw [f0]
    rw [← hf] at f2
    obtain ⟨h5, h6⟩ := hl.has hF S5.out
    have SH6 := Lib.hid (flush_shape SH5.out (o : Int))
    obtain ⟨m2', hm2⟩ : ∃ m2', m2' = (m1'.flush (o : Int)).1 := ⟨_, rfl⟩
    rw [← hm2] at f1 f2 h5 SH6
    have ON6 := Lib.hid f1
    have SI6 := Lib.hid f2
    have H6 := Lib.hid h5
    have B6 := Lib.hid (B5.out.trans h6)
    have S6 := Lib.hid (show B ≤ w6.heap.size from Nat.le_trans S5.out h6.size)
    clear hl h5 h6 hm2 hf hr hF f0 f1 f2
    go_wp2_with fail
    go_loopw [12, 13] (fun vw va wr => ∃ (a : Nat) (zs : List ByteArray), a ≤ 6 ∧ va = .int .i64 a ∧ Hid (zs = (List.range a).map f) ∧ Hid (Beside R B wr b m2' vw zs) ∧ Hid (Below B w wr) ∧ Hid (B ≤ wr.heap.size)) (fun _ va _ => 6 - (intOf va).toNat)
    case atStart => exact ⟨0, [], by omega, rfl, Lib.hid rfl, Lib.hid (Beside.made X'.out H6.out S6.out), Lib.hid (B6.out.alloc S6.out _), Lib.hid (by have := S6.out; simp; omega)⟩
    case round =>
      obtain ⟨a, zs, a6, rfl, HZ, HO, HW6, HS6⟩ := hrel
      by_cases q1 : a < 6
      · obtain ⟨F6, hr, hF, hst⟩ := HO.out.call HS6.out
        have RD := Lib.hid (X'.out.read b F6 m2' (o : Int) (a : Int) wr hr ⟨by omega, by omega⟩ ⟨by omega, by omega⟩)
        rw [SI6.out.read SH6.out ho4 ON6.out q1] at RD
        have NZ := Lib.hid (show zs ++ [f a] = (List.range (a + 1)).map f by rw [List.range_succ, List.map_append, HZ.out]; rfl)
        have LZ := Lib.hid (show zs.length = a by rw [HZ.out]; simp)
        obtain ⟨y, hy⟩ : ∃ y, y = f a := ⟨_, rfl⟩
        rw [← hy] at RD NZ
        have ST := Lib.hid hst
        clear hr hF hst hy
        go_wp2_with fail
        refine RD.out.mono ?_
        rintro r w7 ⟨rfl, hl⟩
        have H7 := Lib.hid ((ST.out _ _ hl).1)
        have B7 := Lib.hid (HW6.out.trans (ST.out _ _ hl).2)
        have S7 := Lib.hid (show B ≤ w7.heap.size from Nat.le_trans HS6.out (ST.out _ _ hl).2.size)
        clear hl
        go_wp2_with (at_builtin; refine wp_putT X'.out rfl (.tmp 67) (.tmp 69) rfl B _ zs rfl (H7.out.below X'.out ((Below.refl _ _).alloc (Nat.le_refl _) _)) _ y rfl (cell_new1 _ _ _) (by rw [LZ.out]; omega) (by have := S7.out; simp; omega) ?_; intro v1 w8 hown1 hb1; have HO1 := Lib.hid hown1; have HB1 := Lib.hid ((B7.out.alloc S7.out _).trans hb1); have HS1 := Lib.hid (show B ≤ w8.heap.size from by have h1 := hb1.size; have h2 := S7.out; simp at h1; omega); clear hown1 hb1)
        go_roundw
        case rel => exact ⟨a + 1, _, by omega, by go_num, NZ, HO1, HB1, HS1⟩
        case measure => simp [intOf]; omega
      · have a6' : a = 6 := by omega
        subst a6'
        have LZ := Lib.hid (show zs.length = 6 by rw [HZ.out]; simp)
        obtain ⟨g, cw, hv⟩ := HO.out.open_ (by rw [LZ.out]; omega)
        rw [LZ.out] at hv
        subst hv
        have GZ := Lib.hid (show ∀ j, j < 6 → zs.getD j ⟨#[]⟩ = f j from fun j hj => by rw [HZ.out]; rw [List.getD_eq_getElem?_getD, List.getElem?_map, List.getElem?_range hj]; rfl)
        go_upto_block 4 with fail
        go_cut [16] from 71 to 109 (fun _ wx => Hid (∃ m, Shape m ∧ Sits m o f ∧ Beside R B wx b m (.slice (some ⟨g, 0, none⟩) 6 cw) zs) ∧ Hid (Below B w wx) ∧ Hid (B ≤ wx.heap.size))
        case first =>
          go_wp2_with fail
          go_loopw [16] (fun vi wr => ∃ k : Nat, vi = .int .i64 k ∧ k ≤ n2 ∧ k ≤ 120 ∧ Hid (∃ m, Shape m ∧ Sits m o f ∧ Beside R B wr b m (.slice (some ⟨g, 0, none⟩) 6 cw) zs) ∧ Hid (Below B w wr) ∧ Hid (B ≤ wr.heap.size)) (fun vi _ => n2 - (intOf vi).toNat)
          case atStart => exact ⟨0, rfl, Nat.zero_le _, by omega, Lib.hid ⟨_, SH6.out, SI6.out, HO.out⟩, HW6, HS6⟩
          case round =>
            obtain ⟨k, rfl, kn, k120, HM, HW, HS⟩ := hrel
            by_cases q1 : k < n2
            · by_cases q2 : k < 120
              · obtain ⟨m, sh, si, hm⟩ := HM.out
                obtain ⟨F, hr, hF, hst⟩ := hm.call HS.out
                have hok := hm.ok X'.out
                obtain ⟨bA, oA, xk, xe, xa, xs, ps', PL, AP, cP, rfl, _, ok, hPL, hc, hN, hA⟩ := elem_at H2.out O2.out (k := k) (by rw [← HN2.out]; exact q1)
                obtain ⟨e0, e1, e2, e3, e4, sp⟩ := hc wr HW.out
                have PV := Lib.hid (play5v X'.out F xk xe xa xs ps' PL AP cP hPL ok hN hA wr hr hF HS.out sp)
                have PO := Lib.hid hst
                have SH := Lib.hid (play_shape sh ⟨xk, xe, xa, xs, ps'⟩)
                have SII := Lib.hid (fun hx => si.play sh hok ho4 (x := ⟨xk, xe, xa, xs, ps'⟩) hx)
                have i0 : (0 : Int) ≤ (k : Int) := by omega
                have i1 : (k : Int) < (n2 : Int) := by omega
                clear hr hF ok hPL hc hN hA sp sh si hst hm hok
                have D : ((xk != 1) = true ∧ (xk != 5) = true ∧ ((xk ≠ 1 ∧ xk ≠ 5) ∨ xe ≠ (o : Int))) ∨ ((xk != 1) = false ∧ (xe != (o : Int)) = true ∧ ((xk ≠ 1 ∧ xk ≠ 5) ∨ xe ≠ (o : Int))) ∨ ((xk != 1) = true ∧ (xk != 5) = false ∧ (xe != (o : Int)) = true ∧ ((xk ≠ 1 ∧ xk ≠ 5) ∨ xe ≠ (o : Int))) ∨
                    ((xk != 1) = false ∧ (xe != (o : Int)) = false) ∨ ((xk != 1) = true ∧ (xk != 5) = false ∧ (xe != (o : Int)) = false) := by
                  by_cases a1 : xk = 1 <;> by_cases a5 : xk = 5 <;> by_cases ae : xe = (o : Int) <;> simp [a1, a5, ae]
                rcases D with ⟨t1, t5, hx⟩ | ⟨t1, te, hx⟩ | ⟨t1, t5, te, hx⟩ | ⟨t1, te⟩ | ⟨t1, t5, te⟩
                · have SI := Lib.hid (SII.out hx)
                  clear hx
                  go_wp2_with fail
                  refine PV.out.mono ?_
                  rintro r w9 ⟨rfl, hl⟩
                  have Q4 := Lib.hid ((PO.out w9 _ hl).1)
                  have Q5 := Lib.hid (show ∃ m, Shape m ∧ Sits m o f ∧ Beside R B w9 b m (.slice (some ⟨g, 0, none⟩) 6 cw) zs from ⟨_, SH.out, SI.out, Q4.out⟩)
                  have Q6 := Lib.hid (HW.out.trans (PO.out w9 _ hl).2)
                  have Q7 := Lib.hid (show B ≤ w9.heap.size from Nat.le_trans HS.out (PO.out w9 _ hl).2.size)
                  clear hl
                  go_wp2_with fail
                  go_roundw
                  case rel => (repeat apply Exists.intro); exact ⟨⟨k + 1, by go_num, by omega, by omega, Q5, Q6, Q7⟩, rfl⟩
                  case measure => simp [intOf]; omega
                · have SI := Lib.hid (SII.out hx)
                  clear hx
                  go_wp2_with fail
                  refine PV.out.mono ?_
                  rintro r w9 ⟨rfl, hl⟩
                  have Q4 := Lib.hid ((PO.out w9 _ hl).1)
                  have Q5 := Lib.hid (show ∃ m, Shape m ∧ Sits m o f ∧ Beside R B w9 b m (.slice (some ⟨g, 0, none⟩) 6 cw) zs from ⟨_, SH.out, SI.out, Q4.out⟩)
                  have Q6 := Lib.hid (HW.out.trans (PO.out w9 _ hl).2)
                  have Q7 := Lib.hid (show B ≤ w9.heap.size from Nat.le_trans HS.out (PO.out w9 _ hl).2.size)
                  clear hl
                  go_wp2_with fail
                  go_roundw
                  case rel => (repeat apply Exists.intro); exact ⟨⟨k + 1, by go_num, by omega, by omega, Q5, Q6, Q7⟩, rfl⟩
                  case measure => simp [intOf]; omega
                · have SI := Lib.hid (SII.out hx)
                  clear hx
                  go_wp2_with fail
                  refine PV.out.mono ?_
                  rintro r w9 ⟨rfl, hl⟩
                  have Q4 := Lib.hid ((PO.out w9 _ hl).1)
                  have Q5 := Lib.hid (show ∃ m, Shape m ∧ Sits m o f ∧ Beside R B w9 b m (.slice (some ⟨g, 0, none⟩) 6 cw) zs from ⟨_, SH.out, SI.out, Q4.out⟩)
                  have Q6 := Lib.hid (HW.out.trans (PO.out w9 _ hl).2)
                  have Q7 := Lib.hid (show B ≤ w9.heap.size from Nat.le_trans HS.out (PO.out w9 _ hl).2.size)
                  clear hl
                  go_wp2_with fail
                  go_roundw
                  case rel => (repeat apply Exists.intro); exact ⟨⟨k + 1, by go_num, by omega, by omega, Q5, Q6, Q7⟩, rfl⟩
                  case measure => simp [intOf]; omega
                · go_wp2_with fail
                  go_roundw
                  case rel => exact ⟨k + 1, by go_num, by omega, by omega, HM, HW, HS⟩
                  case measure => simp [intOf]; omega
                · go_wp2_with fail
                  go_roundw
                  case rel => exact ⟨k + 1, by go_num, by omega, by omega, HM, HW, HS⟩
                  case measure => simp [intOf]; omega
              · go_wp2_with fail
                go_meet
                exact ⟨HM, HW, HS⟩
            · go_wp2_with fail
              go_meet
              exact ⟨HM, HW, HS⟩
        case rest =>
          obtain ⟨HM, HW, HS⟩ := hcut
          obtain ⟨m, sh, si, hm⟩ := HM.out
          obtain ⟨F, hr, hF, hst⟩ := hm.call HS.out
          have CC := Lib.hid (CR.out _ F m b hr hF HW.out)
          have ST := Lib.hid hst
          obtain ⟨m4, hm4⟩ : ∃ m4, m4 = (m.crash ps).1 := ⟨_, rfl⟩
          obtain ⟨C4, hC4⟩ : ∃ C, C = (m.crash ps).2 := ⟨_, rfl⟩
          rw [← hm4, ← hC4] at CC
          have SH4 := Lib.hid (show Shape m4 by rw [hm4]; exact crash_shape sh ps)
          have SI4 := Lib.hid (show Sits m4 o f by rw [hm4]; exact si.crash sh (hm.ok X'.out) ho4 ps)
          clear hr hF hst hm4 hC4 sh si hm
          go_wp2_with fail
          refine CC.out.mono ?_
          rintro r w9 ⟨rfl, hl⟩
          have H9 := Lib.hid ((ST.out _ _ hl).1)
          have B9 := Lib.hid (HW.out.trans (ST.out _ _ hl).2)
          have S9 := Lib.hid (show B ≤ w9.heap.size from Nat.le_trans HS.out (ST.out _ _ hl).2.size)
          clear hl
          go_wp2_with fail
          go_loopw [17] (fun va wr => ∃ a : Nat, a ≤ 6 ∧ va = .int .i64 a ∧ Hid (Beside R B wr b m4 (.slice (some ⟨g, 0, none⟩) 6 cw) zs) ∧ Hid (Below B w wr) ∧ Hid (B ≤ wr.heap.size)) (fun va _ => 6 - (intOf va).toNat)
          case atStart => exact ⟨0, by omega, rfl, H9, B9, S9⟩
          case round =>
            obtain ⟨a, a6, rfl, HO9, HW9, HS9⟩ := hrel
            by_cases q1 : a < 6
            · obtain ⟨F9, hr, hF, hst⟩ := HO9.out.call HS9.out
              have RD := Lib.hid (X'.out.dry b F9 m4 (o : Int) (a : Int) _ hr ⟨by omega, by omega⟩ ⟨by omega, by omega⟩)
              rw [SI4.out.dryOf SH4.out ho4 q1] at RD
              obtain ⟨y, hy⟩ : ∃ y, y = f a := ⟨_, rfl⟩
              rw [← hy] at RD
              have YZ := Lib.hid (show zs.getD a ⟨#[]⟩ = y by rw [hy]; exact GZ.out a q1)
              have ST9 := Lib.hid hst
              clear hr hF hst hy
              go_wp2_with fail
              refine RD.out.mono ?_
              rintro r w10 ⟨rfl, hl⟩
              have H10 := Lib.hid ((ST9.out _ _ hl).1)
              have B10 := Lib.hid (HW9.out.trans (ST9.out _ _ hl).2)
              have S10 := Lib.hid (show B ≤ w10.heap.size from Nat.le_trans HS9.out (ST9.out _ _ hl).2.size)
              have cl := H10.out.cell (j := a) (by rw [LZ.out]; exact q1)
              rw [YZ.out] at cl
              have i0 : (0 : Int) ≤ (a : Int) := by omega
              have i1 : (a : Int) < 6 := by omega
              clear hl
              go_wp2_with fail
              go_roundw
              case rel => exact ⟨a + 1, by omega, by go_num, H10, B10, S10⟩
              case measure => simp [intOf]; omega
            · go_wp2_with fail
              go_ret
              exact ⟨rfl, HW9.out⟩

end Go.Proofs.Ytjghpacpeojejaa.extentLasts
