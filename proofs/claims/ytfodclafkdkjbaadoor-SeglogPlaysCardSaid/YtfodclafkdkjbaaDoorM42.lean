/- Proved parts: E5cw. Conditions: each theorem's own. -/
import Derived.Test.YtfodclafkdkjbaaDoorM41
namespace Go.Proofs.YtfodclafkdkjbaaDoor
open Go.RowKit Go.Maps

theorem Says.redry {D : DataW Unit} {m : Ext} {e a : Nat} (h : Says D m e) (ho : m.Ok) (he : e < m.ext) (ha : a < m.sec) (hw : (m.secAt (e * m.sec + a)).wet = true) (d : ByteArray) : Says D (m.put (e * m.sec + a) ⟨d, (m.secAt (e * m.sec + a)).now, true⟩) e where
  key x hx := h.key x hx
  wet a' ha' := by
    have ha2 : a' < m.sec := ha'
    show _ = ((m.put _ _).secAt (e * m.sec + a')).wet
    rw [secAt_put (pos_lt_nat ho he ha)]
    by_cases q : a = a'
    · subst q; rw [if_pos rfl, h.wet a ha2, hw]
    · rw [if_neg (fun k => q (pos_ne ha ha2 k).2), h.wet a' ha2]
  now a' ha' hw2 z := by
    have ha2 : a' < m.sec := ha'
    change ((m.put _ _).secAt (e * m.sec + a')).wet = true at hw2
    show _ = DataW.lit (.string ((m.put _ _).secAt (e * m.sec + a')).now.data.toList)
    rw [secAt_put (pos_lt_nat ho he ha)] at hw2 ⊢
    by_cases q : a = a'
    · subst q; rw [if_pos rfl, h.now a ha2 hw]
    · have q2 : ¬ (e * m.sec + a = e * m.sec + a') := fun k => q (pos_ne ha ha2 k).2
      rw [if_neg q2] at hw2 ⊢
      rw [h.now a' ha2 hw2]

set_option maxRecDepth 100000 in
set_option maxHeartbeats 4000000 in
/-- Crash, with the power on -/
theorem xCrashYes (b : Nat) (F : Nat → Prop) (m : Ext) (A : Option Addr) (c : Nat) (ps : List (Int × Int)) (w : World) (h : RelX w b F m) (hs : SlPk w A ps) (hdis : 0 < ps.length → ∀ g o, A = some ⟨g, o, none⟩ → ¬ F g) (hk : PkOk ps) (ho : m.off = false) :
    Calls Tryd.prog 23 #[.pointer (some ⟨b, 0, none⟩), .slice A ps.length c] w fun x w' => x = .returned (.int .i64 0) ∧ LeftE RelX b F w { m with l := m.crashed ps m.l.length, off := true } w' := by
  obtain ⟨g, cap, ds, ms, Ds, hr, hb', hg, hd, hF⟩ := h
  have c0 := hr.on
  rw [ho] at c0
  have C1 := Lib.hid (xPow b true w c0)
  have HR := Lib.hid hr
  have SP := Lib.hid hs
  have HDIS := Lib.hid hdis
  have HK := Lib.hid hk
  have HB := Lib.hid hb'
  have HG := Lib.hid hg
  have HD := Lib.hid hd
  have HF := Lib.hid hF
  obtain ⟨n, hn⟩ : ∃ n, n = ps.length := ⟨_, rfl⟩
  have HN := Lib.hid hn
  have n63 : (n : Int) ≤ 9223372036854775807 := by have := hk.1; omega
  rw [← hn]
  have RK := Lib.hid (show RepE w b g cap ds ms Ds (keptE m (ps.take 0)) by rw [List.take_zero, keptE_nil]; exact hr)
  clear hr hs hdis hk hb' hg hd hF c0 hn ho
  go_enter Tryd.func23, Tryd.ntmps23
  go_wp2_with fail
  refine C1.out.mono ?_
  rintro x w' ⟨rfl, rfl⟩
  go_wp2_with fail
  go_loopw [20] (fun v wr => ∃ (k : Nat) (Ds' : Nat → DataW Unit), k ≤ n ∧ v = .int .i64 k ∧ RepE wr b g cap ds ms Ds' (keptE m (ps.take k)) ∧ Chg (fun q => ∃ e, e < m.ext ∧ q = ds e) w' wr)
    (fun v _ => n - (Go.RowKit.intOf v).toNat)
  case atStart => exact ⟨0, Ds, Nat.zero_le _, rfl, RK.out, Chg.refl _ _⟩
  case round =>
    obtain ⟨k, Ds', hkn, rfl, hrep, hch⟩ := hrel
    have RP := Lib.hid hrep
    have CH := Lib.hid hch
    clear hrep hch
    by_cases hlt : k < n
    · have hlp : k < ps.length := by rw [← HN.out]; exact hlt
      obtain ⟨q, o, eA, hql, hcs⟩ := SP.out (by omega)
      have NQ := Lib.hid (show ∀ e, e < m.ext → q ≠ ds e from fun e he hq => HDIS.out (by omega) q o eA (hq ▸ (HD.out e he).1))
      subst eA
      have NQ2 := Lib.hid (show ¬ ∃ e, e < m.ext ∧ q = ds e from fun ⟨e, he, hq⟩ => NQ.out e he hq)
      obtain ⟨pe, hpe⟩ : ∃ pe, pe = (ps.getD k (0, 0)).1 := ⟨_, rfl⟩
      obtain ⟨pa, hpa⟩ : ∃ pa, pa = (ps.getD k (0, 0)).2 := ⟨_, rfl⟩
      have p0 := CH.out.cell (p := ⟨q, o + k * 2, none⟩) (hcs k hlp).1 NQ2.out
      have p1 := CH.out.cell (p := ⟨q, o + k * 2 + 1, none⟩) (hcs k hlp).2 NQ2.out
      rw [← hpe] at p0
      rw [← hpa] at p1
      have SN := Lib.hid (show ps.take (k + 1) = ps.take k ++ [(pe, pa)] by
        rw [List.take_succ_eq_append_getElem hlp, hpe, hpa, List.getD_eq_getElem?_getD, List.getElem?_eq_getElem hlp]; rfl)
      clear hpe hpa hcs hql
      go_wp2_with fail
      obtain ⟨W1, hW1⟩ : ∃ W1, W1 = wr.alloc (.cells #[.int .i64 pe, .int .i64 pa] 100) := ⟨_, rfl⟩
      rw [← hW1]
      have R1 := Lib.hid (RP.out.below (w' := W1) (by rw [hW1]; exact (Below.refl _ _).alloc (Nat.le_refl _) _))
      have CH1 := Lib.hid (show Chg (fun q => ∃ e, e < m.ext ∧ q = ds e) w' W1 by rw [hW1]; exact CH.out.alloc _)
      have y0 : W1.cell? ⟨wr.heap.size, 0, none⟩ = some (.int .i64 pe) := by rw [hW1, World.cell?_alloc_at _ _ _ _ rfl]; rfl
      have y1 : W1.cell? ⟨wr.heap.size, 1, none⟩ = some (.int .i64 pa) := by rw [hW1, World.cell?_alloc_at _ _ _ _ rfl]; rfl
      have HS1 := Lib.hid (show W1.heap.size = wr.heap.size + 1 by rw [hW1]; simp)
      have ly : wr.heap.size < W1.heap.size := by rw [HS1.out]; omega
      clear hW1 p0 p1
      by_cases hh : m.has pe pa
      · refine (xHasYes b m pe pa cap (some ⟨g, 0, none⟩) W1 hh R1.out.sec R1.out.ext).mono ?_
        rintro x w2 ⟨rfl, rfl⟩
        obtain ⟨e, a, he0, ha0, he, ha⟩ := has_nat hh
        have HPOS := Lib.hid (show m.atI pe pa = ((e * m.sec + a : Nat) : Int) by unfold Ext.atI; rw [if_pos hh, he0, ha0, pos_nat])
        subst he0
        subst ha0
        have i0 : (0 : Int) ≤ (e : Int) := by omega
        have i1 : (e : Int) < (m.ext : Int) := by omega
        have j0 : (0 : Int) ≤ (a : Int) := by omega
        have j1 : (a : Int) < (m.sec : Int) := by omega
        have c2 : w2.cell? ⟨b, 2, none⟩ = some (.slice (some ⟨g, 0, none⟩) m.ext cap) := R1.out.ext
        have c3 : w2.cell? ⟨g, e * 2, none⟩ = some (.slice (some ⟨ds e, 0, none⟩) m.sec m.sec) := R1.out.dc e he
        have c4 := R1.out.mc e he
        have l2 := R1.out.lt_b
        have l3 := R1.out.lt_g
        clear hh
        go_wp2_with fail
        go_region
        obtain ⟨W3, hW3⟩ : ∃ W3, W3 = (w2.alloc (.cells #[.slice (some ⟨ds e, 0, none⟩) m.sec m.sec, .map (some (ms e))] 70)).drew := ⟨_, rfl⟩
        rw [← hW3]
        have B3 := Lib.hid (show Below w2.heap.size w2 W3 by rw [hW3]; exact ((Below.refl _ _).alloc (Nat.le_refl _) _).drew)
        have R3 := Lib.hid (R1.out.below B3.out)
        have CH3 := Lib.hid (show Chg (fun q => ∃ e, e < m.ext ∧ q = ds e) w' W3 by rw [hW3]; exact (CH1.out.alloc _).drew)
        have z0 : W3.cell? ⟨w2.heap.size, 0, none⟩ = some (.slice (some ⟨ds e, 0, none⟩) m.sec m.sec) := by rw [hW3]; show World.cell? (w2.alloc _) _ = _; rw [World.cell?_alloc_at _ _ _ _ rfl]; rfl
        have z1 : W3.cell? ⟨w2.heap.size, 1, none⟩ = some (.map (some (ms e))) := by rw [hW3]; show World.cell? (w2.alloc _) _ = _; rw [World.cell?_alloc_at _ _ _ _ rfl]; rfl
        have y3 := (Chg.of_below (F := fun _ => False) B3.out).cell (p := ⟨wr.heap.size, 1, none⟩) y1 id
        have HS3 := Lib.hid (show W3.heap.size = w2.heap.size + 1 by rw [hW3]; simp)
        have l4 : w2.heap.size < W3.heap.size := by rw [HS3.out]; omega
        have l5 : wr.heap.size < W3.heap.size := by rw [HS3.out]; omega
        have LI := Lib.hid (pos_lt_nat HR.out.ok he ha)
        have LK : (Instr.lookup 68 (.map (some (ms e))) (.int .i64 a) true).run Tryd.prog W3 = .ok (.tuple #[.agg (secL (if (m.secAt (e * m.sec + a)).wet then (m.secAt (e * m.sec + a)).now else ⟨#[]⟩)).toArray, .bool (m.secAt (e * m.sec + a)).wet]) W3 := by
          have q := look_run (R3.out.map e he) (R3.out.says e he) (show a < (keptE m (ps.take k)).sec from ha) R3.out.ok.2.2.2.1
          have q2 := keptE_sec m (ps.take k) (e * m.sec + a) LI.out
          change Sem.run _ _ _ = Result.ok (Value.tuple #[.agg (secL (if ((keptE m (ps.take k)).secAt (e * m.sec + a)).wet then ((keptE m (ps.take k)).secAt (e * m.sec + a)).now else ⟨#[]⟩)).toArray, .bool ((keptE m (ps.take k)).secAt (e * m.sec + a)).wet]) W3 at q
          rw [q2.1, q2.2] at q
          exact q
        obtain ⟨Z, hZ⟩ : ∃ Z, Z = (rawL 0).toArray := ⟨_, rfl⟩
        have z74 : ∀ W, (zeroValue 85).run Tryd.prog W = .ok (.agg Z) W := fun W => by rw [hZ]; exact zeroS74 W
        have HZ := Lib.hid hZ
        clear hW3 hZ y0 y1 c2 c3 c4 l2 l3 ly
        cases hwet : (m.secAt (e * m.sec + a)).wet with
        | false =>
          rw [hwet] at LK
          simp only [if_false, Bool.false_eq_true] at LK
          obtain ⟨E, hE⟩ : ∃ E : ByteArray, E = ⟨#[]⟩ := ⟨_, rfl⟩
          rw [← hE] at LK
          have RR := Lib.hid (show RepE W3 b g cap ds ms Ds' (keptE m (ps.take (k + 1))) by
            rw [SN.out, keptE_skip _ _ (fun i _ hw q => by
              rw [HPOS.out] at q
              rw [show i = e * m.sec + a by omega, hwet] at hw; cases hw)]
            exact R3.out)
          have RR2 := Lib.hid (RR.out.below ((Below.refl _ _).alloc (Nat.le_refl _) (.cells (secL E).toArray 85)))
          have CH4 := Lib.hid (CH3.out.alloc (.cells (secL E).toArray 85))
          clear hE hwet
          go_wp2_with (
            ((with_reducible refine wp_storeN (op := ⟨none, _, _, _, _, _⟩) rfl (.tmp 9) (.tmp 45) rfl W3 (rawL 0) (secL E) ?c1 ?c2 ?c3 ?c4 ?c5 ?c6 ?_); (case c1 => (rw [← HZ.out])); (case c2 => rfl); (case c3 => rfl); (case c4 => exact rawL_len _); (case c5 => exact secL_len _); (case c6 => exact secL_one _)))
          go_roundw
          case rel => first | exact ⟨k + 1, Ds', by omega, by go_num, RR2.out, CH4.out⟩ | ((repeat apply Exists.intro); exact ⟨⟨k + 1, Ds', by omega, by go_num, RR2.out, CH4.out⟩, rfl⟩)
          case measure => simp [Go.RowKit.intOf]; omega
        | true =>
          rw [hwet] at LK
          simp only [if_true] at LK
          obtain ⟨s, hsn⟩ : ∃ s, s = (m.secAt (e * m.sec + a)).now := ⟨_, rfl⟩
          rw [← hsn] at LK
          have HSN := Lib.hid hsn
          have HWET := Lib.hid hwet
          have RN := Lib.hid (RowAt.new W3 (secL s) 85)
          obtain ⟨W4, hW4⟩ : ∃ W4, W4 = W3.alloc (.cells (secL s).toArray 85) := ⟨_, rfl⟩
          have B4 := Lib.hid (show Below W3.heap.size W3 W4 by rw [hW4]; exact (Below.refl _ _).alloc (Nat.le_refl _) _)
          have R4 := Lib.hid (R3.out.below B4.out)
          have RO := Lib.hid (R4.out.row e he)
          have LN := Lib.hid (show a * 65 + 65 ≤ ((drys (keptE m (ps.take k)) e).flatMap secL).length by
            rw [flat_len secL_len, drys_len]
            have := Nat.mul_le_mul_right 65 (show a + 1 ≤ m.sec from ha)
            rw [Nat.add_mul] at this
            show _ ≤ m.sec * 65; omega)
          have TH := Lib.hid (RowAt.there RO.out (o := a * 65) (n := 65) LN.out)
          have CH4 := Lib.hid (show Chg (fun q => ∃ e, e < m.ext ∧ q = ds e) w' W4 by rw [hW4]; exact CH3.out.alloc _)
          rw [hW4] at TH
          have HW4 := Lib.hid hW4
          clear hsn hwet hW4
          go_wp2_with (first
            | ((with_reducible refine wp_storeN (op := ⟨none, _, _, _, _, _⟩) rfl (.tmp 9) (.tmp 45) rfl W3 (rawL 0) (secL s) ?c1 ?c2 ?c3 ?c4 ?c5 ?c6 ?_); (case c1 => (rw [← HZ.out])); (case c2 => rfl); (case c3 => rfl); (case c4 => exact rawL_len _); (case c5 => exact secL_len _); (case c6 => exact secL_one _))
            | ((with_reducible refine wp_loadS (op := ⟨some 52, _, _, _, _, _⟩) rfl (.tmp 9) rfl W3.heap.size 0 ?d1 (secL s) ?d2 ?d3 ?_); (case d1 => rfl); (case d2 => exact RN.out.mid (fun j v hv => by rw [Nat.zero_add]; exact hv)); (case d3 => exact secL_len _))
            | ((with_reducible refine wp_storeS (op := ⟨none, _, _, _, _, _⟩) rfl (.tmp 53) (.tmp 52) rfl (ds e) (a * 65) (secL s) ?e1 ?e2 ?e3 ?e4 ?e5 ?_); (case e1 => rfl); (case e2 => rfl); (case e3 => exact TH.out); (case e4 => exact secL_len _); (case e5 => exact secL_one _)))
          rw [← HW4.out]
          have C5 := Lib.hid (show Chg (fun q => q = ds e) W4 (W4.setCells (ds e) (a * 65) (secL s)) from (Chg.refl (fun q => q = ds e) W4).setCells (g := ds e) (.inl rfl) _ _)
          have R5 := Lib.hid (show RepE (W4.setCells (ds e) (a * 65) (secL s)) b g cap ds ms (fun e' => if e' = e then Ds' e else Ds' e') (keptE m (ps.take (k + 1))) by
            have q2 := keptE_sec m (ps.take k) (e * m.sec + a) LI.out
            have sy := (R4.out.says e he).redry R4.out.ok he (show a < (keptE m (ps.take k)).sec from ha) (show ((keptE m (ps.take k)).secAt (e * m.sec + a)).wet = true by rw [q2.1]; exact HWET.out) s
            change Says (Ds' e) ((keptE m (ps.take k)).put (e * m.sec + a) ⟨s, ((keptE m (ps.take k)).secAt (e * m.sec + a)).now, true⟩) e at sy
            rw [q2.2, ← HSN.out] at sy
            rw [SN.out, keptE_put _ _ LI.out HWET.out HPOS.out, ← HSN.out]
            have hs64 : s.size ≤ 64 := by rw [HSN.out]; exact (HR.out.fine _).2.1
            refine R4.out.step he (C5.out.mono fun i q => .inl q) ?_ (ownsMap_chg (R4.out.map e he) C5.out (fun q => R4.out.d_m he he q)) sy rfl rfl rfl (Ext.put_ok R4.out.ok _ _) (R4.out.fine.put R4.out.ok he (show a < (keptE m (ps.take k)).sec from ha) _ ⟨hs64, hs64, fun q => by cases q⟩)
              (fun e' a' he' ha' hne => by
                show ((keptE m (ps.take k)).put (e * m.sec + a) ⟨s, s, true⟩).secAt (e' * m.sec + a') = (keptE m (ps.take k)).secAt (e' * m.sec + a')
                rw [secAt_put (by rw [keptE_len]; exact LI.out), if_neg (fun q => hne (pos_ne ha (show a' < m.sec from ha') q).1.symm)])
            have q3 := drys_put R4.out.ok he (show a < (keptE m (ps.take k)).sec from ha) (⟨s, s, true⟩ : Sec)
            change drys ((keptE m (ps.take k)).put (e * m.sec + a) ⟨s, s, true⟩) e = _ at q3
            rw [q3, ← flat_seg secL_len s (drys (keptE m (ps.take k)) e) a (by rw [drys_len]; exact ha)]
            exact RowAt.setCells (secL s) (a * 65) _ W4 RO.out (by rw [secL_len]; exact LN.out))
          have CH5 := Lib.hid (CH4.out.trans C5.out (fun i q => .inl ⟨e, he, q⟩))
          refine ⟨⟨k + 1, _, by omega, by go_num, R5.out, CH5.out⟩, ?_⟩
          simp [Go.RowKit.intOf]; omega
      · refine (xHasNo b m pe pa cap (some ⟨g, 0, none⟩) W1 hh R1.out.sec R1.out.ext).mono ?_
        rintro x w2 ⟨rfl, rfl⟩
        have RR := Lib.hid (show RepE w2 b g cap ds ms Ds' (keptE m (ps.take (k + 1))) by
          rw [SN.out, keptE_skip _ _ (fun i _ _ q => by unfold Ext.atI at q; rw [if_neg hh] at q; omega)]; exact R1.out)
        clear hh
        go_wp2_with fail
        go_roundw
        case rel => first | exact ⟨k + 1, Ds', by omega, by go_num, RR.out, CH1.out⟩ | ((repeat apply Exists.intro); exact ⟨⟨k + 1, Ds', by omega, by go_num, RR.out, CH1.out⟩, rfl⟩)
        case measure => simp [Go.RowKit.intOf]; omega
    · have hkn2 : k = n := by omega
      subst hkn2
      have RP2 := Lib.hid (show RepE wr b g cap ds ms Ds' (clearE (keptE m ps) 0) by
        rw [clearE_none]
        have q := RP.out
        rw [List.take_of_length_le (by rw [← HN.out]; exact Nat.le_refl _)] at q
        exact q)
      have CH2 := Lib.hid (CH.out.mono (G := fun q => ∃ e, e < m.ext ∧ (q = ds e ∨ q = ms e)) fun i ⟨e, he, q⟩ => ⟨e, he, .inl q⟩)
      have c2 : wr.cell? ⟨b, 2, none⟩ = some (.slice (some ⟨g, 0, none⟩) m.ext cap) := RP.out.ext
      have e32 : (m.ext : Int) ≤ 32 := by have := HR.out.ok.2.1; omega
      obtain ⟨wo, hwo⟩ : ∃ wo, wo = wr := ⟨_, rfl⟩
      subst hwo
      go_wp2_with fail
      go_loopw [60] (fun v wr => ∃ (k : Nat) (Ds' : Nat → DataW Unit), k ≤ m.ext ∧ v = .int .i64 k ∧ RepE wr b g cap ds ms Ds' (clearE (keptE m ps) k) ∧ Chg (fun q => ∃ e, e < m.ext ∧ (q = ds e ∨ q = ms e)) w' wr)
        (fun v _ => m.ext - (Go.RowKit.intOf v).toNat)
      case atStart => exact ⟨0, Ds', Nat.zero_le _, rfl, RP2.out, CH2.out⟩
      case round =>
        obtain ⟨k2, Ds2, hk2, rfl, hrep, hch⟩ := hrel
        have RQ := Lib.hid hrep
        have CQ := Lib.hid hch
        clear hrep hch c2
        by_cases hlt2 : k2 < m.ext
        · have c3 : wr.cell? ⟨g, k2 * 2, none⟩ = some (.slice (some ⟨ds k2, 0, none⟩) m.sec m.sec) := RQ.out.dc k2 hlt2
          have c4 := RQ.out.mc k2 hlt2
          obtain ⟨W1, hW1⟩ : ∃ W1, W1 = wr.alloc (.cells #[.slice (some ⟨ds k2, 0, none⟩) m.sec m.sec, .map (some (ms k2))] 70) := ⟨_, rfl⟩
          have R1 := Lib.hid (RQ.out.below (w' := W1) (by rw [hW1]; exact (Below.refl _ _).alloc (Nat.le_refl _) _))
          have CH1 := Lib.hid (show Chg (fun q => ∃ e, e < m.ext ∧ (q = ds e ∨ q = ms e)) w' W1 by rw [hW1]; exact CQ.out.alloc _)
          have HM := Lib.hid (R1.out.map k2 hlt2)
          rw [hW1] at HM
          have HW1 := Lib.hid hW1
          clear hW1
          go_wp2_with (
            (with_reducible refine wp_clearM rfl (.tmp 65) rfl (ms k2) (Maps.size (Ds2 k2)) (Ds2 k2) rfl HM.out ?_); intro w6 hown6 hg6 hs6)
          have HO6 := Lib.hid hown6
          have HG6 := Lib.hid hg6
          rw [← HW1.out] at HG6
          clear hown6 hg6 hs6
          have C6 := Lib.hid (show Chg (fun q => q = ds k2 ∨ q = ms k2) W1 w6 from (Chg.refl _ _).grown HG6.out (fun i q => by cases q; exact .inl (.inr rfl)))
          have OK1 := Lib.hid (keptE_ok HR.out.ok ps)
          have R6 := Lib.hid (show RepE w6 b g cap ds ms (fun e' => if e' = k2 then .map [] else Ds2 e') (clearE (keptE m ps) (k2 + 1)) from R1.out.step hlt2 C6.out (by
              rw [drys_clear OK1.out hlt2, ← drys_clear OK1.out hlt2 k2]
              exact (R1.out.row k2 hlt2).keep ((Chg.refl (fun q => q = ms k2) W1).grown HG6.out (fun i q => by cases q; exact .inl rfl)) (fun q => R1.out.d_m hlt2 hlt2 q.symm)) HO6.out
            (Says.nil rfl fun a ha => by
              show ((clearE (keptE m ps) (k2 + 1)).secAt (k2 * (keptE m ps).sec + a)).wet = false
              rw [clearE_row OK1.out hlt2 ha, if_pos (by omega)]) rfl rfl rfl (clearE_ok OK1.out _) ((HR.out.fine.kept ps).clear _)
            (fun e' a' he' ha' hne => by
              show (clearE (keptE m ps) (k2 + 1)).secAt (e' * m.sec + a') = (clearE (keptE m ps) k2).secAt (e' * m.sec + a')
              have q1 := clearE_row OK1.out (e := e') (a := a') he' ha' (k2 + 1)
              have q2 := clearE_row OK1.out (e := e') (a := a') he' ha' k2
              change (clearE (keptE m ps) (k2 + 1)).secAt (e' * m.sec + a') = _ at q1
              change (clearE (keptE m ps) k2).secAt (e' * m.sec + a') = _ at q2
              rw [q1, q2]
              by_cases q : e' < k2
              · rw [if_pos q, if_pos (by omega)]
              · rw [if_neg q, if_neg (by omega)]))
          have CH6 := Lib.hid (CH1.out.trans C6.out (fun i q => .inl ⟨k2, hlt2, q⟩))
          refine ⟨⟨k2 + 1, _, by omega, by go_num, R6.out, CH6.out⟩, ?_⟩
          simp [Go.RowKit.intOf]; omega
        · have hk3 : k2 = m.ext := by omega
          subst hk3
          have cb := RQ.out.on
          have cf := RQ.out.fz
          have R7 := Lib.hid (RQ.out.turned true)
          have CT := Lib.hid (crash_two HR.out.ok HR.out.fine ps)
          go_wp2_with fail
          have CF := Lib.hid (show Chg (fun q => q = b ∨ ∃ e, e < m.ext ∧ (q = ds e ∨ q = ms e)) w' (wr.setCell ⟨b, 0, none⟩ (.bool false)) from (CQ.out.mono fun i q => .inr q).setCell (p := ⟨b, 0, none⟩) (.inl (.inl rfl)) _)
          have R8 := Lib.hid (show RepE (wr.setCell ⟨b, 0, none⟩ (.bool false)) b g cap ds ms Ds2 { m with l := m.crashed ps m.l.length, off := true } by rw [← CT.out]; exact R7.out)
          go_ret
          exact ⟨rfl, RelX.left CF.out (fun q hq => by
            rcases hq with rfl | ⟨e, he, rfl | rfl⟩
            · exact .inl HB.out
            · exact .inl (HD.out e he).1
            · exact .inl (HD.out e he).2) R8.out HB.out HG.out HD.out HF.out⟩

set_option maxRecDepth 100000 in
set_option maxHeartbeats 2000000 in
/-- Crash -/
theorem xCrash (b : Nat) (F : Nat → Prop) (m : Ext) (A : Option Addr) (c : Nat) (ps : List (Int × Int)) (w : World) (h : RelX w b F m) (hs : SlPk w A ps) (hdis : 0 < ps.length → ∀ g o, A = some ⟨g, o, none⟩ → ¬ F g) (hk : PkOk ps) :
    Calls Tryd.prog 23 #[.pointer (some ⟨b, 0, none⟩), .slice A ps.length c] w fun x w' => x = .returned (.int .i64 (m.crash ps).2) ∧ LeftE RelX b F w (m.crash ps).1 w' := by
  cases ho : m.off with
  | false =>
    rw [show m.crash ps = ({ m with l := m.crashed ps m.l.length, off := true }, 0) by unfold Ext.crash; rw [ho, if_neg (by decide)]]
    exact xCrashYes b F m A c ps w h hs hdis hk ho
  | true =>
    rw [show m.crash ps = (m, 6) by unfold Ext.crash; rw [ho, if_pos rfl]]
    refine Calls.mono (R := fun x w' => x = .returned (.int .i64 6) ∧ Below w.heap.size w w') ?_ fun x w' hq => ⟨hq.1, h.left_below hq.2⟩
    obtain ⟨g, cap, ds, ms, Ds, hr, hb', hg, hd, hF⟩ := h
    have c0 := hr.on
    rw [ho] at c0
    have C1 := Lib.hid (xPow b false w c0)
    have HB := Lib.hid (Below.refl w.heap.size w)
    obtain ⟨n, hn⟩ : ∃ n, n = ps.length := ⟨_, rfl⟩
    rw [← hn]
    clear hr hb' hg hd hF hs hdis hk hn c0 ho
    go_enter Tryd.func23, Tryd.ntmps23
    go_wp2_with fail
    refine C1.out.mono ?_
    rintro x w' ⟨rfl, rfl⟩
    go_wp2_with fail
    go_ret
    exact ⟨rfl, HB.out⟩

end Go.Proofs.YtfodclafkdkjbaaDoor
