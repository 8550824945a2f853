/- Proved parts: E5c. Conditions: each theorem's own. -/
import Derived.Test.YtfodclafkdkjbaaDoorM2
import Derived.BigQuiet
namespace Go.Proofs.YtfodclafkdkjbaaDoor
open Go.RowKit

/-- the slice at A reads as the picks ps -/
def SlPk (w : World) (A : Option Addr) (ps : List (Int × Int)) : Prop :=
  0 < ps.length → ∃ b o, A = some ⟨b, o, none⟩ ∧ b < w.heap.size ∧ ∀ j, j < ps.length → w.cell? ⟨b, o + j * 2, none⟩ = some (.int .i64 (ps.getD j (0, 0)).1) ∧ w.cell? ⟨b, o + j * 2 + 1, none⟩ = some (.int .i64 (ps.getD j (0, 0)).2)
theorem SlPk.keep {F : Nat → Prop} {w w' : World} {A : Option Addr} {ps : List (Int × Int)} (h : SlPk w A ps) (hc : Chg F w w') (hn : ∀ b o, A = some ⟨b, o, none⟩ → ¬ F b) : SlPk w' A ps := fun hp => by
  obtain ⟨b, o, e, hb, hj⟩ := h hp
  exact ⟨b, o, e, Nat.lt_of_lt_of_le hb hc.size, fun j h => ⟨hc.cell (hj j h).1 (hn b o e), hc.cell (hj j h).2 (hn b o e)⟩⟩
def PkOk (ps : List (Int × Int)) : Prop := ps.length ≤ 9223372036854775807 ∧ ∀ q ∈ ps, In64 q.1 ∧ In64 q.2
theorem pk_mem {ps : List (Int × Int)} {j : Nat} (h : j < ps.length) : ps.getD j (0, 0) ∈ ps := by
  rw [List.getD_eq_getElem?_getD, List.getElem?_eq_getElem h]; exact List.getElem_mem h
theorem named_succ (m : Ext) (ps : List (Int × Int)) (j k : Nat) (h : j < ps.length) : m.named (ps.take (j + 1)) k = (m.named (ps.take j) k || decide (m.atI (ps.getD j (0, 0)).1 (ps.getD j (0, 0)).2 = (k : Int))) := by
  unfold Ext.named
  rw [List.take_succ_eq_append_getElem h, List.any_append, List.getD_eq_getElem?_getD, List.getElem?_eq_getElem h]
  simp
/-- the sectors below k when the power went -/
def Ext.crTo (m : Ext) (ps : List (Int × Int)) (k : Nat) : Ext := { m with l := m.crashed ps k }
theorem crTo_len (m : Ext) (ps : List (Int × Int)) (k : Nat) : (m.crTo ps k).l.length = m.l.length := Ext.crashed_len _ _ _
theorem crTo_at {m : Ext} {ps : List (Int × Int)} {k : Nat} (hk : k < m.l.length) : (m.crTo ps k).secAt k = m.secAt k := by
  rw [secAt_eq m hk, secAt_eq (m.crTo ps k) (by rw [crTo_len]; exact hk)]
  exact Ext.crashed_at _ _ _ hk
theorem crTo_put {m : Ext} {ps : List (Int × Int)} {k : Nat} (hk : k < m.l.length) : (m.crTo ps k).put k (Ext.gone (m.secAt k) (!(m.secAt k).wet || m.named ps k)) = m.crTo ps (k + 1) := by
  unfold Ext.put Ext.crTo
  rw [secAt_eq m hk]
  simp only
  rw [Ext.crashed_step _ _ _ hk]
theorem crTo_atI (m : Ext) (ps : List (Int × Int)) (k : Nat) (e a : Int) : (m.crTo ps k).atI e a = m.atI e a := rfl

set_option maxRecDepth 100000 in
set_option maxHeartbeats 4000000 in
/-- cloisonneref05.World.Crash -/
theorem eCrash (p g : Nat) (m : Ext) (A : Option Addr) (c : Nat) (ps : List (Int × Int)) (w : World) (h : RefE w p g m) (hs : SlPk w A ps) (hd : 0 < ps.length → ∀ b o, A = some ⟨b, o, none⟩ → b ≠ p ∧ b ≠ g) (hk : PkOk ps) :
    Calls Tryd.prog 31 #[.pointer (some ⟨p, 0, none⟩), .slice A ps.length c] w (RefPost p g w (m.crash ps)) := by
  have c0 := h.p0
  have H := Lib.hid h
  have ll := Ext.len_le h.ok
  have PK := Lib.hid hk.2
  have pl := hk.1
  have SP := Lib.hid hs
  have HD := Lib.hid (show 0 < ps.length → ∀ b o, A = some ⟨b, o, none⟩ → ¬ (b = p ∨ b = g) from fun hp b o e q => by rcases q with q | q; exact (hd hp b o e).1 q; exact (hd hp b o e).2 q)
  clear h hk hs hd
  cases hoff : m.off with
  | true =>
    have R := Lib.hid (show m.crash ps = (m, 6) by unfold Ext.crash; rw [hoff]; rfl)
    rw [hoff] at c0
    go_enter Tryd.func31, Tryd.ntmps31
    go_wp2_with fail
    go_ret
    exact RefPost.same H.out R.out
  | false =>
    rw [hoff] at c0
    have R := Lib.hid (show m.crash ps = ({ m.crTo ps m.l.length with off := true }, 0) by unfold Ext.crash Ext.crTo; rw [if_neg (by rw [hoff]; simp)])
    obtain ⟨LL, hLL⟩ : ∃ LL, LL = m.l.length := ⟨_, rfl⟩
    obtain ⟨PL, hPL⟩ : ∃ PL, PL = ps.length := ⟨_, rfl⟩
    rw [← hLL] at ll R
    rw [← hPL] at pl
    rw [← hPL]
    have HLL := Lib.hid hLL
    have HPL := Lib.hid hPL
    clear hoff hLL hPL
    go_enter Tryd.func31, Tryd.ntmps31
    go_wp2_with fail
    go_loopw [5] (fun vk wr => ∃ k : Nat, k ≤ LL ∧ vk = .int .i64 k ∧ Hid (RefE wr p g (m.crTo ps k)) ∧ Hid (Chg (fun k => k = p ∨ k = g) w wr)) (fun vk _ => LL - (intOf vk).toNat)
    case atStart => exact ⟨0, Nat.zero_le _, rfl, Lib.hid (by unfold Ext.crTo; rw [Ext.crashed_none]; exact H.out), Chg.refl _ _⟩
    case round =>
      obtain ⟨k, hk2, rfl, HR, HC⟩ := hrel
      have d3 := HR.out.p3
      rw [crTo_len, ← HLL.out] at d3
      by_cases hlt : k < LL
      case neg =>
        have hke : k = LL := by omega
        subst hke
        have g0 := HR.out.a.frozen 0
        have e0 := HR.out.p0
        have H1 := Lib.hid (show RefE (wr.setCell ⟨p, 0, none⟩ (.bool true)) p g { m.crTo ps k with off := true } from ⟨HR.out.ne, HR.out.a.set 0 (.bool true), HR.out.b.other HR.out.ne _, HR.out.ok⟩)
        have HC1 := Lib.hid (HC.out.setCell (p := ⟨p, 0, none⟩) (.inl (.inl rfl)) (.bool true))
        go_wp2_with fail
        go_ret
        exact ⟨by rw [R.out]; rfl, by rw [R.out]; exact H1.out, HC1.out⟩
      have hkl : k < m.l.length := by have := HLL.out; omega
      have hkd : k < (m.crTo ps k).l.length := by rw [crTo_len]; exact hkl
      have s2 := HR.out.s2 hkd
      rw [crTo_at hkl] at s2
      obtain ⟨wt, hwt⟩ : ∃ wt, wt = (m.secAt k).wet := ⟨_, rfl⟩
      rw [← hwt] at s2
      have HWT := Lib.hid hwt
      clear hwt
      have k0 : (0 : Int) ≤ (k : Int) := by omega
      have k1 : (k : Int) < (LL : Int) := by omega
      go_wp2_with fail
      obtain ⟨wo, hwo⟩ : ∃ wo, wo = wr := ⟨_, rfl⟩
      subst hwo
      go_loopw [6, 7] (fun vb vj wr => ∃ (j n : Nat) (kb : Bool), j ≤ PL ∧ vj = .int .i64 j ∧ vb = .bool kb ∧ Hid (kb = (!wt || m.named (ps.take j) k)) ∧ wr = wo.drewN n) (fun _ vj _ => PL - (intOf vj).toNat)
      case atStart => exact ⟨0, 0, !wt, Nat.zero_le _, rfl, rfl, Lib.hid (by simp [Ext.named]), rfl⟩
      case round =>
        obtain ⟨j, n, kb, hj, rfl, rfl, HB, rfl⟩ := hrel
        by_cases hjl : j < PL
        · have hjp : j < ps.length := by have := HPL.out; omega
          obtain ⟨B, O, rfl, hBl, hcc⟩ := SP.out (by omega)
          obtain ⟨q1, q2⟩ := hcc j hjp
          have q1' : wo.cell? ⟨B, O + j * 2, none⟩ = some _ := HC.out.cell q1 (HD.out (by omega) B O rfl)
          have q2' : wo.cell? ⟨B, O + j * 2 + 1, none⟩ = some _ := HC.out.cell q2 (HD.out (by omega) B O rfl)
          obtain ⟨o1, o2⟩ := PK.out _ (pk_mem hjp)
          have NS := named_succ m ps j k hjp
          obtain ⟨x, hx⟩ : ∃ x, x = (ps.getD j (0, 0)).1 := ⟨_, rfl⟩
          obtain ⟨y, hy⟩ : ∃ y, y = (ps.getD j (0, 0)).2 := ⟨_, rfl⟩
          rw [← hx] at q1' NS o1
          rw [← hy] at q2' NS o2
          obtain ⟨wn, hwn⟩ : ∃ wn, wn = wo.drewN n := ⟨_, rfl⟩
          rw [← hwn]
          have q1n : wn.cell? ⟨B, O + j * 2, none⟩ = some (.int .i64 x) := by rw [hwn]; exact q1'
          have q2n : wn.cell? ⟨B, O + j * 2 + 1, none⟩ = some (.int .i64 y) := by rw [hwn]; exact q2'
          have AT := Lib.hid (fun v => eAt p g (m.crTo ps k) x y (wn.drewN v) (by rw [hwn]; exact (HR.out.drewN n).drewN v) o1 o2)
          have HWN := Lib.hid (show ∀ v, ∃ n', wn.drewN v = wo.drewN n' from fun v => by rw [hwn]; exact drewN2 wo n v)
          have HNS := Lib.hid NS
          have j0 : (0 : Int) ≤ (j : Int) := by omega
          have j1 : (j : Int) < (PL : Int) := by omega
          clear q1 q2 hcc hx hy NS o1 o2 q1' q2' hwn
          cases kb with
          | true =>
            have HB2 := Lib.hid (show true = (!wt || m.named (ps.take (j + 1)) k) by rw [HNS.out, ← Bool.or_assoc, ← HB.out]; rfl)
            go_wp2_with fail
            go_quiet (fail)
            obtain ⟨n', hn'⟩ := HWN.out nq
            rw [hn']
            go_wp2_with fail
            go_roundw
            case rel => exact ⟨j + 1, n', true, by omega, by go_num, rfl, HB2, rfl⟩
            case measure => simp [intOf]; omega
          | false =>
            have HB2 := Lib.hid (show (m.atI x y == (k : Int)) = (!wt || m.named (ps.take (j + 1)) k) by rw [HNS.out, ← Bool.or_assoc, ← HB.out, Bool.false_or, Bool.eq_iff_iff, beq_iff_eq, decide_eq_true_eq])
            go_wp2_with fail
            go_quiet (first | (go_at_call 39; exact Calls.quiet_of_same ((AT.out _).mono fun _ _ hh => ⟨hh.1, hh.2.symm⟩)))
            obtain ⟨n', hn'⟩ := HWN.out nq
            rw [hn']
            go_wp2_with fail
            go_roundw
            case rel => exact ⟨j + 1, n', _, by omega, by go_num, rfl, HB2, rfl⟩
            case measure => simp [intOf]; omega
        · have hje : j = PL := by omega
          have HB2 := Lib.hid (show kb = (!(m.secAt k).wet || m.named ps k) by rw [HB.out, hje, HPL.out, List.take_length, HWT.out])
          have HPUT := crTo_put (m := m) (ps := ps) hkl
          rw [← HB2.out] at HPUT
          obtain ⟨wn, hwn⟩ : ∃ wn, wn = wo.drewN n := ⟨_, rfl⟩
          rw [← hwn]
          have RN : RefE wn p g (m.crTo ps k) := by rw [hwn]; exact HR.out.drewN n
          have HCN := Lib.hid (show Chg (fun k => k = p ∨ k = g) w wn by rw [hwn]; exact HC.out.drewN n)
          have e3 := RN.p3
          rw [crTo_len, ← HLL.out] at e3
          have s0 := RN.s0 hkd
          have s1 := RN.s1 hkd
          rw [crTo_at hkl] at s0 s1
          have f0 := RN.b.frozen (k * 3)
          have f1 := RN.b.frozen (k * 3 + 1)
          have s2n := RN.s2 hkd
          have f2 := RN.b.frozen (k * 3 + 2)
          obtain ⟨dr, hdr⟩ : ∃ dr, dr = (m.secAt k).dry := ⟨_, rfl⟩
          obtain ⟨nw, hnw⟩ : ∃ nw, nw = (m.secAt k).now := ⟨_, rfl⟩
          have HP := Lib.hid HPUT
          clear hwn HPUT hje
          cases kb with
          | true =>
            have H1 := RN.put hkd (j := 0) (by omega) (.string nw) ⟨nw, nw, wt⟩ (by rw [crTo_at hkl, HWT.out, hnw]; rfl)
            rw [Nat.add_zero] at H1
            have g3 := H1.p3
            rw [put_len, crTo_len, ← HLL.out] at g3
            have t0 := H1.s0 (i := k) (by rw [put_len]; exact hkd)
            have t1 := H1.s1 (i := k) (by rw [put_len]; exact hkd)
            rw [put_at _ hkd] at t0 t1
            have u1 := H1.b.frozen (k * 3 + 1)
            have H2 := H1.put (i := k) (by rw [put_len]; exact hkd) (j := 1) (by omega) (.string nw) ⟨nw, nw, wt⟩ (by rw [put_at _ hkd]; rfl)
            rw [put_put] at H2
            have i3 := H2.p3
            rw [put_len, crTo_len, ← HLL.out] at i3
            have v2 := H2.s2 (i := k) (by rw [put_len]; exact hkd)
            have x2 := H2.b.frozen (k * 3 + 2)
            have H3 := Lib.hid (H2.put (i := k) (by rw [put_len]; exact hkd) (j := 2) (by omega) (.bool false) ⟨nw, nw, false⟩ (by rw [put_at _ hkd]; rfl))
            rw [put_put, show (⟨nw, nw, false⟩ : Sec) = Ext.gone (m.secAt k) true by rw [hnw]; rfl, HP.out] at H3
            have HC3 := Lib.hid (((HCN.out.setCell (p := ⟨g, k * 3, none⟩) (.inl (.inr rfl)) (.string nw)).setCell (p := ⟨g, k * 3 + 1, none⟩) (.inl (.inr rfl)) (.string nw)).setCell (p := ⟨g, k * 3 + 2, none⟩) (.inl (.inr rfl)) (.bool false))
            rw [← hnw] at s1
            clear RN H1 H2 hdr hnw hkd
            go_wp2_with fail
            go_region
            go_wp2_with fail
            go_region
            go_wp2_with fail
            go_roundw
            case rel => exact ⟨k + 1, by omega, by go_num, H3.out.drew.drew, HC3.out.drew.drew⟩
            case measure => simp [intOf]; omega
          | false =>
            have H2 := RN.put hkd (j := 1) (by omega) (.string dr) ⟨dr, dr, wt⟩ (by rw [crTo_at hkl, HWT.out, hdr]; rfl)
            have i3 := H2.p3
            rw [put_len, crTo_len, ← HLL.out] at i3
            have v2 := H2.s2 (i := k) (by rw [put_len]; exact hkd)
            have x2 := H2.b.frozen (k * 3 + 2)
            have H3 := Lib.hid (H2.put (i := k) (by rw [put_len]; exact hkd) (j := 2) (by omega) (.bool false) ⟨dr, dr, false⟩ (by rw [put_at _ hkd]; rfl))
            rw [put_put, show (⟨dr, dr, false⟩ : Sec) = Ext.gone (m.secAt k) false by rw [hdr]; rfl, HP.out] at H3
            have HC3 := Lib.hid ((HCN.out.setCell (p := ⟨g, k * 3 + 1, none⟩) (.inl (.inr rfl)) (.string dr)).setCell (p := ⟨g, k * 3 + 2, none⟩) (.inl (.inr rfl)) (.bool false))
            rw [← hdr] at s0
            clear RN H2 hdr hnw hkd
            go_wp2_with fail
            go_region
            go_wp2_with fail
            go_roundw
            case rel => exact ⟨k + 1, by omega, by go_num, H3.out.drew, HC3.out.drew⟩
            case measure => simp [intOf]; omega

end Go.Proofs.YtfodclafkdkjbaaDoor
