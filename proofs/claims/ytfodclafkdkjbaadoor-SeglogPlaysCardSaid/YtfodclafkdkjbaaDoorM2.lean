/- Proved parts: E5s. Conditions: each theorem's own. -/
import Derived.Test.YtfodclafkdkjbaaDoorM1
import Derived.RegionTactic
import Derived.BigRegion
import Derived.ChangeAlike
namespace Go.Proofs.YtfodclafkdkjbaaDoor
open Go.RowKit

theorem RefE.drew {w : World} {p g : Nat} {m : Ext} (h : RefE w p g m) : RefE w.drew p g m := ⟨h.ne, h.a, h.b, h.ok⟩
theorem RefE.drewN {w : World} {p g : Nat} {m : Ext} (h : RefE w p g m) (n : Nat) : RefE (w.drewN n) p g m := ⟨h.ne, h.a, h.b, h.ok⟩
theorem pos_end {m : Ext} {e : Int} (ho : m.Ok) (h : m.has e 0) : m.pos e 0 + m.sec ≤ m.l.length := by
  obtain ⟨h0, h1, h2, h3⟩ := h
  rw [ho.2.2.2.2]
  unfold Ext.pos
  have h4 : e.toNat + 1 ≤ m.ext := by omega
  have h5 := Nat.mul_le_mul_right m.sec h4
  rw [Nat.add_mul] at h5
  omega
/-- the extent's sectors below k are dry -/
def Ext.dryTo (m : Ext) (i k : Nat) : Ext := { m with l := Ext.dried m.l i k }
theorem dryTo_at {m : Ext} {i k : Nat} (hk : k < m.l.length) : (m.dryTo i k).secAt k = m.secAt k := by
  rw [secAt_eq m hk, secAt_eq (m.dryTo i k) (by show k < (Ext.dried _ _ _).length; rw [Ext.dried_len]; exact hk)]
  exact Ext.dried_at _ _ _ hk
theorem dryTo_put {m : Ext} {i k : Nat} (hi : i ≤ k) (hk : k < m.l.length) : (m.dryTo i k).put k ⟨(m.secAt k).now, (m.secAt k).now, false⟩ = m.dryTo i (k + 1) := by
  unfold Ext.put Ext.dryTo
  rw [secAt_eq m hk]
  simp only
  rw [Ext.dried_step _ _ _ hi hk]
theorem dryTo_len (m : Ext) (i k : Nat) : (m.dryTo i k).l.length = m.l.length := Ext.dried_len _ _ _

set_option maxRecDepth 100000 in
set_option maxHeartbeats 2000000 in
/-- cloisonneref05.World.Flush -/
theorem eFlush (p g : Nat) (m : Ext) (e : Int) (w : World) (h : RefE w p g m) (he : In64 e) :
    Calls Tryd.prog 55 #[.pointer (some ⟨p, 0, none⟩), .int .i64 e] w (RefPost p g w (m.flush e)) := by
  have c0 := h.p0
  have AT := Lib.hid (eAt p g m e 0 w h he ⟨by omega, by omega⟩)
  have H := Lib.hid h
  have ll := Ext.len_le h.ok
  clear h he
  cases hoff : m.off with
  | true =>
    have R := Lib.hid (show m.flush e = (m, 6) by unfold Ext.flush; rw [hoff]; rfl)
    rw [hoff] at c0
    go_enter Tryd.func55, Tryd.ntmps55
    go_wp2_with fail
    go_ret
    exact RefPost.same H.out R.out
  | false =>
    rw [hoff] at c0
    by_cases hh : m.has e 0
    case neg =>
      have R := Lib.hid (show m.flush e = (m, 1) by unfold Ext.flush; rw [hoff, if_neg hh]; rfl)
      have AV := Lib.hid (atI_no hh)
      clear hoff hh
      go_enter Tryd.func55, Tryd.ntmps55
      go_wp2_with fail
      refine AT.out.mono ?_
      rintro x w' ⟨rfl, rfl⟩
      rw [AV.out]
      go_wp2_with fail
      go_ret
      exact RefPost.same H.out R.out
    have AV := Lib.hid (atI_has hh)
    have hend := pos_end H.out.ok hh
    have R := Lib.hid (show m.flush e = (m.dryTo (m.pos e 0) (m.pos e 0 + m.sec), 0) by unfold Ext.flush Ext.dryTo; rw [if_neg (by rw [hoff]; simp), if_pos hh])
    obtain ⟨i, hi2⟩ : ∃ i, i = m.pos e 0 := ⟨_, rfl⟩
    obtain ⟨S, hS⟩ : ∃ S, S = m.sec := ⟨_, rfl⟩
    obtain ⟨LL, hLL⟩ : ∃ LL, LL = m.l.length := ⟨_, rfl⟩
    rw [← hi2, ← hS] at R
    rw [← hi2] at AV
    rw [← hi2, ← hS, ← hLL] at hend
    rw [← hLL] at ll
    have HS := Lib.hid hS
    have HLL := Lib.hid hLL
    have HOF := Lib.hid hoff
    clear hi2 hoff hh hS hLL
    go_enter Tryd.func55, Tryd.ntmps55
    go_wp2_with fail
    refine AT.out.mono ?_
    rintro x w' ⟨rfl, rfl⟩
    rw [AV.out]
    go_wp2_with fail
    go_loopw [6] (fun vk wr => ∃ k : Nat, i ≤ k ∧ k ≤ i + S ∧ vk = .int .i64 k ∧ Hid (RefE wr p g (m.dryTo i k)) ∧ Hid (Chg (fun k => k = p ∨ k = g) w wr)) (fun vk _ => ((i : Int) + S - intOf vk).toNat)
    case atStart => exact ⟨i, Nat.le_refl _, by omega, rfl, Lib.hid (by have e := Ext.dried_none m.l i; unfold Ext.dryTo; rw [e]; exact H.out), Chg.refl _ _⟩
    case round =>
      obtain ⟨k, hk1, hk2, rfl, HR, HC⟩ := hrel
      have d2 := HR.out.p2
      rw [show ((m.dryTo i k).sec : Int) = (S : Int) by rw [HS.out]; rfl] at d2
      by_cases hlt : k < i + S
      · have hkl : k < m.l.length := by have := HLL.out; omega
        have d3 := HR.out.p3
        rw [dryTo_len, ← HLL.out] at d3
        have hkd : k < (m.dryTo i k).l.length := by rw [dryTo_len]; exact hkl
        have s0 := HR.out.s0 hkd
        have s1 := HR.out.s1 hkd
        have f0 := HR.out.b.frozen (k * 3)
        have H1 := Lib.hid (HR.out.put hkd (j := 0) (by omega) (.string (m.secAt k).now) ⟨(m.secAt k).now, (m.secAt k).now, (m.secAt k).wet⟩ (by rw [dryTo_at hkl]; rfl))
        rw [Nat.add_zero] at H1
        have e3 := H1.out.p3
        rw [put_len, dryTo_len, ← HLL.out] at e3
        have s2 := H1.out.s2 (i := k) (by rw [put_len]; exact hkd)
        have f2 := H1.out.b.frozen (k * 3 + 2)
        have H2 := Lib.hid (H1.out.put (i := k) (by rw [put_len]; exact hkd) (j := 2) (by omega) (.bool false) ⟨(m.secAt k).now, (m.secAt k).now, false⟩ (by rw [put_at _ hkd]; rfl))
        rw [put_put, dryTo_put hk1 hkl] at H2
        have HC2 := Lib.hid ((HC.out.setCell (p := ⟨g, k * 3, none⟩) (.inl (.inr rfl)) (.string (m.secAt k).now)).setCell (p := ⟨g, k * 3 + 2, none⟩) (.inl (.inr rfl)) (.bool false))
        rw [dryTo_at hkl] at s0 s1
        obtain ⟨nw, hnw⟩ : ∃ nw, nw = (m.secAt k).now := ⟨_, rfl⟩
        rw [← hnw] at s1 e3 s2 f2 H2 HC2
        clear hnw hkd
        have k0 : (0 : Int) ≤ (k : Int) := by omega
        have k1 : (k : Int) < (LL : Int) := by omega
        go_wp2_with fail
        go_region
        go_wp2_with fail
        go_roundw
        case rel => exact ⟨k + 1, by omega, by omega, by go_num, H2.out.drew, HC2.out.drew⟩
        case measure => simp [intOf]; omega
      · have hke : k = i + S := by omega
        subst hke
        go_wp2_with fail
        go_ret
        exact ⟨by rw [R.out]; rfl, by rw [R.out]; exact HR.out, HC.out⟩

end Go.Proofs.YtfodclafkdkjbaaDoor
