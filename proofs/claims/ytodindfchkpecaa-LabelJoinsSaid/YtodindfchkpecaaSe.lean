/- slices.partitionEqualOrdered at uint64, walked. -/
import Derived.Test.YtodindfchkpecaaSp
namespace Go.Proofs.Ytodindfchkpecaa
open Go.RowKit Go.Sort

/-- what is known of the row while it is parted: left of i nothing is greater than the pivot, right of z all is -/
structure EInv (d : Array Int) (a b : Nat) (p : Int) (dk : Array Int) (i : Nat) (z : Int) : Prop where
  perm : PermIn a b d dk
  piv : dk[a]! = p
  lo : ∀ t, a ≤ t → t < i → ¬ p < dk[t]!
  hi : ∀ t : Nat, z < t → t < b → p < dk[t]!

section
variable {d dk : Array Int} {a b i j : Nat} {p z : Int}
theorem EInv.size (h : EInv d a b p dk i z) : dk.size = d.size := h.perm.1
theorem EInv.up (h : EInv d a b p dk i z) (hl : ¬ p < dk[i]!) : EInv d a b p dk (i + 1) z :=
  ⟨h.perm, h.piv, fun t h1 h2 => by
    rcases Nat.lt_or_ge t i with c | c
    · exact h.lo t h1 c
    · have : t = i := by omega
      subst this; exact hl, h.hi⟩
theorem EInv.down (h : EInv d a b p dk i (j : Int)) (hl : p < dk[j]!) : EInv d a b p dk i ((j : Int) - 1) :=
  ⟨h.perm, h.piv, h.lo, fun t h1 h2 => by
    rcases Nat.lt_or_ge j t with c | c
    · exact h.hi t (by omega) h2
    · have : t = j := by omega
      subst this; exact hl⟩
theorem EInv.swap (h : EInv d a b p dk i (j : Int)) (hai : a < i) (hij : i < j) (hjb : j < b) (hb : b ≤ d.size) (h1 : p < dk[i]!) (h2 : ¬ p < dk[j]!) : EInv d a b p (swp dk i j) (i + 1) ((j : Int) - 1) := by
  have hs := h.size
  refine ⟨permIn_trans _ _ _ _ _ h.perm (swp_permIn dk a b i j (by omega) (by omega) (by omega) (by omega) (by omega)), ?_, fun t h3 h4 => ?_, fun t h3 h4 => ?_⟩
  · rw [swp_other dk i j a (by omega) (by omega)]; exact h.piv
  · rcases Nat.lt_or_ge t i with c | c
    · rw [swp_other dk i j t (by omega) (by omega)]; exact h.lo t h3 c
    · have : t = i := by omega
      subst this
      rw [swp_left dk t j (by omega) (by omega)]; exact h2
  · rcases Nat.lt_or_ge j t with c | c
    · rw [swp_other dk i j t (by omega) (by omega)]; exact h.hi t (by omega) h4
    · have : t = j := by omega
      subst this
      rw [swp_right dk i t (by omega)]; exact h1
theorem EInv.start (d : Array Int) (a b pv : Nat) (ha : a ≤ pv) (hp : pv < b) (hb : b ≤ d.size) : EInv d a b d[pv]! (swp d a pv) (a + 1) ((b : Int) - 1) := by
  have e : (swp d a pv)[a]! = d[pv]! := by
    rcases Nat.eq_or_lt_of_le ha with c | c
    · subst c; rw [swp_right d a a (by omega)]
    · rw [swp_left d a pv (by omega) (by omega)]
  refine ⟨swp_permIn d a b a pv (by omega) (by omega) ha hp hb, e, fun t h1 h2 => ?_, fun t h1 h2 => by omega⟩
  have : t = a := by omega
  subst this; rw [e]; omega
end

/-- what slices.partitionEqualOrdered leaves -/
def PeqPost (g : Nat) (Z : List Value) (a b pv : Nat) (d : Array Int) (w : World) (e : Ending) (w' : World) : Prop :=
  ∃ (mid : Nat) (d' : Array Int), e = .returned (.int .i64 mid) ∧ a < mid ∧ mid ≤ b ∧ PermIn a b d d' ∧ (∀ t, a ≤ t → t < mid → ¬ d[pv]! < d'[t]!) ∧ (∀ t, mid ≤ t → t < b → d[pv]! < d'[t]!) ∧ Sw w w' g Z d'

set_option maxHeartbeats 4000000 in
set_option maxRecDepth 100000 in
/-- slices.partitionEqualOrdered -/
theorem opartEq (g cap : Nat) (Z : List Value) (d : Array Int) (a b pv : Nat) (w : World) (h : Sw w w g Z d) (ha : a ≤ pv) (hp : pv < b) (hb : b ≤ d.size) (hsz : d.size ≤ 1024) :
    Calls Try.prog 59 #[.slice (some ⟨g, 0, none⟩) d.size cap, .int .i64 a, .int .i64 b, .int .i64 pv] w (PeqPost g Z a b pv d w) := by
  have ca := h.cell a (by omega)
  have cp := h.cell pv (by omega)
  have fa := h.frozen a
  have fp := h.frozen pv
  have SW := Lib.hid (h.swap a pv (by omega) (by omega)).drew
  have ST := Lib.hid (EInv.start d a b pv ha hp hb)
  obtain ⟨d0, hd0⟩ : ∃ d0, d0 = swp d a pv := ⟨_, rfl⟩
  rw [← hd0] at SW ST
  obtain ⟨x, hx⟩ : ∃ x, d[a]! = x := ⟨_, rfl⟩
  obtain ⟨p, hy⟩ : ∃ y, d[pv]! = y := ⟨_, rfl⟩
  rw [hx, hy] at SW
  rw [hy] at ST
  rw [hx] at ca
  rw [hy] at cp
  have PV := Lib.hid hy
  have a0 : a < d.size := by omega
  have p0 : pv < d.size := by omega
  have XY := Lib.hid (show a = pv → x = p from fun e => by rw [← hx, ← hy, e])
  have k1 : (a : Int) < d.size := by omega
  have k2 : ((a : Int)).toNat = a := by omega
  have k3 : (0 : Int) ≤ (a : Int) := by omega
  have k4 : (pv : Int) < d.size := by omega
  have k5 : ((pv : Int)).toNat = pv := by omega
  have k6 : (0 : Int) ≤ (pv : Int) := by omega
  clear h hx hy hd0
  go_enter Try.func59, Try.ntmps59
  go_upto_region 1 with fail
  go_cut [] from 11 to 24 (fun wx => Hid (Sw w wx g Z d0))
  case first =>
    by_cases hap : a = pv
    · subst hap
      obtain rfl : x = p := XY.out rfl
      go_region
      go_wp2_with fail
      go_meet
      exact SW.out
    · go_region
      go_wp2_with fail
      go_meet
      exact SW.out
  case rest =>
    have S1 := hcut
    clear hcut ca cp fa fp
    go_wp2_with fail
    go_loopw [9, 10] (fun vi vz wr => ∃ (i : Nat) (z : Int) (dk : Array Int), vi = .int .i64 i ∧ vz = .int .i64 z ∧ a + 1 ≤ i ∧ (i : Int) ≤ z + 1 ∧ z < b ∧ Hid (EInv d a b p dk i z) ∧ Hid (Sw w wr g Z dk)) (fun _ vz _ => (intOf vz + 1).toNat)
    case atStart => exact ⟨a + 1, (b : Int) - 1, d0, by go_num, rfl, Nat.le_refl _, by omega, by omega, ST, S1⟩
    case round =>
      obtain ⟨i0, z, dk, rfl, rfl, ai0, iz0, zb0, PK, HK⟩ := hrel
      go_upto_block 2 with fail
      go_cut [9] from 29 to 82 (fun vi wx => ∃ i : Nat, vi = .int .i64 i ∧ a + 1 ≤ i ∧ (i : Int) ≤ z + 1 ∧ Hid (EInv d a b p dk i z) ∧ Hid ((i : Int) ≤ z → p < dk[i]!) ∧ Hid (Sw w wx g Z dk))
      case first =>
        go_wp2_with fail
        go_loopw [9] (fun vi wr => ∃ i : Nat, vi = .int .i64 i ∧ a + 1 ≤ i ∧ (i : Int) ≤ z + 1 ∧ Hid (EInv d a b p dk i z) ∧ Hid (Sw w wr g Z dk)) (fun vi _ => (z + 1 - intOf vi).toNat)
        case atStart => exact ⟨i0, rfl, ai0, iz0, PK, HK⟩
        case round =>
          obtain ⟨i, rfl, ai, iz, PI2, HW2⟩ := hrel
          have szd := PI2.out.size
          have cA := HW2.out.cell a (by rw [szd]; exact a0)
          rw [PI2.out.piv] at cA
          by_cases hib : (i : Int) ≤ z
          · have cI := HW2.out.cell i (by rw [szd]; omega)
            have UP := Lib.hid (PI2.out.up)
            obtain ⟨u, hu⟩ : ∃ u, dk[i]! = u := ⟨_, rfl⟩
            rw [hu] at cI UP
            have HU := Lib.hid hu
            have T0 : decide ((i : Int) ≤ z) = true := decide_eq_true hib
            have i1 : (i : Int) < d.size := by omega
            have i2 : ((i : Int)).toNat = i := by omega
            have i3 : (0 : Int) ≤ (i : Int) := by omega
            clear hu szd
            by_cases hup : p < u
            · go_wp2_with fail
              go_quiet ((go_at_call 42; exact Calls.quiet_of_same ((cless p u _).mono fun _ _ hh => ⟨hh.1, hh.2.symm⟩)))
              go_wp2_with fail
              go_meet
              exact ⟨i, rfl, ai, iz, PI2, fun _ => by rw [HU.out]; exact hup, HW2.out.drewN _⟩
            · have T9 : decide (p < u) = false := decide_eq_false hup
              go_wp2_with fail
              go_quiet ((go_at_call 42; exact Calls.quiet_of_same ((cless p u _).mono fun _ _ hh => ⟨hh.1, hh.2.symm⟩)))
              go_wp2
              go_roundw
              case rel => exact ⟨i + 1, by go_num, by omega, by omega, UP.out hup, HW2.out.drewN _⟩
              case measure => simp [intOf]; omega
          · have T0 : decide ((i : Int) ≤ z) = false := decide_eq_false hib
            clear szd
            go_wp2_with fail
            go_quiet (fail)
            go_wp2_with fail
            go_meet
            exact ⟨i, rfl, ai, iz, PI2, fun hh => absurd hh (by omega), HW2.out.drewN _⟩
      case rest =>
        obtain ⟨i, rfl, ai, iz, PI, QI, HW⟩ := hcut
        go_upto_block 4 with fail
        go_cut [10] from 29 to 82 (fun vz wx => ∃ z2 : Int, vz = .int .i64 z2 ∧ (i : Int) ≤ z2 + 1 ∧ z2 ≤ z ∧ Hid (EInv d a b p dk i z2) ∧ Hid (∀ j : Nat, z2 = j → (i : Int) ≤ z2 → ¬ p < dk[j]!) ∧ Hid (Sw w wx g Z dk))
        case first =>
          go_wp2_with fail
          go_loopw [10] (fun vz wr => ∃ z2 : Int, vz = .int .i64 z2 ∧ (i : Int) ≤ z2 + 1 ∧ z2 ≤ z ∧ Hid (EInv d a b p dk i z2) ∧ Hid (Sw w wr g Z dk)) (fun vz _ => (intOf vz + 1 - i).toNat)
          case atStart => exact ⟨z, rfl, iz, Int.le_refl _, PI, HW⟩
          case round =>
            obtain ⟨z2, rfl, iz2, z2z, PI2, HW2⟩ := hrel
            have szd := PI2.out.size
            have cA := HW2.out.cell a (by rw [szd]; exact a0)
            rw [PI2.out.piv] at cA
            by_cases hib : (i : Int) ≤ z2
            · obtain ⟨j, rfl⟩ : ∃ j : Nat, z2 = j := ⟨z2.toNat, by omega⟩
              have cJ := HW2.out.cell j (by rw [szd]; omega)
              have DN := Lib.hid (PI2.out.down)
              obtain ⟨u, hu⟩ : ∃ u, dk[j]! = u := ⟨_, rfl⟩
              rw [hu] at cJ DN
              have HU := Lib.hid hu
              have T0 : decide ((i : Int) ≤ (j : Int)) = true := decide_eq_true hib
              have i1 : (j : Int) < d.size := by omega
              have i2 : ((j : Int)).toNat = j := by omega
              have i3 : (0 : Int) ≤ (j : Int) := by omega
              clear hu szd
              by_cases hup : p < u
              · go_wp2_with fail
                go_quiet ((go_at_call 42; exact Calls.quiet_of_same ((cless p u _).mono fun _ _ hh => ⟨hh.1, hh.2.symm⟩)))
                go_wp2
                go_roundw
                case rel => exact ⟨(j : Int) - 1, rfl, by omega, by omega, DN.out hup, HW2.out.drewN _⟩
                case measure => simp [intOf]; omega
              · have T9 : decide (p < u) = false := decide_eq_false hup
                go_wp2_with fail
                go_quiet ((go_at_call 42; exact Calls.quiet_of_same ((cless p u _).mono fun _ _ hh => ⟨hh.1, hh.2.symm⟩)))
                go_wp2_with fail
                go_meet
                exact ⟨j, rfl, iz2, z2z, PI2, fun j2 e2 _ => by (have : j2 = j := by omega); rw [this, HU.out]; exact hup, HW2.out.drewN _⟩
            · have T0 : decide ((i : Int) ≤ z2) = false := decide_eq_false hib
              clear szd
              go_wp2_with fail
              go_quiet (fail)
              go_wp2_with fail
              go_meet
              exact ⟨z2, rfl, iz2, z2z, PI2, fun _ _ hh => absurd hh (by omega), HW2.out.drewN _⟩
        case rest =>
          obtain ⟨z2, rfl, iz2, z2z, PJ, QJ, HJ⟩ := hcut
          by_cases hij : (i : Int) ≤ z2
          · obtain ⟨j, rfl⟩ : ∃ j : Nat, z2 = j := ⟨z2.toNat, by omega⟩
            have hqi := QI.out (by omega)
            have hqj := QJ.out j rfl hij
            have hlt : i < j := by
              rcases Nat.eq_or_lt_of_le (show i ≤ j by omega) with c | c
              · subst c; exact absurd hqi hqj
              · exact c
            have szd := PJ.out.size
            have PN := Lib.hid (PJ.out.swap (by omega) hlt (by omega) hb hqi hqj)
            have cI := HJ.out.cell i (by rw [szd]; omega)
            have cJ := HJ.out.cell j (by rw [szd]; omega)
            have fI := HJ.out.frozen i
            have fJ := HJ.out.frozen j
            have SX := Lib.hid (HJ.out.swap i j (by rw [szd]; omega) (by rw [szd]; omega)).drew
            obtain ⟨u, hu⟩ : ∃ u, dk[i]! = u := ⟨_, rfl⟩
            obtain ⟨v, hv⟩ : ∃ v, dk[j]! = v := ⟨_, rfl⟩
            rw [hu] at cI SX
            rw [hv] at cJ SX
            have i1 : (i : Int) < d.size := by omega
            have i2 : ((i : Int)).toNat = i := by omega
            have i3 : (0 : Int) ≤ (i : Int) := by omega
            have j1 : (j : Int) < d.size := by omega
            have j2 : ((j : Int)).toNat = j := by omega
            have j3 : (0 : Int) ≤ (j : Int) := by omega
            have hne : ¬ i = j := by omega
            clear hu hv szd hqi hqj
            go_wp2_with fail
            go_region
            go_wp2
            go_roundw
            case rel => exact ⟨i + 1, (j : Int) - 1, swp dk i j, by go_num, rfl, by omega, by omega, by omega, PN, SX⟩
            case measure => simp [intOf]; omega
          · have LOH := PJ.out.lo
            have HIH := PJ.out.hi
            have PMH := PJ.out.perm
            have ib : i ≤ b := by omega
            have LO := Lib.hid LOH
            have HI := Lib.hid (show ∀ t, i ≤ t → t < b → p < dk[t]! from fun t h1 h2 => HIH t (by omega) h2)
            have PM := Lib.hid PMH
            clear LOH HIH PMH
            go_wp2
            go_ret
            refine ⟨i, dk, rfl, by omega, ib, PM.out, fun t h1 h2 => ?_, fun t h1 h2 => ?_, HJ.out⟩
            · rw [PV.out]; exact fun hh => absurd hh (by have := LO.out t h1 h2; omega)
            · rw [PV.out]; exact HI.out t h1 h2

end Go.Proofs.Ytodindfchkpecaa
