/- slices.partitionOrdered at uint64, walked. -/
import Derived.Test.YtodindfchkpecaaSh
import Derived.Deep.Cut
import Derived.Deep.CutRange
import Derived.Deep.CutBlock
import Derived.Deep.DeepCutAuto
namespace Go.Proofs.Ytodindfchkpecaa
open Go.RowKit Go.Sort

/-- what is known of the row while it is parted: left of i all is less than the pivot, right of z nothing is -/
structure PInv (d : Array Int) (a b : Nat) (p : Int) (dk : Array Int) (i : Nat) (z : Int) : Prop where
  perm : PermIn a b d dk
  piv : dk[a]! = p
  lo : ∀ t, a < t → t < i → dk[t]! < p
  hi : ∀ t : Nat, z < t → t < b → ¬ dk[t]! < p

section
variable {d dk : Array Int} {a b i j : Nat} {p z : Int}
theorem PInv.size (h : PInv d a b p dk i z) : dk.size = d.size := h.perm.1
theorem PInv.up (h : PInv d a b p dk i z) (hl : dk[i]! < p) : PInv d a b p dk (i + 1) z :=
  ⟨h.perm, h.piv, fun t h1 h2 => by
    rcases Nat.lt_or_ge t i with c | c
    · exact h.lo t h1 c
    · have : t = i := by omega
      subst this; exact hl, h.hi⟩
theorem PInv.down (h : PInv d a b p dk i (j : Int)) (hl : ¬ dk[j]! < p) : PInv d a b p dk i ((j : Int) - 1) :=
  ⟨h.perm, h.piv, h.lo, fun t h1 h2 => by
    rcases Nat.lt_or_ge j t with c | c
    · exact h.hi t (by omega) h2
    · have : t = j := by omega
      subst this; exact hl⟩
theorem PInv.swap (h : PInv d a b p dk i (j : Int)) (hai : a < i) (hij : i < j) (hjb : j < b) (hb : b ≤ d.size) (h1 : ¬ dk[i]! < p) (h2 : dk[j]! < p) : PInv d a b p (swp dk i j) (i + 1) ((j : Int) - 1) := by
  have hs := h.size
  refine ⟨permIn_trans _ _ _ _ _ h.perm (swp_permIn dk a b i j (by omega) (by omega) (by omega) (by omega) (by omega)), ?_, fun t h3 h4 => ?_, fun t h3 h4 => ?_⟩
  · rw [swp_other dk i j a (by omega) (by omega)]; exact h.piv
  · rcases Nat.lt_or_ge t i with c | c
    · rw [swp_other dk i j t (by omega) (by omega)]; exact h.lo t h3 c
    · have : t = i := by omega
      subst this
      rw [swp_left dk t j (by omega) (by omega)]; exact h2
  · rcases Nat.lt_or_ge j t with c | c
    · rw [swp_other dk i j t (by omega) (by omega)]; exact h.hi t (by omega) h4
    · have : t = j := by omega
      subst this
      rw [swp_right dk i t (by omega)]; exact h1
theorem PInv.start (d : Array Int) (a b pv : Nat) (ha : a ≤ pv) (hp : pv < b) (hb : b ≤ d.size) : PInv d a b (swp d a pv)[a]! (swp d a pv) (a + 1) ((b : Int) - 1) :=
  ⟨swp_permIn d a b a pv (by omega) (by omega) ha hp hb, rfl, fun t h1 h2 => by omega, fun t h1 h2 => by omega⟩
/-- the last exchange puts the pivot between -/
theorem PInv.fin (h : PInv d a b p dk (j + 1) (j : Int)) (haj : a ≤ j) (hjb : j < b) (hb : b ≤ d.size) :
    PermIn a b d (swp dk j a) ∧ (∀ t, a ≤ t → t < j → (swp dk j a)[t]! < (swp dk j a)[j]!) ∧ (∀ t, j < t → t < b → ¬ (swp dk j a)[t]! < (swp dk j a)[j]!) := by
  have hs := h.size
  have hj : (swp dk j a)[j]! = p := by
    rcases Nat.eq_or_lt_of_le haj with c | c
    · subst c; rw [swp_right dk a a (by omega)]; exact h.piv
    · rw [swp_left dk j a (by omega) (by omega)]; exact h.piv
  refine ⟨permIn_trans _ _ _ _ _ h.perm (swp_permIn dk a b j a (by omega) (by omega) (by omega) (by omega) (by omega)), fun t h1 h2 => ?_, fun t h1 h2 => ?_⟩
  · rw [hj]
    rcases Nat.eq_or_lt_of_le h1 with c | c
    · subst c; rw [swp_right dk j a (by omega)]; exact h.lo j (by omega) (by omega)
    · rw [swp_other dk j a t (by omega) (by omega)]; exact h.lo t c (by omega)
  · rw [hj, swp_other dk j a t (by omega) (by omega)]; exact h.hi t (by omega) h2
end

/-- what slices.partitionOrdered leaves -/
def PartPost (g : Nat) (Z : List Value) (a b : Nat) (d : Array Int) (w : World) (e : Ending) (w' : World) : Prop :=
  ∃ (mid : Nat) (q : Bool) (d' : Array Int), e = .returned (.tuple #[.int .i64 mid, .bool q]) ∧ a ≤ mid ∧ mid < b ∧ PermIn a b d d' ∧ (∀ t, a ≤ t → t < mid → d'[t]! < d'[mid]!) ∧ (∀ t, mid < t → t < b → ¬ d'[t]! < d'[mid]!) ∧ Sw w w' g Z d'

set_option maxHeartbeats 4000000 in
set_option maxRecDepth 100000 in
/-- slices.partitionOrdered -/
theorem opartition (g cap : Nat) (Z : List Value) (d : Array Int) (a b pv : Nat) (w : World) (h : Sw w w g Z d) (ha : a ≤ pv) (hp : pv < b) (hb : b ≤ d.size) (hsz : d.size ≤ 1024) :
    Calls Try.prog 60 #[.slice (some ⟨g, 0, none⟩) d.size cap, .int .i64 a, .int .i64 b, .int .i64 pv] w (PartPost g Z a b d w) := by
  have H := Lib.hid h
  have ca := h.cell a (by omega)
  have cp := h.cell pv (by omega)
  have fa := h.frozen a
  have fp := h.frozen pv
  have SW := Lib.hid (h.swap a pv (by omega) (by omega)).drew
  have ST := Lib.hid (PInv.start d a b pv ha hp hb)
  obtain ⟨d0, hd0⟩ : ∃ d0, d0 = swp d a pv := ⟨_, rfl⟩
  obtain ⟨p, hpp⟩ : ∃ p, p = d0[a]! := ⟨_, rfl⟩
  rw [← hd0] at SW ST
  rw [← hpp] at ST
  obtain ⟨x, hx⟩ : ∃ x, d[a]! = x := ⟨_, rfl⟩
  obtain ⟨y, hy⟩ : ∃ y, d[pv]! = y := ⟨_, rfl⟩
  rw [hx, hy] at SW
  rw [hx] at ca
  rw [hy] at cp
  have a0 : a < d.size := by omega
  have p0 : pv < d.size := by omega
  have XY := Lib.hid (show a = pv → x = y from fun e => by rw [← hx, ← hy, e])
  have XY := Lib.hid (show a = pv → x = y from fun e => by rw [← hx, ← hy, e])
  clear h hx hy hd0 hpp
  obtain ⟨z, hz⟩ : ∃ z, z = (b : Int) - 1 := ⟨_, rfl⟩
  have ZE := Lib.hid hz
  rw [← hz] at ST
  have zb : z < b := by omega
  have az : (a : Int) ≤ z := by omega
  have k1 : (a : Int) < d.size := by omega
  have k2 : ((a : Int)).toNat = a := by omega
  have k3 : (0 : Int) ≤ (a : Int) := by omega
  have k4 : (pv : Int) < d.size := by omega
  have k5 : ((pv : Int)).toNat = pv := by omega
  have k6 : (0 : Int) ≤ (pv : Int) := by omega
  clear hz
  go_enter Try.func60, Try.ntmps60
  go_upto_region 1 with fail
  go_cut [] from 12 to 25 (fun wx => Hid (Sw w wx g Z d0))
  case first =>
    by_cases hap : a = pv
    · subst hap
      obtain rfl : x = y := XY.out rfl
      go_region
      go_wp2_with fail
      go_meet
      exact SW.out
    · go_region
      go_wp2_with fail
      go_meet
      exact SW.out
  case rest =>
    have S1 := hcut
    clear hcut ca cp fa fp
    go_upto_block 0 with fail
    rw [← ZE.out]
    go_upto_block 0 with fail
    go_cut [10] from 30 to 45 (fun vi wx => ∃ i : Nat, vi = .int .i64 i ∧ a + 1 ≤ i ∧ (i : Int) ≤ z + 1 ∧ Hid (PInv d a b p d0 i z) ∧ Hid ((i : Int) ≤ z → ¬ d0[i]! < p) ∧ Hid (Sw w wx g Z d0))
    case first =>
      go_wp2_with fail
      go_loopw [10] (fun vi wr => ∃ i : Nat, vi = .int .i64 i ∧ a + 1 ≤ i ∧ (i : Int) ≤ z + 1 ∧ Hid (PInv d a b p d0 i z) ∧ Hid (Sw w wr g Z d0)) (fun vi _ => (z + 1 - intOf vi).toNat)
      case atStart => exact ⟨_, by first | rfl | go_num, Nat.le_refl _, by omega, ST, S1⟩
      case round =>
        obtain ⟨i, rfl, ai, iz, PI2, HW2⟩ := hrel
        have szd := PI2.out.size
        have cA := HW2.out.cell a (by rw [szd]; exact a0)
        rw [PI2.out.piv] at cA
        by_cases hib : (i : Int) ≤ z
        · have cI := HW2.out.cell i (by rw [szd]; omega)
          have UP := Lib.hid (PI2.out.up)
          obtain ⟨u, hu⟩ : ∃ u, d0[i]! = u := ⟨_, rfl⟩
          rw [hu] at cI UP
          have HU := Lib.hid hu
          have T0 : decide ((i : Int) ≤ z) = true := decide_eq_true hib
          have i1 : (i : Int) < d.size := by omega
          have i2 : ((i : Int)).toNat = i := by omega
          have i3 : (0 : Int) ≤ (i : Int) := by omega
          clear hu szd
          by_cases hup : u < p
          · go_wp2_with fail
            go_quiet ((go_at_call 42; exact Calls.quiet_of_same ((cless u p _).mono fun _ _ hh => ⟨hh.1, hh.2.symm⟩)))
            go_wp2
            go_roundw
            case rel => exact ⟨i + 1, by go_num, by omega, by omega, UP.out hup, HW2.out.drewN _⟩
            case measure => simp [intOf]; omega
          · have T9 : decide (u < p) = false := decide_eq_false hup
            go_wp2_with fail
            go_quiet ((go_at_call 42; exact Calls.quiet_of_same ((cless u p _).mono fun _ _ hh => ⟨hh.1, hh.2.symm⟩)))
            go_wp2_with fail
            go_meet
            exact ⟨i, rfl, ai, iz, PI2, fun _ => by rw [HU.out]; exact hup, HW2.out.drewN _⟩
        · have T0 : decide ((i : Int) ≤ z) = false := decide_eq_false hib
          clear szd
          go_wp2_with fail
          go_quiet (fail)
          go_wp2_with fail
          go_meet
          exact ⟨i, rfl, ai, iz, PI2, fun hh => absurd hh (by omega), HW2.out.drewN _⟩
    case rest =>
      obtain ⟨i, rfl, ai, iz, PI, QI, HW⟩ := hcut
      go_upto_block 2 with fail
      go_cut [11] from 46 to 62 (fun vz wx => ∃ z2 : Int, vz = .int .i64 z2 ∧ (i : Int) ≤ z2 + 1 ∧ z2 ≤ z ∧ Hid (PInv d a b p d0 i z2) ∧ Hid (∀ j : Nat, z2 = j → (i : Int) ≤ z2 → d0[j]! < p) ∧ Hid (Sw w wx g Z d0))
      case first =>
        go_wp2_with fail
        go_loopw [11] (fun vz wr => ∃ z2 : Int, vz = .int .i64 z2 ∧ (i : Int) ≤ z2 + 1 ∧ z2 ≤ z ∧ Hid (PInv d a b p d0 i z2) ∧ Hid (Sw w wr g Z d0)) (fun vz _ => (intOf vz + 1 - i).toNat)
        case atStart => exact ⟨z, rfl, iz, Int.le_refl _, PI, HW⟩
        case round =>
          obtain ⟨z2, rfl, iz2, z2z, PI2, HW2⟩ := hrel
          have szd := PI2.out.size
          have cA := HW2.out.cell a (by rw [szd]; exact a0)
          rw [PI2.out.piv] at cA
          by_cases hib : (i : Int) ≤ z2
          · obtain ⟨j, rfl⟩ : ∃ j : Nat, z2 = j := ⟨z2.toNat, by omega⟩
            have cJ := HW2.out.cell j (by rw [szd]; omega)
            have DN := Lib.hid (PI2.out.down)
            obtain ⟨u, hu⟩ : ∃ u, d0[j]! = u := ⟨_, rfl⟩
            rw [hu] at cJ DN
            have HU := Lib.hid hu
            have T0 : decide ((i : Int) ≤ (j : Int)) = true := decide_eq_true hib
            have i1 : (j : Int) < d.size := by omega
            have i2 : ((j : Int)).toNat = j := by omega
            have i3 : (0 : Int) ≤ (j : Int) := by omega
            clear hu szd
            by_cases hup : u < p
            · go_wp2_with fail
              go_quiet ((go_at_call 42; exact Calls.quiet_of_same ((cless u p _).mono fun _ _ hh => ⟨hh.1, hh.2.symm⟩)))
              go_wp2_with fail
              go_meet
              exact ⟨j, rfl, iz2, z2z, PI2, fun j2 e2 _ => by (have : j2 = j := by omega); rw [this, HU.out]; exact hup, HW2.out.drewN _⟩
            · have T9 : decide (u < p) = false := decide_eq_false hup
              go_wp2_with fail
              go_quiet ((go_at_call 42; exact Calls.quiet_of_same ((cless u p _).mono fun _ _ hh => ⟨hh.1, hh.2.symm⟩)))
              go_wp2
              go_roundw
              case rel => exact ⟨(j : Int) - 1, rfl, by omega, by omega, DN.out hup, HW2.out.drewN _⟩
              case measure => simp [intOf]; omega
          · have T0 : decide ((i : Int) ≤ z2) = false := decide_eq_false hib
            clear szd
            go_wp2_with fail
            go_quiet (fail)
            go_wp2_with fail
            go_meet
            exact ⟨z2, rfl, iz2, z2z, PI2, fun _ _ hh => absurd hh (by omega), HW2.out.drewN _⟩
      case rest =>
        obtain ⟨z2, rfl, iz2, z2z, PJ, QJ, HJ⟩ := hcut
        by_cases hij : (i : Int) ≤ z2
        · obtain ⟨j, rfl⟩ : ∃ j : Nat, z2 = j := ⟨z2.toNat, by omega⟩
          have hqi := QI.out (by omega)
          have hqj := QJ.out j rfl hij
          have hlt : i < j := by
            rcases Nat.eq_or_lt_of_le (show i ≤ j by omega) with c | c
            · subst c; exact absurd hqj hqi
            · exact c
          have szd := PJ.out.size
          have PN := Lib.hid (PJ.out.swap (by omega) hlt (by omega) hb hqi hqj)
          have cI := HJ.out.cell i (by rw [szd]; omega)
          have cJ := HJ.out.cell j (by rw [szd]; omega)
          have fI := HJ.out.frozen i
          have fJ := HJ.out.frozen j
          have SX := Lib.hid (HJ.out.swap i j (by rw [szd]; omega) (by rw [szd]; omega)).drew
          obtain ⟨u, hu⟩ : ∃ u, d0[i]! = u := ⟨_, rfl⟩
          obtain ⟨v, hv⟩ : ∃ v, d0[j]! = v := ⟨_, rfl⟩
          rw [hu] at cI SX
          rw [hv] at cJ SX
          have i1 : (i : Int) < d.size := by omega
          have i2 : ((i : Int)).toNat = i := by omega
          have i3 : (0 : Int) ≤ (i : Int) := by omega
          have j1 : (j : Int) < d.size := by omega
          have j2 : ((j : Int)).toNat = j := by omega
          have j3 : (0 : Int) ≤ (j : Int) := by omega
          have hne : ¬ i = j := by omega
          clear hu hv szd hqi hqj
          go_wp2_with fail
          go_region
          generalize ((wc.setCell ⟨g, i, none⟩ (.int .u64 v)).setCell ⟨g, j, none⟩ (.int .u64 u)).drew = w5 at SX ⊢
          go_wp2_with fail
          go_loopw [10, 11] (fun vi vz wr => ∃ (i : Nat) (z : Int) (dk : Array Int), vi = .int .i64 i ∧ vz = .int .i64 z ∧ a + 1 ≤ i ∧ (i : Int) ≤ z + 1 ∧ z < b ∧ Hid (PInv d a b p dk i z) ∧ Hid (Sw w wr g Z dk)) (fun _ vz _ => (intOf vz + 1).toNat)
          case atStart => exact ⟨i + 1, (j : Int) - 1, swp d0 i j, by go_num, rfl, by omega, by omega, by omega, PN, SX⟩
          case round =>
            obtain ⟨i0, z, dk, rfl, rfl, ai0, iz0, zb0, PK, HK⟩ := hrel
            clear PI PJ PN QI QJ HJ HW SX i1 i2 i3 j1 j2 j3 hne hlt hij
            go_upto_block 6 with fail
            go_cut [10] from 99 to 152 (fun vi wx => ∃ i : Nat, vi = .int .i64 i ∧ a + 1 ≤ i ∧ (i : Int) ≤ z + 1 ∧ Hid (PInv d a b p dk i z) ∧ Hid ((i : Int) ≤ z → ¬ dk[i]! < p) ∧ Hid (Sw w wx g Z dk))
            case first =>
              go_wp2_with fail
              go_loopw [10] (fun vi wr => ∃ i : Nat, vi = .int .i64 i ∧ a + 1 ≤ i ∧ (i : Int) ≤ z + 1 ∧ Hid (PInv d a b p dk i z) ∧ Hid (Sw w wr g Z dk)) (fun vi _ => (z + 1 - intOf vi).toNat)
              case atStart => exact ⟨_, by first | rfl | go_num, ai0, iz0, PK, HK⟩
              case round =>
                obtain ⟨i, rfl, ai, iz, PI2, HW2⟩ := hrel
                have szd := PI2.out.size
                have cA := HW2.out.cell a (by rw [szd]; exact a0)
                rw [PI2.out.piv] at cA
                by_cases hib : (i : Int) ≤ z
                · have cI := HW2.out.cell i (by rw [szd]; omega)
                  have UP := Lib.hid (PI2.out.up)
                  obtain ⟨u, hu⟩ : ∃ u, dk[i]! = u := ⟨_, rfl⟩
                  rw [hu] at cI UP
                  have HU := Lib.hid hu
                  have T0 : decide ((i : Int) ≤ z) = true := decide_eq_true hib
                  have i1 : (i : Int) < d.size := by omega
                  have i2 : ((i : Int)).toNat = i := by omega
                  have i3 : (0 : Int) ≤ (i : Int) := by omega
                  clear hu szd
                  by_cases hup : u < p
                  · go_wp2_with fail
                    go_quiet ((go_at_call 42; exact Calls.quiet_of_same ((cless u p _).mono fun _ _ hh => ⟨hh.1, hh.2.symm⟩)))
                    go_wp2
                    go_roundw
                    case rel => exact ⟨i + 1, by go_num, by omega, by omega, UP.out hup, HW2.out.drewN _⟩
                    case measure => simp [intOf]; omega
                  · have T9 : decide (u < p) = false := decide_eq_false hup
                    go_wp2_with fail
                    go_quiet ((go_at_call 42; exact Calls.quiet_of_same ((cless u p _).mono fun _ _ hh => ⟨hh.1, hh.2.symm⟩)))
                    go_wp2_with fail
                    go_meet
                    exact ⟨i, rfl, ai, iz, PI2, fun _ => by rw [HU.out]; exact hup, HW2.out.drewN _⟩
                · have T0 : decide ((i : Int) ≤ z) = false := decide_eq_false hib
                  clear szd
                  go_wp2_with fail
                  go_quiet (fail)
                  go_wp2_with fail
                  go_meet
                  exact ⟨i, rfl, ai, iz, PI2, fun hh => absurd hh (by omega), HW2.out.drewN _⟩
            case rest =>
              obtain ⟨i, rfl, ai, iz, PI, QI, HW⟩ := hcut
              go_upto_block 8 with fail
              go_cut [11] from 99 to 152 (fun vz wx => ∃ z2 : Int, vz = .int .i64 z2 ∧ (i : Int) ≤ z2 + 1 ∧ z2 ≤ z ∧ Hid (PInv d a b p dk i z2) ∧ Hid (∀ j : Nat, z2 = j → (i : Int) ≤ z2 → dk[j]! < p) ∧ Hid (Sw w wx g Z dk))
              case first =>
                go_wp2_with fail
                go_loopw [11] (fun vz wr => ∃ z2 : Int, vz = .int .i64 z2 ∧ (i : Int) ≤ z2 + 1 ∧ z2 ≤ z ∧ Hid (PInv d a b p dk i z2) ∧ Hid (Sw w wr g Z dk)) (fun vz _ => (intOf vz + 1 - i).toNat)
                case atStart => exact ⟨z, rfl, iz, Int.le_refl _, PI, HW⟩
                case round =>
                  obtain ⟨z2, rfl, iz2, z2z, PI2, HW2⟩ := hrel
                  have szd := PI2.out.size
                  have cA := HW2.out.cell a (by rw [szd]; exact a0)
                  rw [PI2.out.piv] at cA
                  by_cases hib : (i : Int) ≤ z2
                  · obtain ⟨j, rfl⟩ : ∃ j : Nat, z2 = j := ⟨z2.toNat, by omega⟩
                    have cJ := HW2.out.cell j (by rw [szd]; omega)
                    have DN := Lib.hid (PI2.out.down)
                    obtain ⟨u, hu⟩ : ∃ u, dk[j]! = u := ⟨_, rfl⟩
                    rw [hu] at cJ DN
                    have HU := Lib.hid hu
                    have T0 : decide ((i : Int) ≤ (j : Int)) = true := decide_eq_true hib
                    have i1 : (j : Int) < d.size := by omega
                    have i2 : ((j : Int)).toNat = j := by omega
                    have i3 : (0 : Int) ≤ (j : Int) := by omega
                    clear hu szd
                    by_cases hup : u < p
                    · go_wp2_with fail
                      go_quiet ((go_at_call 42; exact Calls.quiet_of_same ((cless u p _).mono fun _ _ hh => ⟨hh.1, hh.2.symm⟩)))
                      go_wp2_with fail
                      go_meet
                      exact ⟨j, rfl, iz2, z2z, PI2, fun j2 e2 _ => by (have : j2 = j := by omega); rw [this, HU.out]; exact hup, HW2.out.drewN _⟩
                    · have T9 : decide (u < p) = false := decide_eq_false hup
                      go_wp2_with fail
                      go_quiet ((go_at_call 42; exact Calls.quiet_of_same ((cless u p _).mono fun _ _ hh => ⟨hh.1, hh.2.symm⟩)))
                      go_wp2
                      go_roundw
                      case rel => exact ⟨(j : Int) - 1, rfl, by omega, by omega, DN.out hup, HW2.out.drewN _⟩
                      case measure => simp [intOf]; omega
                  · have T0 : decide ((i : Int) ≤ z2) = false := decide_eq_false hib
                    clear szd
                    go_wp2_with fail
                    go_quiet (fail)
                    go_wp2_with fail
                    go_meet
                    exact ⟨z2, rfl, iz2, z2z, PI2, fun _ _ hh => absurd hh (by omega), HW2.out.drewN _⟩
              case rest =>
                obtain ⟨z2, rfl, iz2, z2z, PJ, QJ, HJ⟩ := hcut
                by_cases hij : (i : Int) ≤ z2
                · obtain ⟨j, rfl⟩ : ∃ j : Nat, z2 = j := ⟨z2.toNat, by omega⟩
                  have hqi := QI.out (by omega)
                  have hqj := QJ.out j rfl hij
                  have hlt : i < j := by
                    rcases Nat.eq_or_lt_of_le (show i ≤ j by omega) with c | c
                    · subst c; exact absurd hqj hqi
                    · exact c
                  have szd := PJ.out.size
                  have PN := Lib.hid (PJ.out.swap (by omega) hlt (by omega) hb hqi hqj)
                  have cI := HJ.out.cell i (by rw [szd]; omega)
                  have cJ := HJ.out.cell j (by rw [szd]; omega)
                  have fI := HJ.out.frozen i
                  have fJ := HJ.out.frozen j
                  have SX := Lib.hid (HJ.out.swap i j (by rw [szd]; omega) (by rw [szd]; omega)).drew
                  obtain ⟨u, hu⟩ : ∃ u, dk[i]! = u := ⟨_, rfl⟩
                  obtain ⟨v, hv⟩ : ∃ v, dk[j]! = v := ⟨_, rfl⟩
                  rw [hu] at cI SX
                  rw [hv] at cJ SX
                  have i1 : (i : Int) < d.size := by omega
                  have i2 : ((i : Int)).toNat = i := by omega
                  have i3 : (0 : Int) ≤ (i : Int) := by omega
                  have j1 : (j : Int) < d.size := by omega
                  have j2 : ((j : Int)).toNat = j := by omega
                  have j3 : (0 : Int) ≤ (j : Int) := by omega
                  have hne : ¬ i = j := by omega
                  clear hu hv szd hqi hqj
                  go_wp2_with fail
                  go_region
                  go_wp2
                  go_roundw
                  case rel => exact ⟨i + 1, (j : Int) - 1, swp dk i j, by go_num, rfl, by omega, by omega, by omega, PN, SX⟩
                  case measure => simp [intOf]; omega
                · obtain ⟨j, rfl⟩ : ∃ j : Nat, z2 = j := ⟨z2.toNat, by omega⟩
                  obtain rfl : i = j + 1 := by omega
                  have szd := PJ.out.size
                  have FN := Lib.hid (PJ.out.fin (by omega) (by omega) hb)
                  have cA := HJ.out.cell a (by rw [szd]; exact a0)
                  have cJ := HJ.out.cell j (by rw [szd]; omega)
                  have fA := HJ.out.frozen a
                  have fJ := HJ.out.frozen j
                  have SX := Lib.hid (HJ.out.swap j a (by rw [szd]; omega) (by rw [szd]; exact a0)).drew
                  obtain ⟨u, hu⟩ : ∃ u, dk[j]! = u := ⟨_, rfl⟩
                  obtain ⟨v, hv⟩ : ∃ v, dk[a]! = v := ⟨_, rfl⟩
                  rw [hu] at cJ SX
                  rw [hv] at cA SX
                  have i1 : (j : Int) < d.size := by omega
                  have i2 : ((j : Int)).toNat = j := by omega
                  have i3 : (0 : Int) ≤ (j : Int) := by omega
                  have haj : a ≤ j := by omega
                  have hjb : j < b := by omega
                  by_cases hja : j = a
                  · subst hja
                    obtain rfl : u = v := by rw [← hu, ← hv]
                    clear hu hv szd
                    go_wp2_with fail
                    go_region
                    go_wp2
                    go_ret2
                    exact ⟨j, false, swp dk j j, rfl, haj, hjb, FN.out.1, FN.out.2.1, (fun t h1 h2 => by have := FN.out.2.2 t h1 h2; omega), SX.out⟩
                  · clear hu hv szd
                    go_wp2_with fail
                    go_region
                    go_wp2
                    go_ret2
                    exact ⟨j, false, swp dk j a, rfl, haj, hjb, FN.out.1, FN.out.2.1, (fun t h1 h2 => by have := FN.out.2.2 t h1 h2; omega), SX.out⟩

        · obtain ⟨j, rfl⟩ : ∃ j : Nat, z2 = j := ⟨z2.toNat, by omega⟩
          obtain rfl : i = j + 1 := by omega
          have szd := PJ.out.size
          have FN := Lib.hid (PJ.out.fin (by omega) (by omega) hb)
          have cA := HJ.out.cell a (by rw [szd]; exact a0)
          have cJ := HJ.out.cell j (by rw [szd]; omega)
          have fA := HJ.out.frozen a
          have fJ := HJ.out.frozen j
          have SX := Lib.hid (HJ.out.swap j a (by rw [szd]; omega) (by rw [szd]; exact a0)).drew
          obtain ⟨u, hu⟩ : ∃ u, d0[j]! = u := ⟨_, rfl⟩
          obtain ⟨v, hv⟩ : ∃ v, d0[a]! = v := ⟨_, rfl⟩
          rw [hu] at cJ SX
          rw [hv] at cA SX
          have i1 : (j : Int) < d.size := by omega
          have i2 : ((j : Int)).toNat = j := by omega
          have i3 : (0 : Int) ≤ (j : Int) := by omega
          have haj : a ≤ j := by omega
          have hjb : j < b := by omega
          by_cases hja : j = a
          · subst hja
            obtain rfl : u = v := by rw [← hu, ← hv]
            clear hu hv szd
            go_wp2_with fail
            go_region
            go_wp2
            go_ret2
            exact ⟨j, true, swp d0 j j, rfl, haj, hjb, FN.out.1, FN.out.2.1, (fun t h1 h2 => by have := FN.out.2.2 t h1 h2; omega), SX.out⟩
          · clear hu hv szd
            go_wp2_with fail
            go_region
            go_wp2
            go_ret2
            exact ⟨j, true, swp d0 j a, rfl, haj, hjb, FN.out.1, FN.out.2.1, (fun t h1 h2 => by have := FN.out.2.2 t h1 h2; omega), SX.out⟩

end Go.Proofs.Ytodindfchkpecaa
