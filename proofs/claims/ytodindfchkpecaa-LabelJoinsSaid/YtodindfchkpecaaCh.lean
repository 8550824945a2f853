/- slices.choosePivotOrdered and what it calls, at uint64, walked. -/
import Derived.Test.YtodindfchkpecaaSw
namespace Go.Proofs.Ytodindfchkpecaa
open Go.RowKit Go.Sort

/-- the row is as Sw says, and a block of one cell, newer than w0, holds v -/
structure Ct (w0 w : World) (g : Nat) (Z : List Value) (d : Array Int) (s : Nat) (T : TypeId) (v : Value) : Prop where
  sw : Sw w0 w g Z d
  old : w0.heap.size ≤ s
  ne : s ≠ g
  row : w.heap[s]? = some (.cells #[v] T (0, 0))

section
variable {w0 w : World} {g s : Nat} {Z : List Value} {d : Array Int} {T : TypeId} {v : Value}
theorem Ct.cell (h : Ct w0 w g Z d s T v) : w.cell? ⟨s, 0, none⟩ = some v := by
  rw [cell_of_row w s 0 _ T (0, 0) h.row]; rfl
theorem Ct.frozen (h : Ct w0 w g Z d s T v) : w.frozen? ⟨s, 0, none⟩ = false := by simp [World.frozen?, h.row]
theorem Ct.drewN (h : Ct w0 w g Z d s T v) (n : Nat) : Ct w0 (w.drewN n) g Z d s T v := ⟨h.sw.drewN n, h.old, h.ne, h.row⟩
theorem Ct.drew (h : Ct w0 w g Z d s T v) : Ct w0 w.drew g Z d s T v := ⟨h.sw.drew, h.old, h.ne, h.row⟩
theorem Ct.set (h : Ct w0 w g Z d s T v) (u : Value) : Ct w0 (w.setCell ⟨s, 0, none⟩ u) g Z d s T u :=
  ⟨h.sw.far h.old h.ne u, h.old, h.ne, by simp [World.setCell, Array.getElem?_modify, h.row]⟩
theorem Ct.made (h : Sw w0 w g Z d) (T : TypeId) (v : Value) : Ct w0 (w.alloc (.cells #[v] T)) g Z d w.heap.size T v :=
  ⟨h.alloc _, h.grown.size, by have := h.lt; omega, heap_alloc_new w _⟩
end

set_option maxHeartbeats 1000000 in
set_option maxRecDepth 100000 in
/-- slices.order2Ordered -/
theorem oorder2 (g cap : Nat) (Z : List Value) (d : Array Int) (s k : Nat) (T : TypeId) (xi yi : Int) (w0 w : World) (h : Ct w0 w g Z d s T (.int .i64 (k : Int))) (hk : k ≤ 1000) (x0 : 0 ≤ xi) (x1 : xi < d.size) (y0 : 0 ≤ yi) (y1 : yi < d.size) :
    Calls Try.prog 69 #[.slice (some ⟨g, 0, none⟩) d.size cap, .int .i64 xi, .int .i64 yi, .pointer (some ⟨s, 0, none⟩)] w
      fun e w' => ∃ (r1 r2 : Int) (k' : Nat), e = .returned (.tuple #[.int .i64 r1, .int .i64 r2]) ∧ (r1 = xi ∧ r2 = yi ∨ r1 = yi ∧ r2 = xi) ∧ k' ≤ k + 1 ∧ Ct w0 w' g Z d s T (.int .i64 (k' : Int)) := by
  obtain ⟨x, rfl⟩ := Int.eq_ofNat_of_zero_le x0
  obtain ⟨y, rfl⟩ := Int.eq_ofNat_of_zero_le y0
  have cx := h.sw.cell x (by omega)
  have cy := h.sw.cell y (by omega)
  have cs := h.cell
  have fs := h.frozen
  obtain ⟨u, hu⟩ : ∃ u, d[x]! = u := ⟨_, rfl⟩
  obtain ⟨v, hv⟩ : ∃ v, d[y]! = v := ⟨_, rfl⟩
  rw [hu] at cx
  rw [hv] at cy
  have H := Lib.hid h
  have k2 : ((x : Int)).toNat = x := by omega
  have k5 : ((y : Int)).toNat = y := by omega
  clear h hu hv
  go_enter Try.func69, Try.ntmps69
  by_cases hlt : v < u
  · go_wp2_with fail
    go_quiet ((go_at_call 42; exact Calls.quiet_of_same ((cless v u _).mono fun _ _ hh => ⟨hh.1, hh.2.symm⟩)))
    go_wp2_with fail
    go_ret2
    exact ⟨y, x, k + 1, rfl, .inr ⟨rfl, rfl⟩, Nat.le_refl _, (H.out.drewN _).set _⟩
  · have T9 : decide (v < u) = false := decide_eq_false hlt
    go_wp2_with fail
    go_quiet ((go_at_call 42; exact Calls.quiet_of_same ((cless v u _).mono fun _ _ hh => ⟨hh.1, hh.2.symm⟩)))
    go_wp2_with fail
    go_ret2
    exact ⟨x, y, k, rfl, .inl ⟨rfl, rfl⟩, Nat.le_succ _, H.out.drewN _⟩

set_option maxHeartbeats 1000000 in
set_option maxRecDepth 100000 in
/-- slices.medianOrdered -/
theorem omedian (g cap : Nat) (Z : List Value) (d : Array Int) (s k : Nat) (T : TypeId) (lo hi x y z : Int) (w0 w : World) (h : Ct w0 w g Z d s T (.int .i64 (k : Int))) (hk : k ≤ 900) (l0 : 0 ≤ lo) (h0 : hi ≤ d.size) (x0 : lo ≤ x) (x1 : x < hi) (y0 : lo ≤ y) (y1 : y < hi) (z0 : lo ≤ z) (z1 : z < hi) :
    Calls Try.prog 68 #[.slice (some ⟨g, 0, none⟩) d.size cap, .int .i64 x, .int .i64 y, .int .i64 z, .pointer (some ⟨s, 0, none⟩)] w
      fun e w' => ∃ (r : Int) (k' : Nat), e = .returned (.int .i64 r) ∧ lo ≤ r ∧ r < hi ∧ k' ≤ k + 3 ∧ Ct w0 w' g Z d s T (.int .i64 (k' : Int)) := by
  have H := Lib.hid h
  clear h
  go_enter Try.func68, Try.ntmps68
  go_wp2_with fail
  refine (oorder2 g cap Z d s k T x y w0 _ H.out (by omega) (by omega) (by omega) (by omega) (by omega)).mono ?_
  rintro e w1 ⟨r1, r2, k1, rfl, hr, hk1, hc⟩
  have H1 := Lib.hid hc
  have a0 : lo ≤ r1 ∧ r1 < hi ∧ lo ≤ r2 ∧ r2 < hi := by omega
  obtain ⟨a0, a1, a2, a3⟩ := a0
  clear hc hr
  go_wp2_with fail
  refine (oorder2 g cap Z d s k1 T r2 z w0 _ H1.out (by omega) (by omega) (by omega) (by omega) (by omega)).mono ?_
  rintro e w2 ⟨r3, r4, k2, rfl, hr, hk2, hc⟩
  have H2 := Lib.hid hc
  have b0 : lo ≤ r3 ∧ r3 < hi ∧ lo ≤ r4 ∧ r4 < hi := by omega
  obtain ⟨b0, b1, b2, b3⟩ := b0
  clear hc hr
  go_wp2_with fail
  refine (oorder2 g cap Z d s k2 T r1 r3 w0 _ H2.out (by omega) (by omega) (by omega) (by omega) (by omega)).mono ?_
  rintro e w3 ⟨r5, r6, k3, rfl, hr, hk3, hc⟩
  have H3 := Lib.hid hc
  have c0 : lo ≤ r6 ∧ r6 < hi := by omega
  obtain ⟨c0, c1⟩ := c0
  clear hc hr
  go_wp2_with fail
  go_ret
  exact ⟨r6, k3, rfl, c0, c1, by omega, H3.out⟩

set_option maxHeartbeats 1000000 in
set_option maxRecDepth 100000 in
/-- slices.medianAdjacentOrdered -/
theorem oadjacent (g cap : Nat) (Z : List Value) (d : Array Int) (s k : Nat) (T : TypeId) (lo hi x : Int) (w0 w : World) (h : Ct w0 w g Z d s T (.int .i64 (k : Int))) (hk : k ≤ 900) (l0 : 0 ≤ lo) (h0 : hi ≤ d.size) (x0 : lo ≤ x - 1) (x1 : x + 1 < hi) (hsz : d.size ≤ 1024) :
    Calls Try.prog 67 #[.slice (some ⟨g, 0, none⟩) d.size cap, .int .i64 x, .pointer (some ⟨s, 0, none⟩)] w
      fun e w' => ∃ (r : Int) (k' : Nat), e = .returned (.int .i64 r) ∧ lo ≤ r ∧ r < hi ∧ k' ≤ k + 3 ∧ Ct w0 w' g Z d s T (.int .i64 (k' : Int)) := by
  have H := Lib.hid h
  clear h
  go_enter Try.func67, Try.ntmps67
  go_wp2_with fail
  refine (omedian g cap Z d s k T lo hi (x - 1) x (x + 1) w0 _ H.out (by omega) l0 h0 x0 (by omega) (by omega) (by omega) (by omega) x1).mono ?_
  rintro e w1 ⟨r, k1, rfl, r0, r1, hk1, hc⟩
  have H1 := Lib.hid hc
  clear hc
  go_wp2_with fail
  go_ret
  exact ⟨r, k1, rfl, r0, r1, hk1, H1.out⟩

set_option maxHeartbeats 2000000 in
set_option maxRecDepth 100000 in
/-- slices.choosePivotOrdered, of more than twelve places -/
theorem ochoose (g cap : Nat) (Z : List Value) (d : Array Int) (a b : Nat) (w : World) (h : Sw w w g Z d) (hab : a + 12 < b) (hb : b ≤ d.size) (hsz : d.size ≤ 1024) :
    Calls Try.prog 56 #[.slice (some ⟨g, 0, none⟩) d.size cap, .int .i64 a, .int .i64 b] w
      fun e w' => ∃ (p : Nat) (t : Int), e = .returned (.tuple #[.int .i64 p, .int .i64 t]) ∧ a ≤ p ∧ p < b ∧ Sw w w' g Z d := by
  have H := Lib.hid (Ct.made h 3 (.int .i64 ((0 : Nat) : Int)))
  clear h
  go_enter Try.func56, Try.ntmps56
  have l8 : (8 : Int) ≤ (b : Int) - (a : Int) := by omega
  obtain ⟨Q, hQ⟩ : ∃ Q : Int, ((b : Int) - (a : Int)) / 4 = Q := ⟨_, rfl⟩
  have q0 : 3 ≤ Q := by omega
  have q1 : 4 * Q ≤ (b : Int) - (a : Int) := by omega
  have QH := Lib.hid hQ
  clear hQ
  by_cases h50 : (50 : Int) ≤ (b : Int) - (a : Int)
  · go_wp2_with fail
    rw [QH.out]
    refine (oadjacent g cap Z d w.heap.size 0 3 a b _ w _ H.out (by omega) (by omega) (by omega) (by omega) (by omega) hsz).mono ?_
    rintro e w1 ⟨i1, k1, rfl, i1a, i1b, hk1, hc⟩
    have H1 := Lib.hid hc
    clear hc
    go_wp2_with fail
    refine (oadjacent g cap Z d w.heap.size k1 3 a b _ w _ H1.out (by omega) (by omega) (by omega) (by omega) (by omega) hsz).mono ?_
    rintro e w2 ⟨i2, k2, rfl, i2a, i2b, hk2, hc⟩
    have H2 := Lib.hid hc
    clear hc
    go_wp2_with fail
    refine (oadjacent g cap Z d w.heap.size k2 3 a b _ w _ H2.out (by omega) (by omega) (by omega) (by omega) (by omega) hsz).mono ?_
    rintro e w3 ⟨i3, k3, rfl, i3a, i3b, hk3, hc⟩
    have H3 := Lib.hid hc
    clear hc
    go_wp2_with fail
    refine (omedian g cap Z d w.heap.size k3 3 a b i1 i2 i3 w _ H3.out (by omega) (by omega) (by omega) (by omega) (by omega) (by omega) (by omega) (by omega) (by omega)).mono ?_
    rintro e w4 ⟨r, k4, rfl, ra, rb, hk4, hc⟩
    have HF := Lib.hid hc
    clear hc
    obtain ⟨p, rfl⟩ := Int.eq_ofNat_of_zero_le (show 0 ≤ r by omega)
    by_cases e0 : k4 = 0
    · subst e0
      have cs := HF.out.cell
      go_wp2_with fail
      go_ret2
      exact ⟨p, 1, rfl, by omega, by omega, HF.out.sw⟩
    · by_cases e1 : k4 = 12
      · subst e1
        have cs := HF.out.cell
        go_wp2_with fail
        go_ret2
        exact ⟨p, 2, rfl, by omega, by omega, HF.out.sw⟩
      · have cs := HF.out.cell
        have n0 : ¬ (k4 : Int) = 0 := by omega
        have n1 : ¬ (k4 : Int) = 12 := by omega
        go_wp2_with fail
        go_ret2
        exact ⟨p, 0, rfl, by omega, by omega, HF.out.sw⟩
  · go_wp2_with fail
    rw [QH.out]
    refine (omedian g cap Z d w.heap.size 0 3 a b _ _ _ w _ H.out (by omega) (by omega) (by omega) (by omega) (by omega) (by omega) (by omega) (by omega) (by omega)).mono ?_
    rintro e w4 ⟨r, k4, rfl, ra, rb, hk4, hc⟩
    have HF := Lib.hid hc
    clear hc
    obtain ⟨p, rfl⟩ := Int.eq_ofNat_of_zero_le (show 0 ≤ r by omega)
    by_cases e0 : k4 = 0
    · subst e0
      have cs := HF.out.cell
      go_wp2_with fail
      go_ret2
      exact ⟨p, 1, rfl, by omega, by omega, HF.out.sw⟩
    · by_cases e1 : k4 = 12
      · subst e1
        have cs := HF.out.cell
        go_wp2_with fail
        go_ret2
        exact ⟨p, 2, rfl, by omega, by omega, HF.out.sw⟩
      · have cs := HF.out.cell
        have n0 : ¬ (k4 : Int) = 0 := by omega
        have n1 : ¬ (k4 : Int) = 12 := by omega
        go_wp2_with fail
        go_ret2
        exact ⟨p, 0, rfl, by omega, by omega, HF.out.sw⟩

end Go.Proofs.Ytodindfchkpecaa
