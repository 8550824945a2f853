/- slices.insertionSortOrdered at uint64, walked. -/
import Derived.Test.YtodindfchkpecaaSw
namespace Go.Proofs.Ytodindfchkpecaa
open Go.RowKit Go.Sort

/-- what a function leaves that sorts the places a to b -/
def SortPost (g : Nat) (Z : List Value) (a b : Nat) (d : Array Int) (w : World) (e : Ending) (w' : World) : Prop := e = .returned (.tuple #[]) ∧ ∃ d', PermIn a b d d' ∧ SortedIn ltInt a b d' ∧ Sw w w' g Z d'

theorem insInner_go (a j : Nat) (d : Array Int) (h : a < j + 1) (hl : d[j + 1]! < d[j]!) : insInner ltInt a (j + 1) d = insInner ltInt a j (swp d (j + 1) j) := by
  rw [insInner, if_pos]
  rw [Bool.and_eq_true]
  exact ⟨decide_eq_true h, decide_eq_true hl⟩
theorem insInner_stop (a j : Nat) (d : Array Int) (hl : ¬ d[j + 1]! < d[j]!) : insInner ltInt a (j + 1) d = d := by
  rw [insInner, if_neg]
  rw [Bool.and_eq_true]
  rintro ⟨_, h⟩
  exact hl (of_decide_eq_true h)
theorem insInner_low (a j : Nat) (d : Array Int) (h : j ≤ a) : insInner ltInt a j d = d := by
  cases j with
  | zero => rfl
  | succ j =>
    rw [insInner, if_neg]
    rw [Bool.and_eq_true]
    rintro ⟨h1, _⟩
    have := of_decide_eq_true h1
    omega
theorem insInner_size (a j : Nat) (d : Array Int) : (insInner ltInt a j d).size = d.size := by
  induction j generalizing d with
  | zero => rfl
  | succ j ih =>
    rw [insInner]
    split
    · rw [ih, size_swp]
    · rfl
theorem insOuter_go (a b i : Nat) (d : Array Int) (h : i < b) : insOuter ltInt a b i d = insOuter ltInt a b (i + 1) (insInner ltInt a i d) := by rw [insOuter, if_pos h]
theorem insOuter_end (a b i : Nat) (d : Array Int) (h : ¬ i < b) : insOuter ltInt a b i d = d := by rw [insOuter, if_neg h]

set_option maxHeartbeats 2000000 in
set_option maxRecDepth 100000 in
/-- slices.insertionSortOrdered -/
theorem oinsertion (g cap : Nat) (Z : List Value) (d : Array Int) (a b : Nat) (w : World) (h : Sw w w g Z d) (hab : a ≤ b) (hb : b ≤ d.size) (hsz : d.size ≤ 1024) :
    Calls Try.prog 53 #[.slice (some ⟨g, 0, none⟩) d.size cap, .int .i64 a, .int .i64 b] w (SortPost g Z a b d w) := by
  have H := Lib.hid h
  have FIN := Lib.hid (insertionSort_holds (lt := ltInt) swo_ltInt d a b hab hb)
  clear h
  go_enter Try.func53, Try.ntmps53
  go_wp2
  go_loopw [6] (fun vi wr => ∃ (i : Nat) (dk : Array Int), vi = .int .i64 i ∧ a + 1 ≤ i ∧ i ≤ b + 1 ∧ Hid (dk.size = d.size) ∧ Hid (insOuter ltInt a b i dk = insertionSort ltInt d a b) ∧ Hid (Sw w wr g Z dk)) (fun vi _ => b + 1 - (intOf vi).toNat)
  case atStart => exact ⟨a + 1, d, by go_num, Nat.le_refl _, by omega, rfl, rfl, H⟩
  case round =>
    obtain ⟨i, dk, rfl, ai, ib, DS, EQ, HW⟩ := hrel
    by_cases hlt : i < b
    · have OG := Lib.hid (insOuter_go a b i dk hlt)
      have IS := Lib.hid (insInner_size a i dk)
      go_wp2
      go_loopw [7] (fun vj ws => ∃ (j : Nat) (dj : Array Int), vj = .int .i64 j ∧ j ≤ i ∧ a ≤ j ∧ Hid (dj.size = d.size) ∧ Hid (insInner ltInt a j dj = insInner ltInt a i dk) ∧ Hid (Sw w ws g Z dj)) (fun vj _ => (intOf vj).toNat)
      case atStart => exact ⟨i, dk, rfl, Nat.le_refl _, by omega, DS, rfl, HW⟩
      case round =>
        obtain ⟨j, dj, rfl, ji, aj, DJ, EJ, HJ⟩ := hrel
        by_cases haj : a < j
        · obtain ⟨k, rfl⟩ : ∃ k, j = k + 1 := ⟨j - 1, by omega⟩
          have hj : k + 1 < d.size := by omega
          have cj := HJ.out.cell (k + 1) (by rw [DJ.out]; exact hj)
          have ck := HJ.out.cell k (by rw [DJ.out]; omega)
          have fj := HJ.out.frozen (k + 1)
          have fk := HJ.out.frozen k
          have GO := Lib.hid (insInner_go a k dj haj)
          have ST := Lib.hid (insInner_stop a k dj)
          have SWN := Lib.hid (fun n => (HJ.out.drewN n).swap (k + 1) k (by rw [DJ.out]; exact hj) (by rw [DJ.out]; omega))
          obtain ⟨x, hx⟩ : ∃ x, dj[k + 1]! = x := ⟨_, rfl⟩
          obtain ⟨y, hy⟩ : ∃ y, dj[k]! = y := ⟨_, rfl⟩
          rw [hx] at cj
          rw [hy] at ck
          rw [hx, hy] at SWN GO ST
          have T0 : decide ((a : Int) < (k : Int) + 1) = true := decide_eq_true (by omega)
          have i0 : (0 : Int) ≤ (k : Int) + 1 := by omega
          have i1 : (k : Int) + 1 < d.size := by omega
          have i2 : ((k : Int) + 1).toNat = k + 1 := by omega
          have i3 : IntKind.i64.wrap (k : Int) = (k : Int) := by rw [IntKind.wrap_i64]; omega
          have i4 : (0 : Int) ≤ (k : Int) := by omega
          have i5 : (k : Int) < d.size := by omega
          have i6 : ((k : Int)).toNat = k := by omega
          clear hx hy
          by_cases hyx : x < y
          · go_wp2_with fail
            go_quiet ((go_at_call 42; exact Calls.quiet_of_same ((cless x y _).mono fun _ _ hh => ⟨hh.1, hh.2.symm⟩)))
            go_wp2_with fail
            go_region
            go_wp2
            go_roundw
            case rel => exact ⟨k, swp dj (k + 1) k, rfl, by omega, by omega, (by rw [size_swp]; exact DJ.out : (swp dj (k + 1) k).size = d.size), (by rw [← EJ.out]; exact (GO.out hyx).symm : _ = _), SWN.out _⟩
            case measure => simp [intOf]
          · go_wp2_with fail
            go_quiet ((go_at_call 42; exact Calls.quiet_of_same ((cless x y _).mono fun _ _ hh => ⟨hh.1, hh.2.symm⟩)))
            go_wp2
            go_roundw
            case rel => exact ⟨i + 1, dj, by go_num, by omega, by omega, DJ, (by rw [← EQ.out, OG.out, ← EJ.out, ST.out hyx] : _ = _), HJ.out.drewN _⟩
            case measure => simp [intOf]; omega
        · have T0 : decide ((a : Int) < (j : Int)) = false := decide_eq_false (by omega)
          have LW := Lib.hid (insInner_low a j dj (by omega))
          go_wp2_with fail
          go_quiet (fail)
          go_wp2
          go_roundw
          case rel => exact ⟨i + 1, dj, by go_num, by omega, by omega, DJ, (by rw [← EQ.out, OG.out, ← EJ.out, LW.out] : _ = _), HJ.out.drewN _⟩
          case measure => simp [intOf]; omega
    · have EN := Lib.hid (insOuter_end a b i dk hlt)
      go_wp2
      go_end0
      have h9 := EQ.out
      rw [EN.out] at h9
      exact ⟨rfl, dk, by rw [h9]; exact FIN.out.1, by rw [h9]; exact FIN.out.2, HW.out⟩

end Go.Proofs.Ytodindfchkpecaa
