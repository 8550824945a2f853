/- slices.Equal of tags answers, walked. -/
import Derived.Test.YtmcackghpkegbaaIt
import Derived.Test.YtmcackghpkegbaaLs
namespace Go.Proofs.Ytmcackghpkegbaa
open Go.RowKit

theorem list_ne_at {a b : List Int} (k : Nat) (h : a.getD k 0 ≠ b.getD k 0) : decide (a = b) = false := by
  rw [decide_eq_false_iff_not]; rintro rfl; exact h rfl
theorem list_eq_all {a b : List Int} (hl : a.length = b.length) (h : ∀ k, k < a.length → a.getD k 0 = b.getD k 0) : decide (a = b) = true := by
  rw [decide_eq_true_eq]
  apply List.ext_getElem hl
  intro i h1 h2
  have := h i h1
  rw [List.getD_eq_getElem?_getD, List.getD_eq_getElem?_getD, List.getElem?_eq_getElem h1, List.getElem?_eq_getElem h2] at this
  exact this

set_option maxRecDepth 100000 in
/-- slices.Equal at uint64 -/
theorem sequal (A B : Option Addr) (c d : Nat) (a b : List Int) (w : World) (h : Sl w A a) (hb : Sl w B b) (hm : a.length ≤ maxLen) :
    Calls Try.prog 46 #[.slice A a.length c, .slice B b.length d] w fun e w' => e = .returned (.bool (decide (a = b))) ∧ ∃ n, w' = w.drewN n := by
  unfold maxLen at hm
  by_cases h1 : a.length = b.length
  case neg =>
    have e : decide (a = b) = false := by rw [decide_eq_false_iff_not]; rintro rfl; exact h1 rfl
    have h2 : ((a.length : Int) != b.length) = true := by simp; omega
    rw [e]
    clear e h1
    go_enter Try.func46, Try.ntmps46
    go_wp2
    go_ret
    exact ⟨rfl, 0, rfl⟩
  have h2 : ((a.length : Int) != b.length) = false := by simp; omega
  have H1 := Lib.hid h1
  have hbl : b.length ≤ 9223372036854775807 := by omega
  clear h1
  go_enter Try.func46, Try.ntmps46
  go_wp2
  go_loopw [13] (fun i wr => ∃ k n : Nat, k ≤ a.length ∧ i = .int .i64 k ∧ wr = w.drewN n ∧ Hid (∀ t, t < k → a.getD t 0 = b.getD t 0)) (fun i _ => a.length - (intOf i).toNat)
  case atStart => exact ⟨0, 0, Nat.zero_le _, rfl, rfl, fun t ht => absurd ht (by omega)⟩
  case round =>
    obtain ⟨k, n, hk, rfl, rfl, X⟩ := hrel
    by_cases hlt : k < a.length
    · have hltb : k < b.length := by have := H1.out; omega
      obtain ⟨bb, o, rfl, hbb, hc⟩ := h.at_ hlt
      have hck := hc k hlt
      obtain ⟨bc, p, rfl, hbc, hd⟩ := hb.at_ hltb
      have hdk := hd k hltb
      obtain ⟨y, hy⟩ : ∃ y, a.getD k 0 = y := ⟨_, rfl⟩
      obtain ⟨z, hz⟩ : ∃ z, b.getD k 0 = z := ⟨_, rfl⟩
      rw [hy] at hck
      rw [hz] at hdk
      have Y := Lib.hid hy
      have Z := Lib.hid hz
      have i0 : (0 : Int) ≤ (k : Int) := by omega
      have i1 : (k : Int) < a.length := by omega
      have i2 : ((k : Int)).toNat = k := by omega
      have i3 : (k : Int) < b.length := by omega
      clear hc hd hy hz hbb hbc
      by_cases c1 : y = z
      · have R := Lib.hid (show ∀ t, t < k + 1 → a.getD t 0 = b.getD t 0 from fun t ht => by
          rcases Nat.lt_or_ge t k with h8 | h8
          · exact X.out t h8
          · obtain rfl : t = k := by omega
            rw [Y.out, Z.out]; exact c1)
        have C1 : (y != z) = false := by simp [c1]
        clear c1
        go_wp2_with fail
        go_quiet (fail)
        go_wp2
        go_roundw
        case rel => exact ⟨k + 1, _, by omega, by go_num, rfl, R.out⟩
        case measure => simp [intOf]; omega
      · have C1 : (y != z) = true := by simp [c1]
        have R := Lib.hid (list_ne_at k (a := a) (b := b) (by rw [Y.out, Z.out]; exact c1))
        clear c1
        go_wp2_with fail
        go_quiet (fail)
        go_wp2
        go_ret
        exact ⟨ret_bool R.out.symm, drewN2 _ _ _⟩
    · have R := Lib.hid (list_eq_all H1.out (fun t ht => X.out t (by omega)))
      go_wp2
      go_ret
      exact ⟨ret_bool R.out.symm, _, rfl⟩

end Go.Proofs.Ytmcackghpkegbaa
