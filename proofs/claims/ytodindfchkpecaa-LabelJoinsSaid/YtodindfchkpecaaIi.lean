/- label.In where the second list doesn't fall, walked. -/
import Derived.Test.YtodindfchkpecaaLs
namespace Go.Proofs.Ytodindfchkpecaa
open Go.RowKit

/-- what label.In's loop tells, once the second list stands in order -/
theorem inn_step (a b : List Int) (k : Nat) (h : k < a.length) (hk : ∀ x ∈ a.take k, x ∈ b) (hh : La.has b (a.getD k 0) = true) : ∀ x ∈ a.take (k + 1), x ∈ b := by
  intro x hx
  rcases (La.mem_take_succ a k h x).1 hx with h1 | h1
  · exact hk x h1
  · rw [h1]; exact (La.has_iff _ _).1 hh
theorem inn_stop (a b : List Int) (k : Nat) (h : k < a.length) (hh : La.has b (a.getD k 0) = false) : La.inn a b = false := by
  cases hb : La.inn a b
  · rfl
  · have h3 := (La.inn_iff a b).1 hb _ (La.getD_mem a k h)
    rw [← La.has_iff, hh] at h3; cases h3
theorem inn_end (a b : List Int) (k : Nat) (h : a.length ≤ k) (hk : ∀ x ∈ a.take k, x ∈ b) : La.inn a b = true := by
  rw [List.take_of_length_le h] at hk; exact (La.inn_iff a b).2 hk

set_option maxRecDepth 100000 in
/-- label.In -/
theorem lin_asc (A B : Option Addr) (c d : Nat) (a b : List Int) (w : World) (h : Sl w A a) (hb : Sl w B b) (hm : a.length ≤ maxLen) (hn : b.length ≤ 1099511627776) (hs : La.ascB b = true) :
    Calls Try.prog 20 #[.slice A a.length c, .slice B b.length d] w fun e w' => e = .returned (.bool (La.inn a b)) ∧ ∃ n, w' = w.drewN n := by
  have HN := Lib.hid hn
  have HN2 := Lib.hid (show b.length ≤ maxLen by unfold maxLen; omega)
  have HB := Lib.hid hb
  have HA := Lib.hid h
  have HS := Lib.hid hs
  have AS := Lib.hid (La.Asc.of_ascB hs)
  clear hn hb h hs
  unfold maxLen at hm
  go_enter Try.func20, Try.ntmps20
  go_wp2_with fail
  refine (sissorted B d b _ HB.out HN2.out).mono ?_
  rintro e w' ⟨rfl, n0, rfl⟩
  rw [HS.out]
  have A1 := Lib.hid (HA.out.drewN n0)
  have B1 := Lib.hid (HB.out.drewN n0)
  obtain ⟨w1, hw1⟩ : ∃ w1, w1 = w.drewN n0 := ⟨_, rfl⟩
  have HW := Lib.hid hw1
  rw [← hw1] at A1 B1 ⊢
  clear hw1
  go_wp2
  go_loop [18] (fun i => ∃ k : Nat, k ≤ a.length ∧ i = .int .i64 k ∧ Hid (∀ x ∈ a.take k, x ∈ b)) (fun i => a.length - (intOf i).toNat)
  case atStart => exact ⟨0, Nat.zero_le _, rfl, fun x hx => by simp at hx⟩
  case round =>
    obtain ⟨k, hk, rfl, X⟩ := hrel
    by_cases hlt : k < a.length
    · obtain ⟨bb, o, rfl, hbb, hc⟩ := A1.out.at_ hlt
      have hck := hc k hlt
      have IS := Lib.hid (inn_step a b k hlt X.out)
      have IT := Lib.hid (inn_stop a b k hlt)
      obtain ⟨y, hy⟩ : ∃ y, a.getD k 0 = y := ⟨_, rfl⟩
      rw [hy] at hck
      have Y := Lib.hid hy
      clear hc hy hbb
      cases hh : La.has b y
      · have H := Lib.hid hh
        clear hh
        go_wp2_with fail
        refine (sbsearch B d b y _ B1.out HN.out AS.out).mono ?_
        rintro e w' ⟨i, rfl, _, rfl⟩
        rw [H.out]
        go_wp2
        go_ret
        exact ⟨ret_bool (IT.out (by rw [Y.out]; exact H.out)).symm, n0, HW.out⟩
      · have H := Lib.hid hh
        clear hh
        go_wp2_with fail
        refine (sbsearch B d b y _ B1.out HN.out AS.out).mono ?_
        rintro e w' ⟨i, rfl, _, rfl⟩
        rw [H.out]
        go_wp2
        go_round
        case rel => exact ⟨k + 1, by omega, by go_num, IS.out (by rw [Y.out]; exact H.out)⟩
        case measure => simp [intOf]; omega
    · have E := Lib.hid (inn_end a b k (by omega) X.out)
      go_wp2
      go_ret
      exact ⟨ret_bool E.out.symm, n0, HW.out⟩

end Go.Proofs.Ytodindfchkpecaa
