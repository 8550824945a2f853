/- What the functions that look for a place, and that compare, answer, walked. -/
import Derived.Test.YtmcackghpkegbaaLr
namespace Go.Proofs.Ytmcackghpkegbaa
open Go.RowKit

/-- cloisonneref02.Compare -/
theorem rcompare (A B : Option Addr) (c d : Nat) (a b : List Int) (w : World) (h : Sl w A a) (hb : Sl w B b) (hm : a.length ≤ maxLen) :
    Calls Try.prog 43 #[.slice A a.length c, .slice B b.length d] w fun e w' => e = .returned (.int .i64 (La.cmp a b)) ∧ ∃ n, w' = w.drewN n := by
  unfold maxLen at hm
  by_cases h1 : a.length < b.length
  · have e : La.cmp a b = -1 := by unfold La.cmp; rw [if_pos h1]
    rw [e]
    clear e
    go_enter Try.func43, Try.ntmps43
    go_wp2
    go_ret
    exact ⟨rfl, 0, rfl⟩
  by_cases h2 : b.length < a.length
  · have e : La.cmp a b = 1 := by unfold La.cmp; rw [if_neg h1, if_pos h2]
    rw [e]
    clear e
    go_enter Try.func43, Try.ntmps43
    go_wp2
    go_ret
    exact ⟨rfl, 0, rfl⟩
  have e : La.cmp a b = La.lex a b := by unfold La.cmp; rw [if_neg h1, if_neg h2]
  rw [e]
  clear e
  go_enter Try.func43, Try.ntmps43
  go_wp2
  go_loopw [5] (fun i wr => ∃ k n : Nat, k ≤ a.length ∧ i = .int .i64 k ∧ wr = w.drewN n ∧ Hid (La.lex a b = La.lex (a.drop k) (b.drop k))) (fun i _ => a.length - (intOf i).toNat)
  case atStart => exact ⟨0, 0, Nat.zero_le _, rfl, rfl, rfl⟩
  case round =>
    obtain ⟨k, n, hk, rfl, rfl, X⟩ := hrel
    by_cases hlt : k < a.length
    · have hltb : k < b.length := by omega
      obtain ⟨bb, o, rfl, hbb, hc⟩ := h.at_ hlt
      have hck := hc k hlt
      obtain ⟨bc, p, rfl, hbc, hd⟩ := hb.at_ hltb
      have hdk := hd k hltb
      have L1 := Lib.hid (La.lex_drop_lt a b k hlt hltb)
      have L2 := Lib.hid (La.lex_drop_gt a b k hlt hltb)
      have L3 := Lib.hid (La.lex_drop_eq a b k hlt hltb)
      obtain ⟨y, hy⟩ : ∃ y, a.getD k 0 = y := ⟨_, rfl⟩
      obtain ⟨z, hz⟩ : ∃ z, b.getD k 0 = z := ⟨_, rfl⟩
      rw [hy] at hck
      rw [hz] at hdk
      have Y := Lib.hid hy
      have Z := Lib.hid hz
      have i0 : (0 : Int) ≤ (k : Int) := by omega
      have i1 : (k : Int) < a.length := by omega
      have i2 : ((k : Int)).toNat = k := by omega
      have i3 : (k : Int) < b.length := by omega
      clear hc hd hy hz hbb hbc
      by_cases c1 : y < z
      · go_wp2_with fail
        go_quiet (fail)
        go_wp2
        go_ret
        exact ⟨ret_int (by rw [X.out, L1.out (by rw [Y.out, Z.out]; exact c1)]), drewN2 _ _ _⟩
      · by_cases c2 : z < y
        · go_wp2_with fail
          go_quiet (fail)
          go_wp2_with fail
          go_quiet (fail)
          go_wp2
          go_ret
          exact ⟨ret_int (by rw [X.out, L2.out (by rw [Y.out, Z.out]; exact c2)]), drewN3 _ _ _ _⟩
        · go_wp2_with fail
          go_quiet (fail)
          go_wp2_with fail
          go_quiet (fail)
          go_wp2
          go_roundw
          case rel =>
            refine ⟨k + 1, _, by omega, by go_num, rfl, ?_⟩
            rw [X.out, L3.out (by rw [Y.out, Z.out]; omega)]; exact rfl
          case measure => simp [intOf]; omega
    · go_wp2
      go_ret
      refine ⟨ret_int ?_, _, rfl⟩
      rw [X.out, List.drop_eq_nil_of_le (by omega), List.drop_eq_nil_of_le (by omega)]; rfl

/-- cloisonneref02.Same -/
theorem rsame (A B : Option Addr) (c d : Nat) (a b : List Int) (w : World) (h : Sl w A a) (hb : Sl w B b) (hm : a.length ≤ maxLen) :
    Calls Try.prog 25 #[.slice A a.length c, .slice B b.length d] w fun e w' => e = .returned (.bool (La.cmp a b == 0)) ∧ ∃ n, w' = w.drewN n := by
  go_enter Try.func25, Try.ntmps25
  go_wp2_with fail
  refine (rcompare A B c d a b _ h hb hm).mono ?_
  rintro e w' ⟨rfl, n, rfl⟩
  go_wp2
  go_ret
  exact ⟨rfl, n, rfl⟩

/-- what slices.BinarySearch tells -/
def BsPost (zs : List Int) (x : Int) (w : World) (e : Ending) (w' : World) : Prop := ∃ i : Nat, e = .returned (.tuple #[.int .i64 i, .bool (La.has zs x)]) ∧ La.LB zs x i ∧ w = w'

theorem ret_ib {a b : Int} {c d : Bool} (h : a = b) (k : c = d) : Ending.returned (.tuple #[.int .i64 a, .bool c]) = .returned (.tuple #[.int .i64 b, .bool d]) := by rw [h, k]

/-- the first that isn't nought -/
def or2 (x y : Int) : Int := if x = 0 then y else x
theorem cmp_or (a b : List Int) : or2 (La.cmpI a.length b.length) (La.lex a b) = La.cmp a b := by
  unfold or2 La.cmpI La.cmp
  by_cases h1 : a.length < b.length
  · rw [if_pos (show (a.length : Int) < b.length by omega), if_pos h1]; rfl
  · rw [if_neg (show ¬ (a.length : Int) < b.length by omega), if_neg h1]
    by_cases h2 : b.length < a.length
    · rw [if_pos (show (b.length : Int) < a.length by omega), if_pos h2]; rfl
    · rw [if_neg (show ¬ (b.length : Int) < a.length by omega), if_neg h2]; rfl

end Go.Proofs.Ytmcackghpkegbaa
