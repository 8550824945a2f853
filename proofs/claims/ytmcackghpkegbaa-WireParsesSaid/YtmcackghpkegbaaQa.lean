/- cloisonneref03.Letter, Right, Number: walked. -/
import Derived.Test.YtmcackghpkegbaaPn
import Derived.Test.YtmcackghpkegbaaPt
namespace Go.Proofs.Ytmcackghpkegbaa
open Go.RowKit

def isL (c : UInt8) : Bool := (ltr c).isSome

set_option maxRecDepth 100000 in
/-- cloisonneref03.Letter -/
theorem rLetter (c : UInt8) (w : World) : Calls Try.prog 23 #[.int .u8 (c.toNat : Int)] w fun e w' => e = .returned (.bool (isL c)) ∧ w = w' := by
  by_cases h1 : c = 98
  · subst h1
    go_enter Try.func23, Try.ntmps23
    go_wp2_with fail
    go_ret
    exact ⟨rfl, rfl⟩
  by_cases h2 : c = 110
  · subst h2
    go_enter Try.func23, Try.ntmps23
    go_wp2_with fail
    go_ret
    exact ⟨rfl, rfl⟩
  by_cases h3 : c = 116
  · subst h3
    go_enter Try.func23, Try.ntmps23
    go_wp2_with fail
    go_ret
    exact ⟨rfl, rfl⟩
  by_cases h4 : c = 102
  · subst h4
    go_enter Try.func23, Try.ntmps23
    go_wp2_with fail
    go_ret
    exact ⟨rfl, rfl⟩
  by_cases h5 : c = 108
  · subst h5
    go_enter Try.func23, Try.ntmps23
    go_wp2_with fail
    go_ret
    exact ⟨rfl, rfl⟩
  have R := Lib.hid (show isL c = false by unfold isL ltr; rw [if_neg h1, if_neg h2, if_neg h3, if_neg h4, if_neg h5]; rfl)
  have t1 : ((c.toNat : Int) == 98) = false := byte_ne h1
  have t2 : ((c.toNat : Int) == 110) = false := byte_ne h2
  have t3 : ((c.toNat : Int) == 116) = false := byte_ne h3
  have t4 : ((c.toNat : Int) == 102) = false := byte_ne h4
  have t5 : ((c.toNat : Int) == 108) = false := byte_ne h5
  clear h1 h2 h3 h4 h5
  go_enter Try.func23, Try.ntmps23
  go_wp2_with fail
  go_ret
  exact ⟨ret_bool R.out.symm, rfl⟩

def rightGo : List UInt8 → Bool
  | [] => true
  | c :: r => (if c = 42 then (match r with | [] => false | d :: _ => isL d) else isL c) && rightGo r
theorem rightGo_nil : rightGo [] = true := rfl
theorem rightGo_cons {c : UInt8} {r : List UInt8} (h : c ≠ 42) : rightGo (c :: r) = (isL c && rightGo r) := by
  show ((if c = 42 then (match r with | [] => false | d :: _ => isL d) else isL c) && rightGo r) = _
  rw [if_neg h]
theorem isL42 : isL 42 = false := rfl
theorem rightGo_kinds : ∀ l : List UInt8, (kindsGo l false).isSome = rightGo l
  | [] => rfl
  | c :: r => by
    by_cases h : c = 42
    · subst h
      rw [kindsGo_star]
      cases r with
      | nil => rfl
      | cons d t =>
        have ih := rightGo_kinds (d :: t)
        have ih2 := rightGo_kinds t
        show (kindsGo (d :: t) true).isSome = (isL d && rightGo (d :: t))
        cases hd : ltr d with
        | none =>
          rw [kindsGo_no (fun h => by cases h.2) hd]
          unfold isL; rw [hd]; rfl
        | some L =>
          rw [kindsGo_yes (fun h => by cases h.2) hd]
          have hl : isL d = true := by unfold isL; rw [hd]; rfl
          have d42 : d ≠ 42 := fun e => by rw [e] at hl; cases hl
          have e1 : rightGo (d :: t) = rightGo t := by unfold rightGo; rw [if_neg d42, hl, Bool.true_and]; cases t <;> rfl
          rw [hl, e1, ← ih2]
          cases kindsGo t false <;> rfl
    · have ih := rightGo_kinds r
      have e1 : rightGo (c :: r) = (isL c && rightGo r) := rightGo_cons h
      rw [e1, ← ih]
      cases hc : ltr c with
      | none => rw [kindsGo_no (fun k => h k.1) hc]; unfold isL; rw [hc]; rfl
      | some L =>
        rw [kindsGo_yes (fun k => h k.1) hc]
        have hl : isL c = true := by unfold isL; rw [hc]; rfl
        rw [hl]
        cases kindsGo r false <;> rfl
theorem rightGo_star0 : rightGo [42] = false := rfl
theorem rightGo_star (d : UInt8) (t : List UInt8) : rightGo (42 :: d :: t) = (isL d && rightGo (d :: t)) := rfl

set_option maxRecDepth 100000 in
set_option maxHeartbeats 1000000 in
/-- cloisonneref03.Right -/
theorem rRight (s : ByteArray) (w : World) (hs : s.size ≤ maxLen) : Calls Try.prog 12 #[.string s] w fun e w' => e = .returned (.bool (kindsOf s).isSome) ∧ w = w' := by
  unfold maxLen at hs
  by_cases h40 : 40 < s.size
  · have R := Lib.hid (show kindsOf s = none by unfold kindsOf; rw [if_pos h40])
    go_enter Try.func12, Try.ntmps12
    go_wp2_with fail
    go_ret
    exact ⟨ret_bool (by rw [R.out]; rfl), rfl⟩
  have R := Lib.hid (show (kindsOf s).isSome = rightGo s.data.toList by unfold kindsOf; rw [if_neg h40, rightGo_kinds])
  go_enter Try.func12, Try.ntmps12
  go_wp2_with fail
  go_loop [3] (fun i => ∃ k : Nat, k ≤ s.size ∧ i = .int .i64 k ∧ Hid ((kindsOf s).isSome = rightGo (s.data.toList.drop k))) (fun i => s.size - (intOf i).toNat)
  case atStart => exact ⟨0, Nat.zero_le _, rfl, Lib.hid (by rw [R.out]; rfl)⟩
  case round =>
    obtain ⟨k, hk, rfl, HK⟩ := hrel
    by_cases hlt : k < s.size
    · have DB := Lib.hid (drop_byte s k hlt)
      obtain ⟨c, hc⟩ : ∃ c, s[k] = c := ⟨_, rfl⟩
      rw [hc] at DB
      by_cases c42 : c = 42
      · have T : (c.toNat : Int) = 42 := by subst c42; rfl
        by_cases hl1 : k + 1 < s.size
        · have DB2 := Lib.hid (drop_byte s (k + 1) hl1)
          obtain ⟨d, hd⟩ : ∃ d, s[k + 1] = d := ⟨_, rfl⟩
          rw [hd] at DB2
          have ND : decide ((s.size : Int) - 1 ≤ (k : Int)) = false := by simp; omega
          have E := Lib.hid (show (kindsOf s).isSome = (isL d && rightGo (s.data.toList.drop (k + 1))) by rw [HK.out, DB.out, c42, DB2.out, rightGo_star])
          have i0 : (0 : Int) ≤ (k : Int) + 1 := by omega
          have i2 : ((k : Int) + 1).toNat = k + 1 := by omega
          clear c42
          cases hdl : isL d
          · have NO := Lib.hid (show (kindsOf s).isSome = false by rw [E.out, hdl]; rfl)
            have HD := Lib.hid hdl
            clear hdl
            go_wp2_with fail
            refine (rLetter d _).mono ?_
            rintro e w' ⟨rfl, rfl⟩
            rw [HD.out]
            go_wp2_with fail
            go_ret
            exact ⟨ret_bool NO.out.symm, rfl⟩
          · have YES := Lib.hid (show (kindsOf s).isSome = rightGo (s.data.toList.drop (k + 1)) by rw [E.out, hdl]; rfl)
            have HD := Lib.hid hdl
            clear hdl
            go_wp2_with fail
            refine (rLetter d _).mono ?_
            rintro e w' ⟨rfl, rfl⟩
            rw [HD.out]
            go_wp2_with fail
            go_round
            case rel => exact ⟨k + 1, by omega, by go_num, YES.out⟩
            case measure => simp [intOf]; omega
        · have ND : decide ((s.size : Int) - 1 ≤ (k : Int)) = true := by simp; omega
          have NO := Lib.hid (show (kindsOf s).isSome = false by
            rw [HK.out, DB.out, c42, List.drop_eq_nil_of_le (by simp; omega), rightGo_star0])
          clear c42
          go_wp2_with fail
          go_ret
          exact ⟨ret_bool NO.out.symm, rfl⟩
      · have T : ((c.toNat : Int) == 42) = false := byte_ne c42
        have E := Lib.hid (show (kindsOf s).isSome = (isL c && rightGo (s.data.toList.drop (k + 1))) by rw [HK.out, DB.out, rightGo_cons c42])
        clear c42
        cases hdl : isL c
        · have NO := Lib.hid (show (kindsOf s).isSome = false by rw [E.out, hdl]; rfl)
          have HD := Lib.hid hdl
          clear hdl
          go_wp2_with fail
          refine (rLetter c _).mono ?_
          rintro e w' ⟨rfl, rfl⟩
          rw [HD.out]
          go_wp2_with fail
          go_ret
          exact ⟨ret_bool NO.out.symm, rfl⟩
        · have YES := Lib.hid (show (kindsOf s).isSome = rightGo (s.data.toList.drop (k + 1)) by rw [E.out, hdl]; rfl)
          have HD := Lib.hid hdl
          clear hdl
          go_wp2_with fail
          refine (rLetter c _).mono ?_
          rintro e w' ⟨rfl, rfl⟩
          rw [HD.out]
          go_wp2_with fail
          go_round
          case rel => exact ⟨k + 1, by omega, by go_num, YES.out⟩
          case measure => simp [intOf]; omega
    · have YES := Lib.hid (show (kindsOf s).isSome = true by rw [HK.out, List.drop_eq_nil_of_le (by simp; omega)]; rfl)
      go_wp2_with fail
      go_ret
      exact ⟨ret_bool YES.out.symm, rfl⟩

end Go.Proofs.Ytmcackghpkegbaa
