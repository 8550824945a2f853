/- The statements' own 'far' answers, walked. -/
import Derived.Test.YtmcackghpkegbaaIt
import Derived.Deep.QuietTactic
import Derived.BigQuiet
import Derived.KernelRfl
namespace Go.Proofs.Ytmcackghpkegbaa
open Go.RowKit

def farP (k : Nat) (x : Item) : Bool := decide (300 < x.s.size) || decide (20 < x.l.length) || farB k x.ks
theorem farB_succ (k : Nat) (xs : List Item) : farB (k + 1) xs = (decide (100 < xs.length) || xs.any (farP k)) := rfl
theorem any_take_succ (p : Item → Bool) (xs : List Item) (j : Nat) (h : j < xs.length) (hx : (xs.take j).any p = false) (hp : p (xs.getD j It0) = false) : (xs.take (j + 1)).any p = false := by
  rw [take_succ_it xs j h, List.any_append, hx, List.any_cons, hp]; rfl
theorem any_at (p : Item → Bool) (xs : List Item) (j : Nat) (h : j < xs.length) (hp : p (xs.getD j It0) = true) : xs.any p = true :=
  List.any_eq_true.2 ⟨_, getD_mem_it xs j h, hp⟩

set_option maxRecDepth 100000 in
/-- cloisonnelaw03.far at depth 4 - k -/
theorem lfar3 (k : Nat) : ∀ (A : Option Addr) (c : Nat) (xs : List Item) (dp : Int) (w : World), dp = 4 - (k : Int) → k ≤ 4 → FitIt k xs → SlIt k w A xs →
    Calls Try.prog 8 #[.slice A xs.length c, .int .i64 dp] w fun e w' => e = .returned (.bool (farB k xs)) ∧ w = w' := by
  induction k with
  | zero =>
    intro A c xs dp w hdp _ hf _
    obtain rfl : dp = 4 := by omega
    have hm := hf.len
    unfold maxLen at hm
    clear hdp
    by_cases h1 : 100 < xs.length
    all_goals
      go_enter Try.func8, Try.ntmps8
      go_wp2_with fail
      go_ret
      exact ⟨rfl, rfl⟩
  | succ k ih =>
    intro A c xs dp w hdp hk hf hs
    have hm := hf.len
    unfold maxLen at hm
    have d3 : dp ≤ 3 := by omega
    have d0 : 0 ≤ dp := by omega
    have HD := Lib.hid hdp
    clear hdp
    by_cases h1 : 100 < xs.length
    · have e : farB (k + 1) xs = true := by rw [farB_succ, decide_eq_true h1, Bool.true_or]
      rw [e]
      clear e
      go_enter Try.func8, Try.ntmps8
      go_wp2_with fail
      go_ret
      exact ⟨rfl, rfl⟩
    · have E := Lib.hid (farB_succ k xs)
      have D1 := Lib.hid (decide_eq_false h1)
      have HF := Lib.hid hf
      have HS := Lib.hid hs
      clear hf hs
      go_enter Try.func8, Try.ntmps8
      go_wp2_with fail
      go_loop [5] (fun i => ∃ j : Nat, j ≤ xs.length ∧ i = .int .i64 j ∧ Hid ((xs.take j).any (farP k) = false)) (fun i => xs.length - (intOf i).toNat)
      case atStart => exact ⟨0, Nat.zero_le _, rfl, rfl⟩
      case round =>
        obtain ⟨j, hj, rfl, X⟩ := hrel
        by_cases hlt : j < xs.length
        · obtain ⟨b, o, rfl, hb, hc⟩ := HS.out (by omega)
          obtain ⟨AL, cL, AK, cK, c0, c1, c2, c3, sl, sk⟩ := hc j hlt
          have hfx := HF.out.2 _ (getD_mem_it xs j hlt)
          have NX := Lib.hid (any_take_succ (farP k) xs j hlt X.out)
          have YS := Lib.hid (any_at (farP k) xs j hlt)
          obtain ⟨x, hx⟩ : ∃ x, xs.getD j It0 = x := ⟨_, rfl⟩
          rw [hx] at c0 c1 c2 c3 sk hfx NX YS
          obtain ⟨_, _, fs, fl, _, fk⟩ := hfx
          have SK := Lib.hid sk
          have FK := Lib.hid fk
          have PX := Lib.hid (show farP k x = (decide (300 < x.s.size) || decide (20 < x.l.length) || farB k x.ks) from rfl)
          unfold maxLen at fs fl
          clear hc sl sk fk hx hb
          by_cases t1 : 300 < x.s.size
          · have R := Lib.hid (show xs.any (farP k) = true from YS.out (by rw [PX.out, decide_eq_true t1]; rfl))
            go_wp2_with fail
            go_ret
            exact ⟨ret_bool (by rw [E.out, R.out, Bool.or_true]), rfl⟩
          by_cases t2 : 20 < x.l.length
          · have R := Lib.hid (show xs.any (farP k) = true from YS.out (by rw [PX.out, decide_eq_true t2, Bool.or_true]; rfl))
            go_wp2_with fail
            go_ret
            exact ⟨ret_bool (by rw [E.out, R.out, Bool.or_true]), rfl⟩
          have T1 := Lib.hid (decide_eq_false t1)
          have T2 := Lib.hid (decide_eq_false t2)
          cases hk3 : farB k x.ks
          · have R := Lib.hid (NX.out (by rw [PX.out, T1.out, T2.out, hk3]; rfl))
            have K3 := Lib.hid hk3
            clear hk3
            go_wp2_with fail
            refine (ih AK cK x.ks (dp + 1) _ (by have := HD.out; omega) (by omega) FK.out SK.out).mono ?_
            rintro e w' ⟨rfl, rfl⟩
            rw [K3.out]
            go_wp2_with fail
            go_round
            case rel => exact ⟨j + 1, by omega, by go_num, R.out⟩
            case measure => simp [intOf]; omega
          · have R := Lib.hid (show xs.any (farP k) = true from YS.out (by rw [PX.out, hk3, Bool.or_true]))
            have K3 := Lib.hid hk3
            clear hk3
            go_wp2_with fail
            refine (ih AK cK x.ks (dp + 1) _ (by have := HD.out; omega) (by omega) FK.out SK.out).mono ?_
            rintro e w' ⟨rfl, rfl⟩
            rw [K3.out]
            go_wp2_with fail
            go_ret
            exact ⟨ret_bool (by rw [E.out, R.out, Bool.or_true]), rfl⟩
        · go_wp2_with fail
          go_ret
          refine ⟨ret_bool ?_, rfl⟩
          have h9 := X.out
          rw [List.take_of_length_le (by omega)] at h9
          rw [E.out, D1.out, h9]; rfl

end Go.Proofs.Ytmcackghpkegbaa
