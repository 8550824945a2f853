/- cloisonneref03.Same of items answers, walked. -/
import Derived.Test.YtmcackghpkegbaaIt
import Derived.Test.YtmcackghpkegbaaLs
namespace Go.Proofs.Ytmcackghpkegbaa
open Go.RowKit

theorem lex_zero : ∀ a b : List Int, a.length = b.length → (La.lex a b = 0 ↔ a = b)
  | [], [], _ => by simp [La.lex]
  | x :: a, y :: b, h => by
    have ih := lex_zero a b (by simpa using h)
    unfold La.lex
    by_cases h1 : x < y
    · simp [h1]; omega
    · by_cases h2 : y < x
      · simp [h1, h2]; omega
      · have e : x = y := by omega
        subst e; simp [ih]
  | [], y :: b, h => by simp at h
  | x :: a, [], h => by simp at h
theorem cmp_zero (a b : List Int) : (La.cmp a b == 0) = decide (a = b) := by
  rw [Bool.eq_iff_iff]; simp only [beq_iff_eq, decide_eq_true_eq]
  unfold La.cmp
  by_cases h1 : a.length < b.length
  · rw [if_pos h1]; constructor
    · intro h; cases h
    · rintro rfl; omega
  · by_cases h2 : b.length < a.length
    · rw [if_neg h1, if_pos h2]; constructor
      · intro h; cases h
      · rintro rfl; omega
    · rw [if_neg h1, if_neg h2]; exact lex_zero a b (by omega)

theorem rsameD (A B : Option Addr) (c d : Nat) (a b : List Int) (w : World) (r : Bool) (hr : decide (a = b) = r) (h : Sl w A a) (hb : Sl w B b) (hm : a.length ≤ maxLen) :
    Calls Try.prog 25 #[.slice A a.length c, .slice B b.length d] w fun e w' => e = .returned (.bool r) ∧ ∃ n, w' = w.drewN n :=
  (rsame A B c d a b w h hb hm).mono (by rintro e w' ⟨rfl, hn⟩; exact ⟨by rw [cmp_zero, hr], hn⟩)

set_option maxRecDepth 100000 in
set_option maxHeartbeats 1000000 in
/-- cloisonneref03.Same -/
theorem rsameIt (d : Nat) : ∀ (A B : Option Addr) (c e : Nat) (a b : List Item) (w : World), FitIt d a → FitIt d b → SlIt d w A a → SlIt d w B b → DepIt d a →
    Calls Try.prog 15 #[.slice A a.length c, .slice B b.length e] w fun e w' => e = .returned (.bool (sameIt a b)) ∧ ∃ n, w' = w.drewN n := by
  induction d with
  | zero =>
    intro A B c e a b w _ hf _ _ hd
    obtain rfl : a = [] := hd
    have hm := hf.len
    unfold maxLen at hm
    cases b with
    | nil =>
      have E := Lib.hid ((sameIt_iff [] []).2 rfl)
      go_enter Try.func15, Try.ntmps15
      go_wp2_with fail
      go_rounds 1
      go_wp2_with fail
      go_ret
      exact ⟨ret_bool E.out.symm, 0, rfl⟩
    | cons y b =>
      have E := Lib.hid (sameIt_len (a := []) (b := y :: b) (by simp))
      obtain ⟨L, hL⟩ : ∃ L, L = (y :: b).length := ⟨_, rfl⟩
      have hl0 : 0 < L := by rw [hL]; simp
      have T : ((0 : Int) != (L : Int)) = true := by simp; omega
      rw [← hL] at hm ⊢
      clear hL
      go_enter Try.func15, Try.ntmps15
      go_wp2_with fail
      go_ret
      exact ⟨ret_bool E.out.symm, 0, rfl⟩
  | succ d ih =>
    intro A B c e a b w hfa hfb hsa hsb hda
    have hm := hfa.len
    unfold maxLen at hm
    by_cases h1 : a.length = b.length
    case neg =>
      have E := Lib.hid (sameIt_len h1)
      have hm2 := hfb.len
      unfold maxLen at hm2
      have h2 : ((a.length : Int) != b.length) = true := by simp; omega
      clear h1
      go_enter Try.func15, Try.ntmps15
      go_wp2_with fail
      go_ret
      exact ⟨ret_bool E.out.symm, 0, rfl⟩
    have h2 : ((a.length : Int) != b.length) = false := by simp; omega
    have H1 := Lib.hid h1
    have hbl : b.length ≤ 9223372036854775807 := by omega
    have FA := Lib.hid hfa.2
    have FB := Lib.hid hfb.2
    have SA := Lib.hid hsa
    have SB := Lib.hid hsb
    have DA := Lib.hid hda
    clear h1 hfa hfb hsa hsb hda
    go_enter Try.func15, Try.ntmps15
    go_wp2_with fail
    go_loopw [5] (fun i wr => ∃ k : Nat, k ≤ a.length ∧ i = .int .i64 k ∧ Hid (∃ n, wr = w.drewN n) ∧ Hid (∀ t, t < k → sameOne (a.getD t It0) (b.getD t It0) = true)) (fun i _ => a.length - (intOf i).toNat)
    case atStart => exact ⟨0, Nat.zero_le _, rfl, ⟨0, rfl⟩, fun t ht => absurd ht (by omega)⟩
    case round =>
      obtain ⟨k, hk, rfl, HW, X⟩ := hrel
      by_cases hlt : k < a.length
      · have hltb : k < b.length := by have := H1.out; omega
        have HSA : SlIt (d + 1) wr A a := by obtain ⟨n, hn⟩ := HW.out; rw [hn]; exact SA.out.drewN n
        have HSB : SlIt (d + 1) wr B b := by obtain ⟨n, hn⟩ := HW.out; rw [hn]; exact SB.out.drewN n
        obtain ⟨ba, oa, rfl, hba, hca⟩ := HSA (by omega)
        obtain ⟨bb, ob, rfl, hbb, hcb⟩ := HSB (by omega)
        obtain ⟨AL, cL, AK, cK, a0, a1, a2, a3, asl, ask⟩ := hca k hlt
        obtain ⟨BL, dL, BK, dK, b0, b1, b2, b3, bsl, bsk⟩ := hcb k hltb
        have hfx := FA.out _ (getD_mem_it a k hlt)
        have hfy := FB.out _ (getD_mem_it b k hltb)
        have hdx := DA.out _ (getD_mem_it a k hlt)
        have NO := Lib.hid (sameIt_no (a := a) (b := b) k)
        obtain ⟨x, hx⟩ : ∃ x, a.getD k It0 = x := ⟨_, rfl⟩
        obtain ⟨y, hy⟩ : ∃ y, b.getD k It0 = y := ⟨_, rfl⟩
        rw [hx] at a0 a1 a2 a3 asl ask hfx hdx NO
        rw [hy] at b0 b1 b2 b3 bsl bsk hfy NO
        have HX := Lib.hid hx
        have HY := Lib.hid hy
        have SO := Lib.hid (sameOne_eq x y)
        obtain ⟨_, _, xs, xl, _, xk⟩ := hfx
        obtain ⟨_, _, ys, yl, _, yk⟩ := hfy
        have C3 := Lib.hid (show ∀ n r, decide (x.l = y.l) = r → Calls Try.prog 25 #[.slice AL x.l.length cL, .slice BL y.l.length dL] (wr.drewN n) (fun e w' => e = .returned (.bool r) ∧ ∃ m, w' = (wr.drewN n).drewN m) from
          fun n r hr => rsameD AL BL cL dL x.l y.l _ r hr (asl.drewN n) (bsl.drewN n) xl)
        have C4 := Lib.hid (show ∀ n r, sameIt x.ks y.ks = r → Calls Try.prog 15 #[.slice AK x.ks.length cK, .slice BK y.ks.length dK] (wr.drewN n) (fun e w' => e = .returned (.bool r) ∧ ∃ m, w' = (wr.drewN n).drewN m) from
          fun n r hr => (ih AK BK cK dK x.ks y.ks _ xk yk (ask.drewN n) (bsk.drewN n) hdx).mono (by rintro e w' ⟨rfl, hh⟩; exact ⟨by rw [hr], hh⟩))
        have i0 : (0 : Int) ≤ (k : Int) := by omega
        have i1 : (k : Int) < a.length := by omega
        have i2 : ((k : Int)).toNat = k := by omega
        have i3 : (k : Int) < b.length := by omega
        clear hx hy hca hcb asl bsl ask bsk xk yk hdx HSA HSB
        by_cases c1 : x.n = y.n
        case neg =>
          have T1 : (x.n != y.n) = true := by simp [c1]
          have R := Lib.hid (NO.out (by rw [SO.out, decide_eq_false c1]; rfl))
          clear c1
          go_wp2_with fail
          go_quiet (fail)
          go_wp2_with fail
          go_ret
          refine ⟨ret_bool R.out.symm, ?_⟩
          obtain ⟨n, hn⟩ := HW.out
          rw [hn]; exact drewN2 _ _ _
        have T1 : (x.n != y.n) = false := by simp [c1]
        have K1 := Lib.hid (decide_eq_true c1)
        clear c1
        by_cases c2 : x.s = y.s
        case neg =>
          have T2 := str_ne c2
          have R := Lib.hid (NO.out (by rw [SO.out, decide_eq_false c2, Bool.and_false]; rfl))
          clear c2
          go_wp2_with fail
          go_quiet (fail)
          go_wp2_with fail
          go_ret
          refine ⟨ret_bool R.out.symm, ?_⟩
          obtain ⟨n, hn⟩ := HW.out
          rw [hn]; exact drewN2 _ _ _
        have T2 := str_eq c2
        have K2 := Lib.hid (decide_eq_true c2)
        clear c2
        cases c3 : decide (x.l = y.l)
        case false =>
          have R := Lib.hid (NO.out (by rw [SO.out, c3, Bool.and_false]; rfl))
          have D3 := Lib.hid c3
          clear c3
          go_wp2_with fail
          go_quiet ((go_at_call 25; exact Calls.quiet_of (C3.out _ false D3.out)))
          go_wp2_with fail
          go_ret
          refine ⟨ret_bool R.out.symm, ?_⟩
          obtain ⟨n, hn⟩ := HW.out
          rw [hn]; exact drewN2 _ _ _
        have D3 := Lib.hid c3
        clear c3
        cases c4 : sameIt x.ks y.ks
        case false =>
          have R := Lib.hid (NO.out (by rw [SO.out, c4, Bool.and_false]))
          have D4 := Lib.hid c4
          clear c4
          go_wp2_with fail
          go_quiet (first | (go_at_call 25; exact Calls.quiet_of (C3.out _ true D3.out)) | (go_at_call 15; exact Calls.quiet_of (C4.out _ false D4.out)))
          go_wp2_with fail
          go_ret
          refine ⟨ret_bool R.out.symm, ?_⟩
          obtain ⟨n, hn⟩ := HW.out
          rw [hn]; exact drewN2 _ _ _
        have D4 := Lib.hid c4
        have R := Lib.hid (show ∀ t, t < k + 1 → sameOne (a.getD t It0) (b.getD t It0) = true from fun t ht => by
          rcases Nat.lt_or_ge t k with h8 | h8
          · exact X.out t h8
          · obtain rfl : t = k := by omega
            rw [HX.out, HY.out, SO.out, K1.out, K2.out, D3.out, D4.out]; rfl)
        clear c4
        go_wp2_with fail
        go_quiet (first | (go_at_call 25; exact Calls.quiet_of (C3.out _ true D3.out)) | (go_at_call 15; exact Calls.quiet_of (C4.out _ true D4.out)))
        go_wp2_with fail
        go_roundw
        case rel =>
          refine ⟨k + 1, by omega, by go_num, ?_, R.out⟩
          obtain ⟨n, hn⟩ := HW.out
          show ∃ m, _ = w.drewN m
          rw [hn]; exact drewN2 _ _ _
        case measure => simp [intOf]; omega
      · have R := Lib.hid (sameIt_all H1.out (fun t ht => X.out t (by omega)))
        go_wp2_with fail
        go_ret
        exact ⟨ret_bool R.out.symm, HW.out⟩

end Go.Proofs.Ytmcackghpkegbaa
