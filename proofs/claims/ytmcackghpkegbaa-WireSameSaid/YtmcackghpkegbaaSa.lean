/- wire.Same of items answers, walked. -/
import Derived.Test.YtmcackghpkegbaaIt
import Derived.Test.YtmcackghpkegbaaEq
import Derived.Test.YtmcackghpkegbaaRs
namespace Go.Proofs.Ytmcackghpkegbaa
open Go.RowKit

theorem sequalD (A B : Option Addr) (c d : Nat) (a b : List Int) (w : World) (r : Bool) (hr : decide (a = b) = r) (h : Sl w A a) (hb : Sl w B b) (hm : a.length ≤ maxLen) :
    Calls Try.prog 46 #[.slice A a.length c, .slice B b.length d] w fun e w' => e = .returned (.bool r) ∧ ∃ n, w' = w.drewN n :=
  (sequal A B c d a b w h hb hm).mono (by rintro e w' ⟨rfl, hn⟩; exact ⟨by rw [hr], hn⟩)

/-- wire.Same answers, of items that read d deep -/
def SameAt (d : Nat) : Prop := ∀ (A B : Option Addr) (c e : Nat) (a b : List Item) (w : World), FitIt d a → FitIt d b → SlIt d w A a → SlIt d w B b → DepIt d a →
    Calls Try.prog 17 #[.slice A a.length c, .slice B b.length e] w fun e w' => e = .returned (.bool (sameIt a b)) ∧ Below w.heap.size w w'


/-- wire.sameItem answers -/
def OneAt (d : Nat) : Prop := ∀ (vx vy : Value) (x y : Item) (w : World), FitOne d x → FitOne d y → ItV d w vx x → ItV d w vy y → DepIt d x.ks →
    Calls Try.prog 29 #[vx, vy] w fun e w' => e = .returned (.bool (sameOne x y)) ∧ Below w.heap.size w w'

set_option maxRecDepth 100000 in
set_option maxHeartbeats 1000000 in
theorem lsameItem (d : Nat) (ih : SameAt d) : OneAt d := by
  intro vx vy x y w hfx hfy hvx hvy hd
  obtain ⟨AL, cL, AK, cK, rfl, asl, ask⟩ := hvx
  obtain ⟨BL, dL, BK, dK, rfl, bsl, bsk⟩ := hvy
  obtain ⟨_, _, xs, xl, _, xk⟩ := hfx
  obtain ⟨_, _, ys, yl, _, yk⟩ := hfy
  have SO := Lib.hid (sameOne_eq x y)
  have C3 := Lib.hid (show ∀ w2 r, Below w.heap.size w w2 → decide (x.l = y.l) = r → Calls Try.prog 46 #[.slice AL x.l.length cL, .slice BL y.l.length dL] w2 (fun e w' => e = .returned (.bool r) ∧ ∃ m, w' = w2.drewN m) from
    fun w2 r hb hr => sequalD AL BL cL dL x.l y.l _ r hr (asl.below hb) (bsl.below hb) xl)
  have C4 := Lib.hid (show ∀ w2, Below w.heap.size w w2 → Calls Try.prog 17 #[.slice AK x.ks.length cK, .slice BK y.ks.length dK] w2 (fun e w' => e = .returned (.bool (sameIt x.ks y.ks)) ∧ Below w2.heap.size w2 w') from
    fun w2 hb => ih AK BK cK dK x.ks y.ks _ xk yk (ask.below hb) (bsk.below hb) hd)
  unfold maxLen at xs xl ys yl
  clear asl bsl ask bsk xk yk hd ih
  have B0 := Lib.hid (((Below.refl w.heap.size w).alloc (Nat.le_refl _) (.cells #[.int .u64 x.n, .string x.s, .slice AL x.l.length cL, .slice AK x.ks.length cK] 44)).alloc (by simp) (.cells #[.int .u64 y.n, .string y.s, .slice BL y.l.length dL, .slice BK y.ks.length dK] 44))
  by_cases c1 : x.n = y.n
  case neg =>
    have T1 : (x.n == y.n) = false := by simp [c1]
    have R := Lib.hid (show sameOne x y = false by rw [SO.out, decide_eq_false c1]; rfl)
    clear c1
    go_enter Try.func29, Try.ntmps29
    go_wp2_with fail
    go_ret
    exact ⟨ret_bool R.out.symm, B0.out⟩
  have T1 : (x.n == y.n) = true := by simp [c1]
  have K1 := Lib.hid (decide_eq_true c1)
  clear c1
  by_cases c2 : x.s = y.s
  case neg =>
    have T2 := str_ne c2
    have R := Lib.hid (show sameOne x y = false by rw [SO.out, decide_eq_false c2, Bool.and_false]; rfl)
    clear c2
    go_enter Try.func29, Try.ntmps29
    go_wp2_with fail
    go_ret
    exact ⟨ret_bool R.out.symm, B0.out⟩
  have T2 := str_eq c2
  have K2 := Lib.hid (decide_eq_true c2)
  clear c2
  cases c3 : decide (x.l = y.l)
  case false =>
    have R := Lib.hid (show sameOne x y = false by rw [SO.out, c3, Bool.and_false]; rfl)
    have D3 := Lib.hid c3
    clear c3
    go_enter Try.func29, Try.ntmps29
    go_wp2_with fail
    refine (C3.out _ false B0.out D3.out).mono ?_
    rintro e w' ⟨rfl, n, rfl⟩
    go_wp2_with fail
    go_ret
    exact ⟨ret_bool R.out.symm, below_drewN B0.out n⟩
  have D3 := Lib.hid c3
  have R := Lib.hid (show sameOne x y = sameIt x.ks y.ks by rw [SO.out, c3, K1.out, K2.out]; rfl)
  clear c3
  go_enter Try.func29, Try.ntmps29
  go_wp2_with fail
  refine (C3.out _ true B0.out D3.out).mono ?_
  rintro e w' ⟨rfl, n, rfl⟩
  have B1 := Lib.hid (below_drewN B0.out n)
  go_wp2_with fail
  refine (C4.out _ B1.out).mono ?_
  rintro e w' ⟨rfl, hb2⟩
  have B2 := Lib.hid (below_then B1.out hb2)
  clear hb2
  go_wp2_with fail
  go_ret
  exact ⟨ret_bool (by rw [R.out]), B2.out⟩

set_option maxRecDepth 100000 in
set_option maxHeartbeats 1000000 in
/-- slices.EqualFunc of items, by wire.sameItem -/
theorem lequalFunc (d : Nat) (ih : OneAt d) (A B : Option Addr) (c e : Nat) (a b : List Item) (w : World) (hfa : FitIt (d + 1) a) (hfb : FitIt (d + 1) b) (hsa : SlIt (d + 1) w A a) (hsb : SlIt (d + 1) w B b) (hda : DepIt (d + 1) a) :
    Calls Try.prog 28 #[.slice A a.length c, .slice B b.length e, .func (.func 29) #[] #[]] w fun e w' => e = .returned (.bool (sameIt a b)) ∧ Below w.heap.size w w' := by
  have hm := hfa.len
  unfold maxLen at hm
  by_cases h1 : a.length = b.length
  case neg =>
    have E := Lib.hid (sameIt_len h1)
    have hm2 := hfb.len
    unfold maxLen at hm2
    have h2 : ((a.length : Int) != b.length) = true := by simp; omega
    clear h1
    go_enter Try.func28, Try.ntmps28
    go_wp2_with fail
    go_ret
    exact ⟨ret_bool E.out.symm, Below.refl _ _⟩
  have h2 : ((a.length : Int) != b.length) = false := by simp; omega
  have H1 := Lib.hid h1
  have hbl : b.length ≤ 9223372036854775807 := by omega
  have FA := Lib.hid hfa.2
  have FB := Lib.hid hfb.2
  have SA := Lib.hid hsa
  have SB := Lib.hid hsb
  have DA := Lib.hid hda
  have IH := Lib.hid ih
  clear h1 hfa hfb hsa hsb hda ih
  go_enter Try.func28, Try.ntmps28
  go_wp2_with fail
  go_loopw [17] (fun i wr => ∃ k : Nat, k ≤ a.length ∧ i = .int .i64 k ∧ Hid (Below w.heap.size w wr) ∧ Hid (∀ t, t < k → sameOne (a.getD t It0) (b.getD t It0) = true)) (fun i _ => a.length - (intOf i).toNat)
  case atStart => exact ⟨0, Nat.zero_le _, rfl, Below.refl _ _, fun t ht => absurd ht (by omega)⟩
  case round =>
    obtain ⟨k, hk, rfl, HW, X⟩ := hrel
    by_cases hlt : k < a.length
    · have hltb : k < b.length := by have := H1.out; omega
      obtain ⟨ba, oa, rfl, hba, hca⟩ := (SA.out.below HW.out) (by omega)
      obtain ⟨bb, ob, rfl, hbb, hcb⟩ := (SB.out.below HW.out) (by omega)
      obtain ⟨AL, cL, AK, cK, a0, a1, a2, a3, asl, ask⟩ := hca k hlt
      obtain ⟨BL, dL, BK, dK, b0, b1, b2, b3, bsl, bsk⟩ := hcb k hltb
      have hfx := FA.out _ (getD_mem_it a k hlt)
      have hfy := FB.out _ (getD_mem_it b k hltb)
      have hdx := DA.out _ (getD_mem_it a k hlt)
      have NO := Lib.hid (sameIt_no (a := a) (b := b) k)
      obtain ⟨x, hx⟩ : ∃ x, a.getD k It0 = x := ⟨_, rfl⟩
      obtain ⟨y, hy⟩ : ∃ y, b.getD k It0 = y := ⟨_, rfl⟩
      rw [hx] at a0 a1 a2 a3 asl ask hfx hdx NO
      rw [hy] at b0 b1 b2 b3 bsl bsk hfy NO
      have HX := Lib.hid hx
      have HY := Lib.hid hy
      have C := Lib.hid (show ∀ w2, Below wr.heap.size wr w2 → Calls Try.prog 29 #[.agg #[.int .u64 x.n, .string x.s, .slice AL x.l.length cL, .slice AK x.ks.length cK], .agg #[.int .u64 y.n, .string y.s, .slice BL y.l.length dL, .slice BK y.ks.length dK]] w2 (fun e w' => e = .returned (.bool (sameOne x y)) ∧ Below w2.heap.size w2 w') from
        fun w2 hb => IH.out _ _ x y w2 hfx hfy ⟨AL, cL, AK, cK, rfl, asl.below hb, ask.below hb⟩ ⟨BL, dL, BK, dK, rfl, bsl.below hb, bsk.below hb⟩ hdx)
      clear hx hy hca hcb asl bsl ask bsk hfx hfy hdx
      have B0 := Lib.hid (((Below.refl wr.heap.size wr).alloc (Nat.le_refl _) (.cells #[.int .u64 x.n, .string x.s, .slice AL x.l.length cL, .slice AK x.ks.length cK] 44)).alloc (by simp) (.cells #[.int .u64 y.n, .string y.s, .slice BL y.l.length dL, .slice BK y.ks.length dK] 44))
      cases hone : sameOne x y
      · have R := Lib.hid (NO.out hone)
        have ON := Lib.hid hone
        clear hone
        go_wp2_with fail
        refine (C.out _ B0.out).mono ?_
        rintro e w' ⟨rfl, hb2⟩
        rw [ON.out]
        have B2 := Lib.hid (below_then HW.out (below_then B0.out hb2))
        clear hb2
        go_wp2_with fail
        go_ret
        exact ⟨ret_bool R.out.symm, B2.out⟩
      · have R := Lib.hid (show ∀ t, t < k + 1 → sameOne (a.getD t It0) (b.getD t It0) = true from fun t ht => by
          rcases Nat.lt_or_ge t k with h8 | h8
          · exact X.out t h8
          · obtain rfl : t = k := by omega
            rw [HX.out, HY.out]; exact hone)
        have ON := Lib.hid hone
        clear hone
        go_wp2_with fail
        refine (C.out _ B0.out).mono ?_
        rintro e w' ⟨rfl, hb2⟩
        rw [ON.out]
        have B2 := Lib.hid (below_then HW.out (below_then B0.out hb2))
        clear hb2
        go_wp2_with fail
        go_roundw
        case rel => exact ⟨k + 1, by omega, by go_num, B2.out, R.out⟩
        case measure => simp [intOf]; omega
    · have R := Lib.hid (sameIt_all H1.out (fun t ht => X.out t (by omega)))
      go_wp2_with fail
      go_ret
      exact ⟨ret_bool R.out.symm, HW.out⟩

set_option maxRecDepth 100000 in
theorem lequalFunc0 (A B : Option Addr) (c e : Nat) (b : List Item) (w : World) (hfb : b.length ≤ maxLen) :
    Calls Try.prog 28 #[.slice A 0 c, .slice B b.length e, .func (.func 29) #[] #[]] w fun e w' => e = .returned (.bool (sameIt [] b)) ∧ Below w.heap.size w w' := by
  unfold maxLen at hfb
  cases b with
  | nil =>
    have E := Lib.hid ((sameIt_iff [] []).2 rfl)
    go_enter Try.func28, Try.ntmps28
    go_wp2_with fail
    go_rounds 1
    go_wp2_with fail
    go_ret
    exact ⟨ret_bool E.out.symm, Below.refl _ _⟩
  | cons y b =>
    have E := Lib.hid (sameIt_len (a := []) (b := y :: b) (by simp))
    obtain ⟨L, hL⟩ : ∃ L, L = (y :: b).length := ⟨_, rfl⟩
    have hl0 : 0 < L := by rw [hL]; simp
    have T : ((0 : Int) != (L : Int)) = true := by simp; omega
    rw [← hL] at hfb ⊢
    clear hL
    go_enter Try.func28, Try.ntmps28
    go_wp2_with fail
    go_ret
    exact ⟨ret_bool E.out.symm, Below.refl _ _⟩

/-- wire.Same -/
theorem lsameIt (d : Nat) : SameAt d := by
  induction d with
  | zero =>
    intro A B c e a b w _ hfb _ _ hd
    obtain rfl : a = [] := hd
    have H := Lib.hid hfb.len
    clear hfb
    show Calls Try.prog 17 #[.slice A 0 c, .slice B b.length e] w _
    go_enter Try.func17, Try.ntmps17
    go_wp2_with fail
    refine (lequalFunc0 A B c e b _ H.out).mono ?_
    rintro e w' ⟨rfl, hb⟩
    have HB := Lib.hid hb
    clear hb
    go_wp2_with fail
    go_ret
    exact ⟨rfl, HB.out⟩
  | succ d ih =>
    intro A B c e a b w hfa hfb hsa hsb hd
    have C := Lib.hid (lequalFunc d (lsameItem d ih) A B c e a b w hfa hfb hsa hsb hd)
    clear hfa hfb hsa hsb hd ih
    go_enter Try.func17, Try.ntmps17
    go_wp2_with fail
    refine C.out.mono ?_
    rintro e w' ⟨rfl, hb⟩
    have HB := Lib.hid hb
    clear hb
    go_wp2_with fail
    go_ret
    exact ⟨rfl, HB.out⟩

end Go.Proofs.Ytmcackghpkegbaa
