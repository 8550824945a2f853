/- For any three lists of tags of up to 60 each: label.Compare's order turns round, follows on, and tells two lists alike only where they are one. No condition. -/
import Derived.Test.YtodindfchkpecaaFr
import Derived.Test.YtodindfchkpecaaAw
namespace Go.Proofs.Ytodindfchkpecaa.labelOrders
open Go.ChangeShapes Go.WideShapes Go.ChangeAt Go.RowKit Go.Proofs.Ytodindfchkpecaa
set_option linter.unusedVariables false

/-! ### The order, in plain words -/
theorem lex_neg : ∀ a b : List Int, a.length = b.length → La.lex b a = -La.lex a b
  | [], [], _ => rfl
  | [], _ :: _, h => by simp at h
  | _ :: _, [], h => by simp at h
  | x :: a, y :: b, h => by
    have ih := lex_neg a b (by simpa using h)
    unfold La.lex
    by_cases h1 : x < y
    · rw [if_pos h1, if_neg (by omega), if_pos h1]; rfl
    · by_cases h2 : y < x
      · rw [if_pos h2, if_neg h1, if_pos h2]
      · rw [if_neg h1, if_neg h2, if_neg h2, if_neg h1, ih]
theorem lex_zero : ∀ a b : List Int, a.length = b.length → (La.lex a b = 0 ↔ a = b)
  | [], [], _ => by simp [La.lex]
  | [], _ :: _, h => by simp at h
  | _ :: _, [], h => by simp at h
  | x :: a, y :: b, h => by
    have ih := lex_zero a b (by simpa using h)
    unfold La.lex
    by_cases h1 : x < y
    · rw [if_pos h1]; simp; intro h; omega
    · by_cases h2 : y < x
      · rw [if_neg h1, if_pos h2]; simp; intro h; omega
      · rw [if_neg h1, if_neg h2, ih]
        have : x = y := by omega
        simp [this]
theorem lex_range (a b : List Int) : La.lex a b = -1 ∨ La.lex a b = 0 ∨ La.lex a b = 1 := by
  induction a generalizing b with
  | nil => cases b <;> simp [La.lex]
  | cons x a ih =>
    cases b with
    | nil => simp [La.lex]
    | cons y b =>
      unfold La.lex
      split
      · simp
      · split
        · simp
        · exact ih b
theorem lex_le : ∀ a b c : List Int, a.length = b.length → b.length = c.length → La.lex a b ≤ 0 → La.lex b c ≤ 0 → La.lex a c ≤ 0 ∧ (La.lex a c = 0 → La.lex a b = 0 ∧ La.lex b c = 0)
  | [], [], [], _, _, _, _ => by simp [La.lex]
  | [], [], _ :: _, _, h, _, _ => by simp at h
  | [], _ :: _, _, h, _, _, _ => by simp at h
  | _ :: _, [], _, h, _, _, _ => by simp at h
  | _ :: _, _ :: _, [], _, h, _, _ => by simp at h
  | x :: a, y :: b, z :: c, h, k, p, q => by
    have ih := lex_le a b c (by simpa using h) (by simpa using k)
    unfold La.lex at p q ⊢
    by_cases h1 : x < y
    · rw [if_pos h1]
      by_cases h2 : y < z
      · rw [if_pos (show x < z by omega)]; simp
      · by_cases h3 : z < y
        · rw [if_neg h2, if_pos h3] at q; omega
        · rw [if_pos (show x < z by omega)]; simp
    · by_cases h1' : y < x
      · rw [if_neg h1, if_pos h1'] at p; omega
      · rw [if_neg h1, if_neg h1'] at p ⊢
        have : x = y := by omega
        subst this
        by_cases h2 : x < z
        · rw [if_pos h2]; simp
        · by_cases h3 : z < x
          · rw [if_neg h2, if_pos h3] at q; omega
          · rw [if_neg h2, if_neg h3] at q
            rw [if_neg h2, if_neg h3, if_neg h2, if_neg h3]
            exact ih p q
theorem cmp_neg (a b : List Int) : La.cmp b a = -La.cmp a b := by
  unfold La.cmp
  by_cases h1 : a.length < b.length
  · rw [if_pos h1, if_neg (by omega), if_pos h1]; rfl
  · by_cases h2 : b.length < a.length
    · rw [if_pos h2, if_neg h1, if_pos h2]
    · rw [if_neg h1, if_neg h2, if_neg h2, if_neg h1, lex_neg a b (by omega)]
theorem cmp_range (a b : List Int) : La.cmp a b = -1 ∨ La.cmp a b = 0 ∨ La.cmp a b = 1 := by
  unfold La.cmp
  split
  · simp
  · split
    · simp
    · exact lex_range a b
theorem cmp_le (a b c : List Int) (p : La.cmp a b ≤ 0) (q : La.cmp b c ≤ 0) : La.cmp a c ≤ 0 ∧ (La.cmp a c = 0 → La.cmp a b = 0 ∧ La.cmp b c = 0) := by
  unfold La.cmp at *
  by_cases h1 : a.length < b.length
  · by_cases h2 : c.length < b.length
    · rw [if_neg (show ¬ b.length < c.length by omega), if_pos h2] at q; omega
    · rw [if_pos (show a.length < c.length by omega)]; simp
  · by_cases h1' : b.length < a.length
    · rw [if_neg h1, if_pos h1'] at p; omega
    · rw [if_neg h1, if_neg h1'] at p ⊢
      by_cases h2 : b.length < c.length
      · rw [if_pos (show a.length < c.length by omega)]; simp
      · by_cases h3 : c.length < b.length
        · rw [if_neg h2, if_pos h3] at q; omega
        · rw [if_neg h2, if_neg h3] at q ⊢
          rw [if_neg (show ¬ a.length < c.length by omega), if_neg (show ¬ c.length < a.length by omega)]
          exact lex_le a b c (by omega) (by omega) p q

/-- what the law tells of the three comparisons -/
def tells (x y z : Int) : Bool := !(decide (x ≤ 0) && decide (y ≤ 0)) || (decide (z ≤ 0) && (decide (z < 0) || ((x == 0) && (y == 0))))
theorem tells_true (a b c : List Int) : tells (La.cmp a b) (La.cmp b c) (La.cmp a c) = true := by
  have h1 := cmp_le a b c
  have h2 := cmp_range a c
  generalize La.cmp a b = x at *
  generalize La.cmp b c = y at *
  generalize La.cmp a c = z at *
  unfold tells
  by_cases p : x ≤ 0
  · by_cases q : y ≤ 0
    · obtain ⟨h3, h4⟩ := h1 p q
      rw [decide_eq_true p, decide_eq_true q, decide_eq_true h3]
      rcases h2 with e | e | e
      · rw [e]; rfl
      · obtain ⟨e1, e2⟩ := h4 e
        rw [e, e1, e2]; rfl
      · omega
    · rw [decide_eq_false q]; simp
  · rw [decide_eq_false p]; simp

set_option maxHeartbeats 1000000 in
set_option maxRecDepth 100000 in
theorem walk (A B C : Option Addr) (ca cb cc : Nat) (a b c : List Int) (W : World) (ha : Sl W A a) (hb : Sl W B b) (hc : Sl W C c) (la : a.length ≤ maxLen) (lb : b.length ≤ maxLen) (lc : c.length ≤ maxLen) :
    Calls Try.prog 6 #[.slice A a.length ca, .slice B b.length cb, .slice C c.length cc] W fun e w' => e = .returned (.bool true) ∧ Below W.heap.size W w' := by
  have HA := Lib.hid ha
  have HB := Lib.hid hb
  have HC := Lib.hid hc
  have LA := Lib.hid la
  have LB := Lib.hid lb
  have LC := Lib.hid lc
  clear ha hb hc la lb lc
  go_enter Try.func6, Try.ntmps6
  go_wp2_with fail
  refine (awake W).mono ?_
  rintro e w1 ⟨rfl, hb1⟩
  have B1 := Lib.hid hb1
  clear hb1
  by_cases f1 : (decide (60 < a.length) || decide (60 < b.length)) = true
  · have F1 := Lib.hid f1
    clear f1
    go_wp2_with fail
    refine (lfar A B a.length b.length ca cb _).mono ?_
    rintro e w' ⟨rfl, rfl⟩
    rw [F1.out]
    go_wp2
    go_ret
    exact ⟨rfl, B1.out⟩
  rw [Bool.not_eq_true] at f1
  by_cases f2 : (decide (60 < c.length) || decide (60 < 0)) = true
  · have F1 := Lib.hid f1
    have F2 := Lib.hid f2
    clear f1 f2
    go_wp2_with fail
    refine (lfar A B a.length b.length ca cb _).mono ?_
    rintro e w' ⟨rfl, rfl⟩
    rw [F1.out]
    go_wp2_with fail
    refine (lfar C none c.length 0 cc 0 _).mono ?_
    rintro e w' ⟨rfl, rfl⟩
    rw [F2.out]
    go_wp2
    go_ret
    exact ⟨rfl, B1.out⟩
  rw [Bool.not_eq_true] at f2
  have F1 := Lib.hid f1
  have F2 := Lib.hid f2
  have T := Lib.hid (tells_true a b c)
  have N := Lib.hid (cmp_neg a b)
  clear f1 f2
  obtain ⟨x, hx⟩ : ∃ x, La.cmp a b = x := ⟨_, rfl⟩
  obtain ⟨y, hy⟩ : ∃ y, La.cmp b c = y := ⟨_, rfl⟩
  obtain ⟨z, hz⟩ : ∃ z, La.cmp a c = z := ⟨_, rfl⟩
  have xr : -1 ≤ x ∧ x ≤ 1 := by rw [← hx]; rcases cmp_range a b with e | e | e <;> rw [e] <;> simp
  obtain ⟨xr1, xr2⟩ := xr
  have X := Lib.hid hx
  have Y := Lib.hid hy
  have Z := Lib.hid hz
  have N2 : Hid (La.cmp b a = -x) := by show _ = _; rw [N.out, hx]
  have T2 : Hid (tells x y z = true) := by show _ = _; rw [← hx, ← hy, ← hz]; exact T.out
  clear hx hy hz N T
  go_wp2_with fail
  refine (lfar A B a.length b.length ca cb _).mono ?_
  rintro e w' ⟨rfl, rfl⟩
  rw [F1.out]
  go_wp2_with fail
  refine (lfar C none c.length 0 cc 0 _).mono ?_
  rintro e w' ⟨rfl, rfl⟩
  rw [F2.out]
  have SA1 := Lib.hid (HA.out.below B1.out)
  have SB1 := Lib.hid (HB.out.below B1.out)
  go_wp2_with fail
  refine (lcompare A B ca cb a b _ SA1.out SB1.out LA.out).mono ?_
  rintro e w2 ⟨rfl, hb2⟩
  rw [X.out]
  have B2 := Lib.hid (below_then B1.out hb2)
  clear hb2
  have SB2 := Lib.hid (HB.out.below B2.out)
  have SC2 := Lib.hid (HC.out.below B2.out)
  go_wp2_with fail
  refine (lcompare B C cb cc b c _ SB2.out SC2.out LB.out).mono ?_
  rintro e w3 ⟨rfl, hb3⟩
  rw [Y.out]
  have B3 := Lib.hid (below_then B2.out hb3)
  clear hb3
  have SA3 := Lib.hid (HA.out.below B3.out)
  have SC3 := Lib.hid (HC.out.below B3.out)
  go_wp2_with fail
  refine (lcompare A C ca cc a c _ SA3.out SC3.out LA.out).mono ?_
  rintro e w4 ⟨rfl, hb4⟩
  rw [Z.out]
  have B4 := Lib.hid (below_then B3.out hb4)
  clear hb4
  have SA4 := Lib.hid (HA.out.below B4.out)
  have SB4 := Lib.hid (HB.out.below B4.out)
  go_wp2_with fail
  refine (lcompare B A cb ca b a _ SB4.out SA4.out LB.out).mono ?_
  rintro e w5 ⟨rfl, hb5⟩
  rw [N2.out]
  have B5 := Lib.hid (below_then B4.out hb5)
  clear hb5
  have SA5 := Lib.hid (HA.out.below B5.out)
  have SB5 := Lib.hid (HB.out.below B5.out)
  obtain ⟨q, hq⟩ : ∃ q, (x == 0) = q := ⟨_, rfl⟩
  have Tq : (q != q) = false := by simp
  have Tn : (-x != -x) = false := by simp
  have Q := Lib.hid hq
  go_wp2_with fail
  refine (rsame A B ca cb a b _ SA5.out SB5.out LA.out).mono ?_
  rintro e w6 ⟨rfl, n6, rfl⟩
  rw [X.out, Q.out]
  have B6 := Lib.hid (below_drewN B5.out n6)
  go_wp2
  all_goals go_ret
  all_goals refine ⟨ret_bool ?_, B6.out⟩
  all_goals have t9 := T2.out
  all_goals unfold tells at t9
  all_goals first
    | rfl
    | (subst hq; simp at t9 ⊢; simp at *; omega)

set_option maxRecDepth 100000 in
theorem lifted (os : Os) (started : os.Started) (H : Type) (enc : TypeId × Value → H) :
    ReturnsInHanded {} Try.checked os 6 .any (Rows.labelOrdersSpec.pre6 enc Try.prog Try.f6 Rows.labelOrdersRow.domain false) (Rows.labelOrdersSpec.post enc Try.prog Try.f6 false true false false) := by
  refine returnsInHanded_of_change (C := Try.checked) own started (by kernel_rfl) Try.func6
    (ChangeSpec.witness6 (enc := enc) (C := Try.checked) false ⟨#[], #[.slice none 0 0, .slice none 0 0, .slice none 0 0], []⟩ 8 (by kernel_rfl) (by kernel_rfl) (by kernel_rfl) (by kernel_rfl)) ?_
  intro W base args ds gs before hval0 hW hcnd _
  have hval : ∀ (j : Nat) t v, Try.f6.params[j]? = some t → args[j]? = some v → Value.okWide Try.prog W .any base t v := hval0
  have hW' := hW
  obtain ⟨p, q, hA0, hV, rfl, hfz, hnd⟩ := hW
  have hA : DataW.TrodAll enc Try.prog W 0 (fun _ => true) true Try.f6.params.toList args.toList ds p := hA0
  rw [Try.params6] at hA hval
  obtain ⟨v0, vs0, d0, ds0, p0, q0, hargs, rfl, rfl, h0, r0⟩ := trodAll_cons hA
  obtain ⟨v1, vs1, d1, ds1, p1, q1, hargs1, rfl, rfl, h1, r1⟩ := trodAll_cons r0
  obtain ⟨v2, vs2, d2, ds2, p2, q2, hargs2, rfl, rfl, h2, r2⟩ := trodAll_cons r1
  obtain ⟨rfl, rfl, rfl⟩ := trodAll_nil r2
  obtain rfl : args = #[v0, v1, v2] := by cases args; simp_all
  obtain ⟨rfl, rfl⟩ := trodVars_none hV
  clear hA0 hval0
  simp only [List.append_nil] at hW'
  have hlt : ∀ x ∈ p0 ++ (p1 ++ p2), x.block < W.heap.size := fun x hx => by simpa using hW'.lt x hx
  have l0 : ∀ x ∈ p0, x.block < W.heap.size := fun x hx => hlt x (by simp [hx])
  have l1 : ∀ x ∈ p1, x.block < W.heap.size := fun x hx => hlt x (by simp [hx])
  have l2 : ∀ x ∈ p2, x.block < W.heap.size := fun x hx => hlt x (by simp [hx])
  obtain ⟨A, ca, a, rfl, sa, _, _, la⟩ := open_u64s (hval 0 22 v0 rfl rfl) h0 l0
  obtain ⟨B, cb, b, rfl, sb, _, _, lb⟩ := open_u64s (hval 1 22 v1 rfl rfl) h1 l1
  obtain ⟨C, cc, c, rfl, sc, _, _, lc⟩ := open_u64s (hval 2 22 v2 rfl rfl) h2 l2
  refine (walk A B C ca cb cc a b c W sa sb sc la lb lc).mono fun e W' ⟨he, hg⟩ => ?_
  subst he
  refine ⟨_, rfl, [d0, d1, d2], [], p0 ++ (p1 ++ p2), [], p0 ++ (p1 ++ (p2 ++ [])), [], hW', ?_, ?_, ?_, hg.frame _, fun h => by cases h⟩
  · exact trodAll_cons_mk (shut_bool Try.underlying4 _) trodAll_mk0
  · exact trodAll_cons_mk (Below.trod laidOut (by kernel_rfl) (of_decide_eq_true (by kernel_rfl)) h0 hg l0) (trodAll_cons_mk (Below.trod laidOut (by kernel_rfl) (of_decide_eq_true (by kernel_rfl)) h1 hg l1) (trodAll_cons_mk (Below.trod laidOut (by kernel_rfl) (of_decide_eq_true (by kernel_rfl)) h2 hg l2) trodAll_mk0))
  · rfl

theorem over : Rows.labelOrdersRow.holds Try.pinned (OpenSpec.ofChange Rows.labelOrdersSpec) :=
  OpenClaim.holds_of_wide 6 Try.f6 rfl rfl rfl rfl rfl rfl rfl ⟨rfl, rfl, rfl, rfl, rfl⟩ rfl rfl rfl rfl rfl (by kernel_rfl) Try.func6 (by kernel_rfl)
    (of_decide_eq_true (by kernel_rfl)) (by unfold Func.isWrapper; first | (rw [if_pos (by decide +kernel)]; kernel_rfl) | (rw [if_neg (by decide +kernel)]; exact ⟨rfl, rfl⟩))
    (fun os started H enc _ => lifted os started H enc)

/-- ████ THE STATEMENT ████ -/
theorem proved : Rows.LabelOrdersSaid :=
  over
#print axioms proved

end Go.Proofs.Ytodindfchkpecaa.labelOrders
