/- For any tags, up to 60, and any tag: whether they are a label, which one label.Of makes of them, and whether the tag is among them, are what the document says. No condition. -/
import Derived.Test.YtodindfchkpecaaFr
import Derived.Test.YtodindfchkpecaaAw
namespace Go.Proofs.Ytodindfchkpecaa.labelOf
open Go.ChangeShapes Go.WideShapes Go.ChangeAt Go.RowKit Go.Proofs.Ytodindfchkpecaa
set_option linter.unusedVariables false

theorem cmp_self (a : List Int) : (La.cmp a a == 0) = true := by
  have : La.lex a a = 0 := by
    induction a with
    | nil => rfl
    | cons x a ih => unfold La.lex; rw [if_neg (by omega), if_neg (by omega), ih]
  unfold La.cmp
  rw [if_neg (by omega), if_neg (by omega), this]; rfl

set_option maxHeartbeats 1000000 in
set_option maxRecDepth 100000 in
theorem walk (A : Option Addr) (ca : Nat) (a : List Int) (t : Int) (W : World) (ha : Sl W A a) (hu : La.U64 a) (la : a.length ≤ maxLen) :
    Calls Try.prog 3 #[.slice A a.length ca, .int .u64 t] W fun e w' => e = .returned (.bool true) ∧ Below W.heap.size W w' := by
  have HA := Lib.hid ha
  have LA := Lib.hid la
  have U := Lib.hid hu
  clear ha la hu
  go_enter Try.func3, Try.ntmps3
  go_wp2_with fail
  refine (awake W).mono ?_
  rintro e w1 ⟨rfl, hb1⟩
  have B1 := Lib.hid hb1
  clear hb1
  by_cases f1 : (decide (60 < a.length) || decide (60 < 0)) = true
  · have F1 := Lib.hid f1
    clear f1
    go_wp2_with fail
    refine (lfar A none a.length 0 ca 0 _).mono ?_
    rintro e w' ⟨rfl, rfl⟩
    rw [F1.out]
    go_wp2
    go_ret
    exact ⟨rfl, B1.out⟩
  rw [Bool.not_eq_true] at f1
  have l60 : a.length ≤ 60 := by simp at f1; omega
  have F1 := Lib.hid f1
  clear f1
  have S1 := Lib.hid (HA.out.below B1.out)
  go_wp2_with fail
  refine (lfar A none a.length 0 ca 0 _).mono ?_
  rintro e w' ⟨rfl, rfl⟩
  rw [F1.out]
  go_wp2_with fail
  refine (lof A ca a _ S1.out (by omega)).mono ?_
  rintro e w2 ⟨v2, rfl, ho2, hb2⟩
  obtain ⟨A2, c2, rfl, _, hs2, _, _⟩ := ho2.form
  have B2 := Lib.hid (below_then B1.out hb2)
  have L2 := Lib.hid hs2
  clear ho2 hs2 hb2
  obtain ⟨cd, hcd⟩ : ∃ cd, ofC a = cd := ⟨_, rfl⟩
  obtain ⟨lv, hlv⟩ : ∃ lv, ofV a = lv := ⟨_, rfl⟩
  rw [hcd, hlv]
  rw [hlv] at L2
  have CD := Lib.hid hcd
  have LV := Lib.hid hlv
  clear hcd hlv
  have S2 := Lib.hid (HA.out.below B2.out)
  go_wp2_with fail
  refine (rof A ca a _ S2.out (by omega)).mono ?_
  rintro e w3 ⟨v3, rfl, ho3, hb3⟩
  obtain ⟨A3, c3, rfl, _, hs3, _, _⟩ := ho3.form
  have B3 := Lib.hid (below_then B2.out hb3)
  have L3 := Lib.hid hs3
  have L23 := Lib.hid (L2.out.below hb3)
  clear ho3 hs3 hb3
  obtain ⟨mv, hmv⟩ : ∃ mv, La.ofAll a = mv := ⟨_, rfl⟩
  rw [hmv]
  rw [hmv] at L3
  have MV := Lib.hid hmv
  clear hmv
  have S3 := Lib.hid (HA.out.below B3.out)
  obtain ⟨q1, hq1⟩ : ∃ q, La.right a = q := ⟨_, rfl⟩
  obtain ⟨q2, hq2⟩ : ∃ q, La.has a t = q := ⟨_, rfl⟩
  have Q1 := Lib.hid hq1
  have Q2 := Lib.hid hq2
  clear hq1 hq2
  have T1 : (q1 != q1) = false := by simp
  have T2 : (q2 != q2) = false := by simp
  go_wp2_with fail
  refine (lright A ca a _ S3.out LA.out).mono ?_
  rintro e w' ⟨rfl, rfl⟩
  rw [Q1.out]
  go_wp2_with fail
  refine (rright A ca a _ S3.out LA.out U.out).mono ?_
  rintro e w' ⟨rfl, n4, rfl⟩
  rw [Q1.out]
  have B4 := Lib.hid (below_drewN B3.out n4)
  have S4 := Lib.hid (S3.out.drewN n4)
  have L4 := Lib.hid (L3.out.drewN n4)
  have L24 := Lib.hid (L23.out.drewN n4)
  generalize w3.drewN n4 = w4 at B4 S4 L4 L24 ⊢
  go_wp2_with fail
  refine (lhas A ca a t _ S4.out LA.out).mono ?_
  rintro e w' ⟨rfl, rfl⟩
  rw [Q2.out]
  go_wp2_with fail
  refine (rhas A ca a t _ S4.out LA.out).mono ?_
  rintro e w' ⟨rfl, rfl⟩
  rw [Q2.out]
  cases hz : La.has a 0
  · have Z := Lib.hid hz
    clear hz
    go_wp2_with fail
    refine (rhas A ca a 0 _ S4.out LA.out).mono ?_
    rintro e w' ⟨rfl, rfl⟩
    rw [Z.out]
    by_cases h6 : 6 < mv.length
    · have hcd : cd = 5 := by rw [← CD.out]; unfold ofC; rw [Z.out, if_neg (by simp), MV.out, if_pos h6]
      have hlv : lv = [] := by rw [← LV.out]; unfold ofV; rw [Z.out, if_neg (by simp), MV.out, if_pos h6]
      subst hcd hlv
      go_wp2
      go_ret
      exact ⟨rfl, B4.out⟩
    · have hcd : cd = 0 := by rw [← CD.out]; unfold ofC; rw [Z.out, if_neg (by simp), MV.out, if_neg h6]
      have hlv : lv = mv := by rw [← LV.out]; unfold ofV; rw [Z.out, if_neg (by simp), MV.out, if_neg h6]
      subst hcd hlv
      go_wp2_with fail
      refine (rsame A2 A3 c2 c3 lv lv _ L24.out L4.out (by unfold maxLen; omega)).mono ?_
      rintro e w' ⟨rfl, n5, rfl⟩
      rw [cmp_self]
      have B5 := Lib.hid (below_drewN B4.out n5)
      go_wp2
      go_ret
      exact ⟨rfl, B5.out⟩
  · have Z := Lib.hid hz
    clear hz
    go_wp2_with fail
    refine (rhas A ca a 0 _ S4.out LA.out).mono ?_
    rintro e w' ⟨rfl, rfl⟩
    rw [Z.out]
    have hcd : cd = 1 := by rw [← CD.out]; unfold ofC; rw [Z.out, if_pos rfl]
    have hlv : lv = [] := by rw [← LV.out]; unfold ofV; rw [Z.out, if_pos rfl]
    subst hcd hlv
    go_wp2
    go_ret
    exact ⟨rfl, B4.out⟩

set_option maxRecDepth 100000 in
theorem lifted (os : Os) (started : os.Started) (H : Type) (enc : TypeId × Value → H) :
    ReturnsInHanded {} Try.checked os 3 .any (Rows.labelOfSpec.pre6 enc Try.prog Try.f3 Rows.labelOfRow.domain false) (Rows.labelOfSpec.post enc Try.prog Try.f3 false true false false) := by
  refine returnsInHanded_of_change (C := Try.checked) own started (by kernel_rfl) Try.func3
    (ChangeSpec.witness6 (enc := enc) (C := Try.checked) false ⟨#[], #[.slice none 0 0, .int .u64 0], []⟩ 8 (by kernel_rfl) (by kernel_rfl) (by kernel_rfl) (by kernel_rfl)) ?_
  intro W base args ds gs before hval0 hW hcnd _
  have hval : ∀ (j : Nat) t v, Try.f3.params[j]? = some t → args[j]? = some v → Value.okWide Try.prog W .any base t v := hval0
  have hW' := hW
  obtain ⟨p, q, hA0, hV, rfl, hfz, hnd⟩ := hW
  have hA : DataW.TrodAll enc Try.prog W 0 (fun _ => true) true Try.f3.params.toList args.toList ds p := hA0
  rw [Try.params3] at hA hval
  obtain ⟨v0, vs0, d0, ds0, p0, q0, hargs, rfl, rfl, h0, r0⟩ := trodAll_cons hA
  obtain ⟨v1, vs1, d1, ds1, p1, q1, hargs1, rfl, rfl, h1, r1⟩ := trodAll_cons r0
  obtain ⟨rfl, rfl, rfl⟩ := trodAll_nil r1
  obtain rfl : args = #[v0, v1] := by cases args; simp_all
  obtain ⟨rfl, rfl⟩ := trodVars_none hV
  obtain ⟨t, rfl, rfl, rfl, w1⟩ := open_int Try.underlying23 (hval 1 23 v1 rfl rfl) h1
  clear hA0 hval0
  simp only [List.append_nil] at hW'
  have l0 : ∀ x ∈ p0, x.block < W.heap.size := fun x hx => by simpa using hW'.lt x hx
  obtain ⟨A, ca, a, rfl, sa, _, ua, la⟩ := open_u64s (hval 0 22 v0 rfl rfl) h0 l0
  refine (walk A ca a t W sa ua la).mono fun e W' ⟨he, hg⟩ => ?_
  subst he
  refine ⟨_, rfl, [d0, .lit (.int .u64 t)], [], p0, [], p0 ++ ([] ++ []), [], hW', ?_, ?_, ?_, hg.frame _, fun h => by cases h⟩
  · exact trodAll_cons_mk (shut_bool Try.underlying4 _) trodAll_mk0
  · exact trodAll_cons_mk (Below.trod laidOut (by kernel_rfl) (of_decide_eq_true (by kernel_rfl)) h0 hg l0) (trodAll_cons_mk (shut_int Try.underlying23 w1) trodAll_mk0)
  · rfl

theorem over : Rows.labelOfRow.holds Try.pinned (OpenSpec.ofChange Rows.labelOfSpec) :=
  OpenClaim.holds_of_wide 3 Try.f3 rfl rfl rfl rfl rfl rfl rfl ⟨rfl, rfl, rfl, rfl, rfl⟩ rfl rfl rfl rfl rfl (by kernel_rfl) Try.func3 (by kernel_rfl)
    (of_decide_eq_true (by kernel_rfl)) (by unfold Func.isWrapper; first | (rw [if_pos (by decide +kernel)]; kernel_rfl) | (rw [if_neg (by decide +kernel)]; exact ⟨rfl, rfl⟩))
    (fun os started H enc _ => lifted os started H enc)

/-- ████ THE STATEMENT ████ -/
theorem proved : Rows.LabelOfSaid :=
  over
#print axioms proved
end Go.Proofs.Ytodindfchkpecaa.labelOf
