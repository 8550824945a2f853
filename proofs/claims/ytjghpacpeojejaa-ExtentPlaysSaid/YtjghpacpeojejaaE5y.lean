/- ExtentPlays: for all numbers and acts the law returns true, and its arguments read behind the call as they read before: given what the program's extent does. -/
import Derived.Test.YtjghpacpeojejaaE5yw
namespace Go.Proofs.Ytjghpacpeojejaa.extentPlays
open Go.Proofs.Ytjghpacpeojejaa Go.Joins Go.ChangeShapes Go.WideShapes Go.ChangeAt Go.RowKit Go.Deep
open Go.ChangeMaps (open_string shut_string)

set_option maxRecDepth 100000 in
set_option maxHeartbeats 1000000 in
theorem walk_skip {R : RelE} (X : ExtAt R) (e s : Int) (v : Value) (w : World) (h : (8 < e ∧ e ≤ 32) ∨ ((e ≤ 8 ∨ 32 < e) ∧ 20 < s ∧ s ≤ 128)) :
    Calls Try.prog 3 #[.int .i64 e, .int .i64 s, v] w fun r w' => r = .returned (.bool true) ∧ Below w.heap.size w w' := by
  have AW := Lib.hid (awake5 X)
  clear X
  rcases h with ⟨h1, h2⟩ | ⟨h1 | h1, h2, h3⟩
  all_goals
    go_enter Try.func3, Try.ntmps3
    go_wp2_with fail
    refine (AW.out _).mono ?_
    rintro r w1 ⟨rfl, hb1⟩
    have B1 := Lib.hid hb1
    clear hb1
    go_wp2_with fail
    go_ret
    exact ⟨rfl, B1.out⟩

set_option maxRecDepth 100000 in
set_option maxHeartbeats 1000000 in
theorem walk_nofit {R : RelE} (X : ExtAt R) (e s : Int) (v : Value) (w : World) (he : In64 e) (hs : In64 s) (h1 : e ≤ 8 ∨ 32 < e) (h2 : s ≤ 20 ∨ 128 < s) (hf : Ext.fits e s = false) :
    Calls Try.prog 3 #[.int .i64 e, .int .i64 s, v] w fun r w' => r = .returned (.bool true) ∧ Below w.heap.size w w' := by
  have AW := Lib.hid (awake5 X)
  have NW := Lib.hid (fun v => X.new e s v he hs)
  have RN := Lib.hid (fun v => eNew e s v)
  have HF := Lib.hid hf
  clear X he hs hf
  rcases h1 with h1 | h1 <;> rcases h2 with h2 | h2
  all_goals
    go_enter Try.func3, Try.ntmps3
    go_wp2_with fail
    refine (AW.out _).mono ?_
    rintro r w1 ⟨rfl, hb1⟩
    have B1 := Lib.hid hb1
    clear hb1
    go_wp2_with fail
    refine (NW.out _).mono ?_
    rintro r w2 ⟨hb2, ⟨hf, _⟩ | ⟨_, rfl⟩⟩
    · exact absurd (hf.symm.trans HF.out) (by decide)
    have B2 := Lib.hid (below_then B1.out hb2)
    clear hb2
    go_wp2_with fail
    refine (RN.out _).mono ?_
    rintro r w3 (⟨hf, _⟩ | ⟨_, rfl, rfl⟩)
    · exact absurd (hf.symm.trans HF.out) (by decide)
    go_wp2_with fail
    go_ret
    exact ⟨by first | rfl | simp, B2.out⟩

theorem in64_of {x : Int} (h : (Lit.int .i64 x).wf = true) : In64 x := by
  have b := bounds_i64 h
  exact ⟨by omega, by omega⟩

theorem walk {R : RelE} (X : ExtAt R) (e s : Int) (A1 : Option Addr) (c1 : Nat) (l : List Act5) (w : World) (he : In64 e) (hs : In64 s) (h1 : SlAc w.heap.size w A1 l) (o1 : AcsOk l) :
    Calls Try.prog 3 #[.int .i64 e, .int .i64 s, .slice A1 l.length c1] w fun r w' => r = .returned (.bool true) ∧ Below w.heap.size w w' := by
  by_cases k1 : 8 < e ∧ e ≤ 32
  · exact walk_skip X e s _ w (.inl k1)
  by_cases k2 : 20 < s ∧ s ≤ 128
  · exact walk_skip X e s _ w (.inr ⟨by omega, k2⟩)
  cases hf : Ext.fits e s with
  | false => exact walk_nofit X e s _ w he hs (by omega) (by omega) hf
  | true =>
    unfold Ext.fits at hf
    simp only [Bool.and_eq_true, decide_eq_true_eq] at hf
    exact walk_fit X e s A1 c1 l w (by omega) (by omega) (by omega) (by omega) h1 o1

set_option maxRecDepth 100000 in
theorem lifted {R : RelE} (X : ExtAt R) (os : Os) (started : os.Started) (H : Type) (enc : TypeId × Value → H) :
    ReturnsInHanded {} Try.checked os 3 .any (Rows.extentPlaysSpec.pre6 enc Try.prog Try.f3 Rows.extentPlaysRow.domain false) (Rows.extentPlaysSpec.post enc Try.prog Try.f3 false true false false) := by
  refine returnsInHanded_of_change (C := Try.checked) own started (by kernel_rfl) Try.func3
    (ChangeSpec.witness6 (enc := enc) (C := Try.checked) false ⟨#[], #[.int .i64 0, .int .i64 0, .slice none 0 0], []⟩ 8 (by kernel_rfl) (by kernel_rfl) (by kernel_rfl) (by kernel_rfl)) ?_
  intro W base args ds gs before hval0 hW hcnd _
  have hval : ∀ (j : Nat) t v, Try.f3.params[j]? = some t → args[j]? = some v → Value.okWide Try.prog W .any base t v := hval0
  have hW' := hW
  obtain ⟨p, q, hA0, hV, rfl, hfz, hnd⟩ := hW
  have hA : DataW.TrodAll enc Try.prog W 0 (fun _ => true) true Try.f3.params.toList args.toList ds p := hA0
  rw [Try.params3] at hA hval
  obtain ⟨v0, vs0, d0, ds0, p0, q0, hargs0, rfl, rfl, h0, r0⟩ := trodAll_cons hA
  obtain ⟨v1, vs1, d1, ds1, p1, q1, hargs1, rfl, rfl, h1, r1⟩ := trodAll_cons r0
  obtain ⟨v2, vs2, d2, ds2, p2, q2, hargs2, rfl, rfl, h2, r2⟩ := trodAll_cons r1
  obtain ⟨rfl, rfl, rfl⟩ := trodAll_nil r2
  obtain rfl : args = #[v0, v1, v2] := by cases args; simp_all
  obtain ⟨rfl, rfl⟩ := trodVars_none hV
  clear hA0 hval0
  simp only [List.append_nil] at hW'
  obtain ⟨x0, rfl, rfl, rfl, w0⟩ := open_int Try.underlying3 (hval 0 3 v0 rfl rfl) h0
  obtain ⟨x1, rfl, rfl, rfl, w1⟩ := open_int Try.underlying3 (hval 1 3 v1 rfl rfl) h1
  have l2 : ∀ x ∈ p2, x.block < W.heap.size := fun x hx => hW'.lt x (by simp [hx])
  obtain ⟨A2, c2, x2, rfl, s2, k2⟩ := open_acts (hval 2 22 v2 rfl rfl) h2
  refine (walk X x0 x1 A2 c2 x2 W (in64_of w0) (in64_of w1) s2 k2).mono fun e W' ⟨he, hg⟩ => ?_
  subst he
  refine ⟨_, rfl, [.lit (.int .i64 x0), .lit (.int .i64 x1), d2], [], [] ++ ([] ++ p2), [], [] ++ ([] ++ (p2 ++ [])), [], hW', ?_, ?_, ?_, hg.frame _, fun h => by cases h⟩
  · exact trodAll_cons_mk (shut_bool Try.underlying4 _) trodAll_mk0
  · exact (trodAll_cons_mk (shut_int Try.underlying3 w0) (trodAll_cons_mk (shut_int Try.underlying3 w1) (trodAll_cons_mk (Below.trod laidOut (by kernel_rfl) (of_decide_eq_true (by kernel_rfl)) h2 hg l2) trodAll_mk0)))
  · rfl

theorem over {R : RelE} (X : ExtAt R) : Rows.extentPlaysRow.holds Try.pinned (OpenSpec.ofChange Rows.extentPlaysSpec) :=
  OpenClaim.holds_of_wide 3 Try.f3 rfl rfl rfl rfl rfl rfl rfl ⟨rfl, rfl, rfl, rfl, rfl⟩ rfl rfl rfl rfl rfl (by kernel_rfl) Try.func3 (by kernel_rfl)
    (of_decide_eq_true (by kernel_rfl)) (by unfold Func.isWrapper; first | (rw [if_pos (by decide +kernel)]; kernel_rfl) | (rw [if_neg (by decide +kernel)]; exact ⟨rfl, rfl⟩))
    (fun os started H enc _ => lifted X os started H enc)

/-- ████ THE STATEMENT ████ -/
theorem proved {R : RelE} (X : ExtAt R) : Rows.ExtentPlaysSaid :=
  over X
#print axioms proved

end Go.Proofs.Ytjghpacpeojejaa.extentPlays
