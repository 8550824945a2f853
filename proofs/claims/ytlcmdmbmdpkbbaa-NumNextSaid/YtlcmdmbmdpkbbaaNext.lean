/- For every 64-bit word and every place: the next number stands right behind the word's number, the NaN has none, and the place is some number's or none's. No condition. -/
import Derived.Test.YtlcmdmbmdpkbbaaRows
import Derived.WalkKit
import Derived.ProofKit
import Derived.OpenShut
import Derived.ShutString
import Derived.Test.YtlcmdmbmdpkbbaaAwk
namespace Go.Proofs.Ytlcmdmbmdpkbbaa.numNext
open Go.ChangeShapes Go.WideShapes Go.ChangeAt Go.RowKit
open Go.ChangeMaps (open_string shut_string)
set_option linter.unusedVariables false      -- a walk need not use every 'w<i>' (that an integer argument fits its kind)

theorem own : ownKnob Try.prog.godebug = none := by kernel_rfl

theorem zero_eq : (FloatKind.f64.format.order 0 0 == some Ordering.eq) = true := by decide
theorem zero_ne : (FloatKind.f64.format.order 0 0 != some Ordering.eq) = false := by decide

theorem next_facts (n : Nat) (hf : Fl.Fits n) (hn : Fl.nanB n = false) : Fl.Fits (Fl.atB (Fl.place n + 1)) ∧ Fl.place (Fl.atB (Fl.place n + 1)) = Fl.place n + 1 ∧ (Fl.place n : Int) + 1 ≤ 18437736874454810626 := by
  have h1 := Fl.place_lt hf hn
  have h2 : Fl.place n + 1 ≤ Fl.NANP := h1
  refine ⟨Fl.atB_fits h2, Fl.place_atB h2, ?_⟩
  unfold Fl.NANP at h2
  omega

theorem walk_11 (n p : Nat) (hf : Fl.Fits n) (hn : Fl.nanB n = true) (hp : p ≤ Fl.NANP) (w : World) :
    Calls Try.prog 6 #[.int .u64 (n : Int), .int .u64 (p : Int)] w fun e w' => e = .returned (.bool true) ∧ Grown w w' := by
  have Z1 := zero_eq
  have Z2 := zero_ne
  have F := Lib.hid hf
  have N := Lib.hid hn
  have P := Lib.hid hp
  clear hf hn hp
  go_enter Try.func6, Try.ntmps6
  go_wp2_with fail
  refine (awake w _ (Grown.refl _)).mono ?_
  rintro e w0 ⟨rfl, hg⟩
  have H0 := Lib.hid hg
  clear hg
  go_wp2_with fail
  refine (nnext_no n F.out N.out _).mono ?_
  rintro e w' ⟨rfl, rfl⟩
  go_wp2_with fail
  refine (rnan n F.out _).mono ?_
  rintro e w' ⟨rfl, rfl⟩
  rw [N.out]
  go_wp2_with fail
  refine (nat_yes p P.out _).mono ?_
  rintro e w' ⟨rfl, rfl⟩
  go_wp2_with fail
  refine (rat_yes p P.out _).mono ?_
  rintro e w' ⟨rfl, rfl⟩
  go_wp2
  go_ret
  exact ⟨by simp, H0.out⟩

theorem walk_10 (n p : Nat) (hf : Fl.Fits n) (hn : Fl.nanB n = true) (hp : Fl.NANP < p) (w : World) :
    Calls Try.prog 6 #[.int .u64 (n : Int), .int .u64 (p : Int)] w fun e w' => e = .returned (.bool true) ∧ Grown w w' := by
  have Z1 := zero_eq
  have Z2 := zero_ne
  have F := Lib.hid hf
  have N := Lib.hid hn
  have P := Lib.hid hp
  clear hf hn hp
  go_enter Try.func6, Try.ntmps6
  go_wp2_with fail
  refine (awake w _ (Grown.refl _)).mono ?_
  rintro e w0 ⟨rfl, hg⟩
  have H0 := Lib.hid hg
  clear hg
  go_wp2_with fail
  refine (nnext_no n F.out N.out _).mono ?_
  rintro e w' ⟨rfl, rfl⟩
  go_wp2_with fail
  refine (rnan n F.out _).mono ?_
  rintro e w' ⟨rfl, rfl⟩
  rw [N.out]
  go_wp2_with fail
  refine (nat_no p P.out _).mono ?_
  rintro e w' ⟨rfl, rfl⟩
  go_wp2_with fail
  refine (rat_no p P.out _).mono ?_
  rintro e w' ⟨rfl, rfl⟩
  go_wp2
  go_ret
  exact ⟨by simp, H0.out⟩

theorem walk_01 (n p : Nat) (hf : Fl.Fits n) (hn : Fl.nanB n = false) (hp : p ≤ Fl.NANP) (w : World) :
    Calls Try.prog 6 #[.int .u64 (n : Int), .int .u64 (p : Int)] w fun e w' => e = .returned (.bool true) ∧ Grown w w' := by
  have Z1 := zero_eq
  have Z2 := zero_ne
  obtain ⟨ft, pt, k1⟩ := next_facts n hf hn
  have FT := Lib.hid ft
  have PT := Lib.hid pt
  have hl : decide (Fl.place n < Fl.place (Fl.atB (Fl.place n + 1))) = true := by rw [pt]; simp
  have HL := Lib.hid hl
  clear ft pt hl
  have F := Lib.hid hf
  have N := Lib.hid hn
  have P := Lib.hid hp
  clear hf hn hp
  go_enter Try.func6, Try.ntmps6
  go_wp2_with fail
  refine (awake w _ (Grown.refl _)).mono ?_
  rintro e w0 ⟨rfl, hg⟩
  have H0 := Lib.hid hg
  clear hg
  go_wp2_with fail
  refine (nnext_yes n F.out N.out _).mono ?_
  rintro e w' ⟨rfl, rfl⟩
  go_wp2_with fail
  refine (rnan n F.out _).mono ?_
  rintro e w' ⟨rfl, rfl⟩
  rw [N.out]
  go_wp2_with fail
  refine (rplace _ FT.out _).mono ?_
  rintro e w' ⟨rfl, rfl⟩
  rw [PT.out]
  go_wp2_with fail
  refine (rplace n F.out _).mono ?_
  rintro e w' ⟨rfl, rfl⟩
  go_wp2_with fail
  refine (rless n _ F.out FT.out _).mono ?_
  rintro e w' ⟨rfl, rfl⟩
  rw [HL.out]
  go_wp2_with fail
  refine (nat_yes p P.out _).mono ?_
  rintro e w' ⟨rfl, rfl⟩
  go_wp2_with fail
  refine (rat_yes p P.out _).mono ?_
  rintro e w' ⟨rfl, rfl⟩
  go_wp2
  go_ret
  exact ⟨by simp, H0.out⟩

theorem walk_00 (n p : Nat) (hf : Fl.Fits n) (hn : Fl.nanB n = false) (hp : Fl.NANP < p) (w : World) :
    Calls Try.prog 6 #[.int .u64 (n : Int), .int .u64 (p : Int)] w fun e w' => e = .returned (.bool true) ∧ Grown w w' := by
  have Z1 := zero_eq
  have Z2 := zero_ne
  obtain ⟨ft, pt, k1⟩ := next_facts n hf hn
  have FT := Lib.hid ft
  have PT := Lib.hid pt
  have hl : decide (Fl.place n < Fl.place (Fl.atB (Fl.place n + 1))) = true := by rw [pt]; simp
  have HL := Lib.hid hl
  clear ft pt hl
  have F := Lib.hid hf
  have N := Lib.hid hn
  have P := Lib.hid hp
  clear hf hn hp
  go_enter Try.func6, Try.ntmps6
  go_wp2_with fail
  refine (awake w _ (Grown.refl _)).mono ?_
  rintro e w0 ⟨rfl, hg⟩
  have H0 := Lib.hid hg
  clear hg
  go_wp2_with fail
  refine (nnext_yes n F.out N.out _).mono ?_
  rintro e w' ⟨rfl, rfl⟩
  go_wp2_with fail
  refine (rnan n F.out _).mono ?_
  rintro e w' ⟨rfl, rfl⟩
  rw [N.out]
  go_wp2_with fail
  refine (rplace _ FT.out _).mono ?_
  rintro e w' ⟨rfl, rfl⟩
  rw [PT.out]
  go_wp2_with fail
  refine (rplace n F.out _).mono ?_
  rintro e w' ⟨rfl, rfl⟩
  go_wp2_with fail
  refine (rless n _ F.out FT.out _).mono ?_
  rintro e w' ⟨rfl, rfl⟩
  rw [HL.out]
  go_wp2_with fail
  refine (nat_no p P.out _).mono ?_
  rintro e w' ⟨rfl, rfl⟩
  go_wp2_with fail
  refine (rat_no p P.out _).mono ?_
  rintro e w' ⟨rfl, rfl⟩
  go_wp2
  go_ret
  exact ⟨by simp, H0.out⟩

/-! ### STEP 1: THE WALK: the Go text returns true. 'Grown w w'': the world has at most new blocks (Derived/RowKit3.lean). Part the cases AHEAD of 'go_enter' where a test parts the walk; take each callee by a contract of your own. -/
theorem walk (a0 : Int) (a1 : Int) (w0 : (Lit.int .u64 a0).wf = true) (w1 : (Lit.int .u64 a1).wf = true) (w : World) :
    Calls Try.prog 6 #[.int .u64 a0, .int .u64 a1] w fun e w' => e = .returned (.bool true) ∧ Grown w w' := by
  have hb := bounds_u64 w0
  have hb' := bounds_u64 w1
  obtain ⟨n, rfl⟩ := Int.eq_ofNat_of_zero_le hb.1
  obtain ⟨p, rfl⟩ := Int.eq_ofNat_of_zero_le hb'.1
  have hf : Fl.Fits n := Fl.Fits.mk (by omega)
  rcases Nat.lt_or_ge Fl.NANP p with hp | hp <;> cases hn : Fl.nanB n
  · exact walk_00 n p hf hn hp w
  · exact walk_10 n p hf hn hp w
  · exact walk_01 n p hf hn hp w
  · exact walk_11 n p hf hn hp w

/-! ### THE ROW's STEP: WRITTEN OUT: LEAVE IT -/
set_option maxRecDepth 100000 in
theorem lifted (os : Os) (started : os.Started) (H : Type) (enc : TypeId × Value → H) :
    ReturnsInHanded {} Try.checked os 6 .any (Rows.numNextSpec.pre6 enc Try.prog Try.f6 Rows.numNextRow.domain false) (Rows.numNextSpec.post enc Try.prog Try.f6 false true false false) := by
  refine returnsInHanded_of_change (C := Try.checked) own started (by kernel_rfl) Try.func6
    (ChangeSpec.witness6 (enc := enc) (C := Try.checked) false ⟨#[], #[.int .u64 0, .int .u64 0], []⟩ 8 (by kernel_rfl) (by kernel_rfl) (by kernel_rfl) (by kernel_rfl)) ?_
  intro W base args ds gs before hval0 hW hcnd _
  have hval : ∀ (j : Nat) t v, Try.f6.params[j]? = some t → args[j]? = some v → Value.okWide Try.prog W .any base t v := hval0
  have hW' := hW
  obtain ⟨p, q, hA0, hV, rfl, hfz, hnd⟩ := hW
  have hA : DataW.TrodAll enc Try.prog W 0 (fun _ => true) true Try.f6.params.toList args.toList ds p := hA0
  rw [Try.params6] at hA hval
  obtain ⟨v0, vs0, d0, ds0, p0, q0, hargs, rfl, rfl, h0, r0⟩ := trodAll_cons hA
  obtain ⟨v1, vs1, d1, ds1, p1, q1, rfl, rfl, rfl, h1, r1⟩ := trodAll_cons r0
  obtain ⟨rfl, rfl, rfl⟩ := trodAll_nil r1
  obtain rfl : args = #[v0, v1] := by cases args; simp_all
  obtain ⟨rfl, rfl⟩ := trodVars_none hV
  obtain ⟨a0, rfl, rfl, rfl, w0⟩ := open_int Try.underlying22 (hval 0 22 v0 rfl rfl) h0
  obtain ⟨a1, rfl, rfl, rfl, w1⟩ := open_int Try.underlying22 (hval 1 22 v1 rfl rfl) h1
  clear hA0 hval0
  simp only [List.append_nil] at hW'
  refine (walk a0 a1 w0 w1 W).mono fun e W' ⟨he, hg⟩ => ?_
  subst he
  exact ⟨_, rfl, post_of_same (pa := []) (pv := []) hW' (fun _ _ _ => (trodAll_cons_mk (shut_bool Try.underlying4 _) trodAll_mk0)) (fun sp _ => (trodAll_cons_mk (shut_int Try.underlying22 w0) (trodAll_cons_mk (shut_int Try.underlying22 w1) trodAll_mk0))) (fun _ _ => rfl) rfl
    (hg.frame _) hg.2.1 (ok_one (by kernel_rfl) rfl (okWide_bool_mk Try.underlying4 _))⟩

theorem over : Rows.numNextRow.holds Try.pinned (OpenSpec.ofChange Rows.numNextSpec) :=
  OpenClaim.holds_of_wide 6 Try.f6 rfl rfl rfl rfl rfl rfl rfl ⟨rfl, rfl, rfl, rfl, rfl⟩ rfl rfl rfl rfl rfl (by kernel_rfl) Try.func6 (by kernel_rfl)
    (of_decide_eq_true (by kernel_rfl)) (by unfold Func.isWrapper; first | (rw [if_pos (by decide +kernel)]; kernel_rfl) | (rw [if_neg (by decide +kernel)]; exact ⟨rfl, rfl⟩))
    (fun os started H enc _ => lifted os started H enc)

/-- ████ THE STATEMENT ████ -/
theorem proved : Rows.NumNextSaid :=
  over
#print axioms proved
end Go.Proofs.Ytlcmdmbmdpkbbaa.numNext
