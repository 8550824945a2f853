/- For every 64-bit word it is told which whole number of 64 bits its number is, or that it is none. No condition. -/
import Derived.Test.YtlcmdmbmdpkbbaaRows
import Derived.WalkKit
import Derived.ProofKit
import Derived.OpenShut
import Derived.ShutString
import Derived.Test.YtlcmdmbmdpkbbaaAwk
import Derived.Test.YtlcmdmbmdpkbbaaWhr
namespace Go.Proofs.Ytlcmdmbmdpkbbaa.numWhole
open Go.ChangeShapes Go.WideShapes Go.ChangeAt Go.RowKit
open Go.ChangeMaps (open_string shut_string)
set_option linter.unusedVariables false      -- a walk need not use every 'w<i>' (that an integer argument fits its kind)

theorem own : ownKnob Try.prog.godebug = none := by kernel_rfl

theorem rwhole (b : Nat) (h : Fl.Fits b) (w : World) : Calls Try.prog 30 #[.float .f64 b] w (SomeW b w) := by
  by_cases c1 : Fl.E b < 1023 ∨ 1086 < Fl.E b
  · exact rwhole_far b h c1 w
  · by_cases c2 : Fl.E b < 1075
    · exact rwhole_mid b h (by omega) c2 w
    · exact rwhole_up b h (by omega) (by omega) w

theorem walk_nan (b : Nat) (hf : Fl.Fits b) (hn : Fl.nanB b = true) (w : World) :
    Calls Try.prog 7 #[.int .u64 (b : Int)] w fun e w' => e = .returned (.bool true) ∧ Grown w w' := by
  have hk := Fl.wOk_nan hn
  have F := Lib.hid hf
  have N := Lib.hid hn
  have K := Lib.hid hk
  clear hf hn hk
  go_enter Try.func7, Try.ntmps7
  go_wp2_with fail
  refine (awake w _ (Grown.refl _)).mono ?_
  rintro e w0 ⟨rfl, hg⟩
  have H0 := Lib.hid hg
  clear hg
  go_wp2_with fail
  refine (nwhole_nan b N.out w _ H0.out).mono ?_
  rintro e w1 ⟨rfl, hg1⟩
  have H1 := Lib.hid hg1
  clear hg1
  go_wp2_with fail
  refine (rwhole b F.out _).mono ?_
  rintro e w2 ⟨n, rfl, hn2, rfl⟩
  rw [K.out] at hn2 ⊢
  clear hn2
  go_wp2
  go_ret
  exact ⟨by simp, H1.out⟩

theorem walk_no (b : Nat) (hf : Fl.Fits b) (hn : Fl.nanB b = false) (hk : Fl.wOk b = false) (w : World) :
    Calls Try.prog 7 #[.int .u64 (b : Int)] w fun e w' => e = .returned (.bool true) ∧ Grown w w' := by
  have F := Lib.hid hf
  have N := Lib.hid hn
  have K := Lib.hid hk
  clear hf hn hk
  go_enter Try.func7, Try.ntmps7
  go_wp2_with fail
  refine (awake w _ (Grown.refl _)).mono ?_
  rintro e w0 ⟨rfl, hg⟩
  have H0 := Lib.hid hg
  clear hg
  go_wp2_with fail
  refine (nwhole_no b F.out N.out K.out _).mono ?_
  rintro e w1 ⟨rfl, rfl⟩
  go_wp2_with fail
  refine (rwhole b F.out _).mono ?_
  rintro e w2 ⟨n, rfl, hn2, rfl⟩
  rw [K.out] at hn2 ⊢
  clear hn2
  go_wp2
  go_ret
  exact ⟨by simp, H0.out⟩

theorem walk_yes (b : Nat) (hf : Fl.Fits b) (hn : Fl.nanB b = false) (hk : Fl.wOk b = true) (w : World) :
    Calls Try.prog 7 #[.int .u64 (b : Int)] w fun e w' => e = .returned (.bool true) ∧ Grown w w' := by
  have F := Lib.hid hf
  have N := Lib.hid hn
  have K := Lib.hid hk
  clear hf hn hk
  go_enter Try.func7, Try.ntmps7
  go_wp2_with fail
  refine (awake w _ (Grown.refl _)).mono ?_
  rintro e w0 ⟨rfl, hg⟩
  have H0 := Lib.hid hg
  clear hg
  go_wp2_with fail
  refine (nwhole_yes b F.out N.out K.out _).mono ?_
  rintro e w1 ⟨rfl, rfl⟩
  go_wp2_with fail
  refine (rwhole b F.out _).mono ?_
  rintro e w2 ⟨n, rfl, hn2, rfl⟩
  rw [K.out] at hn2 ⊢
  have hn3 := hn2 rfl
  subst hn3
  clear hn2
  go_wp2
  go_ret
  exact ⟨by simp, H0.out⟩

/-! ### STEP 1: THE WALK: the Go text returns true. 'Grown w w'': the world has at most new blocks (Derived/RowKit3.lean). Part the cases AHEAD of 'go_enter' where a test parts the walk; take each callee by a contract of your own. -/
theorem walk (a0 : Int) (w0 : (Lit.int .u64 a0).wf = true) (w : World) :
    Calls Try.prog 7 #[.int .u64 a0] w fun e w' => e = .returned (.bool true) ∧ Grown w w' := by
  have hb := bounds_u64 w0
  obtain ⟨n, rfl⟩ := Int.eq_ofNat_of_zero_le hb.1
  have hf : Fl.Fits n := Fl.Fits.mk (by omega)
  cases hn : Fl.nanB n
  · cases hk : Fl.wOk n
    · exact walk_no n hf hn hk w
    · exact walk_yes n hf hn hk w
  · exact walk_nan n hf hn w

/-! ### THE ROW's STEP: WRITTEN OUT: LEAVE IT -/
set_option maxRecDepth 100000 in
theorem lifted (os : Os) (started : os.Started) (H : Type) (enc : TypeId × Value → H) :
    ReturnsInHanded {} Try.checked os 7 .any (Rows.numWholeSpec.pre6 enc Try.prog Try.f7 Rows.numWholeRow.domain false) (Rows.numWholeSpec.post enc Try.prog Try.f7 false true false false) := by
  refine returnsInHanded_of_change (C := Try.checked) own started (by kernel_rfl) Try.func7
    (ChangeSpec.witness6 (enc := enc) (C := Try.checked) false ⟨#[], #[.int .u64 0], []⟩ 8 (by kernel_rfl) (by kernel_rfl) (by kernel_rfl) (by kernel_rfl)) ?_
  intro W base args ds gs before hval0 hW hcnd _
  have hval : ∀ (j : Nat) t v, Try.f7.params[j]? = some t → args[j]? = some v → Value.okWide Try.prog W .any base t v := hval0
  have hW' := hW
  obtain ⟨p, q, hA0, hV, rfl, hfz, hnd⟩ := hW
  have hA : DataW.TrodAll enc Try.prog W 0 (fun _ => true) true Try.f7.params.toList args.toList ds p := hA0
  rw [Try.params7] at hA hval
  obtain ⟨v0, vs0, d0, ds0, p0, q0, hargs, rfl, rfl, h0, r0⟩ := trodAll_cons hA
  obtain ⟨rfl, rfl, rfl⟩ := trodAll_nil r0
  obtain rfl : args = #[v0] := by cases args; simp_all
  obtain ⟨rfl, rfl⟩ := trodVars_none hV
  obtain ⟨a0, rfl, rfl, rfl, w0⟩ := open_int Try.underlying22 (hval 0 22 v0 rfl rfl) h0
  clear hA0 hval0
  simp only [List.append_nil] at hW'
  refine (walk a0 w0 W).mono fun e W' ⟨he, hg⟩ => ?_
  subst he
  exact ⟨_, rfl, post_of_same (pa := []) (pv := []) hW' (fun _ _ _ => (trodAll_cons_mk (shut_bool Try.underlying4 _) trodAll_mk0)) (fun sp _ => (trodAll_cons_mk (shut_int Try.underlying22 w0) trodAll_mk0)) (fun _ _ => rfl) rfl
    (hg.frame _) hg.2.1 (ok_one (by kernel_rfl) rfl (okWide_bool_mk Try.underlying4 _))⟩

theorem over : Rows.numWholeRow.holds Try.pinned (OpenSpec.ofChange Rows.numWholeSpec) :=
  OpenClaim.holds_of_wide 7 Try.f7 rfl rfl rfl rfl rfl rfl rfl ⟨rfl, rfl, rfl, rfl, rfl⟩ rfl rfl rfl rfl rfl (by kernel_rfl) Try.func7 (by kernel_rfl)
    (of_decide_eq_true (by kernel_rfl)) (by unfold Func.isWrapper; first | (rw [if_pos (by decide +kernel)]; kernel_rfl) | (rw [if_neg (by decide +kernel)]; exact ⟨rfl, rfl⟩))
    (fun os started H enc _ => lifted os started H enc)

/-- ████ THE STATEMENT ████ -/
theorem proved : Rows.NumWholeSaid :=
  over
#print axioms proved
end Go.Proofs.Ytlcmdmbmdpkbbaa.numWhole
