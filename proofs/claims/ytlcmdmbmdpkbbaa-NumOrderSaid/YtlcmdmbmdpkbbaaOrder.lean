/- For every two 64-bit words: which of their numbers stands ahead is told as the document says, and just as their keys stand, byte by byte. No condition. -/
import Derived.Test.YtlcmdmbmdpkbbaaRows
import Derived.WalkKit
import Derived.ProofKit
import Derived.OpenShut
import Derived.ShutString
import Derived.Test.YtlcmdmbmdpkbbaaAwk
namespace Go.Proofs.Ytlcmdmbmdpkbbaa.numOrder
open Go.ChangeShapes Go.WideShapes Go.ChangeAt Go.RowKit
open Go.ChangeMaps (open_string shut_string)
set_option linter.unusedVariables false      -- a walk need not use every 'w<i>' (that an integer argument fits its kind)

theorem own : ownKnob Try.prog.godebug = none := by kernel_rfl

theorem core (a b : Nat) (ha : Fl.Fits a) (hb : Fl.Fits b) (lt gt eq : Bool)
    (h1 : decide (Fl.place a < Fl.place b) = lt) (h2 : decide (Fl.place b < Fl.place a) = gt) (h3 : decide (Fl.place a = Fl.place b) = eq) :
    (decide (Fl.bitsOf a = Fl.bitsOf b) = eq) ∧ Op.bytesLess (keyOf (Fl.place a)).toList (keyOf (Fl.place b)).toList = lt ∧ ((keyOf (Fl.place a)).toList == (keyOf (Fl.place b)).toList) = eq := by
  have pa := Fl.place_le ha
  have pb := Fl.place_le hb
  unfold Fl.NANP at pa pb
  refine ⟨?_, ?_, ?_⟩
  · rw [← h3, Bool.eq_iff_iff]
    simp only [decide_eq_true_eq]
    constructor
    · intro h
      have h4 := congrArg Fl.place h
      rwa [Fl.place_bitsOf, Fl.place_bitsOf] at h4
    · intro h
      have h4 := congrArg Fl.atB h
      rwa [Fl.atB_place ha, Fl.atB_place hb] at h4
  · rw [key_less _ _ (by omega) (by omega), h1]
  · rw [key_eqB _ _ (by omega) (by omega), h3]

theorem walk_lt (a b : Nat) (ha : Fl.Fits a) (hb : Fl.Fits b) (hc : Fl.place a < Fl.place b) (w : World) :
    Calls Try.prog 4 #[.int .u64 (a : Int), .int .u64 (b : Int)] w fun e w' => e = .returned (.bool true) ∧ Grown w w' := by
  have l1 : decide (Fl.place a < Fl.place b) = true := by simp; omega
  have l2 : decide (Fl.place b < Fl.place a) = false := by simp; omega
  have l3 : decide (Fl.place a = Fl.place b) = false := by simp; omega
  obtain ⟨sa, K1, K2⟩ := core a b ha hb _ _ _ l1 l2 l3
  have cm : cmpI (Fl.place a) (Fl.place b) = -1 := by unfold cmpI; (repeat' split) <;> omega
  have L1 := Lib.hid l1
  have L2 := Lib.hid l2
  have SA := Lib.hid sa
  have CM := Lib.hid cm
  have FA := Lib.hid ha
  have FB := Lib.hid hb
  clear l1 l2 l3 sa cm ha hb hc
  go_enter Try.func4, Try.ntmps4
  go_wp2_with fail
  refine (awake w _ (Grown.refl _)).mono ?_
  rintro e w0 ⟨rfl, hg⟩
  have H0 := Lib.hid hg
  clear hg
  go_wp2_with fail
  refine (rless a b FA.out FB.out _).mono ?_
  rintro e w' ⟨rfl, rfl⟩
  rw [L1.out]
  go_wp2_with fail
  refine (rless b a FB.out FA.out _).mono ?_
  rintro e w' ⟨rfl, rfl⟩
  rw [L2.out]
  go_wp2_with fail
  refine (nkey a FA.out w _ H0.out).mono ?_
  rintro e wH1 ⟨rfl, hgH1⟩
  have H1 := Lib.hid hgH1
  clear hgH1
  go_wp2_with fail
  refine (nkey b FB.out w _ H1.out).mono ?_
  rintro e wH2 ⟨rfl, hgH2⟩
  have H2 := Lib.hid hgH2
  clear hgH2
  go_wp2_with fail
  refine (nkey a FA.out w _ H2.out).mono ?_
  rintro e wH3 ⟨rfl, hgH3⟩
  have H3 := Lib.hid hgH3
  clear hgH3
  go_wp2_with fail
  refine (nkey b FB.out w _ H3.out).mono ?_
  rintro e wH4 ⟨rfl, hgH4⟩
  have H4 := Lib.hid hgH4
  clear hgH4
  go_wp2_with fail
  refine (norder a b FA.out FB.out _).mono ?_
  rintro e w' ⟨rfl, rfl⟩
  rw [CM.out]
  go_wp2_with fail
  refine (nsame a b _).mono ?_
  rintro e w' ⟨rfl, rfl⟩
  rw [SA.out]
  go_wp2
  go_ret
  exact ⟨rfl, H4.out⟩

theorem walk_gt (a b : Nat) (ha : Fl.Fits a) (hb : Fl.Fits b) (hc : Fl.place b < Fl.place a) (w : World) :
    Calls Try.prog 4 #[.int .u64 (a : Int), .int .u64 (b : Int)] w fun e w' => e = .returned (.bool true) ∧ Grown w w' := by
  have l1 : decide (Fl.place a < Fl.place b) = false := by simp; omega
  have l2 : decide (Fl.place b < Fl.place a) = true := by simp; omega
  have l3 : decide (Fl.place a = Fl.place b) = false := by simp; omega
  obtain ⟨sa, K1, K2⟩ := core a b ha hb _ _ _ l1 l2 l3
  have cm : cmpI (Fl.place a) (Fl.place b) = 1 := by unfold cmpI; (repeat' split) <;> omega
  have L1 := Lib.hid l1
  have L2 := Lib.hid l2
  have SA := Lib.hid sa
  have CM := Lib.hid cm
  have FA := Lib.hid ha
  have FB := Lib.hid hb
  clear l1 l2 l3 sa cm ha hb hc
  go_enter Try.func4, Try.ntmps4
  go_wp2_with fail
  refine (awake w _ (Grown.refl _)).mono ?_
  rintro e w0 ⟨rfl, hg⟩
  have H0 := Lib.hid hg
  clear hg
  go_wp2_with fail
  refine (rless a b FA.out FB.out _).mono ?_
  rintro e w' ⟨rfl, rfl⟩
  rw [L1.out]
  go_wp2_with fail
  refine (rless b a FB.out FA.out _).mono ?_
  rintro e w' ⟨rfl, rfl⟩
  rw [L2.out]
  go_wp2_with fail
  refine (nkey a FA.out w _ H0.out).mono ?_
  rintro e wH1 ⟨rfl, hgH1⟩
  have H1 := Lib.hid hgH1
  clear hgH1
  go_wp2_with fail
  refine (nkey b FB.out w _ H1.out).mono ?_
  rintro e wH2 ⟨rfl, hgH2⟩
  have H2 := Lib.hid hgH2
  clear hgH2
  go_wp2_with fail
  refine (nkey a FA.out w _ H2.out).mono ?_
  rintro e wH3 ⟨rfl, hgH3⟩
  have H3 := Lib.hid hgH3
  clear hgH3
  go_wp2_with fail
  refine (nkey b FB.out w _ H3.out).mono ?_
  rintro e wH4 ⟨rfl, hgH4⟩
  have H4 := Lib.hid hgH4
  clear hgH4
  go_wp2_with fail
  refine (norder a b FA.out FB.out _).mono ?_
  rintro e w' ⟨rfl, rfl⟩
  rw [CM.out]
  go_wp2_with fail
  refine (nsame a b _).mono ?_
  rintro e w' ⟨rfl, rfl⟩
  rw [SA.out]
  go_wp2
  go_ret
  exact ⟨rfl, H4.out⟩

theorem walk_eq (a b : Nat) (ha : Fl.Fits a) (hb : Fl.Fits b) (hc : Fl.place a = Fl.place b) (w : World) :
    Calls Try.prog 4 #[.int .u64 (a : Int), .int .u64 (b : Int)] w fun e w' => e = .returned (.bool true) ∧ Grown w w' := by
  have l1 : decide (Fl.place a < Fl.place b) = false := by simp; omega
  have l2 : decide (Fl.place b < Fl.place a) = false := by simp; omega
  have l3 : decide (Fl.place a = Fl.place b) = true := by simp; omega
  obtain ⟨sa, K1, K2⟩ := core a b ha hb _ _ _ l1 l2 l3
  have cm : cmpI (Fl.place a) (Fl.place b) = 0 := by unfold cmpI; (repeat' split) <;> omega
  have L1 := Lib.hid l1
  have L2 := Lib.hid l2
  have SA := Lib.hid sa
  have CM := Lib.hid cm
  have FA := Lib.hid ha
  have FB := Lib.hid hb
  clear l1 l2 l3 sa cm ha hb hc
  go_enter Try.func4, Try.ntmps4
  go_wp2_with fail
  refine (awake w _ (Grown.refl _)).mono ?_
  rintro e w0 ⟨rfl, hg⟩
  have H0 := Lib.hid hg
  clear hg
  go_wp2_with fail
  refine (rless a b FA.out FB.out _).mono ?_
  rintro e w' ⟨rfl, rfl⟩
  rw [L1.out]
  go_wp2_with fail
  refine (rless b a FB.out FA.out _).mono ?_
  rintro e w' ⟨rfl, rfl⟩
  rw [L2.out]
  go_wp2_with fail
  refine (nkey a FA.out w _ H0.out).mono ?_
  rintro e wH1 ⟨rfl, hgH1⟩
  have H1 := Lib.hid hgH1
  clear hgH1
  go_wp2_with fail
  refine (nkey b FB.out w _ H1.out).mono ?_
  rintro e wH2 ⟨rfl, hgH2⟩
  have H2 := Lib.hid hgH2
  clear hgH2
  go_wp2_with fail
  refine (nkey a FA.out w _ H2.out).mono ?_
  rintro e wH3 ⟨rfl, hgH3⟩
  have H3 := Lib.hid hgH3
  clear hgH3
  go_wp2_with fail
  refine (nkey b FB.out w _ H3.out).mono ?_
  rintro e wH4 ⟨rfl, hgH4⟩
  have H4 := Lib.hid hgH4
  clear hgH4
  go_wp2_with fail
  refine (norder a b FA.out FB.out _).mono ?_
  rintro e w' ⟨rfl, rfl⟩
  rw [CM.out]
  go_wp2_with fail
  refine (nsame a b _).mono ?_
  rintro e w' ⟨rfl, rfl⟩
  rw [SA.out]
  go_wp2
  go_ret
  exact ⟨rfl, H4.out⟩

/-! ### STEP 1: THE WALK: the Go text returns true. 'Grown w w'': the world has at most new blocks (Derived/RowKit3.lean). Part the cases AHEAD of 'go_enter' where a test parts the walk; take each callee by a contract of your own. -/
theorem walk (a0 : Int) (a1 : Int) (w0 : (Lit.int .u64 a0).wf = true) (w1 : (Lit.int .u64 a1).wf = true) (w : World) :
    Calls Try.prog 4 #[.int .u64 a0, .int .u64 a1] w fun e w' => e = .returned (.bool true) ∧ Grown w w' := by
  have hb := bounds_u64 w0
  have hb' := bounds_u64 w1
  obtain ⟨a, rfl⟩ := Int.eq_ofNat_of_zero_le hb.1
  obtain ⟨b, rfl⟩ := Int.eq_ofNat_of_zero_le hb'.1
  have ha : Fl.Fits a := Fl.Fits.mk (by omega)
  have hbf : Fl.Fits b := Fl.Fits.mk (by omega)
  rcases Nat.lt_trichotomy (Fl.place a) (Fl.place b) with h | h | h
  · exact walk_lt a b ha hbf h w
  · exact walk_eq a b ha hbf h w
  · exact walk_gt a b ha hbf h w

/-! ### THE ROW's STEP: WRITTEN OUT: LEAVE IT -/
set_option maxRecDepth 100000 in
theorem lifted (os : Os) (started : os.Started) (H : Type) (enc : TypeId × Value → H) :
    ReturnsInHanded {} Try.checked os 4 .any (Rows.numOrderSpec.pre6 enc Try.prog Try.f4 Rows.numOrderRow.domain false) (Rows.numOrderSpec.post enc Try.prog Try.f4 false true false false) := by
  refine returnsInHanded_of_change (C := Try.checked) own started (by kernel_rfl) Try.func4
    (ChangeSpec.witness6 (enc := enc) (C := Try.checked) false ⟨#[], #[.int .u64 0, .int .u64 0], []⟩ 8 (by kernel_rfl) (by kernel_rfl) (by kernel_rfl) (by kernel_rfl)) ?_
  intro W base args ds gs before hval0 hW hcnd _
  have hval : ∀ (j : Nat) t v, Try.f4.params[j]? = some t → args[j]? = some v → Value.okWide Try.prog W .any base t v := hval0
  have hW' := hW
  obtain ⟨p, q, hA0, hV, rfl, hfz, hnd⟩ := hW
  have hA : DataW.TrodAll enc Try.prog W 0 (fun _ => true) true Try.f4.params.toList args.toList ds p := hA0
  rw [Try.params4] at hA hval
  obtain ⟨v0, vs0, d0, ds0, p0, q0, hargs, rfl, rfl, h0, r0⟩ := trodAll_cons hA
  obtain ⟨v1, vs1, d1, ds1, p1, q1, rfl, rfl, rfl, h1, r1⟩ := trodAll_cons r0
  obtain ⟨rfl, rfl, rfl⟩ := trodAll_nil r1
  obtain rfl : args = #[v0, v1] := by cases args; simp_all
  obtain ⟨rfl, rfl⟩ := trodVars_none hV
  obtain ⟨a0, rfl, rfl, rfl, w0⟩ := open_int Try.underlying22 (hval 0 22 v0 rfl rfl) h0
  obtain ⟨a1, rfl, rfl, rfl, w1⟩ := open_int Try.underlying22 (hval 1 22 v1 rfl rfl) h1
  clear hA0 hval0
  simp only [List.append_nil] at hW'
  refine (walk a0 a1 w0 w1 W).mono fun e W' ⟨he, hg⟩ => ?_
  subst he
  exact ⟨_, rfl, post_of_same (pa := []) (pv := []) hW' (fun _ _ _ => (trodAll_cons_mk (shut_bool Try.underlying4 _) trodAll_mk0)) (fun sp _ => (trodAll_cons_mk (shut_int Try.underlying22 w0) (trodAll_cons_mk (shut_int Try.underlying22 w1) trodAll_mk0))) (fun _ _ => rfl) rfl
    (hg.frame _) hg.2.1 (ok_one (by kernel_rfl) rfl (okWide_bool_mk Try.underlying4 _))⟩

theorem over : Rows.numOrderRow.holds Try.pinned (OpenSpec.ofChange Rows.numOrderSpec) :=
  OpenClaim.holds_of_wide 4 Try.f4 rfl rfl rfl rfl rfl rfl rfl ⟨rfl, rfl, rfl, rfl, rfl⟩ rfl rfl rfl rfl rfl (by kernel_rfl) Try.func4 (by kernel_rfl)
    (of_decide_eq_true (by kernel_rfl)) (by unfold Func.isWrapper; first | (rw [if_pos (by decide +kernel)]; kernel_rfl) | (rw [if_neg (by decide +kernel)]; exact ⟨rfl, rfl⟩))
    (fun os started H enc _ => lifted os started H enc)

/-- ████ THE STATEMENT ████ -/
theorem proved : Rows.NumOrderSaid :=
  over
#print axioms proved
end Go.Proofs.Ytlcmdmbmdpkbbaa.numOrder
