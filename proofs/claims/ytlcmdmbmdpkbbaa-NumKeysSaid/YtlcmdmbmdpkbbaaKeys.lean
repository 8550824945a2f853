/- For every 64-bit word its number has its key and is read from it; any bytes (up to 100; beyond that the statement asks nothing) are some number's key or none's. No condition. -/
import Derived.Test.YtlcmdmbmdpkbbaaRows
import Derived.WalkKit
import Derived.ProofKit
import Derived.OpenShut
import Derived.ShutString
import Derived.Test.YtlcmdmbmdpkbbaaAwk
namespace Go.Proofs.Ytlcmdmbmdpkbbaa.numKeys
open Go.ChangeShapes Go.WideShapes Go.ChangeAt Go.RowKit
open Go.ChangeMaps (open_string shut_string)
set_option linter.unusedVariables false      -- a walk need not use every 'w<i>' (that an integer argument fits its kind)

theorem own : ownKnob Try.prog.godebug = none := by kernel_rfl

theorem zero_eq : (FloatKind.f64.format.order 0 0 == some Ordering.eq) = true := by decide

/-- the key of a word's number is read: it is that number -/
theorem own_key (n : Nat) (hf : Fl.Fits n) : (keyOf (Fl.place n)).size = 8 ∧ unB (keyOf (Fl.place n)) = Fl.bitsOf n ∧ unE (keyOf (Fl.place n)) = 0 ∧ Fl.bitsOf (Fl.bitsOf n) = Fl.bitsOf n := by
  have pa := Fl.place_le hf
  have pb := pa
  unfold Fl.NANP at pb
  have h := numTo_keyOf (Fl.place n) (by omega)
  refine ⟨keyOf_size _, ?_, ?_, ?_⟩
  · unfold unB; rw [h, if_pos pa, Fl.atB_place hf]
  · unfold unE; rw [h, if_pos pa]
  · cases h : Fl.nanB n
    · have e : Fl.bitsOf n = n := by unfold Fl.bitsOf; rw [h]; rfl
      rw [e, e]
    · have e : Fl.bitsOf n = Fl.NANB := by unfold Fl.bitsOf; rw [h]; rfl
      rw [e]; decide

theorem walk_long (n : Nat) (s : ByteArray) (hl : 100 < s.size) (w : World) :
    Calls Try.prog 5 #[.int .u64 (n : Int), .string s] w fun e w' => e = .returned (.bool true) ∧ Grown w w' := by
  have T1 : decide ((100 : Int) < s.size) = true := by simp; omega
  clear hl
  go_enter Try.func5, Try.ntmps5
  go_wp2_with fail
  refine (awake w _ (Grown.refl _)).mono ?_
  rintro e w0 ⟨rfl, hg⟩
  have H0 := Lib.hid hg
  clear hg
  go_wp2
  go_ret
  exact ⟨rfl, H0.out⟩

theorem walk_len (n : Nat) (s : ByteArray) (hf : Fl.Fits n) (hl : ¬ 100 < s.size) (h8 : s.size ≠ 8) (w : World) :
    Calls Try.prog 5 #[.int .u64 (n : Int), .string s] w fun e w' => e = .returned (.bool true) ∧ Grown w w' := by
  obtain ⟨ks, kb, ke, kk⟩ := own_key n hf
  have T1 : decide ((100 : Int) < s.size) = false := by simp; omega
  have Z1 := zero_eq
  have KS := Lib.hid ks
  have KB := Lib.hid kb
  have KE := Lib.hid ke
  have KK := Lib.hid kk
  have F := Lib.hid hf
  have E8 := Lib.hid h8
  clear ks kb ke kk hf hl h8
  go_enter Try.func5, Try.ntmps5
  go_wp2_with fail
  refine (awake w _ (Grown.refl _)).mono ?_
  rintro e w0 ⟨rfl, hg⟩
  have H0 := Lib.hid hg
  clear hg
  go_wp2_with fail
  refine (nkey n F.out w _ H0.out).mono ?_
  rintro e wH1 ⟨rfl, hgH1⟩
  have H1 := Lib.hid hgH1
  clear hgH1
  go_wp2_with fail
  refine (nunkey _ KS.out _).mono ?_
  rintro e w' ⟨rfl, rfl⟩
  rw [KB.out, KE.out]
  go_wp2_with fail
  refine (nunkey_len s E8.out _).mono ?_
  rintro e w' ⟨rfl, rfl⟩
  go_wp2_with fail
  refine (runkey_len s E8.out _).mono ?_
  rintro e w' ⟨rfl, rfl⟩
  go_wp2_with fail
  refine (rkey n F.out w _ H1.out).mono ?_
  rintro e wH2 ⟨rfl, hgH2⟩
  have H2 := Lib.hid hgH2
  clear hgH2
  go_wp2_with fail
  refine (nbits _ _).mono ?_
  rintro e w' ⟨rfl, rfl⟩
  rw [KK.out]
  go_wp2_with fail
  refine (rbits n F.out _).mono ?_
  rintro e w' ⟨rfl, rfl⟩
  go_wp2
  go_ret
  exact ⟨by simp, H2.out⟩

theorem walk_no (n : Nat) (s : ByteArray) (hf : Fl.Fits n) (hl : ¬ 100 < s.size) (h8 : s.size = 8) (hp : Fl.NANP < numTo s 8) (w : World) :
    Calls Try.prog 5 #[.int .u64 (n : Int), .string s] w fun e w' => e = .returned (.bool true) ∧ Grown w w' := by
  obtain ⟨ks, kb, ke, kk⟩ := own_key n hf
  have T1 : decide ((100 : Int) < s.size) = false := by simp; omega
  have Z1 := zero_eq
  have KS := Lib.hid ks
  have KB := Lib.hid kb
  have KE := Lib.hid ke
  have KK := Lib.hid kk
  have F := Lib.hid hf
  have E8 := Lib.hid h8
  have UB := Lib.hid (show unB s = 0 by unfold unB; rw [if_neg (by omega)])
  have UE := Lib.hid (show unE s = 4 by unfold unE; rw [if_neg (by omega)])
  have UO := Lib.hid (show unOk s = false by unfold unOk; simp; omega)
  clear hp
  clear ks kb ke kk hf hl h8
  go_enter Try.func5, Try.ntmps5
  go_wp2_with fail
  refine (awake w _ (Grown.refl _)).mono ?_
  rintro e w0 ⟨rfl, hg⟩
  have H0 := Lib.hid hg
  clear hg
  go_wp2_with fail
  refine (nkey n F.out w _ H0.out).mono ?_
  rintro e wH1 ⟨rfl, hgH1⟩
  have H1 := Lib.hid hgH1
  clear hgH1
  go_wp2_with fail
  refine (nunkey _ KS.out _).mono ?_
  rintro e w' ⟨rfl, rfl⟩
  rw [KB.out, KE.out]
  go_wp2_with fail
  refine (nunkey s E8.out _).mono ?_
  rintro e w' ⟨rfl, rfl⟩
  rw [UB.out, UE.out]
  go_wp2_with fail
  refine (runkey s E8.out _).mono ?_
  rintro e w' ⟨rfl, rfl⟩
  rw [UB.out, UO.out]
  go_wp2_with fail
  refine (rkey n F.out w _ H1.out).mono ?_
  rintro e wH2 ⟨rfl, hgH2⟩
  have H2 := Lib.hid hgH2
  clear hgH2
  go_wp2_with fail
  refine (nbits _ _).mono ?_
  rintro e w' ⟨rfl, rfl⟩
  rw [KK.out]
  go_wp2_with fail
  refine (rbits n F.out _).mono ?_
  rintro e w' ⟨rfl, rfl⟩
  go_wp2
  go_ret
  exact ⟨by simp, H2.out⟩

theorem walk_yes (n : Nat) (s : ByteArray) (hf : Fl.Fits n) (hl : ¬ 100 < s.size) (h8 : s.size = 8) (hp : numTo s 8 ≤ Fl.NANP) (w : World) :
    Calls Try.prog 5 #[.int .u64 (n : Int), .string s] w fun e w' => e = .returned (.bool true) ∧ Grown w w' := by
  obtain ⟨ks, kb, ke, kk⟩ := own_key n hf
  have T1 : decide ((100 : Int) < s.size) = false := by simp; omega
  have Z1 := zero_eq
  have KS := Lib.hid ks
  have KB := Lib.hid kb
  have KE := Lib.hid ke
  have KK := Lib.hid kk
  have F := Lib.hid hf
  have E8 := Lib.hid h8
  have UB := Lib.hid (show unB s = Fl.atB (numTo s 8) by unfold unB; rw [if_pos hp])
  have UE := Lib.hid (show unE s = 0 by unfold unE; rw [if_pos hp])
  have UO := Lib.hid (show unOk s = true by unfold unOk; simp [hp])
  have FA := Lib.hid (Fl.atB_fits hp)
  have PA := Lib.hid (show keyOf (Fl.place (Fl.atB (numTo s 8))) = s by rw [Fl.place_atB hp, keyOf_numTo s h8])
  clear hp
  clear ks kb ke kk hf hl h8
  go_enter Try.func5, Try.ntmps5
  go_wp2_with fail
  refine (awake w _ (Grown.refl _)).mono ?_
  rintro e w0 ⟨rfl, hg⟩
  have H0 := Lib.hid hg
  clear hg
  go_wp2_with fail
  refine (nkey n F.out w _ H0.out).mono ?_
  rintro e wH1 ⟨rfl, hgH1⟩
  have H1 := Lib.hid hgH1
  clear hgH1
  go_wp2_with fail
  refine (nunkey _ KS.out _).mono ?_
  rintro e w' ⟨rfl, rfl⟩
  rw [KB.out, KE.out]
  go_wp2_with fail
  refine (nunkey s E8.out _).mono ?_
  rintro e w' ⟨rfl, rfl⟩
  rw [UB.out, UE.out]
  go_wp2_with fail
  refine (runkey s E8.out _).mono ?_
  rintro e w' ⟨rfl, rfl⟩
  rw [UB.out, UO.out]
  go_wp2_with fail
  refine (rkey n F.out w _ H1.out).mono ?_
  rintro e wH2 ⟨rfl, hgH2⟩
  have H2 := Lib.hid hgH2
  clear hgH2
  go_wp2_with fail
  refine (nbits _ _).mono ?_
  rintro e w' ⟨rfl, rfl⟩
  rw [KK.out]
  go_wp2_with fail
  refine (rbits n F.out _).mono ?_
  rintro e w' ⟨rfl, rfl⟩
  go_wp2_with fail
  refine (nkey _ FA.out w _ H2.out).mono ?_
  rintro e wH3 ⟨rfl, hgH3⟩
  have H3 := Lib.hid hgH3
  clear hgH3
  rw [PA.out]
  go_wp2
  go_ret
  exact ⟨by simp, H3.out⟩

/-! ### STEP 1: THE WALK: the Go text returns true. 'Grown w w'': the world has at most new blocks (Derived/RowKit3.lean). Part the cases AHEAD of 'go_enter' where a test parts the walk; take each callee by a contract of your own. -/
theorem walk (a0 : Int) (a1 : ByteArray) (w0 : (Lit.int .u64 a0).wf = true) (w1 : a1.size ≤ maxLen) (w : World) :
    Calls Try.prog 5 #[.int .u64 a0, .string a1] w fun e w' => e = .returned (.bool true) ∧ Grown w w' := by
  have hb := bounds_u64 w0
  obtain ⟨n, rfl⟩ := Int.eq_ofNat_of_zero_le hb.1
  have hf : Fl.Fits n := Fl.Fits.mk (by omega)
  by_cases hl : 100 < a1.size
  · exact walk_long n a1 hl w
  · by_cases h8 : a1.size = 8
    · rcases Nat.lt_or_ge Fl.NANP (numTo a1 8) with hp | hp
      · exact walk_no n a1 hf hl h8 hp w
      · exact walk_yes n a1 hf hl h8 hp w
    · exact walk_len n a1 hf hl h8 w

/-! ### THE ROW's STEP: WRITTEN OUT: LEAVE IT -/
set_option maxRecDepth 100000 in
theorem lifted (os : Os) (started : os.Started) (H : Type) (enc : TypeId × Value → H) :
    ReturnsInHanded {} Try.checked os 5 .any (Rows.numKeysSpec.pre6 enc Try.prog Try.f5 Rows.numKeysRow.domain false) (Rows.numKeysSpec.post enc Try.prog Try.f5 false true false false) := by
  refine returnsInHanded_of_change (C := Try.checked) own started (by kernel_rfl) Try.func5
    (ChangeSpec.witness6 (enc := enc) (C := Try.checked) false ⟨#[], #[.int .u64 0, .string ByteArray.empty], []⟩ 8 (by kernel_rfl) (by kernel_rfl) (by kernel_rfl) (by kernel_rfl)) ?_
  intro W base args ds gs before hval0 hW hcnd _
  have hval : ∀ (j : Nat) t v, Try.f5.params[j]? = some t → args[j]? = some v → Value.okWide Try.prog W .any base t v := hval0
  have hW' := hW
  obtain ⟨p, q, hA0, hV, rfl, hfz, hnd⟩ := hW
  have hA : DataW.TrodAll enc Try.prog W 0 (fun _ => true) true Try.f5.params.toList args.toList ds p := hA0
  rw [Try.params5] at hA hval
  obtain ⟨v0, vs0, d0, ds0, p0, q0, hargs, rfl, rfl, h0, r0⟩ := trodAll_cons hA
  obtain ⟨v1, vs1, d1, ds1, p1, q1, rfl, rfl, rfl, h1, r1⟩ := trodAll_cons r0
  obtain ⟨rfl, rfl, rfl⟩ := trodAll_nil r1
  obtain rfl : args = #[v0, v1] := by cases args; simp_all
  obtain ⟨rfl, rfl⟩ := trodVars_none hV
  obtain ⟨a0, rfl, rfl, rfl, w0⟩ := open_int Try.underlying22 (hval 0 22 v0 rfl rfl) h0
  obtain ⟨a1, rfl, rfl, rfl, w1⟩ := open_string Try.underlying9 (hval 1 9 v1 rfl rfl) h1
  clear hA0 hval0
  simp only [List.append_nil] at hW'
  refine (walk a0 a1 w0 w1 W).mono fun e W' ⟨he, hg⟩ => ?_
  subst he
  exact ⟨_, rfl, post_of_same (pa := []) (pv := []) hW' (fun _ _ _ => (trodAll_cons_mk (shut_bool Try.underlying4 _) trodAll_mk0)) (fun sp _ => (trodAll_cons_mk (shut_int Try.underlying22 w0) (trodAll_cons_mk (shut_string Try.underlying9 w1) trodAll_mk0))) (fun _ _ => rfl) rfl
    (hg.frame _) hg.2.1 (ok_one (by kernel_rfl) rfl (okWide_bool_mk Try.underlying4 _))⟩

theorem over : Rows.numKeysRow.holds Try.pinned (OpenSpec.ofChange Rows.numKeysSpec) :=
  OpenClaim.holds_of_wide 5 Try.f5 rfl rfl rfl rfl rfl rfl rfl ⟨rfl, rfl, rfl, rfl, rfl⟩ rfl rfl rfl rfl rfl (by kernel_rfl) Try.func5 (by kernel_rfl)
    (of_decide_eq_true (by kernel_rfl)) (by unfold Func.isWrapper; first | (rw [if_pos (by decide +kernel)]; kernel_rfl) | (rw [if_neg (by decide +kernel)]; exact ⟨rfl, rfl⟩))
    (fun os started H enc _ => lifted os started H enc)

/-- ████ THE STATEMENT ████ -/
theorem proved : Rows.NumKeysSaid :=
  over
#print axioms proved
end Go.Proofs.Ytlcmdmbmdpkbbaa.numKeys
