/- WireSame: for every shape and any two lists of items the law returns true, and its arguments read behind the call as they read before: no condition. -/
import Derived.Test.YtmcackghpkegbaaOi
import Derived.Test.YtmcackghpkegbaaAk
import Derived.Test.YtmcackghpkegbaaFa
import Derived.Test.YtmcackghpkegbaaSa
import Derived.ChangeMaps5
namespace Go.Proofs.Ytmcackghpkegbaa.wireSame
open Go.Proofs.Ytmcackghpkegbaa Go.ChangeShapes Go.WideShapes Go.ChangeAt Go.RowKit
open Go.ChangeMaps (open_string shut_string)

set_option maxRecDepth 100000 in
set_option maxHeartbeats 2000000 in
theorem walk (sh : ByteArray) (A B : Option Addr) (c e : Nat) (a b : List Item) (w : World) (hs : sh.size ≤ maxLen) (fa : FitIt 5 a) (fb : FitIt 5 b) (sa : SlIt 5 w A a) (sb : SlIt 5 w B b) :
    Calls Try.prog 6 #[.string sh, .slice A a.length c, .slice B b.length e] w fun e w' => e = .returned (.bool true) ∧ Below w.heap.size w w' := by
  have HS := Lib.hid hs
  have FA := Lib.hid fa
  have FB := Lib.hid fb
  have SA := Lib.hid sa
  have SB := Lib.hid sb
  have F4 : ∀ {xs : List Item}, FitIt 5 xs → FitIt 4 xs := fun h => fit_less h
  have FA4 := Lib.hid (F4 fa)
  have FB4 := Lib.hid (F4 fb)
  unfold maxLen at hs
  clear fa fb sa sb F4
  by_cases h60 : 60 < sh.size
  · go_enter Try.func6, Try.ntmps6
    go_wp2_with fail
    refine (awake3 _).mono ?_
    rintro e w1 ⟨rfl, hb⟩
    have B1 := Lib.hid hb
    clear hb
    go_wp2_with fail
    go_ret
    exact ⟨rfl, B1.out⟩
  cases ha : farB 4 a
  case true =>
    have HA := Lib.hid ha
    clear ha
    go_enter Try.func6, Try.ntmps6
    go_wp2_with fail
    refine (awake3 _).mono ?_
    rintro e w1 ⟨rfl, hb⟩
    have B1 := Lib.hid hb
    clear hb
    go_wp2_with fail
    refine (lfar3 4 A c a 0 _ (by omega) (by omega) FA4.out (SlIt.less (SA.out.below B1.out))).mono ?_
    rintro e w' ⟨rfl, rfl⟩
    rw [HA.out]
    go_wp2_with fail
    go_ret
    exact ⟨rfl, B1.out⟩
  cases hb : farB 4 b
  case true =>
    have HA := Lib.hid ha
    have HB := Lib.hid hb
    clear ha hb
    go_enter Try.func6, Try.ntmps6
    go_wp2_with fail
    refine (awake3 _).mono ?_
    rintro e w1 ⟨rfl, hb⟩
    have B1 := Lib.hid hb
    clear hb
    go_wp2_with fail
    refine (lfar3 4 A c a 0 _ (by omega) (by omega) FA4.out (SlIt.less (SA.out.below B1.out))).mono ?_
    rintro e w' ⟨rfl, rfl⟩
    rw [HA.out]
    go_wp2_with fail
    refine (lfar3 4 B _ b 0 _ (by omega) (by omega) FB4.out (SlIt.less (SB.out.below B1.out))).mono ?_
    rintro e w' ⟨rfl, rfl⟩
    rw [HB.out]
    go_wp2_with fail
    go_ret
    exact ⟨rfl, B1.out⟩
  have DA := Lib.hid (dep_of_far 4 a ha)
  have DB := Lib.hid (dep_of_far 4 b hb)
  have HA := Lib.hid ha
  have HB := Lib.hid hb
  clear ha hb
  go_enter Try.func6, Try.ntmps6
  go_wp2_with fail
  refine (awake3 _).mono ?_
  rintro e w1 ⟨rfl, hb⟩
  have B1 := Lib.hid hb
  clear hb
  go_wp2_with fail
  refine (lfar3 4 A c a 0 _ (by omega) (by omega) FA4.out (SlIt.less (SA.out.below B1.out))).mono ?_
  rintro e w' ⟨rfl, rfl⟩
  rw [HA.out]
  go_wp2_with fail
  refine (lfar3 4 B _ b 0 _ (by omega) (by omega) FB4.out (SlIt.less (SB.out.below B1.out))).mono ?_
  rintro e w' ⟨rfl, rfl⟩
  rw [HB.out]
  go_wp2_with fail
  refine (rsameIt 4 A B c _ a b _ FA4.out FB4.out (SlIt.less (SA.out.below B1.out)) (SlIt.less (SB.out.below B1.out)) DA.out).mono ?_
  rintro e w' ⟨rfl, n2, rfl⟩
  have B2 := Lib.hid (below_drewN B1.out n2)
  obtain ⟨sm, hsm⟩ : ∃ sm, sm = sameIt a b := ⟨_, rfl⟩
  rw [← hsm]
  have SM := Lib.hid hsm
  clear hsm
  go_wp2_with fail
  refine (lPrint 3 sh A c a _ HS.out FA.out (SA.out.below B2.out)).mono ?_
  rintro e w3 ⟨rfl, hb3⟩
  have B3 := Lib.hid (below_then B2.out hb3)
  clear hb3
  obtain ⟨pa, hpa⟩ : ∃ pa, pa = prS sh a := ⟨_, rfl⟩
  obtain ⟨ca, hca⟩ : ∃ ca, ca = prC sh a := ⟨_, rfl⟩
  rw [← hpa, ← hca]
  have PA := Lib.hid hpa
  have CA := Lib.hid hca
  clear hpa hca
  go_wp2_with fail
  refine (lPrint 3 sh B _ b _ HS.out FB.out (SB.out.below B3.out)).mono ?_
  rintro e w4 ⟨rfl, hb4⟩
  have B4 := Lib.hid (below_then B3.out hb4)
  clear hb4
  obtain ⟨pb, hpb⟩ : ∃ pb, pb = prS sh b := ⟨_, rfl⟩
  obtain ⟨cb, hcb⟩ : ∃ cb, cb = prC sh b := ⟨_, rfl⟩
  rw [← hpb, ← hcb]
  have PB := Lib.hid hpb
  have CB := Lib.hid hcb
  clear hpb hcb
  go_wp2_with fail
  refine (lsameIt 4 A B c _ a b _ FA4.out FB4.out (SlIt.less (SA.out.below B4.out)) (SlIt.less (SB.out.below B4.out)) DA.out).mono ?_
  rintro e w5 ⟨rfl, hb5⟩
  have B5 := Lib.hid (below_then B4.out hb5)
  clear hb5
  rw [← SM.out]
  have C01 : ca = 0 ∨ ca = 1 := by rw [CA.out]; exact prC_01 sh a
  have C02 : cb = 0 ∨ cb = 1 := by rw [CB.out]; exact prC_01 sh b
  go_wp2_with fail
  refine (lsameIt 4 B A _ c b a _ FB4.out FA4.out (SlIt.less (SB.out.below B5.out)) (SlIt.less (SA.out.below B5.out)) DB.out).mono ?_
  rintro e w6 ⟨rfl, hb6⟩
  have B6 := Lib.hid (below_then B5.out hb6)
  clear hb6
  rw [sameIt_comm b a, ← SM.out]
  rcases C01 with rfl | rfl
  · rcases C02 with rfl | rfl
    · cases sm with
      | true =>
        have EAB := (sameIt_iff a b).1 SM.out.symm
        have hp : pa = pb := by rw [PA.out, PB.out, EAB]
        have HP := Lib.hid hp
        have T := str_eq hp
        clear hp EAB
        go_wp2_with fail
        go_ret
        exact ⟨by first | rfl | simp, B6.out⟩
      | false =>
        have hp : pa ≠ pb := fun h => by
          have h2 : prS sh a = prS sh b := by rw [← PA.out, ← PB.out]; exact h
          have h3 := prS_inj (d := 3) (fun x hx => FA.out.2 x hx) (fun x hx => FB.out.2 x hx) CA.out.symm CB.out.symm h2
          have h4 := (sameIt_iff a b).2 h3
          rw [← SM.out] at h4; cases h4
        have T := str_ne hp
        clear hp
        go_wp2_with fail
        go_ret
        exact ⟨by first | rfl | simp, B6.out⟩
    · go_wp2_with fail
      go_ret
      exact ⟨by first | rfl | simp, B6.out⟩
  · go_wp2_with fail
    go_ret
    exact ⟨by first | rfl | simp, B6.out⟩

set_option maxRecDepth 100000 in
theorem lifted (os : Os) (started : os.Started) (H : Type) (enc : TypeId × Value → H) :
    ReturnsInHanded {} Try.checked os 6 .any (Rows.wireSameSpec.pre6 enc Try.prog Try.f6 Rows.wireSameRow.domain false) (Rows.wireSameSpec.post enc Try.prog Try.f6 false true false false) := by
  refine returnsInHanded_of_change (C := Try.checked) own started (by kernel_rfl) Try.func6
    (ChangeSpec.witness6 (enc := enc) (C := Try.checked) false ⟨#[], #[.string ⟨#[]⟩, .slice none 0 0, .slice none 0 0], []⟩ 8 (by kernel_rfl) (by kernel_rfl) (by kernel_rfl) (by kernel_rfl)) ?_
  intro W base args ds gs before hval0 hW hcnd _
  have hval : ∀ (j : Nat) t v, Try.f6.params[j]? = some t → args[j]? = some v → Value.okWide Try.prog W .any base t v := hval0
  have hW' := hW
  obtain ⟨p, q, hA0, hV, rfl, hfz, hnd⟩ := hW
  have hA : DataW.TrodAll enc Try.prog W 0 (fun _ => true) true Try.f6.params.toList args.toList ds p := hA0
  rw [Try.params6] at hA hval
  obtain ⟨v0, vs0, d0, ds0, p0, q0, hargs, rfl, rfl, h0, r0⟩ := trodAll_cons hA
  obtain ⟨v1, vs1, d1, ds1, p1, q1, hargs1, rfl, rfl, h1, r1⟩ := trodAll_cons r0
  obtain ⟨v2, vs2, d2, ds2, p2, q2, hargs2, rfl, rfl, h2, r2⟩ := trodAll_cons r1
  obtain ⟨rfl, rfl, rfl⟩ := trodAll_nil r2
  obtain rfl : args = #[v0, v1, v2] := by cases args; simp_all
  obtain ⟨rfl, rfl⟩ := trodVars_none hV
  obtain ⟨s, rfl, rfl, rfl, w1⟩ := open_string Try.underlying9 (hval 0 9 v0 rfl rfl) h0
  clear hA0 hval0
  simp only [List.append_nil, List.nil_append] at hW'
  have l1 : ∀ x ∈ p1, x.block < W.heap.size := fun x hx => hW'.lt x (by simp [hx])
  have l2 : ∀ x ∈ p2, x.block < W.heap.size := fun x hx => hW'.lt x (by simp [hx])
  obtain ⟨A, c, a, rfl, sa, _, fa⟩ := open_items 5 (hval 1 22 v1 rfl rfl) h1 l1
  obtain ⟨B, e, b, rfl, sb, _, fb⟩ := open_items 5 (hval 2 22 v2 rfl rfl) h2 l2
  refine (walk s A B c e a b W w1 fa fb sa sb).mono fun e W' ⟨he, hg⟩ => ?_
  subst he
  refine ⟨_, rfl, [.lit (.string s.data.toList), d1, d2], [], p1 ++ p2, [], [] ++ (p1 ++ (p2 ++ [])), [], hW', ?_, ?_, ?_, hg.frame _, fun h => by cases h⟩
  · exact trodAll_cons_mk (shut_bool Try.underlying4 _) trodAll_mk0
  · exact trodAll_cons_mk (shut_string Try.underlying9 w1) (trodAll_cons_mk (Below.trod laidOut (by kernel_rfl) (of_decide_eq_true (by kernel_rfl)) h1 hg l1) (trodAll_cons_mk (Below.trod laidOut (by kernel_rfl) (of_decide_eq_true (by kernel_rfl)) h2 hg l2) trodAll_mk0))
  · rfl

theorem over : Rows.wireSameRow.holds Try.pinned (OpenSpec.ofChange Rows.wireSameSpec) :=
  OpenClaim.holds_of_wide 6 Try.f6 rfl rfl rfl rfl rfl rfl rfl ⟨rfl, rfl, rfl, rfl, rfl⟩ rfl rfl rfl rfl rfl (by kernel_rfl) Try.func6 (by kernel_rfl)
    (of_decide_eq_true (by kernel_rfl)) (by unfold Func.isWrapper; first | (rw [if_pos (by decide +kernel)]; kernel_rfl) | (rw [if_neg (by decide +kernel)]; exact ⟨rfl, rfl⟩))
    (fun os started H enc _ => lifted os started H enc)

/-- ████ THE STATEMENT ████ -/
theorem proved : Rows.WireSameSaid :=
  over
#print axioms proved
end Go.Proofs.Ytmcackghpkegbaa.wireSame
