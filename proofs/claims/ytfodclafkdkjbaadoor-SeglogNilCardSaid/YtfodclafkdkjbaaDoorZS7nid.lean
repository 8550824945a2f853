/- Proved: SeglogNil: for every number and bytes the law returns true, and its arguments read behind the call as they read before, at this commit. Conditions: none of ours (the card ties the listed variables of Go's library to the program's text). -/
import Derived.Test.YtfodclafkdkjbaaDoorM47
import Derived.Test.YtfodclafkdkjbaaDoorM35
import Derived.Test.YtfodclafkdkjbaaDoorCards
import Derived.Test.YtfodclafkdkjbaaDoorTie
import Derived.LaidMore
import Derived.Lay
import Derived.SevenTiedAt
import Derived.Stop.Joined
import Derived.Lib.SmallJoins
import Derived.ChangeMaps5
namespace Go.Proofs.YtfodclafkdkjbaaDoor.seglogNil
open Go.Proofs.YtfodclafkdkjbaaDoor Go.Joins Go.ChangeShapes Go.WideShapes Go.ChangeAt Go.RowKit
open Go.ChangeMaps (open_string shut_string)

set_option maxRecDepth 100000 in
set_option maxHeartbeats 4000000 in
theorem walk {P : RelP} {Q : RelQ} (X : SegAt P Q) (f : Int) (s : ByteArray) (w : World) (hfi : (Lit.int .i64 f).wf = true) (hs : s.size ≤ maxLen) :
    Calls Tryd.prog 6 #[.int .i64 f, .string s] w fun e w' => e = .returned (.bool true) ∧ Below w.heap.size w w' := by
  have IF := Lib.hid (show In64 f from bounds_i64 hfi)
  unfold maxLen at hs
  obtain ⟨m0, h0⟩ : ∃ m0, m0 = Ext.new 4 3 := ⟨_, rfl⟩
  have AW := Lib.hid (awake7 X)
  have M0 := Lib.hid (show m0.off = false ∧ m0.ext = 4 ∧ m0.sec = 3 by rw [h0]; exact ⟨rfl, rfl, rfl⟩)
  have OP := Lib.hid (show ∀ k : Nat, openP (nowC m0 k) (nowC m0 (k + 1)) m0.sec k = (⟨k, k + 1, 0, 0, 1, false⟩, []) from fun k => by rw [h0]; exact open_new 4 3 k (by omega))
  have CR := Lib.hid (show (m0.crash []).1.off = true by rw [h0]; rfl)
  have NW := Lib.hid (X.new 4 3)
  have X' := Lib.hid X
  have PN := Lib.hid (show PkOk [] from ⟨by simp, fun q h => by cases h⟩)
  have H0 := Lib.hid h0
  clear X h0 hfi
  go_enter Tryd.func6, Tryd.ntmps6
  go_wp2_with fail
  refine (AW.out _).mono ?_
  rintro e w1 ⟨rfl, hb1⟩
  have B1 := Lib.hid hb1
  clear hb1
  by_cases h800 : 800 < s.size
  · go_wp2_with fail
    go_ret
    exact ⟨rfl, B1.out⟩
  have S5 := Lib.hid (show s.size ≤ 5000 by omega)
  go_wp2_with fail
  refine (X'.out.recordNil s _ S5.out).mono ?_
  rintro e w2 ⟨rfl, hb2⟩
  have B2 := Lib.hid (below_then B1.out hb2)
  clear hb2
  go_wp2_with fail
  refine (X'.out.baseNil s _ S5.out).mono ?_
  rintro e w3 ⟨rfl, hb3⟩
  have B3 := Lib.hid (below_then B2.out hb3)
  clear hb3
  go_wp2_with fail
  refine (X'.out.moveNil _).mono ?_
  rintro e w4 ⟨rfl, hb4⟩
  have B4 := Lib.hid (below_then B3.out hb4)
  clear hb4
  go_wp2_with fail
  refine (X'.out.openNil f _ IF.out).mono ?_
  rintro e w5 ⟨⟨v5, rfl, ho5⟩, hb5⟩
  obtain ⟨A5, c5, hv5, _⟩ := ho5.form
  simp only [List.length_nil] at hv5
  subst hv5
  have B5 := Lib.hid (below_then B4.out hb5)
  clear hb5 ho5
  go_wp2_with fail
  refine (NW.out w5 ⟨by decide, by decide⟩ ⟨by decide, by decide⟩).mono ?_
  rintro e w6 ⟨hb6, ⟨_, b, rfl, hp⟩ | ⟨hff, _⟩⟩
  case inr => exact absurd hff (by decide)
  have P6 := Lib.hid (show P w6 (fun k => k < w5.heap.size) b m0 by rw [H0.out]; exact hp)
  have B6 := Lib.hid (below_then B5.out hb6)
  have L6 := Lib.hid (show w.heap.size ≤ w5.heap.size from B5.out.size)
  clear hp hb6
  by_cases ht : 0 ≤ f ∧ f < 3
  · obtain ⟨k, hk⟩ : ∃ k : Nat, f = (k : Int) := ⟨f.toNat, by omega⟩
    obtain ⟨t0, t1⟩ := ht
    subst hk
    have OY := Lib.hid (X'.out.openYes _ b m0 k w6 P6.out M0.out.1 (by rw [M0.out.2.1]; omega))
    go_wp2_with fail
    refine OY.out.mono ?_
    rintro e w7 ⟨⟨bl, v7, rfl, ho7, hq⟩, hk7⟩
    rw [OP.out] at hq ho7
    obtain ⟨A7, c7, hv7, _⟩ := ho7.form
    simp only [List.length_nil] at hv7
    subst hv7
    have B7 := Lib.hid (B6.out.trans (hk7.below (B := w.heap.size) (fun k q => by have := L6.out; show k < w5.heap.size; omega) B6.out.size))
    have P7 := Lib.hid (X'.out.qP hq)
    clear hq hk7 ho7
    go_wp2_with fail
    refine (X'.out.crash _ b m0 none 0 [] w7 P7.out (fun h => absurd h (by simp)) (fun h => absurd h (by simp)) PN.out (fun _ => ⟨rfl, rfl⟩)).mono ?_
    rintro e w8 ⟨rfl, hp8, hk8⟩
    have P8 := Lib.hid hp8
    have B8 := Lib.hid (B7.out.trans (hk8.below (B := w.heap.size) (fun k q => .inl (by have := L6.out; show k < w5.heap.size; omega)) B7.out.size))
    clear hp8 hk8
    go_wp2_with fail
    refine (X'.out.openNo _ b _ (k : Int) w8 P8.out IF.out (.inl CR.out)).mono ?_
    rintro e w9 ⟨⟨v9, rfl, _⟩, _, hk9⟩
    rw [CR.out, if_pos rfl]
    have B9 := Lib.hid (B8.out.trans (hk9.below (B := w.heap.size) (fun k q => .inl (by have := L6.out; show k < w5.heap.size; omega)) B8.out.size))
    clear hk9
    go_wp2_with fail
    refine (X'.out.usedNil _).mono ?_
    rintro e w10 ⟨rfl, hb10⟩
    have B10 := Lib.hid (below_then B9.out hb10)
    clear hb10
    go_wp2_with fail
    refine (X'.out.genNil _).mono ?_
    rintro e w11 ⟨rfl, hb11⟩
    have B11 := Lib.hid (below_then B10.out hb11)
    clear hb11
    go_wp2_with fail
    refine (X'.out.roomNil 0 _ ⟨by decide, by decide⟩).mono ?_
    rintro e w12 ⟨rfl, hb12⟩
    have B12 := Lib.hid (below_then B11.out hb12)
    clear hb12
    go_wp2_with fail
    refine (X'.out.busyNil _).mono ?_
    rintro e w13 ⟨rfl, hb13⟩
    have B13 := Lib.hid (below_then B12.out hb13)
    clear hb13
    go_wp2_with fail
    go_ret
    exact ⟨by first | rfl | simp, B13.out⟩
  · have ON := Lib.hid (X'.out.openNo _ b m0 f w6 P6.out IF.out (.inr (by rw [M0.out.2.1]; omega)))
    rcases (show f < 0 ∨ (0 ≤ f ∧ 3 ≤ f) by omega) with t0 | ⟨t0, t1⟩
    all_goals
      clear ht
      go_wp2_with fail
      refine ON.out.mono ?_
      rintro e w7 ⟨⟨v7, rfl, ho7⟩, hp7, hk7⟩
      rw [M0.out.1, if_neg (by simp)]
      obtain ⟨A7, c7, hv7, _⟩ := ho7.form
      simp only [List.length_nil] at hv7
      subst hv7
      have B7 := Lib.hid (B6.out.trans (hk7.below (B := w.heap.size) (fun k q => by have := L6.out; show k < w5.heap.size; omega) B6.out.size))
      have P7 := Lib.hid hp7
      clear hp7 hk7 ho7
      go_wp2_with fail
      refine (X'.out.crash _ b m0 none 0 [] w7 P7.out (fun h => absurd h (by simp)) (fun h => absurd h (by simp)) PN.out (fun _ => ⟨rfl, rfl⟩)).mono ?_
      rintro e w8 ⟨rfl, hp8, hk8⟩
      have P8 := Lib.hid hp8
      have B8 := Lib.hid (B7.out.trans (hk8.below (B := w.heap.size) (fun k q => by have := L6.out; show k < w5.heap.size; omega) B7.out.size))
      clear hp8 hk8
      go_wp2_with fail
      refine (X'.out.openNo _ b _ f w8 P8.out IF.out (.inl CR.out)).mono ?_
      rintro e w9 ⟨⟨v9, rfl, _⟩, _, hk9⟩
      rw [CR.out, if_pos rfl]
      have B9 := Lib.hid (B8.out.trans (hk9.below (B := w.heap.size) (fun k q => by have := L6.out; show k < w5.heap.size; omega) B8.out.size))
      clear hk9
      go_wp2_with fail
      refine (X'.out.usedNil _).mono ?_
      rintro e w10 ⟨rfl, hb10⟩
      have B10 := Lib.hid (below_then B9.out hb10)
      clear hb10
      go_wp2_with fail
      refine (X'.out.genNil _).mono ?_
      rintro e w11 ⟨rfl, hb11⟩
      have B11 := Lib.hid (below_then B10.out hb11)
      clear hb11
      go_wp2_with fail
      refine (X'.out.roomNil 0 _ ⟨by decide, by decide⟩).mono ?_
      rintro e w12 ⟨rfl, hb12⟩
      have B12 := Lib.hid (below_then B11.out hb12)
      clear hb12
      go_wp2_with fail
      refine (X'.out.busyNil _).mono ?_
      rintro e w13 ⟨rfl, hb13⟩
      have B13 := Lib.hid (below_then B12.out hb13)
      clear hb13
      go_wp2_with fail
      go_ret
      exact ⟨by first | rfl | simp, B13.out⟩

set_option maxRecDepth 100000 in
theorem lifted {P : RelP} {Q : RelQ} (X : SegAt P Q) (os : Os) (started : os.Started) (H : Type) (enc : TypeId × Value → H) :
    ReturnsInHanded {} Tryd.checked os 6 .any (fun w args => (Rows.seglogNilSpec.pre enc Tryd.prog Tryd.f6 Rows.seglogNilRow.domain false w args ∧ laidMetH Tryd.prog Rows.seglogNilRow.laid w) ∧ sizedMet enc Tryd.prog Tryd.f6 (OpenSpec.ofChange Rows.seglogNilSpec) false w args) (Rows.seglogNilSpec.post enc Tryd.prog Tryd.f6 false true false false) := by
  refine returnsInHanded_of_change_and (C := Tryd.checked) (X := fun w _ => laidMetH Tryd.prog Rows.seglogNilRow.laid w) (fun _ _ _ hh h => h.of_heap hh) own started (by kernel_rfl) Tryd.func6
    (ChangeSpec.witness_shaped (enc := enc) (C := Tryd.checked) (os := os) (X := fun w _ => laidMetH Tryd.prog Rows.seglogNilRow.laid w) false (World.laidAll Tryd.prog os Rows.seglogNilRow.laid) #[.int .i64 0, .string ⟨#[]⟩] 8 (World.laidAll_os _ _ _)
      (World.shaped_of_ZipB (by kernel_rfl) (by kernel_rfl)) (by kernel_rfl) (by kernel_rfl) (by kernel_rfl)
      (by rw [MakeChecks.laidMetH_plain _ _ _ (by kernel_rfl)]; exact laidMet_laidAll _ (by kernel_rfl) (by kernel_rfl))) ?_
  intro W base args ds gs before hval0 hW hcnd _ _ _
  have hval : ∀ (j : Nat) t v, Tryd.f6.params[j]? = some t → args[j]? = some v → Value.okWide Tryd.prog W .any base t v := hval0
  have hW' := hW
  obtain ⟨p, q, hA0, hV, rfl, hfz, hnd⟩ := hW
  have hA : DataW.TrodAll enc Tryd.prog W 0 (fun _ => true) true Tryd.f6.params.toList args.toList ds p := hA0
  rw [Tryd.params6] at hA hval
  obtain ⟨v0, vs0, d0, ds0, p0, q0, hargs0, rfl, rfl, h0, r0⟩ := trodAll_cons hA
  obtain ⟨v1, vs1, d1, ds1, p1, q1, hargs1, rfl, rfl, h1, r1⟩ := trodAll_cons r0
  obtain ⟨rfl, rfl, rfl⟩ := trodAll_nil r1
  obtain rfl : args = #[v0, v1] := by cases args; simp_all
  obtain ⟨rfl, rfl⟩ := trodVars_none hV
  clear hA0 hval0
  simp only [List.append_nil] at hW'
  obtain ⟨x0, rfl, rfl, rfl, w0⟩ := open_int Tryd.underlying3 (hval 0 3 v0 rfl rfl) h0
  obtain ⟨x1, rfl, rfl, rfl, w1⟩ := open_string Tryd.underlying9 (hval 1 9 v1 rfl rfl) h1
  refine (walk X x0 x1 W w0 w1).mono fun e W' ⟨he, hg⟩ => ?_
  subst he
  refine ⟨_, rfl, [.lit (.int .i64 x0), .lit (.string x1.data.toList)], [], [] ++ [], [], [] ++ ([] ++ []), [], hW', ?_, ?_, ?_, hg.frame _, fun h => by cases h⟩
  · exact trodAll_cons_mk (shut_bool Tryd.underlying4 _) trodAll_mk0
  · exact (trodAll_cons_mk (shut_int Tryd.underlying3 w0) (trodAll_cons_mk (shut_string Tryd.underlying9 w1) trodAll_mk0))
  · rfl

theorem over {P : RelP} {Q : RelQ} (X : SegAt P Q) : Rows.seglogNilRow.holds Tryd.pinned (OpenSpec.ofChange Rows.seglogNilSpec) :=
  OpenClaim.holds_of_wide 6 Tryd.f6 rfl rfl rfl rfl rfl rfl rfl ⟨rfl, rfl, rfl, rfl, rfl⟩ rfl rfl rfl rfl rfl (by kernel_rfl) Tryd.func6 (by kernel_rfl)
    (of_decide_eq_true (by kernel_rfl)) (by unfold Func.isWrapper; first | (rw [if_pos (by decide +kernel)]; kernel_rfl) | (rw [if_neg (by decide +kernel)]; exact ⟨rfl, rfl⟩))
    (fun os started H enc _ => lifted X os started H enc)

/-- ████ THE STATEMENT: THE TIED CARD ████ -/
theorem stands : Rows.SeglogNilCardSaid :=
  Claim7.holds_tied_plain_at .later [] [.data, .pinned] true Rows.seglogNilCard.stood.harness false (over theX7) (fun _ h => by cases h) (by kernel_rfl) (fun _ h => by cases h) seglogNil_row_tie rfl ⟨rfl, rfl⟩ (by kernel_rfl) rfl
    (fun f fn hf hfn => by
      obtain rfl : f = 6 := Option.some.inj ((show Tryd.prog.funcNamed Rows.seglogNilRow.func = some 6 by kernel_rfl).symm.trans hf) |>.symm
      obtain rfl : fn = Tryd.f6 := (Option.some.inj (Tryd.func6.symm.trans hfn)).symm
      exact ⟨by kernel_rfl, fun j t ht => by
        have hall : (Tryd.f6.params.toList.all fun u => !Tryd.prog.wantsStandIn u) = true := by kernel_rfl
        have hm : t ∈ Tryd.f6.params.toList := by simpa using Array.mem_of_getElem? ht
        exact (show Tryd.prog.wantsStandIn t = false by simpa using List.all_eq_true.1 hall t hm)⟩)
    (by kernel_rfl)
#print axioms stands

end Go.Proofs.YtfodclafkdkjbaaDoor.seglogNil
