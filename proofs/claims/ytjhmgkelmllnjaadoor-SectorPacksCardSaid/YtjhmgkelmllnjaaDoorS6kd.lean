/- Proved: SectorPacks: for every stamp and bytes the law returns true, and its arguments read behind the call as they read before, at this commit. Conditions: none of ours (the card ties the listed variables of Go's library to the program's text). -/
import Derived.Test.YtjhmgkelmllnjaaDoorS6d
import Derived.Test.YtjhmgkelmllnjaaDoorCards
import Derived.Test.YtjhmgkelmllnjaaDoorTie
import Derived.LaidMore
import Derived.Lay
import Derived.SevenTiedAt
import Derived.Stop.Joined
import Derived.Test.YtjhmgkelmllnjaaDoorS6o
import Derived.Deep.RegionHeld3
namespace Go.Proofs.YtjhmgkelmllnjaaDoor.sectorPacks
open Go.Proofs.YtjhmgkelmllnjaaDoor Go.Joins Go.ChangeShapes Go.WideShapes Go.ChangeAt Go.RowKit
open Go.ChangeMaps (open_string shut_string)

set_option maxRecDepth 100000 in
set_option maxHeartbeats 2000000 in
theorem walk (X : SecAt) (x : Stp) (d : ByteArray) (w : World) (hf : x.Fits) (hd : d.size ≤ maxLen) :
    Calls Tryd.prog 3 #[x.v, .string d] w fun e w' => e = .returned (.bool true) ∧ Below w.heap.size w w' := by
  unfold maxLen at hd
  have AW := Lib.hid (awake6 X)
  have X' := Lib.hid X
  obtain ⟨o, ho⟩ : ∃ o, o = x.ok := ⟨_, rfl⟩
  have RI := Lib.hid (fun w => X.right x w hf)
  have SR := Lib.hid (srRight x)
  rw [← ho] at RI SR
  have HO := Lib.hid ho
  have PA := Lib.hid (fun w (h : d.size ≤ 1000) => X.pack x d w hf h)
  rw [← ho] at PA
  have SP := Lib.hid (srPack x d)
  have ROW := Lib.hid (RowAt.new w [.int .i64 x.gen, .int .i64 x.index, .int .i64 x.life, .int .i64 x.part, .int .i64 x.parts] 23)
  have B0 := Lib.hid ((Below.refl w.heap.size w).alloc (Nat.le_refl _) (.cells #[.int .i64 x.gen, .int .i64 x.index, .int .i64 x.life, .int .i64 x.part, .int .i64 x.parts] 23))
  clear X ho hf
  obtain ⟨g, i, l, p, n⟩ := x
  change Hid (∀ w, Calls Tryd.prog 8 #[.agg #[.int .i64 g, .int .i64 i, .int .i64 l, .int .i64 p, .int .i64 n]] w _) at RI
  change Hid (∀ w, Calls Tryd.prog 9 #[.agg #[.int .i64 g, .int .i64 i, .int .i64 l, .int .i64 p, .int .i64 n]] w _) at SR
  change Hid (∀ w, _ → Calls Tryd.prog 7 #[.agg #[.int .i64 g, .int .i64 i, .int .i64 l, .int .i64 p, .int .i64 n], .string d] w _) at PA
  change Hid (∀ w, _ → _ → Calls Tryd.prog 11 #[.agg #[.int .i64 g, .int .i64 i, .int .i64 l, .int .i64 p, .int .i64 n], .string d] w _) at SP
  show Calls Tryd.prog 3 #[.agg #[.int .i64 g, .int .i64 i, .int .i64 l, .int .i64 p, .int .i64 n], .string d] w _
  simp only at ROW B0
  have TO : (o != o) = false := by cases o <;> rfl
  by_cases h300 : 300 < d.size
  · go_enter Tryd.func3, Tryd.ntmps3
    go_wp2_with fail
    refine (AW.out _).mono ?_
    rintro e w1 ⟨rfl, hb1⟩
    have B1 := Lib.hid (below_then B0.out hb1)
    clear hb1
    go_wp2_with fail
    go_ret
    exact ⟨rfl, B1.out⟩
  obtain ⟨k, hk⟩ : ∃ k : ByteArray, k = (if o && decide (d.size ≤ 50) then pack6 ⟨g, i, l, p, n⟩ d else ⟨#[]⟩) := ⟨_, rfl⟩
  obtain ⟨c, hc⟩ : ∃ c : Int, c = (if o then (if d.size ≤ 50 then 0 else 5) else 1) := ⟨_, rfl⟩
  have PB := Lib.hid (fun w => PA.out w (by omega))
  rw [← hk, ← hc] at PB
  have HK := Lib.hid hk
  have HC := Lib.hid hc
  clear hk hc PA
  go_enter Tryd.func3, Tryd.ntmps3
  go_wp2_with fail
  refine (AW.out _).mono ?_
  rintro e w1 ⟨rfl, hb1⟩
  have R1 := Lib.hid (ROW.out.below hb1)
  have B1 := Lib.hid (below_then B0.out hb1)
  clear hb1
  obtain ⟨c0, c1, c2, c3, c4⟩ := BoxS.of_row R1.out
  go_wp2_with fail
  refine (PB.out _).mono ?_
  rintro e w2 ⟨rfl, hb2⟩
  have R2 := Lib.hid (R1.out.below hb2)
  have B2 := Lib.hid (below_then B1.out hb2)
  clear hb2 c0 c1 c2 c3 c4
  obtain ⟨c0, c1, c2, c3, c4⟩ := BoxS.of_row R2.out
  go_wp2_with fail
  have R2d := Lib.hid (show RowAt w2.drew _ _ _ from R2.out)
  go_region_held3 (fun w' => w'.cell? ⟨w.heap.size, 0, none⟩ = some (.int .i64 g) ∧ w'.cell? ⟨w.heap.size, 1, none⟩ = some (.int .i64 i) ∧ w'.cell? ⟨w.heap.size, 2, none⟩ = some (.int .i64 l) ∧ w'.cell? ⟨w.heap.size, 3, none⟩ = some (.int .i64 p) ∧ w'.cell? ⟨w.heap.size, 4, none⟩ = some (.int .i64 n))
    (first
      | go_keep
      | exact HC4.out
      | exact HC3.out)
    (first
      | (go_at_call 8; (with_reducible refine (RI.out _).mono ?_); rintro e w3 ⟨rfl, hb3⟩; have R3 := Lib.hid (R2d.out.below hb3); have B3 := Lib.hid (below_then (below_drew B2.out) hb3); have HC3 := Lib.hid (show w3.cell? ⟨w.heap.size, 0, none⟩ = some (.int .i64 g) ∧ w3.cell? ⟨w.heap.size, 1, none⟩ = some (.int .i64 i) ∧ w3.cell? ⟨w.heap.size, 2, none⟩ = some (.int .i64 l) ∧ w3.cell? ⟨w.heap.size, 3, none⟩ = some (.int .i64 p) ∧ w3.cell? ⟨w.heap.size, 4, none⟩ = some (.int .i64 n) from ⟨R3.out.cell 0, R3.out.cell 1, R3.out.cell 2, R3.out.cell 3, R3.out.cell 4⟩); clear hb3)
      | (go_at_call 9; (with_reducible refine (SR.out _).mono ?_); rintro e w4 ⟨rfl, hb4⟩; have R4 := Lib.hid (R3.out.below hb4); have B4 := Lib.hid (below_then B3.out hb4); have HC4 := Lib.hid (show w4.cell? ⟨w.heap.size, 0, none⟩ = some (.int .i64 g) ∧ w4.cell? ⟨w.heap.size, 1, none⟩ = some (.int .i64 i) ∧ w4.cell? ⟨w.heap.size, 2, none⟩ = some (.int .i64 l) ∧ w4.cell? ⟨w.heap.size, 3, none⟩ = some (.int .i64 p) ∧ w4.cell? ⟨w.heap.size, 4, none⟩ = some (.int .i64 n) from ⟨R4.out.cell 0, R4.out.cell 1, R4.out.cell 2, R4.out.cell 3, R4.out.cell 4⟩); clear hb4))
  clear c0 c1 c2 c3 c4
  obtain ⟨c0, c1, c2, c3, c4⟩ := BoxS.of_row R4.out
  go_wp2_with fail
  refine (SR.out _).mono ?_
  rintro e w5 ⟨rfl, hb5⟩
  have R5 := Lib.hid (R4.out.below hb5)
  have B5 := Lib.hid (below_then B4.out hb5)
  clear hb5 c0 c1 c2 c3 c4
  obtain ⟨c0, c1, c2, c3, c4⟩ := BoxS.of_row R5.out
  cases o with
  | false =>
    have ek : k = ⟨#[]⟩ := HK.out
    have ec : c = 1 := HC.out
    subst ek; subst ec
    go_wp2_with fail
    go_ret
    exact ⟨by first | rfl | simp, B5.out⟩
  | true =>
    by_cases h50 : d.size ≤ 50
    · have ek : k = pack6 ⟨g, i, l, p, n⟩ d := by rw [HK.out, decide_eq_true h50]; rfl
      have ec : c = 0 := by rw [HC.out, if_pos rfl, if_pos h50]
      subst ec
      obtain ⟨u1, u2, u3⟩ := un_pack6 _ d HO.out.symm h50
      rw [← ek] at u1 u2 u3
      have k64 : k.size = 64 := by rw [ek, pack6_size]
      have UN := Lib.hid (fun w => X'.out.unpack k w (by omega))
      rw [u1, if_pos rfl, if_pos rfl, if_pos rfl, u2, u3] at UN
      change Hid (∀ w, Calls Tryd.prog 10 #[.string k] w fun e w' => e = .returned (.tuple #[.agg #[.int .i64 g, .int .i64 i, .int .i64 l, .int .i64 p, .int .i64 n], .string d, .int .i64 0]) ∧ Below w.heap.size w w') at UN
      have SQ := Lib.hid (fun w => SP.out w HO.out.symm h50)
      rw [← ek] at SQ
      clear ek u1 u2 u3 k64
      go_wp2_with fail
      refine (UN.out _).mono ?_
      rintro e w6 ⟨rfl, hb6⟩
      have R6 := Lib.hid (R5.out.below hb6)
      have B6 := Lib.hid (below_then B5.out hb6)
      clear hb6 c0 c1 c2 c3 c4
      obtain ⟨c0, c1, c2, c3, c4⟩ := BoxS.of_row R6.out
      have L6 : w.heap.size < w6.heap.size := R6.out.lt
      have Y6 := Lib.hid (RowAt.new w6 [.int .i64 g, .int .i64 i, .int .i64 l, .int .i64 p, .int .i64 n] 23)
      have R6a := Lib.hid (R6.out.alloc (.cells #[.int .i64 g, .int .i64 i, .int .i64 l, .int .i64 p, .int .i64 n] 23))
      have B6a := Lib.hid (B6.out.alloc B6.out.size (.cells #[.int .i64 g, .int .i64 i, .int .i64 l, .int .i64 p, .int .i64 n] 23))
      go_wp2_with fail
      refine (SQ.out _).mono ?_
      rintro e w7 ⟨rfl, hb7⟩
      have R7 := Lib.hid (R6a.out.below hb7)
      have Y7 := Lib.hid (Y6.out.below hb7)
      have B7 := Lib.hid (below_then B6a.out hb7)
      clear hb7 c0 c1 c2 c3 c4
      obtain ⟨c0, c1, c2, c3, c4⟩ := BoxS.of_row R7.out
      obtain ⟨y0, y1, y2, y3, y4⟩ := BoxS.of_row Y7.out
      go_wp2_with fail
      go_ret
      exact ⟨by first | rfl | simp, B7.out⟩
    · have ek : k = ⟨#[]⟩ := by rw [HK.out, decide_eq_false h50]; rfl
      have ec : c = 5 := by rw [HC.out, if_pos rfl, if_neg h50]
      subst ek; subst ec
      go_wp2_with fail
      go_ret
      exact ⟨by first | rfl | simp, B5.out⟩

set_option maxRecDepth 100000 in
theorem lifted (X : SecAt) (os : Os) (started : os.Started) (H : Type) (enc : TypeId × Value → H) :
    ReturnsInHanded {} Tryd.checked os 3 .any (fun w args => (Rows.sectorPacksSpec.pre enc Tryd.prog Tryd.f3 Rows.sectorPacksRow.domain false w args ∧ laidMetH Tryd.prog Rows.sectorPacksRow.laid w) ∧ sizedMet enc Tryd.prog Tryd.f3 (OpenSpec.ofChange Rows.sectorPacksSpec) false w args) (Rows.sectorPacksSpec.post enc Tryd.prog Tryd.f3 false true false false) := by
  refine returnsInHanded_of_change_and (C := Tryd.checked) (X := fun w _ => laidMetH Tryd.prog Rows.sectorPacksRow.laid w) (fun _ _ _ hh h => h.of_heap hh) own started (by kernel_rfl) Tryd.func3
    (ChangeSpec.witness_shaped (enc := enc) (C := Tryd.checked) (os := os) (X := fun w _ => laidMetH Tryd.prog Rows.sectorPacksRow.laid w) false (World.laidAll Tryd.prog os Rows.sectorPacksRow.laid) #[.agg #[.int .i64 0, .int .i64 0, .int .i64 0, .int .i64 0, .int .i64 0], .string ⟨#[]⟩] 8 (World.laidAll_os _ _ _)
      (World.shaped_of_ZipB (by kernel_rfl) (by kernel_rfl)) (by kernel_rfl) (by kernel_rfl) (by kernel_rfl)
      (by rw [MakeChecks.laidMetH_plain _ _ _ (by kernel_rfl)]; exact laidMet_laidAll _ (by kernel_rfl) (by kernel_rfl))) ?_
  intro W base args ds gs before hval0 hW hcnd _ _ _
  have hval : ∀ (j : Nat) t v, Tryd.f3.params[j]? = some t → args[j]? = some v → Value.okWide Tryd.prog W .any base t v := hval0
  have hW' := hW
  obtain ⟨p, q, hA0, hV, rfl, hfz, hnd⟩ := hW
  have hA : DataW.TrodAll enc Tryd.prog W 0 (fun _ => true) true Tryd.f3.params.toList args.toList ds p := hA0
  rw [Tryd.params3] at hA hval
  obtain ⟨v0, vs0, d0, ds0, p0, q0, hargs0, rfl, rfl, h0, r0⟩ := trodAll_cons hA
  obtain ⟨v1, vs1, d1, ds1, p1, q1, hargs1, rfl, rfl, h1, r1⟩ := trodAll_cons r0
  obtain ⟨rfl, rfl, rfl⟩ := trodAll_nil r1
  obtain rfl : args = #[v0, v1] := by cases args; simp_all
  obtain ⟨rfl, rfl⟩ := trodVars_none hV
  clear hA0 hval0
  simp only [List.append_nil] at hW'
  obtain ⟨x0, rfl, f0, rfl⟩ := open_stamp (hval 0 23 v0 rfl rfl) h0
  obtain ⟨x1, rfl, rfl, rfl, w1⟩ := open_string Tryd.underlying9 (hval 1 9 v1 rfl rfl) h1
  refine (walk X x0 x1 W f0 w1).mono fun e W' ⟨he, hg⟩ => ?_
  subst he
  refine ⟨_, rfl, [d0, .lit (.string x1.data.toList)], [], [] ++ [], [], [] ++ ([] ++ []), [], hW', ?_, ?_, ?_, hg.frame _, fun h => by cases h⟩
  · exact trodAll_cons_mk (shut_bool Tryd.underlying4 _) trodAll_mk0
  · exact (trodAll_cons_mk (Below.trod laidOut (by kernel_rfl) (of_decide_eq_true (by kernel_rfl)) h0 hg (fun x hx => by cases hx)) (trodAll_cons_mk (shut_string Tryd.underlying9 w1) trodAll_mk0))
  · rfl

theorem over (X : SecAt) : Rows.sectorPacksRow.holds Tryd.pinned (OpenSpec.ofChange Rows.sectorPacksSpec) :=
  OpenClaim.holds_of_wide 3 Tryd.f3 rfl rfl rfl rfl rfl rfl rfl ⟨rfl, rfl, rfl, rfl, rfl⟩ rfl rfl rfl rfl rfl (by kernel_rfl) Tryd.func3 (by kernel_rfl)
    (of_decide_eq_true (by kernel_rfl)) (by unfold Func.isWrapper; first | (rw [if_pos (by decide +kernel)]; kernel_rfl) | (rw [if_neg (by decide +kernel)]; exact ⟨rfl, rfl⟩))
    (fun os started H enc _ => lifted X os started H enc)

/-- ████ THE STATEMENT: THE TIED CARD ████ -/
theorem stands : Rows.SectorPacksCardSaid :=
  Claim7.holds_tied_plain_at .later [] [.data, .pinned] true Rows.sectorPacksCard.stood.harness false (over theX) (fun _ h => by cases h) (by kernel_rfl) (fun _ h => by cases h) sectorPacks_row_tie rfl ⟨rfl, rfl⟩ (by kernel_rfl) rfl
    (fun f fn hf hfn => by
      obtain rfl : f = 3 := Option.some.inj ((show Tryd.prog.funcNamed Rows.sectorPacksRow.func = some 3 by kernel_rfl).symm.trans hf) |>.symm
      obtain rfl : fn = Tryd.f3 := (Option.some.inj (Tryd.func3.symm.trans hfn)).symm
      exact ⟨by kernel_rfl, fun j t ht => by
        have hall : (Tryd.f3.params.toList.all fun u => !Tryd.prog.wantsStandIn u) = true := by kernel_rfl
        have hm : t ∈ Tryd.f3.params.toList := by simpa using Array.mem_of_getElem? ht
        exact (show Tryd.prog.wantsStandIn t = false by simpa using List.all_eq_true.1 hall t hm)⟩)
    (by kernel_rfl)
#print axioms stands

end Go.Proofs.YtjhmgkelmllnjaaDoor.sectorPacks
