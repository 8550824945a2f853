/- Proved: SectorReads: for any bytes the law returns true, and its argument reads behind the call as it read before, at this commit. Conditions: none of ours (the card ties the listed variables of Go's library to the program's text). -/
import Derived.Test.YtjhmgkelmllnjaaDoorS6d
import Derived.Test.YtjhmgkelmllnjaaDoorCards
import Derived.Test.YtjhmgkelmllnjaaDoorTie
import Derived.LaidMore
import Derived.Lay
import Derived.SevenTiedAt
import Derived.Stop.Joined
import Derived.Test.YtjhmgkelmllnjaaDoorS6o
import Derived.Deep.RegionHeld3
namespace Go.Proofs.YtjhmgkelmllnjaaDoor.sectorReads
open Go.Proofs.YtjhmgkelmllnjaaDoor Go.Joins Go.ChangeShapes Go.WideShapes Go.ChangeAt Go.RowKit
open Go.ChangeMaps (open_string shut_string)

set_option maxRecDepth 100000 in
set_option maxHeartbeats 2000000 in
theorem walk (X : SecAt) (s : ByteArray) (w : World) (hs : s.size ≤ maxLen) :
    Calls Tryd.prog 4 #[.string s] w fun e w' => e = .returned (.bool true) ∧ Below w.heap.size w w' := by
  unfold maxLen at hs
  have AW := Lib.hid (awake6 X)
  by_cases h300 : 300 < s.size
  · clear X
    go_enter Tryd.func4, Tryd.ntmps4
    go_wp2_with fail
    refine (AW.out _).mono ?_
    rintro e w1 ⟨rfl, hb1⟩
    have B1 := Lib.hid hb1
    clear hb1
    go_wp2_with fail
    go_ret
    exact ⟨rfl, B1.out⟩
  have UN := Lib.hid (fun w => X.unpack s w (by omega))
  have SU := Lib.hid (fun w => srUnpack s w (by omega))
  cases hi : isSec s with
  | false =>
    rw [hi] at UN
    change Hid (∀ w, Calls Tryd.prog 10 #[.string s] w fun e w' => e = .returned (.tuple #[.agg #[.int .i64 0, .int .i64 0, .int .i64 0, .int .i64 0, .int .i64 0], .string ⟨#[]⟩, .int .i64 4]) ∧ Below w.heap.size w w') at UN
    have SV := Lib.hid (show ∀ w, Calls Tryd.prog 12 #[.string s] w fun e w' => e = .returned (.tuple #[.agg #[.int .i64 0, .int .i64 0, .int .i64 0, .int .i64 0, .int .i64 0], .string ⟨#[]⟩, .bool false]) ∧ Below w.heap.size w w' from fun w => by
      have h := SU.out w; unfold UnPost at h; rw [hi] at h; exact h)
    clear hi SU X
    go_enter Tryd.func4, Tryd.ntmps4
    go_wp2_with fail
    refine (AW.out _).mono ?_
    rintro e w1 ⟨rfl, hb1⟩
    have B1 := Lib.hid hb1
    clear hb1
    go_wp2_with fail
    refine (UN.out _).mono ?_
    rintro e w2 ⟨rfl, hb2⟩
    have B2 := Lib.hid (below_then B1.out hb2)
    clear hb2
    have Y2 := Lib.hid (RowAt.new w2 [.int .i64 0, .int .i64 0, .int .i64 0, .int .i64 0, .int .i64 0] 23)
    have B2a := Lib.hid (B2.out.alloc B2.out.size (.cells #[.int .i64 0, .int .i64 0, .int .i64 0, .int .i64 0, .int .i64 0] 23))
    go_wp2_with fail
    refine (SV.out _).mono ?_
    rintro e w3 ⟨rfl, hb3⟩
    have Y3 := Lib.hid (Y2.out.below hb3)
    have B3 := Lib.hid (below_then B2a.out hb3)
    have L3 := Y3.out.lt
    clear hb3
    have Z3 := Lib.hid (B3.out.alloc B3.out.size (.cells #[.int .i64 0, .int .i64 0, .int .i64 0, .int .i64 0, .int .i64 0] 23))
    obtain ⟨y0, y1, y2, y3, y4⟩ := BoxS.of_row Y3.out
    go_wp2_with fail
    go_ret
    exact ⟨by first | rfl | simp, Z3.out⟩
  | true =>
    obtain ⟨x, hx⟩ : ∃ x, x = stp s := ⟨_, rfl⟩
    obtain ⟨d, hd⟩ : ∃ d, d = dat s := ⟨_, rfl⟩
    have hok : x.ok = true := by rw [hx]; exact ((isSec_iff s).1 hi).2.2.2.2
    have h50 : d.size ≤ 50 := by rw [hd, dat_size hi]; exact ((isSec_iff s).1 hi).2.2.1
    have PK := Lib.hid (show ∀ w, Calls Tryd.prog 7 #[x.v, .string d] w fun e w' => e = .returned (.tuple #[.string s, .int .i64 0]) ∧ Below w.heap.size w w' from fun w => by
      have h := X.pack x d w (Stp.fits_ok hok) (by omega)
      rw [hok, decide_eq_true h50] at h
      simp only [Bool.and_self, if_true, if_pos h50] at h
      rw [hx, hd, pack_un6 s hi] at h
      rw [hx, hd]; exact h)
    have SV := Lib.hid (show ∀ w, Calls Tryd.prog 12 #[.string s] w fun e w' => e = .returned (.tuple #[x.v, .string d, .bool true]) ∧ Below w.heap.size w w' from fun w => by
      have h := SU.out w; unfold UnPost at h; rw [hi, if_pos rfl, if_pos rfl, ← hx, ← hd] at h; exact h)
    rw [hi, if_pos rfl, if_pos rfl, if_pos rfl, ← hx, ← hd] at UN
    clear hi SU X hx hd hok h50
    obtain ⟨g, i, l, p, n⟩ := x
    change Hid (∀ w, Calls Tryd.prog 10 #[.string s] w fun e w' => e = .returned (.tuple #[.agg #[.int .i64 g, .int .i64 i, .int .i64 l, .int .i64 p, .int .i64 n], .string d, .int .i64 0]) ∧ Below w.heap.size w w') at UN
    change Hid (∀ w, Calls Tryd.prog 12 #[.string s] w fun e w' => e = .returned (.tuple #[.agg #[.int .i64 g, .int .i64 i, .int .i64 l, .int .i64 p, .int .i64 n], .string d, .bool true]) ∧ Below w.heap.size w w') at SV
    change Hid (∀ w, Calls Tryd.prog 7 #[.agg #[.int .i64 g, .int .i64 i, .int .i64 l, .int .i64 p, .int .i64 n], .string d] w _) at PK
    go_enter Tryd.func4, Tryd.ntmps4
    go_wp2_with fail
    refine (AW.out _).mono ?_
    rintro e w1 ⟨rfl, hb1⟩
    have B1 := Lib.hid hb1
    clear hb1
    go_wp2_with fail
    refine (UN.out _).mono ?_
    rintro e w2 ⟨rfl, hb2⟩
    have B2 := Lib.hid (below_then B1.out hb2)
    clear hb2
    have Y2 := Lib.hid (RowAt.new w2 [.int .i64 g, .int .i64 i, .int .i64 l, .int .i64 p, .int .i64 n] 23)
    have B2a := Lib.hid (B2.out.alloc B2.out.size (.cells #[.int .i64 g, .int .i64 i, .int .i64 l, .int .i64 p, .int .i64 n] 23))
    go_wp2_with fail
    refine (SV.out _).mono ?_
    rintro e w3 ⟨rfl, hb3⟩
    have Y3 := Lib.hid (Y2.out.below hb3)
    have B3 := Lib.hid (below_then B2a.out hb3)
    have L3 := Y3.out.lt
    clear hb3
    have Z3 := Lib.hid (B3.out.alloc B3.out.size (.cells #[.int .i64 g, .int .i64 i, .int .i64 l, .int .i64 p, .int .i64 n] 23))
    obtain ⟨y0, y1, y2, y3, y4⟩ := BoxS.of_row Y3.out
    go_wp2_with fail
    refine (PK.out _).mono ?_
    rintro e w4 ⟨rfl, hb4⟩
    have Z4 := Lib.hid (below_then Z3.out hb4)
    clear hb4
    go_wp2_with fail
    go_ret
    exact ⟨by first | rfl | simp, Z4.out⟩

set_option maxRecDepth 100000 in
theorem lifted (X : SecAt) (os : Os) (started : os.Started) (H : Type) (enc : TypeId × Value → H) :
    ReturnsInHanded {} Tryd.checked os 4 .any (fun w args => (Rows.sectorReadsSpec.pre enc Tryd.prog Tryd.f4 Rows.sectorReadsRow.domain false w args ∧ laidMetH Tryd.prog Rows.sectorReadsRow.laid w) ∧ sizedMet enc Tryd.prog Tryd.f4 (OpenSpec.ofChange Rows.sectorReadsSpec) false w args) (Rows.sectorReadsSpec.post enc Tryd.prog Tryd.f4 false true false false) := by
  refine returnsInHanded_of_change_and (C := Tryd.checked) (X := fun w _ => laidMetH Tryd.prog Rows.sectorReadsRow.laid w) (fun _ _ _ hh h => h.of_heap hh) own started (by kernel_rfl) Tryd.func4
    (ChangeSpec.witness_shaped (enc := enc) (C := Tryd.checked) (os := os) (X := fun w _ => laidMetH Tryd.prog Rows.sectorReadsRow.laid w) false (World.laidAll Tryd.prog os Rows.sectorReadsRow.laid) #[.string ⟨#[]⟩] 8 (World.laidAll_os _ _ _)
      (World.shaped_of_ZipB (by kernel_rfl) (by kernel_rfl)) (by kernel_rfl) (by kernel_rfl) (by kernel_rfl)
      (by rw [MakeChecks.laidMetH_plain _ _ _ (by kernel_rfl)]; exact laidMet_laidAll _ (by kernel_rfl) (by kernel_rfl))) ?_
  intro W base args ds gs before hval0 hW hcnd _ _ _
  have hval : ∀ (j : Nat) t v, Tryd.f4.params[j]? = some t → args[j]? = some v → Value.okWide Tryd.prog W .any base t v := hval0
  have hW' := hW
  obtain ⟨p, q, hA0, hV, rfl, hfz, hnd⟩ := hW
  have hA : DataW.TrodAll enc Tryd.prog W 0 (fun _ => true) true Tryd.f4.params.toList args.toList ds p := hA0
  rw [Tryd.params4] at hA hval
  obtain ⟨v0, vs0, d0, ds0, p0, q0, hargs0, rfl, rfl, h0, r0⟩ := trodAll_cons hA
  obtain ⟨rfl, rfl, rfl⟩ := trodAll_nil r0
  obtain rfl : args = #[v0] := by cases args; simp_all
  obtain ⟨rfl, rfl⟩ := trodVars_none hV
  clear hA0 hval0
  simp only [List.append_nil] at hW'
  obtain ⟨x0, rfl, rfl, rfl, w0⟩ := open_string Tryd.underlying9 (hval 0 9 v0 rfl rfl) h0
  refine (walk X x0 W w0).mono fun e W' ⟨he, hg⟩ => ?_
  subst he
  refine ⟨_, rfl, [.lit (.string x0.data.toList)], [], [], [], [] ++ [], [], hW', ?_, ?_, ?_, hg.frame _, fun h => by cases h⟩
  · exact trodAll_cons_mk (shut_bool Tryd.underlying4 _) trodAll_mk0
  · exact (trodAll_cons_mk (shut_string Tryd.underlying9 w0) trodAll_mk0)
  · rfl

theorem over (X : SecAt) : Rows.sectorReadsRow.holds Tryd.pinned (OpenSpec.ofChange Rows.sectorReadsSpec) :=
  OpenClaim.holds_of_wide 4 Tryd.f4 rfl rfl rfl rfl rfl rfl rfl ⟨rfl, rfl, rfl, rfl, rfl⟩ rfl rfl rfl rfl rfl (by kernel_rfl) Tryd.func4 (by kernel_rfl)
    (of_decide_eq_true (by kernel_rfl)) (by unfold Func.isWrapper; first | (rw [if_pos (by decide +kernel)]; kernel_rfl) | (rw [if_neg (by decide +kernel)]; exact ⟨rfl, rfl⟩))
    (fun os started H enc _ => lifted X os started H enc)

/-- ████ THE STATEMENT: THE TIED CARD ████ -/
theorem stands : Rows.SectorReadsCardSaid :=
  Claim7.holds_tied_plain_at .later [] [.data, .pinned] true Rows.sectorReadsCard.stood.harness false (over theX) (fun _ h => by cases h) (by kernel_rfl) (fun _ h => by cases h) sectorReads_row_tie rfl ⟨rfl, rfl⟩ (by kernel_rfl) rfl
    (fun f fn hf hfn => by
      obtain rfl : f = 4 := Option.some.inj ((show Tryd.prog.funcNamed Rows.sectorReadsRow.func = some 4 by kernel_rfl).symm.trans hf) |>.symm
      obtain rfl : fn = Tryd.f4 := (Option.some.inj (Tryd.func4.symm.trans hfn)).symm
      exact ⟨by kernel_rfl, fun j t ht => by
        have hall : (Tryd.f4.params.toList.all fun u => !Tryd.prog.wantsStandIn u) = true := by kernel_rfl
        have hm : t ∈ Tryd.f4.params.toList := by simpa using Array.mem_of_getElem? ht
        exact (show Tryd.prog.wantsStandIn t = false by simpa using List.all_eq_true.1 hall t hm)⟩)
    (by kernel_rfl)
#print axioms stands

end Go.Proofs.YtjhmgkelmllnjaaDoor.sectorReads
