/- Proved: SectorOne: for any two texts the law returns true, and its arguments read behind the call as they read before, at this commit. Conditions: none of ours (the card ties the listed variables of Go's library to the program's text). -/
import Derived.Test.YtjhmgkelmllnjaaDoorS6d
import Derived.Test.YtjhmgkelmllnjaaDoorCards
import Derived.Test.YtjhmgkelmllnjaaDoorTie
import Derived.LaidMore
import Derived.Lay
import Derived.SevenTiedAt
import Derived.Stop.Joined
import Derived.Test.YtjhmgkelmllnjaaDoorS6o
namespace Go.Proofs.YtjhmgkelmllnjaaDoor.sectorOne
open Go.Proofs.YtjhmgkelmllnjaaDoor Go.Joins Go.ChangeShapes Go.WideShapes Go.ChangeAt Go.RowKit
open Go.ChangeMaps (open_string shut_string)

/-- one sector for one stamp -/
theorem one_for_one {a b : ByteArray} (ha : isSec a = true) (hb : isSec b = true) (h1 : stp a = stp b) (h2 : dat a = dat b) : a = b := by
  rw [← pack_un6 a ha, ← pack_un6 b hb, h1, h2]

set_option maxRecDepth 100000 in
set_option maxHeartbeats 1000000 in
theorem walk_long (X : SecAt) (a b : ByteArray) (w : World) (ha : a.size ≤ 9223372036854775807) (hb : b.size ≤ 9223372036854775807) (h : 300 < a.size ∨ (a.size ≤ 300 ∧ 300 < b.size)) :
    Calls Tryd.prog 5 #[.string a, .string b] w fun e w' => e = .returned (.bool true) ∧ Below w.heap.size w w' := by
  have AW := Lib.hid (awake6 X)
  clear X
  rcases h with h | ⟨h, h'⟩
  all_goals
    go_enter Tryd.func5, Tryd.ntmps5
    go_wp2_with fail
    refine (AW.out _).mono ?_
    rintro e w1 ⟨rfl, hb1⟩
    have B1 := Lib.hid hb1
    clear hb1
    go_wp2_with fail
    go_ret
    exact ⟨rfl, B1.out⟩

/-- Unpack's answer, the stamp in letters -/
def Says (s : ByteArray) (g i l p n : Int) (d : ByteArray) (c : Int) : Prop := ∀ w, Calls Tryd.prog 10 #[.string s] w fun e w' => e = .returned (.tuple #[.agg #[.int .i64 g, .int .i64 i, .int .i64 l, .int .i64 p, .int .i64 n], .string d, .int .i64 c]) ∧ Below w.heap.size w w'

set_option maxRecDepth 100000 in
set_option maxHeartbeats 4000000 in
theorem walk_short (X : SecAt) (a b d d' : ByteArray) (g i l p n g' i' l' p' n' c c' : Int) (w : World) (ha : a.size ≤ 300) (hb : b.size ≤ 300) (UA : Hid (Says a g i l p n d c)) (UB : Hid (Says b g' i' l' p' n' d' c'))
    (h : (c = 4 ∧ g = 0 ∧ i = 0 ∧ l = 0 ∧ p = 0 ∧ n = 0 ∧ d = ⟨#[]⟩) ∨ (c = 0 ∧ c' = 4) ∨ (c = 0 ∧ c' = 0 ∧ a = b ∧ g = g' ∧ i = i' ∧ l = l' ∧ p = p' ∧ n = n' ∧ d = d') ∨
      (c = 0 ∧ c' = 0 ∧ a ≠ b ∧ g ≠ g') ∨ (c = 0 ∧ c' = 0 ∧ a ≠ b ∧ g = g' ∧ i ≠ i') ∨ (c = 0 ∧ c' = 0 ∧ a ≠ b ∧ g = g' ∧ i = i' ∧ l ≠ l') ∨ (c = 0 ∧ c' = 0 ∧ a ≠ b ∧ g = g' ∧ i = i' ∧ l = l' ∧ p ≠ p') ∨
      (c = 0 ∧ c' = 0 ∧ a ≠ b ∧ g = g' ∧ i = i' ∧ l = l' ∧ p = p' ∧ n ≠ n') ∨ (c = 0 ∧ c' = 0 ∧ a ≠ b ∧ g = g' ∧ i = i' ∧ l = l' ∧ p = p' ∧ n = n' ∧ d ≠ d')) :
    Calls Tryd.prog 5 #[.string a, .string b] w fun e w' => e = .returned (.bool true) ∧ Below w.heap.size w w' := by
  have AW := Lib.hid (awake6 X)
  have YY := Lib.hid (fun v => RowAt.new v [.int .i64 g, .int .i64 i, .int .i64 l, .int .i64 p, .int .i64 n] 23)
  clear X
  rcases h with ⟨rfl, rfl, rfl, rfl, rfl, rfl, rfl⟩ | ⟨rfl, rfl⟩ | ⟨rfl, rfl, rfl, rfl, rfl, rfl, rfl, rfl, rfl⟩ | ⟨rfl, rfl, hab, k⟩ | ⟨rfl, rfl, hab, rfl, k⟩ | ⟨rfl, rfl, hab, rfl, rfl, k⟩ | ⟨rfl, rfl, hab, rfl, rfl, rfl, k⟩ | ⟨rfl, rfl, hab, rfl, rfl, rfl, rfl, k⟩ | ⟨rfl, rfl, hab, rfl, rfl, rfl, rfl, rfl, k⟩
  rotate_left 3
  all_goals try (have TA := str_ne hab)
  all_goals try (have TD := str_ne k)
  all_goals
    try clear hab
    go_enter Tryd.func5, Tryd.ntmps5
    go_wp2_with fail
    refine (AW.out _).mono ?_
    rintro e w1 ⟨rfl, hb1⟩
    have B1 := Lib.hid hb1
    clear hb1
    go_wp2_with fail
    refine (UA.out _).mono ?_
    rintro e w2 ⟨rfl, hb2⟩
    have B2 := Lib.hid (below_then B1.out hb2)
    clear hb2
    have Y2 := Lib.hid (YY.out w2)
    go_wp2_with fail
    refine (UB.out _).mono ?_
    rintro e w3 ⟨rfl, hb3⟩
    have Y3 := Lib.hid (Y2.out.below hb3)
    have Z3 := Lib.hid (below_then (B2.out.alloc B2.out.size _) hb3)
    have L3 := Y3.out.lt
    clear hb3
    obtain ⟨y0, y1, y2, y3, y4⟩ := BoxS.of_row Y3.out
    go_wp2_with fail
    go_ret
    exact ⟨by first | rfl | simp, Z3.out.alloc Z3.out.size _⟩

theorem walk (X : SecAt) (a b : ByteArray) (w : World) (ha : a.size ≤ maxLen) (hb : b.size ≤ maxLen) :
    Calls Tryd.prog 5 #[.string a, .string b] w fun e w' => e = .returned (.bool true) ∧ Below w.heap.size w w' := by
  unfold maxLen at ha hb
  by_cases h1 : 300 < a.size
  · exact walk_long X a b w (by omega) (by omega) (.inl h1)
  by_cases h2 : 300 < b.size
  · exact walk_long X a b w (by omega) (by omega) (.inr ⟨by omega, h2⟩)
  have yes : ∀ s : ByteArray, s.size ≤ 300 → isSec s = true → Says s (stp s).gen (stp s).index (stp s).life (stp s).part (stp s).parts (dat s) 0 := fun s h k w => by
    have q := X.unpack s w (by omega); rw [k] at q; exact q
  have no : ∀ s : ByteArray, s.size ≤ 300 → isSec s = false → Says s 0 0 0 0 0 ⟨#[]⟩ 4 := fun s h k w => by
    have q := X.unpack s w (by omega); rw [k] at q; exact q
  cases ia : isSec a with
  | false =>
    cases ib : isSec b with
    | false => exact walk_short X a b _ _ _ _ _ _ _ _ _ _ _ _ _ _ w (by omega) (by omega) (Lib.hid (no a (by omega) ia)) (Lib.hid (no b (by omega) ib)) (.inl ⟨rfl, rfl, rfl, rfl, rfl, rfl, rfl⟩)
    | true => exact walk_short X a b _ _ _ _ _ _ _ _ _ _ _ _ _ _ w (by omega) (by omega) (Lib.hid (no a (by omega) ia)) (Lib.hid (yes b (by omega) ib)) (.inl ⟨rfl, rfl, rfl, rfl, rfl, rfl, rfl⟩)
  | true =>
    cases ib : isSec b with
    | false => exact walk_short X a b _ _ _ _ _ _ _ _ _ _ _ _ _ _ w (by omega) (by omega) (Lib.hid (yes a (by omega) ia)) (Lib.hid (no b (by omega) ib)) (.inr (.inl ⟨rfl, rfl⟩))
    | true =>
      refine walk_short X a b _ _ _ _ _ _ _ _ _ _ _ _ _ _ w (by omega) (by omega) (Lib.hid (yes a (by omega) ia)) (Lib.hid (yes b (by omega) ib)) (.inr (.inr ?_))
      by_cases e : a = b
      · exact .inl ⟨rfl, rfl, e, by rw [e], by rw [e], by rw [e], by rw [e], by rw [e], by rw [e]⟩
      refine .inr ?_
      by_cases k1 : (stp a).gen = (stp b).gen
      case neg => exact .inl ⟨rfl, rfl, e, k1⟩
      by_cases k2 : (stp a).index = (stp b).index
      case neg => exact .inr (.inl ⟨rfl, rfl, e, k1, k2⟩)
      by_cases k3 : (stp a).life = (stp b).life
      case neg => exact .inr (.inr (.inl ⟨rfl, rfl, e, k1, k2, k3⟩))
      by_cases k4 : (stp a).part = (stp b).part
      case neg => exact .inr (.inr (.inr (.inl ⟨rfl, rfl, e, k1, k2, k3, k4⟩)))
      by_cases k5 : (stp a).parts = (stp b).parts
      case neg => exact .inr (.inr (.inr (.inr (.inl ⟨rfl, rfl, e, k1, k2, k3, k4, k5⟩))))
      refine .inr (.inr (.inr (.inr (.inr ⟨rfl, rfl, e, k1, k2, k3, k4, k5, fun k => e (one_for_one ia ib ?_ k)⟩))))
      cases hx : stp a; cases hy : stp b
      rw [hx, hy] at k1 k2 k3 k4 k5
      simp only at k1 k2 k3 k4 k5
      rw [k1, k2, k3, k4, k5]

set_option maxRecDepth 100000 in
theorem lifted (X : SecAt) (os : Os) (started : os.Started) (H : Type) (enc : TypeId × Value → H) :
    ReturnsInHanded {} Tryd.checked os 5 .any (fun w args => (Rows.sectorOneSpec.pre enc Tryd.prog Tryd.f5 Rows.sectorOneRow.domain false w args ∧ laidMetH Tryd.prog Rows.sectorOneRow.laid w) ∧ sizedMet enc Tryd.prog Tryd.f5 (OpenSpec.ofChange Rows.sectorOneSpec) false w args) (Rows.sectorOneSpec.post enc Tryd.prog Tryd.f5 false true false false) := by
  refine returnsInHanded_of_change_and (C := Tryd.checked) (X := fun w _ => laidMetH Tryd.prog Rows.sectorOneRow.laid w) (fun _ _ _ hh h => h.of_heap hh) own started (by kernel_rfl) Tryd.func5
    (ChangeSpec.witness_shaped (enc := enc) (C := Tryd.checked) (os := os) (X := fun w _ => laidMetH Tryd.prog Rows.sectorOneRow.laid w) false (World.laidAll Tryd.prog os Rows.sectorOneRow.laid) #[.string ⟨#[]⟩, .string ⟨#[]⟩] 8 (World.laidAll_os _ _ _)
      (World.shaped_of_ZipB (by kernel_rfl) (by kernel_rfl)) (by kernel_rfl) (by kernel_rfl) (by kernel_rfl)
      (by rw [MakeChecks.laidMetH_plain _ _ _ (by kernel_rfl)]; exact laidMet_laidAll _ (by kernel_rfl) (by kernel_rfl))) ?_
  intro W base args ds gs before hval0 hW hcnd _ _ _
  have hval : ∀ (j : Nat) t v, Tryd.f5.params[j]? = some t → args[j]? = some v → Value.okWide Tryd.prog W .any base t v := hval0
  have hW' := hW
  obtain ⟨p, q, hA0, hV, rfl, hfz, hnd⟩ := hW
  have hA : DataW.TrodAll enc Tryd.prog W 0 (fun _ => true) true Tryd.f5.params.toList args.toList ds p := hA0
  rw [Tryd.params5] at hA hval
  obtain ⟨v0, vs0, d0, ds0, p0, q0, hargs0, rfl, rfl, h0, r0⟩ := trodAll_cons hA
  obtain ⟨v1, vs1, d1, ds1, p1, q1, hargs1, rfl, rfl, h1, r1⟩ := trodAll_cons r0
  obtain ⟨rfl, rfl, rfl⟩ := trodAll_nil r1
  obtain rfl : args = #[v0, v1] := by cases args; simp_all
  obtain ⟨rfl, rfl⟩ := trodVars_none hV
  clear hA0 hval0
  simp only [List.append_nil] at hW'
  obtain ⟨x0, rfl, rfl, rfl, w0⟩ := open_string Tryd.underlying9 (hval 0 9 v0 rfl rfl) h0
  obtain ⟨x1, rfl, rfl, rfl, w1⟩ := open_string Tryd.underlying9 (hval 1 9 v1 rfl rfl) h1
  refine (walk X x0 x1 W w0 w1).mono fun e W' ⟨he, hg⟩ => ?_
  subst he
  refine ⟨_, rfl, [.lit (.string x0.data.toList), .lit (.string x1.data.toList)], [], [] ++ [], [], [] ++ ([] ++ []), [], hW', ?_, ?_, ?_, hg.frame _, fun h => by cases h⟩
  · exact trodAll_cons_mk (shut_bool Tryd.underlying4 _) trodAll_mk0
  · exact (trodAll_cons_mk (shut_string Tryd.underlying9 w0) (trodAll_cons_mk (shut_string Tryd.underlying9 w1) trodAll_mk0))
  · rfl

theorem over (X : SecAt) : Rows.sectorOneRow.holds Tryd.pinned (OpenSpec.ofChange Rows.sectorOneSpec) :=
  OpenClaim.holds_of_wide 5 Tryd.f5 rfl rfl rfl rfl rfl rfl rfl ⟨rfl, rfl, rfl, rfl, rfl⟩ rfl rfl rfl rfl rfl (by kernel_rfl) Tryd.func5 (by kernel_rfl)
    (of_decide_eq_true (by kernel_rfl)) (by unfold Func.isWrapper; first | (rw [if_pos (by decide +kernel)]; kernel_rfl) | (rw [if_neg (by decide +kernel)]; exact ⟨rfl, rfl⟩))
    (fun os started H enc _ => lifted X os started H enc)

/-- ████ THE STATEMENT: THE TIED CARD ████ -/
theorem stands : Rows.SectorOneCardSaid :=
  Claim7.holds_tied_plain_at .later [] [.data, .pinned] true Rows.sectorOneCard.stood.harness false (over theX) (fun _ h => by cases h) (by kernel_rfl) (fun _ h => by cases h) sectorOne_row_tie rfl ⟨rfl, rfl⟩ (by kernel_rfl) rfl
    (fun f fn hf hfn => by
      obtain rfl : f = 5 := Option.some.inj ((show Tryd.prog.funcNamed Rows.sectorOneRow.func = some 5 by kernel_rfl).symm.trans hf) |>.symm
      obtain rfl : fn = Tryd.f5 := (Option.some.inj (Tryd.func5.symm.trans hfn)).symm
      exact ⟨by kernel_rfl, fun j t ht => by
        have hall : (Tryd.f5.params.toList.all fun u => !Tryd.prog.wantsStandIn u) = true := by kernel_rfl
        have hm : t ∈ Tryd.f5.params.toList := by simpa using Array.mem_of_getElem? ht
        exact (show Tryd.prog.wantsStandIn t = false by simpa using List.all_eq_true.1 hall t hm)⟩)
    (by kernel_rfl)
#print axioms stands

end Go.Proofs.YtjhmgkelmllnjaaDoor.sectorOne
