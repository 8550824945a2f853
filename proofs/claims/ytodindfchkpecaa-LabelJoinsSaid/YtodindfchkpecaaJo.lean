/- slices.Grow of nothing, slices.Concat of two, label.Join: walked. -/
import Derived.Test.YtodindfchkpecaaOf
namespace Go.Proofs.Ytodindfchkpecaa
open Go.RowKit

/-- slices.Grow at the nil slice -/
theorem sgrow (n : Nat) (w : World) (hn : n ≤ 1048576) : Calls Try.prog 46 #[.slice none 0 0, .int .i64 n] w (MkPost w.heap.size [] w) := by
  obtain ⟨i0, hi0, hz0, hzs, hzb⟩ := info_parts infoU
  rcases Nat.eq_zero_or_pos n with e | e
  · subst e
    go_enter Try.func46, Try.ntmps46
    go_wp2
    go_ret
    exact ⟨_, rfl, Own.nil _ _, Below.refl _ _⟩
  · obtain ⟨G, hG⟩ : ∃ G, G = grownCap w n 0 23 := ⟨_, rfl⟩
    have hGge : n ≤ G := by rw [hG]; exact grownCap_ge _ _ _ _
    have hGle : G ≤ maxLen := by rw [hG]; exact grownCap_le_maxLen _ _ _ _ (by unfold maxLen; omega)
    obtain ⟨Z, hZ⟩ : ∃ Z : Array Value, Z = Builtin.zeroCells (Value.int .u64 0).cells n ++ Builtin.zeroCells (Value.int .u64 0).cells (G - n) := ⟨_, rfl⟩
    have hZl : Z.size = G := by
      rw [hZ, Array.size_append, size_zeroCells, size_zeroCells]
      show n * 1 + (G - n) * 1 = G
      omega
    have hrz : ∀ ty, (Builtin.append_ #[22, 3] ty #[.slice none 0 0, .int .i64 (n : Int)]).run Try.prog w =
        .ok (.slice (some ⟨w.heap.size, 0, none⟩) n G) (w.drew.alloc (.cells Z 23)) := fun ty => by
      have h := Lib.run_append_nil_zeros w 22 3 ty 23 i0 _ .i64 .i64 Try.underlying22 Try.underlying3 hi0 hz0 n e (by omega) (by omega) (by rw [hzb]; omega)
      rw [← hG, ← hZ] at h
      exact h
    have HRZ := Lib.hid hrz
    have HZL := Lib.hid hZl
    have HGE := Lib.hid hGge
    have HGL := Lib.hid hGle
    unfold maxLen at hGle
    clear hrz hZl hZ hG hi0 hz0 hzs hzb
    go_enter Try.func46, Try.ntmps46
    go_wp2_with (at_builtin; refine Lib.wpList_append_run _ rfl (.tmp 20) (.tmp 21) 22 3 rfl _ _ rfl rfl _ _ (HRZ.out _) ?_)
    go_ret
    refine ⟨_, rfl, ?_, (Below.refl _ _).drew.alloc (Nat.le_refl _) _⟩
    exact ⟨by simp, .inr ⟨w.heap.size, G, Z, rfl, Nat.le_refl _, heap_alloc_new w.drew _, Nat.zero_le _, HGL.out, by rw [HZL.out, Nat.mul_one], by simp⟩⟩

set_option maxHeartbeats 1000000 in
set_option maxRecDepth 100000 in
/-- slices.Concat of two -/
theorem sconcat (A C : Option Addr) (ca cc : Nat) (a c : List Int) (bb : Nat) (w : World) (ha : Sl w A a) (hc : Sl w C c) (hna : A = none → a = [] ∧ ca = 0) (hnc : C = none → c = [] ∧ cc = 0) (hla : a.length ≤ 1024) (hlc : c.length ≤ 1024)
    (h0 : w.cell? ⟨bb, 0, none⟩ = some (.slice A a.length ca)) (h1 : w.cell? ⟨bb, 1, none⟩ = some (.slice C c.length cc)) (hbb : bb < w.heap.size) :
    Calls Try.prog 32 #[.slice (some ⟨bb, 0, none⟩) 2 2] w (MkPost w.heap.size (a ++ c) w) := by
  have HA := Lib.hid ha
  have HC := Lib.hid hc
  have HNA := Lib.hid hna
  have HNC := Lib.hid hnc
  clear ha hc hna hnc
  go_enter Try.func32, Try.ntmps32
  go_wp2_with fail
  refine wp_loop_rounds 3 ?_
  repeat any_goals (rw [rounds_succ]; go_wp2_with fail)
  rw [show (a.length : Int) + (c.length : Int) = ((a.length + c.length : Nat) : Int) by omega]
  refine (sgrow (a.length + c.length) _ (by omega)).mono ?_
  rintro e w1 ⟨v1, rfl, hown1, hb1⟩
  have HO1 := Lib.hid hown1
  have HB1 := Lib.hid hb1
  clear hown1 hb1
  go_wp2_with fail
  go_loopw [6, 27] (fun vo vi wr => Below w.heap.size w wr ∧ ((vi = .int .i64 0 ∧ Own wr w.heap.size vo []) ∨ (vi = .int .i64 1 ∧ Own wr w.heap.size vo a) ∨ (vi = .int .i64 2 ∧ Own wr w.heap.size vo (a ++ c)))) (fun _ vi _ => 2 - (intOf vi).toNat)
  case atStart => exact ⟨HB1.out, .inl ⟨rfl, HO1.out⟩⟩
  case round =>
    obtain ⟨hb, hh⟩ := hrel
    have hsz := hb.size
    have g0 := (hb.cell (p := ⟨bb, 0, none⟩) hbb).trans h0
    have g1 := (hb.cell (p := ⟨bb, 1, none⟩) hbb).trans h1
    have SA := Lib.hid (HA.out.below hb)
    have SC := Lib.hid (HC.out.below hb)
    have HB := Lib.hid hb
    clear hb
    rcases hh with ⟨rfl, ho⟩ | ⟨rfl, ho⟩ | ⟨rfl, ho⟩
    · have HO := Lib.hid ho
      clear ho
      go_wp2_with (at_builtin; refine wp_putN rfl (.tmp 31) (.tmp 32) rfl w.heap.size _ [] rfl HO.out A ca a rfl SA.out HNA.out (by simp; omega) hsz ?_; intro v2 w2 hown2 hb2; have HO2 := Lib.hid hown2; have HB2 := Lib.hid (HB.out.trans hb2); clear hown2 hb2)
      go_roundw
      case rel => exact ⟨HB2.out, .inr (.inl ⟨rfl, by simpa using HO2.out⟩)⟩
      case measure => simp [intOf]
    · have HO := Lib.hid ho
      clear ho
      go_wp2_with (at_builtin; refine wp_putN rfl (.tmp 31) (.tmp 32) rfl w.heap.size _ a rfl HO.out C cc c rfl SC.out HNC.out (by omega) hsz ?_; intro v2 w2 hown2 hb2; have HO2 := Lib.hid hown2; have HB2 := Lib.hid (HB.out.trans hb2); clear hown2 hb2)
      go_roundw
      case rel => exact ⟨HB2.out, .inr (.inr ⟨rfl, HO2.out⟩)⟩
      case measure => simp [intOf]
    · have HO := Lib.hid ho
      clear ho
      go_wp2
      go_ret
      exact ⟨_, rfl, HO.out, HB.out⟩

/-- the code, and the label, that label.Join tells -/
def joC (a b : List Int) : Int := if La.right a && La.right b then (if 6 < (La.ofAll (a ++ b)).length then 5 else 0) else 1
def joV (a b : List Int) : List Int := if La.right a && La.right b then (if 6 < (La.ofAll (a ++ b)).length then [] else La.ofAll (a ++ b)) else []
def JoPost (a b : List Int) (w : World) (e : Ending) (w' : World) : Prop := ∃ v, e = .returned (.tuple #[v, .int .i64 (joC a b)]) ∧ Own w' w.heap.size v (joV a b) ∧ Below w.heap.size w w'

theorem no_zero (a b : List Int) (ha : La.right a = true) (hb : La.right b = true) : La.has (a ++ b) 0 = false := by
  cases h : La.has (a ++ b) 0
  · rfl
  · rw [La.has_iff, List.mem_append] at h
    rcases h with h | h
    · have := ((La.right_iff a).1 ha).2.2 0 h; omega
    · have := ((La.right_iff b).1 hb).2.2 0 h; omega

set_option maxHeartbeats 1000000 in
set_option maxRecDepth 100000 in
/-- label.Join -/
theorem ljoin (A B : Option Addr) (c d : Nat) (a b : List Int) (w : World) (h : Sl w A a) (hb : Sl w B b) (hna : A = none → a = [] ∧ c = 0) (hnb : B = none → b = [] ∧ d = 0) (hm : a.length ≤ maxLen) (hn : b.length ≤ maxLen) :
    Calls Try.prog 17 #[.slice A a.length c, .slice B b.length d] w (JoPost a b w) := by
  have HN := Lib.hid hn
  have HBb := Lib.hid hb
  have HA := Lib.hid h
  have HM := Lib.hid hm
  have HNA := Lib.hid hna
  have HNB := Lib.hid hnb
  clear hn hb h hm hna hnb
  cases hra : La.right a
  · have R := Lib.hid hra
    clear hra
    go_enter Try.func17, Try.ntmps17
    go_wp2_with fail
    refine (lright A c a _ HA.out HM.out).mono ?_
    rintro e w' ⟨rfl, rfl⟩
    rw [R.out]
    go_wp2
    go_ret2
    refine ⟨_, ret_vc rfl ?_, ?_, Below.refl _ _⟩
    · unfold joC; rw [R.out]; rfl
    · unfold joV; rw [R.out]; exact Own.nil _ _
  cases hrb : La.right b
  · have R := Lib.hid hra
    have R2 := Lib.hid hrb
    clear hra hrb
    go_enter Try.func17, Try.ntmps17
    go_wp2_with fail
    refine (lright A c a _ HA.out HM.out).mono ?_
    rintro e w' ⟨rfl, rfl⟩
    rw [R.out]
    go_wp2_with fail
    refine (lright B d b _ HBb.out HN.out).mono ?_
    rintro e w' ⟨rfl, rfl⟩
    rw [R2.out]
    go_wp2
    go_ret2
    refine ⟨_, ret_vc rfl ?_, ?_, Below.refl _ _⟩
    · unfold joC; rw [R.out, R2.out]; rfl
    · unfold joV; rw [R.out, R2.out]; exact Own.nil _ _
  have hla : a.length ≤ 6 := ((La.right_iff a).1 hra).1
  have hlb : b.length ≤ 6 := ((La.right_iff b).1 hrb).1
  have NZ := Lib.hid (no_zero a b hra hrb)
  obtain ⟨ab, hab⟩ : ∃ ab, ab = a ++ b := ⟨_, rfl⟩
  have AB := Lib.hid hab
  have abl : ab.length ≤ 12 := by rw [hab]; simp; omega
  clear hab
  have R := Lib.hid hra
  have R2 := Lib.hid hrb
  clear hra hrb
  go_enter Try.func17, Try.ntmps17
  go_wp2_with fail
  refine (lright A c a _ HA.out HM.out).mono ?_
  rintro e w' ⟨rfl, rfl⟩
  rw [R.out]
  go_wp2_with fail
  refine (lright B d b _ HBb.out HN.out).mono ?_
  rintro e w' ⟨rfl, rfl⟩
  rw [R2.out]
  go_wp2_with fail
  have SA := Lib.hid (HA.out.alloc (.cells #[.slice A a.length c, .slice B b.length d] 22))
  have SB := Lib.hid (HBb.out.alloc (.cells #[.slice A a.length c, .slice B b.length d] 22))
  have BA := Lib.hid ((Below.refl w.heap.size w).alloc (Nat.le_refl _) (.cells #[.slice A a.length c, .slice B b.length d] 22))
  refine (sconcat A B c d a b w.heap.size _ SA.out SB.out HNA.out HNB.out (by omega) (by omega) (by go_simp) (by go_simp) (by simp)).mono ?_
  rintro e w1 ⟨v1, rfl, hown1, hb1⟩
  rw [← AB.out] at hown1
  have HB1 := Lib.hid (below_then BA.out hb1)
  obtain ⟨A1, c1, rfl, _, hsl, _, _⟩ := hown1.form
  have SL1 := Lib.hid hsl
  clear hown1 hb1 hsl
  go_wp2_with fail
  refine (lof A1 c1 ab _ SL1.out (by omega)).mono ?_
  rintro e w2 ⟨v2, rfl, hown2, hb2⟩
  have HB2 := Lib.hid (below_then HB1.out hb2)
  have HO2 := Lib.hid (hown2.more HB1.out.size)
  clear hown2 hb2
  have NZ2 : Hid (La.has ab 0 = false) := by show _ = _; rw [AB.out]; exact NZ.out
  go_wp2
  go_ret2
  refine ⟨_, ret_vc rfl ?_, ?_, HB2.out⟩
  · unfold joC ofC; rw [R.out, R2.out, NZ2.out, ← AB.out]; rfl
  · have h9 := HO2.out
    unfold ofV at h9
    rw [NZ2.out] at h9
    unfold joV; rw [R.out, R2.out, ← AB.out]; exact h9

end Go.Proofs.Ytodindfchkpecaa
