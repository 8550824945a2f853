/- Proved parts: S6r S7k Rgn Rgc. Conditions: each theorem's own. -/
import Derived.Test.YtfodclafkdkjbaaDoorM5
import Derived.Test.YtfodclafkdkjbaaDoorM0
import Derived.Test.YtfodclafkdkjbaaDoorProg
import Derived.KernelRfl
import Derived.BigQuiet
import Derived.Deep.RegionHeld3
namespace Go.Proofs.YtfodclafkdkjbaaDoor
open Go.RowKit

theorem right_ways (x : Stp) : (x.gen < 1 ∧ x.ok = false) ∨
    (1 ≤ x.gen ∧ 2147483647 < x.gen ∧ x.ok = false) ∨
    (1 ≤ x.gen ∧ x.gen ≤ 2147483647 ∧ x.life < 1 ∧ x.ok = false) ∨
    (1 ≤ x.gen ∧ x.gen ≤ 2147483647 ∧ 1 ≤ x.life ∧ 2147483647 < x.life ∧ x.ok = false) ∨
    (1 ≤ x.gen ∧ x.gen ≤ 2147483647 ∧ 1 ≤ x.life ∧ x.life ≤ 2147483647 ∧ x.index < 0 ∧ x.ok = false) ∨
    (1 ≤ x.gen ∧ x.gen ≤ 2147483647 ∧ 1 ≤ x.life ∧ x.life ≤ 2147483647 ∧ 0 ≤ x.index ∧ 127 < x.index ∧ x.ok = false) ∨
    (1 ≤ x.gen ∧ x.gen ≤ 2147483647 ∧ 1 ≤ x.life ∧ x.life ≤ 2147483647 ∧ 0 ≤ x.index ∧ x.index ≤ 127 ∧ x.parts < 1 ∧ x.ok = false) ∨
    (1 ≤ x.gen ∧ x.gen ≤ 2147483647 ∧ 1 ≤ x.life ∧ x.life ≤ 2147483647 ∧ 0 ≤ x.index ∧ x.index ≤ 127 ∧ 1 ≤ x.parts ∧ 128 < x.parts ∧ x.ok = false) ∨
    (1 ≤ x.gen ∧ x.gen ≤ 2147483647 ∧ 1 ≤ x.life ∧ x.life ≤ 2147483647 ∧ 0 ≤ x.index ∧ x.index ≤ 127 ∧ 1 ≤ x.parts ∧ x.parts ≤ 128 ∧ x.part < 0 ∧ x.ok = false) ∨
    (1 ≤ x.gen ∧ x.gen ≤ 2147483647 ∧ 1 ≤ x.life ∧ x.life ≤ 2147483647 ∧ 0 ≤ x.index ∧ x.index ≤ 127 ∧ 1 ≤ x.parts ∧ x.parts ≤ 128 ∧ 0 ≤ x.part ∧ x.parts ≤ x.part ∧ x.ok = false) ∨
    (1 ≤ x.gen ∧ x.gen ≤ 2147483647 ∧ 1 ≤ x.life ∧ x.life ≤ 2147483647 ∧ 0 ≤ x.index ∧ x.index ≤ 127 ∧ 1 ≤ x.parts ∧ x.parts ≤ 128 ∧ 0 ≤ x.part ∧ x.part < x.parts ∧ x.ok = true) := by
  have T := Stp.ok_iff x
  by_cases c0 : 1 ≤ x.gen
  case neg =>
    have F : x.ok = false := by cases h : x.ok with | false => rfl | true => exact absurd (T.1 h) (by omega)
    exact .inl ⟨by omega, F⟩
  by_cases c1 : x.gen ≤ 2147483647
  case neg =>
    have F : x.ok = false := by cases h : x.ok with | false => rfl | true => exact absurd (T.1 h) (by omega)
    exact .inr (.inl ⟨c0, by omega, F⟩)
  by_cases c2 : 1 ≤ x.life
  case neg =>
    have F : x.ok = false := by cases h : x.ok with | false => rfl | true => exact absurd (T.1 h) (by omega)
    exact .inr (.inr (.inl ⟨c0, c1, by omega, F⟩))
  by_cases c3 : x.life ≤ 2147483647
  case neg =>
    have F : x.ok = false := by cases h : x.ok with | false => rfl | true => exact absurd (T.1 h) (by omega)
    exact .inr (.inr (.inr (.inl ⟨c0, c1, c2, by omega, F⟩)))
  by_cases c4 : 0 ≤ x.index
  case neg =>
    have F : x.ok = false := by cases h : x.ok with | false => rfl | true => exact absurd (T.1 h) (by omega)
    exact .inr (.inr (.inr (.inr (.inl ⟨c0, c1, c2, c3, by omega, F⟩))))
  by_cases c5 : x.index ≤ 127
  case neg =>
    have F : x.ok = false := by cases h : x.ok with | false => rfl | true => exact absurd (T.1 h) (by omega)
    exact .inr (.inr (.inr (.inr (.inr (.inl ⟨c0, c1, c2, c3, c4, by omega, F⟩)))))
  by_cases c6 : 1 ≤ x.parts
  case neg =>
    have F : x.ok = false := by cases h : x.ok with | false => rfl | true => exact absurd (T.1 h) (by omega)
    exact .inr (.inr (.inr (.inr (.inr (.inr (.inl ⟨c0, c1, c2, c3, c4, c5, by omega, F⟩))))))
  by_cases c7 : x.parts ≤ 128
  case neg =>
    have F : x.ok = false := by cases h : x.ok with | false => rfl | true => exact absurd (T.1 h) (by omega)
    exact .inr (.inr (.inr (.inr (.inr (.inr (.inr (.inl ⟨c0, c1, c2, c3, c4, c5, c6, by omega, F⟩)))))))
  by_cases c8 : 0 ≤ x.part
  case neg =>
    have F : x.ok = false := by cases h : x.ok with | false => rfl | true => exact absurd (T.1 h) (by omega)
    exact .inr (.inr (.inr (.inr (.inr (.inr (.inr (.inr (.inl ⟨c0, c1, c2, c3, c4, c5, c6, c7, by omega, F⟩))))))))
  by_cases c9 : x.part < x.parts
  case neg =>
    have F : x.ok = false := by cases h : x.ok with | false => rfl | true => exact absurd (T.1 h) (by omega)
    exact .inr (.inr (.inr (.inr (.inr (.inr (.inr (.inr (.inr (.inl ⟨c0, c1, c2, c3, c4, c5, c6, c7, c8, by omega, F⟩)))))))))
  exact .inr (.inr (.inr (.inr (.inr (.inr (.inr (.inr (.inr (.inr (⟨c0, c1, c2, c3, c4, c5, c6, c7, c8, c9, T.2 (by omega)⟩))))))))))

/-- a stamp in a box at q -/
structure BoxS (w : World) (q : Nat) (g i l p n : Int) : Prop where
  c0 : w.cell? ⟨q, 0, none⟩ = some (.int .i64 g)
  c1 : w.cell? ⟨q, 1, none⟩ = some (.int .i64 i)
  c2 : w.cell? ⟨q, 2, none⟩ = some (.int .i64 l)
  c3 : w.cell? ⟨q, 3, none⟩ = some (.int .i64 p)
  c4 : w.cell? ⟨q, 4, none⟩ = some (.int .i64 n)
theorem BoxS.of_row {w : World} {q : Nat} {g i l p n : Int} {t : TypeId} (h : RowAt w q [.int .i64 g, .int .i64 i, .int .i64 l, .int .i64 p, .int .i64 n] t) : BoxS w q g i l p n := ⟨h.cell 0, h.cell 1, h.cell 2, h.cell 3, h.cell 4⟩

set_option maxRecDepth 100000 in
set_option maxHeartbeats 2000000 in
/-- cloisonneref06.Right -/
theorem srRight (x : Stp) (w : World) : Calls Tryd.prog 72 #[x.v] w fun e w' => e = .returned (.bool x.ok) ∧ Below w.heap.size w w' := by
  obtain ⟨o, ho⟩ : ∃ o, o = x.ok := ⟨_, rfl⟩
  have W := right_ways x
  rw [← ho] at W ⊢
  obtain ⟨g, i, l, p, n⟩ := x
  clear ho
  show Calls Tryd.prog 72 #[.agg #[.int .i64 g, .int .i64 i, .int .i64 l, .int .i64 p, .int .i64 n]] w _
  simp only at W
  have B0 := Lib.hid ((Below.refl w.heap.size w).alloc (Nat.le_refl _) (.cells #[.int .i64 g, .int .i64 i, .int .i64 l, .int .i64 p, .int .i64 n] 110))
  rcases W with ⟨h0, R⟩ | ⟨h0, h1, R⟩ | ⟨h0, h1, h2, R⟩ | ⟨h0, h1, h2, h3, R⟩ | ⟨h0, h1, h2, h3, h4, R⟩ | ⟨h0, h1, h2, h3, h4, h5, R⟩ | ⟨h0, h1, h2, h3, h4, h5, h6, R⟩ | ⟨h0, h1, h2, h3, h4, h5, h6, h7, R⟩ | ⟨h0, h1, h2, h3, h4, h5, h6, h7, h8, R⟩ | ⟨h0, h1, h2, h3, h4, h5, h6, h7, h8, h9, R⟩ | ⟨h0, h1, h2, h3, h4, h5, h6, h7, h8, h9, R⟩
  all_goals
    subst R
    go_enter Tryd.func72, Tryd.ntmps72
    go_wp2_with fail
    go_ret
    refine ⟨ret_bool ?_, B0.out⟩
    first | rfl | exact decide_eq_false (by omega) | exact decide_eq_true (by omega)

end Go.Proofs.YtfodclafkdkjbaaDoor

namespace Go.Proofs.YtfodclafkdkjbaaDoor
open Go.RowKit

/-- an extent is ready for a record of G at a, in the life y -/
structure Side (c : Cont) (S : Nat) (G : Int) (a : Nat) (y : Int) : Prop where
  gen : ∀ i, i < S → isSec (c i) = true → (stp (c i)).gen ≤ G
  life : ∀ i, a ≤ i → i < S → isSec (c i) = true → (stp (c i)).gen = G → (stp (c i)).life < y
  start : ∀ i, a < i → i < S → isSec (c i) = true → (stp (c i)).gen = G → ¬ ((stp (c i)).index = (i : Int) ∧ (stp (c i)).part = 0)
  none : recN c S G a = 0
/-- the new sectors of a record -/
def newS (G : Int) (a : Nat) (y : Int) (ps : List ByteArray) (j : Nat) : ByteArray := pack6 ⟨G, (a + j : Nat), y, (j : Nat), (ps.length : Nat)⟩ (ps.getD j ⟨#[]⟩)
/-- a record that may be written -/
structure May (S : Nat) (G : Int) (a : Nat) (y : Int) (ps : List ByteArray) : Prop where
  g0 : 1 ≤ G
  g1 : G ≤ 2147483647
  y0 : 1 ≤ y
  y1 : y ≤ 2147483647
  n0 : 0 < ps.length
  fit : a + ps.length ≤ S
  s1 : S ≤ 128
  small : ∀ j, j < ps.length → (ps.getD j ⟨#[]⟩).size ≤ 50
section
variable {S : Nat} {G : Int} {a : Nat} {y : Int} {ps : List ByteArray}
theorem May.stamp (h : May S G a y ps) {j : Nat} (hj : j < ps.length) : (⟨G, (a + j : Nat), y, (j : Nat), (ps.length : Nat)⟩ : Stp).ok = true := by
  have := h.fit; have := h.s1; have := h.g0; have := h.g1; have := h.y0; have := h.y1
  rw [Stp.ok_iff]; simp only; omega
theorem May.new (h : May S G a y ps) {j : Nat} (hj : j < ps.length) : isSec (newS G a y ps j) = true ∧ stp (newS G a y ps j) = ⟨G, (a + j : Nat), y, (j : Nat), (ps.length : Nat)⟩ ∧ dat (newS G a y ps j) = ps.getD j ⟨#[]⟩ :=
  un_pack6 _ _ (h.stamp hj) (h.small j hj)
theorem May.newAt (h : May S G a y ps) {j : Nat} (hj : j < ps.length) : isAt (newS G a y ps j) G (a + j) j ps.length y = true := by
  obtain ⟨h1, h2, _⟩ := h.new hj
  rw [isAt_iff, h2]; exact ⟨h1, rfl, rfl, rfl, rfl, rfl⟩

/-- q is c, but for some of the new sectors -/
structure Mix (c q : Cont) (S : Nat) (G : Int) (a : Nat) (y : Int) (ps : List ByteArray) : Prop where
  out : ∀ i, i < S → (i < a ∨ a + ps.length ≤ i) → q i = c i
  or : ∀ j, j < ps.length → q (a + j) = c (a + j) ∨ q (a + j) = newS G a y ps j
theorem Mix.at {c q : Cont} (hm : Mix c q S G a y ps) {i : Nat} (hi : i < S) : q i = c i ∨ ∃ j, j < ps.length ∧ i = a + j ∧ q i = newS G a y ps j := by
  by_cases h : a ≤ i ∧ i < a + ps.length
  · obtain ⟨j, rfl⟩ : ∃ j, i = a + j := ⟨i - a, by omega⟩
    rcases hm.or j (by omega) with e | e
    · exact .inl e
    · exact .inr ⟨j, by omega, rfl, e⟩
  · exact .inl (hm.out i hi (by omega))
/-- all of them are there -/
def Full (q : Cont) (G : Int) (a : Nat) (y : Int) (ps : List ByteArray) : Prop := ∀ j, j < ps.length → q (a + j) = newS G a y ps j
theorem full_rec {q : Cont} (h : May S G a y ps) (hf : Full q G a y ps) : recN q S G a = ps.length := by
  have h0 := h.n0
  obtain ⟨a1, a2, a3⟩ := h.new h0
  have e0 : q a = newS G a y ps 0 := by have := hf 0 h0; rwa [Nat.add_zero] at this
  have fit := h.fit
  refine recN_of ?_ (by rw [e0, a2]) ?_
  · rw [begins_iff, e0, a2]
    exact ⟨by omega, a1, rfl, by simp, rfl, by simp only; omega⟩
  · rw [goes_iff, e0, a2]
    intro j hj
    rw [hf j hj]; exact h.newAt hj
/-- bytes, one behind the other -/
def joined (ps : List ByteArray) : Nat → ByteArray
  | 0 => ⟨#[]⟩
  | k + 1 => joined ps k ++ ps.getD k ⟨#[]⟩
theorem full_bytes {q : Cont} (h : May S G a y ps) (hf : Full q G a y ps) : ∀ k, k ≤ ps.length → recB q a k = joined ps k
  | 0, _ => rfl
  | k + 1, hk => by
    show recB q a k ++ dat (q (a + k)) = joined ps k ++ ps.getD k ⟨#[]⟩
    rw [full_bytes h hf k (by omega), hf k (by omega), (h.new (by omega)).2.2]
/-- not all of them: no record -/
theorem mix_none {c q : Cont} (h : May S G a y ps) (hs : Side c S G a y) (hm : Mix c q S G a y ps) (hf : ¬ Full q G a y ps) : recN q S G a = 0 := by
  rcases Nat.eq_zero_or_pos (recN q S G a) with e | e
  · exact e
  exfalso
  obtain ⟨hb, hp, hg, hl⟩ := recN_some rfl e
  obtain ⟨n, hn⟩ : ∃ n, n = recN q S G a := ⟨_, rfl⟩
  rw [← hn] at hp hg hl e
  have hb' := (begins_iff _ _ _ _).1 hb
  have hg' := (goes_iff _ _ _ _ _ _).1 hg
  have h0 := h.n0
  have hfit := h.fit
  rcases hm.or 0 h0 with q0 | q0
  · -- the first one is an old one: all are
    rw [Nat.add_zero] at q0
    have ylt : (stp (q a)).life < y := by
      rw [q0]
      refine hs.life a (Nat.le_refl _) hb'.1 ?_ ?_
      · rw [← q0]; exact hb'.2.1
      · rw [← q0]; exact hb'.2.2.1
    have old : ∀ j, j < n → q (a + j) = c (a + j) := fun j hj => by
      rcases hm.at (i := a + j) (by omega) with e1 | ⟨k, hk, ek, e1⟩
      · exact e1
      · exfalso
        have := ((isAt_iff _ _ _ _ _ _).1 (hg' j hj)).2.2.2.2.2
        rw [e1, (h.new hk).2.1] at this
        simp only at this
        omega
    have := (recN_same (c := q) (d := c) hn.symm e (fun i h1 h2 => by
      have := old (i - a) (by omega)
      rwa [show a + (i - a) = i by omega] at this)).1
    rw [hs.none] at this
    omega
  · -- it is a new one: all are
    rw [Nat.add_zero] at q0
    have e2 := (h.new h0).2.1
    rw [← q0] at e2
    have np : (n : Int) = (ps.length : Nat) := by rw [← hp, e2]
    refine hf fun j hj => ?_
    rcases hm.or j hj with e1 | e1
    · exfalso
      have q1 := (isAt_iff _ _ _ _ _ _).1 (hg' j (by omega))
      have q2 : (stp (q (a + j))).life < y := by
        rw [e1]
        refine hs.life (a + j) (by omega) (by omega) ?_ ?_
        · rw [← e1]; exact q1.1
        · rw [← e1]; exact q1.2.1
      rw [q1.2.2.2.2.2, e2] at q2
      simp only at q2
      omega
    · exact e1
/-- behind a crash that took some, all lives are below the next one -/
theorem mix_side {c q : Cont} {z : Int} (h : May S G a y ps) (hs : Side c S G a y) (hm : Mix c q S G a y ps) (hf : ¬ Full q G a y ps) (hz : ∀ i, i < S → isSec (q i) = true → (stp (q i)).life < z) : Side q S G a z := by
  refine ⟨fun i hi hq => ?_, fun i h1 h2 h3 _ => hz i h2 h3, fun i h1 h2 h3 h4 => ?_, mix_none h hs hm hf⟩
  · rcases hm.at hi with e | ⟨j, hj, rfl, e⟩
    · rw [e] at hq ⊢; exact hs.gen i hi hq
    · rw [e, (h.new hj).2.1]; exact Int.le_refl _
  · rcases hm.at h2 with e | ⟨j, hj, rfl, e⟩
    · rw [e] at h3 h4 ⊢; exact hs.start i h1 h2 h3 h4
    · rw [e, (h.new hj).2.1]
      simp only
      omega
/-- all of them: the extent is ready for the next record -/
theorem full_side {c q : Cont} {z : Int} (h : May S G a y ps) (hs : Side c S G a y) (hm : Mix c q S G a y ps) (hz : y ≤ z) : Side q S G (a + ps.length) z := by
  have h0 := h.n0
  have hst : ∀ i, a + ps.length ≤ i → i < S → isSec (q i) = true → (stp (q i)).gen = G → ¬ ((stp (q i)).index = (i : Int) ∧ (stp (q i)).part = 0) := fun i h1 h2 h3 h4 => by
    rw [hm.out i h2 (.inr h1)] at h3 h4 ⊢
    exact hs.start i (by omega) h2 h3 h4
  refine ⟨fun i hi hq => ?_, fun i h1 h2 h3 h4 => ?_, fun i h1 h2 h3 h4 => hst i (by omega) h2 h3 h4, ?_⟩
  · rcases hm.at hi with e | ⟨j, hj, rfl, e⟩
    · rw [e] at hq ⊢; exact hs.gen i hi hq
    · rw [e, (h.new hj).2.1]; exact Int.le_refl _
  · rw [hm.out i h2 (.inr h1)] at h3 h4 ⊢
    exact Int.lt_of_lt_of_le (hs.life i (by omega) h2 h3 h4) hz
  · rcases Nat.eq_zero_or_pos (recN q S G (a + ps.length)) with e | e
    · exact e
    · have hb := (begins_iff _ _ _ _).1 (recN_some rfl e).1
      exact absurd ⟨hb.2.2.2.1, hb.2.2.2.2.1⟩ (hst _ (Nat.le_refl _) hb.1 hb.2.1 hb.2.2.1)
end

theorem lifeTo_le (c : Cont) : ∀ k i, i < k → isSec (c i) = true → (stp (c i)).life ≤ lifeTo c k
  | k + 1, i, hi, hs => by
    unfold lifeTo
    by_cases e : i = k
    · subst e
      by_cases h : lifeTo c i < (stp (c i)).life
      · rw [hs, decide_eq_true h]; exact Int.le_refl _
      · rw [hs, decide_eq_false h]
        show _ ≤ lifeTo c i
        omega
    · have ih := lifeTo_le c k i (by omega) hs
      by_cases h : (isSec (c k) && decide (lifeTo c k < (stp (c k)).life)) = true
      · rw [if_pos h]
        rw [Bool.and_eq_true, decide_eq_true_eq] at h
        omega
      · rw [if_neg h]; exact ih
theorem lifeTo_nonneg (c : Cont) : ∀ k, 0 ≤ lifeTo c k
  | 0 => Int.le_refl _
  | k + 1 => by
    unfold lifeTo
    have ih := lifeTo_nonneg c k
    by_cases h : (isSec (c k) && decide (lifeTo c k < (stp (c k)).life)) = true
    · rw [if_pos h]
      rw [Bool.and_eq_true, decide_eq_true_eq] at h
      omega
    · rw [if_neg h]; exact ih

end Go.Proofs.YtfodclafkdkjbaaDoor

namespace Go.Proofs.YtfodclafkdkjbaaDoor
open Go

section
variable {P : Program} {ops : Array Oper} {Q : Exit → Act → World → Prop} {md : Region.Mode} {S T : World → Prop}
/-- what is held may be raised -/
theorem rgnMono (h : ∀ w, T w → S w) : ∀ (fuel : Nat) (listed : Array Bool) (a : Act) (w : World), wpAnyH P md ops Q T fuel listed a w → wpAnyH P md ops Q S fuel listed a w
  | 0, _, _, _, k => k
  | fuel + 1, _, _, _, k => ⟨k.1, fun i hi => wpOp_mono (fun a' w' h' => ⟨h w' h'.1, rgnMono h fuel _ a' w' h'.2⟩) (k.2 i hi)⟩
/-- .. and is held from here on -/
theorem rgnRaise {fuel : Nat} {listed : Array Bool} {a : Act} {w : World} (T : World → Prop) (h : ∀ w, T w → S w) (hT : T w) (k : T w → wpAnyH P md ops Q T fuel listed a w) : wpAnyH P md ops Q S fuel listed a w :=
  rgnMono h fuel listed a w (k hT)
/-- take number i first; the operation is found by the list -/
theorem rgnTake (i : Nat) {oi : Oper} {v : Value} {fuel : Nat} {listed : Array Bool} {a : Act} {w : World} (hi : ops.toList[i]? = some oi)
    (hs : Region.noSelect ops = true) (hf : Region.free md ops listed i = true) (hr : (Region.ready md ops listed).contains i = true)
    (hQ : ∀ c a w, Q (.panic c) (a.put oi.dst v) w → Q (.panic c) a w) (hw : Region.wanted oi (yielded ops a.tmps) = true) (hy : ∀ w, S w → (execOp a.eval oi).run P w = .ok (.value v) w) (hS : S w)
    (h : wpAnyH P md ops Q S fuel (listed.setIfInBounds i true) (a.put oi.dst v) w) : wpAnyH P md ops Q S (fuel + 1) listed a w :=
  wpAnyH_take (by rw [← Array.getElem?_toList]; exact hi) hs hf hr hQ (.inl ⟨hw, hy⟩) hS h
/-- number i alone may come up -/
theorem rgnOne (i : Nat) {o : Oper} {fuel : Nat} {listed : Array Bool} {a : Act} {w : World} (ho : ops.toList[i]? = some o) (hr : Region.ready md ops listed = [i])
    (h : ∀ K' : Act → World → Prop, Shut (∀ a w, S w → (S w → wpAnyH P md ops Q S fuel (listed.setIfInBounds i true) a w) → K' a w) → if Region.wanted o (yielded ops a.tmps) = true then Oper.wp P o a w K' Q else K' (a.put o.dst undef) w) :
    wpAnyH P md ops Q S (fuel + 1) listed a w :=
  wpAnyH_ready hr (by simp) (AllReadyH.cons (by rw [← Array.getElem?_toList]; exact ho) h AllReadyH.nil)
end

end Go.Proofs.YtfodclafkdkjbaaDoor

namespace Go.Proofs.YtfodclafkdkjbaaDoor
open Go

section
variable {P : Program} {ops : Array Oper} {Q : Exit → Act → World → Prop} {md : Region.Mode} {S : World → Prop}
/-- what an operation can't turn is still so behind it -/
theorem wpOp_and {Y : Act → Prop} {j : Nat} {oj : Oper} (hj : ops[j]? = some oj) {K : Act → World → Prop} {a : Act} {w : World}
    (k1 : ∀ a, Y a → ∀ u, Y (a.put oj.dst u)) (k2 : ∀ a, Y a → ∀ d, Y { a with defers := d :: a.defers }) (hY : Y a) (h : wpOp P ops Q j K a w) :
    wpOp P ops Q j (fun a' w' => Y a' ∧ K a' w') a w := by
  unfold wpOp at h ⊢
  rw [hj] at h ⊢
  show (if _ then _ else _)
  replace h : (if Region.wanted oj (yielded ops a.tmps) = true then oj.wp P a w K Q ∨ (oj.asks P a w ∧ LetsOut Q) else K (a.put oj.dst undef) w) := h
  by_cases hw : Region.wanted oj (yielded ops a.tmps) = true
  · rw [if_pos hw] at h ⊢
    refine h.imp (fun h => ?_) id
    unfold Oper.wp at h ⊢
    revert h
    generalize (execOp a.eval oj).run P w = r
    intro h
    match r, h with
    | .ok (.value u) _, h => exact ⟨k1 a hY u, h⟩
    | .ok .skip _, h => exact ⟨k1 a hY _, h⟩
    | .ok (.defer d) _, h => exact ⟨k1 _ (k2 a hY d) _, h⟩
    | .ok (.enter f args) _, h =>
      refine Calls.mono h fun e w'' he => ?_
      match e, he with
      | .returned u, he => exact ⟨k1 a hY u, he⟩
      | .panicked c, he => exact he
      | .outgrown, he => exact he
    | .ok (.row row args) _, h => exact Rows.mono h fun u w'' he => ⟨k1 a hY u, he⟩
    | .halt (.panic u) _, h => exact h
  · rw [if_neg hw] at h ⊢
    exact ⟨k1 a hY _, h⟩

/-- a call that answers v and leaves the world as it is, in each world that is held -/
def CallsSame (P : Program) (ops : Array Oper) (S : World → Prop) (o : Oper) (v : Value) (a : Act) : Prop :=
  Region.wanted o (yielded ops a.tmps) = true ∧ ∀ w, S w → ∃ f args, (execOp a.eval o).run P w = .ok (.enter f args) w ∧ Calls P f args w fun e w' => e = .returned v ∧ w' = w
theorem CallsSame.wpOp {i : Nat} {o : Oper} {v : Value} {a : Act} (hi : ops[i]? = some o) (hy : CallsSame P ops S o v a) {K : Act → World → Prop} {w : World} (hS : S w) (h : K (a.put o.dst v) w) : wpOp P ops Q i K a w := by
  unfold Go.wpOp
  rw [hi]
  show (if _ then _ else _)
  rw [if_pos hy.1]
  obtain ⟨f, args, e, hc⟩ := hy.2 w hS
  refine .inl ?_
  unfold Oper.wp
  rw [e]
  refine Calls.mono hc fun e w' he => ?_
  obtain ⟨rfl, rfl⟩ := he
  exact h
theorem CallsSame.of_same {o : Oper} {v : Value} {a a' : Act} (hy : CallsSame P ops S o v a) (he : execOp a'.eval o = execOp a.eval o)
    (hw : Region.wanted o (yielded ops a'.tmps) = Region.wanted o (yielded ops a.tmps)) : CallsSame P ops S o v a' := by
  unfold CallsSame at hy ⊢
  rw [he, hw]; exact hy

theorem rgnCallFirst {i : Nat} {oi : Oper} {v : Value} (hi : ops[i]? = some oi) (hsel : ∀ (j : Nat) (o : Oper) cs b, ops[j]? = some o → o.op ≠ .select cs b)
    (hQ : ∀ c a w, Q (.panic c) (a.put oi.dst v) w → Q (.panic c) a w) :
    ∀ (fuel : Nat) (listed : Array Bool) (a : Act) (w : World),
      (∀ j oj, ops[j]? = some oj → j ≠ i → listed.getD j true = false → (∀ e ∈ oj.after, Region.binds md e = true → e.on ≠ i) → oi.apart ops oj = true) →
      i ∈ Region.ready md ops listed → CallsSame P ops S oi v a → S w →
      wpAnyH P md ops Q S fuel (listed.setIfInBounds i true) (a.put oi.dst v) w → wpAnyH P md ops Q S (fuel + 1) listed a w
  | fuel, listed, a, w, hfree, hr, hy, hS, H => by
    refine ⟨fun h => (by rw [h] at hr; cases hr), fun j hj => ?_⟩
    rcases Decidable.em (j = i) with hji | hji
    · subst hji; exact hy.wpOp hi hS ⟨hS, H⟩
    match fuel, H with
    | 0, H =>
      have := ready_mono hj hji
      rw [H.1] at this
      cases this
    | fuel + 1, H =>
      obtain ⟨hun, oj, hoj, hall⟩ := mem_ready.1 hj
      have hnot : ∀ e ∈ oj.after, Region.binds md e = true → e.on ≠ i := fun e he hb heq => by
        have q1 := hall e he hb
        have q0 := (mem_ready.1 hr).1
        rw [heq] at q1
        by_cases hlt : i < listed.size
        · simp [hlt] at q0 q1; rw [q0] at q1; cases q1
        · simp [Array.getElem?_eq_none (Nat.not_lt.1 hlt)] at q1
      have hap := hfree j oj hoj hji hun hnot
      obtain ⟨_, _, a3⟩ := Oper.apart_spec hap
      have k1 : ∀ a, CallsSame P ops S oi v a → ∀ u, CallsSame P ops S oi v (a.put oj.dst u) := fun a hy u =>
        hy.of_same (execOp_put oi (fun cs b => hsel i oi cs b hi) a oj.dst u a3) (wanted_put oi a oj.dst u a3)
      have s1 := wpOp_putIf (S := fun _ => False) hoj hap (fun cs b => hsel i oi cs b hi) (fun cs b => hsel j oj cs b hoj) hQ (.inl ⟨hy.1, fun _ f => f.elim⟩) (H.2 j (ready_mono hj hji))
      have s2 := wpOp_and (Y := CallsSame P ops S oi v) hoj k1 (fun a h d => h.of_same rfl rfl) hy s1
      have hfree' : ∀ k ok, ops[k]? = some ok → k ≠ i → (listed.setIfInBounds j true).getD k true = false →
          (∀ e ∈ ok.after, Region.binds md e = true → e.on ≠ i) → oi.apart ops ok = true := fun k ok hk hki hun' hno => by
        refine hfree k ok hk hki ?_ hno
        rcases Decidable.em (j = k) with e | e
        · subst e; exact hun
        · rw [getD_set_ne true e] at hun'; exact hun'
      refine wpOp_mono (fun a' w' z => ⟨z.2.2.1, rgnCallFirst hi hsel hQ fuel (listed.setIfInBounds j true) a' w' hfree' (ready_mono hr (Ne.symm hji)) z.1 z.2.2.1 ?_⟩) s2
      rw [Array.setIfInBounds_comm _ _ hji]
      exact z.2.2.2

/-- take the call of number i first -/
theorem rgnCall (i : Nat) {oi : Oper} {v : Value} {fuel : Nat} {listed : Array Bool} {a : Act} {w : World} (hi : ops.toList[i]? = some oi)
    (hs : Region.noSelect ops = true) (hf : Region.free md ops listed i = true) (hr : (Region.ready md ops listed).contains i = true)
    (hQ : ∀ c a w, Q (.panic c) (a.put oi.dst v) w → Q (.panic c) a w) (hw : Region.wanted oi (yielded ops a.tmps) = true)
    (hy : ∀ w, S w → ∃ f args, (execOp a.eval oi).run P w = .ok (.enter f args) w ∧ Calls P f args w fun e w' => e = .returned v ∧ w' = w) (hS : S w)
    (h : wpAnyH P md ops Q S fuel (listed.setIfInBounds i true) (a.put oi.dst v) w) : wpAnyH P md ops Q S (fuel + 1) listed a w :=
  rgnCallFirst (by rw [← Array.getElem?_toList]; exact hi) (Region.noSelect_spec hs) hQ fuel listed a w (Region.free_spec (by rw [← Array.getElem?_toList]; exact hi) hf) (by simpa using hr) ⟨hw, hy⟩ hS h
end

end Go.Proofs.YtfodclafkdkjbaaDoor
