/- Proved parts: S7z S7aw S7b. Conditions: each theorem's own. -/
import Derived.Test.YtfodclafkdkjbaaDoorM26
import Derived.Test.YtfodclafkdkjbaaDoorM34
namespace Go.Proofs.YtfodclafkdkjbaaDoor
open Go.RowKit

/-- what always holds of a log and its writer -/
structure GOk (S : Nat) (l : Lg) (ox : Option Wr) : Prop where
  s1 : 1 ≤ S
  s : S ≤ 128
  f : l.first ≤ 90
  a : l.at_ ≤ l.first + 1
  u : l.used ≤ S
  g0 : 0 ≤ l.gen
  g1 : l.gen ≤ 2147483647
  y : 1 ≤ l.life
  w : ∀ x, ox = some x → x.moves ≤ x.parts.length + 2 ∧ x.parts.length ≤ 1000 ∧ (x.moves ≠ x.parts.length + 2 → May S (l.gn x.base) (l.fr x.base) l.life x.parts)
section
variable {S : Nat} {l : Lg} {ox : Option Wr}
theorem GOk.mv {x : Wr} (h : GOk S l (some x)) : MvOk S l x := by
  obtain ⟨w1, w2, w3⟩ := h.w x rfl
  have := h.f; have := h.a; have := h.u; have := h.s
  exact ⟨by omega, by omega, by omega, h.g0, h.g1, w2, w1, fun k => w3 (by omega)⟩
theorem GOk.open_ {c d : Cont} {f : Nat} (s1 : 1 ≤ S) (hs : S ≤ 128) (hf : f ≤ 90) : GOk S (openP c d S f).1 none := by
  obtain ⟨a1, a2, a3⟩ := stands_ok c S
  obtain ⟨b1, b2, b3⟩ := stands_ok d S
  have x1 := lifeTo_nonneg c S
  have y1 := lifeTo_nonneg d S
  have hy : 1 ≤ 1 + max (lifeTo c S) (lifeTo d S) := by omega
  unfold openP
  split
  · exact ⟨s1, hs, hf, by simp only; omega, a3, a1, a2, hy, fun x q => by cases q⟩
  · split
    · exact ⟨s1, hs, hf, Nat.le_refl _, b3, b1, b2, hy, fun x q => by cases q⟩
    · exact ⟨s1, hs, hf, Nat.le_refl _, Nat.zero_le _, Int.le_refl _, by simp only; omega, hy, fun x q => by cases q⟩
theorem GOk.write {y : Wr} (h : GOk S l ox) (s : ByteArray) (b : Bool) (hy : (l.write S s b).2.1 = some y) : GOk S (l.write S s b).1 (some y) ∧ (l.write S s b).2.2 = 0 := by
  unfold Lg.write at hy ⊢
  by_cases h1 : l.busy = true
  · rw [if_pos h1] at hy; cases hy
  rw [if_neg h1] at hy ⊢
  by_cases h2 : (!b && decide (l.gen = 0)) = true
  · rw [if_pos h2] at hy; cases hy
  rw [if_neg h2] at hy ⊢
  by_cases h3 : S < l.fr b + cntN s.size
  · rw [if_pos (decide_eq_true h3)] at hy; cases hy
  rw [if_neg (by simpa using h3)] at hy ⊢
  by_cases h4 : (decide (2147483647 < l.life) || (b && decide (2147483647 ≤ l.gen))) = true
  · rw [if_pos h4] at hy; cases hy
  rw [if_neg h4] at hy ⊢
  injection hy with hy
  subst hy
  have hs := h.s
  have hl : l.life ≤ 2147483647 := by
    simp only [Bool.or_eq_true, decide_eq_true_eq, not_or] at h4; omega
  refine ⟨⟨h.s1, h.s, h.f, h.a, h.u, h.g0, h.g1, h.y, fun x hx => ?_⟩, rfl⟩
  injection hx with hx
  subst hx
  refine ⟨Nat.zero_le _, by show (partsOf s).length ≤ 1000; rw [partsOf_len]; omega, fun _ => ⟨?_, ?_, h.y, hl, ?_, ?_, h.s, parts_small s⟩⟩
  · show 1 ≤ l.gn b
    have g0 := h.g0
    unfold Lg.gn
    cases b with
    | false => simp at h2; simp only [Bool.false_eq_true, if_false]; omega
    | true => simp only [if_true]; omega
  · show l.gn b ≤ 2147483647
    have g1 := h.g1
    unfold Lg.gn
    cases b with
    | false => simp only [Bool.false_eq_true, if_false]; exact g1
    | true =>
      simp only [Bool.true_and, Bool.or_eq_true, decide_eq_true_eq, not_or] at h4
      simp only [if_true]; omega
  · show 0 < (partsOf s).length
    rw [partsOf_len]; exact cntN_pos _
  · show l.fr b + (partsOf s).length ≤ S
    rw [partsOf_len]; omega
theorem GOk.move {x : Wr} {m : Ext} (h : GOk S l (some x)) : GOk S (Go.Proofs.YtfodclafkdkjbaaDoor.move m l x).2.1 (some (Go.Proofs.YtfodclafkdkjbaaDoor.move m l x).2.2.1) := by
  obtain ⟨w1, w2, w3⟩ := h.w x rfl
  have same : ∀ k, k ≤ x.parts.length + 1 → x.moves ≠ x.parts.length + 2 → GOk S l (some { x with moves := k }) := fun k hk hne =>
    ⟨h.s1, h.s, h.f, h.a, h.u, h.g0, h.g1, h.y, fun z hz => by
      injection hz with hz
      subst hz
      exact ⟨by simp only; omega, w2, fun _ => w3 hne⟩⟩
  unfold Go.Proofs.YtfodclafkdkjbaaDoor.move
  by_cases c0 : x.moves = x.parts.length + 2
  · rw [if_pos c0]; exact h
  rw [if_neg c0]
  by_cases c1 : x.moves < x.parts.length
  · rw [if_pos c1]; split
    · exact same _ (by omega) c0
    · exact h
  rw [if_neg c1]
  by_cases c2 : x.moves = x.parts.length
  · rw [if_pos c2]; split
    · exact same _ (by omega) c0
    · exact h
  rw [if_neg c2]
  have M := w3 c0
  have fa := h.a
  refine ⟨h.s1, h.s, h.f, ?_, M.fit, by have := M.g0; simp only; omega, M.g1, h.y, fun z hz => ?_⟩
  · show l.to x.base ≤ l.first + 1
    unfold Lg.to
    split
    · split <;> omega
    · exact fa
  · injection hz with hz
    subst hz
    exact ⟨by simp only; omega, w2, fun q => absurd (by simp only; omega) q⟩
end

/-- a new world has no sectors -/
theorem now_new (e s e' i : Nat) : nowC (Ext.new e s) e' i = ⟨#[]⟩ ∧ dryC (Ext.new e s) e' i = ⟨#[]⟩ := by
  have g : ∀ j, (Ext.new e s).secAt j = Sec0 := fun j => by
    unfold Ext.secAt Ext.new
    simp only
    rw [List.getD_eq_getElem?_getD]
    by_cases h : j < e * s
    · rw [List.getElem?_eq_getElem (by simpa using h)]; simp
    · rw [List.getElem?_eq_none (by simpa using h)]; rfl
  unfold nowC dryC
  rw [g]; exact ⟨rfl, rfl⟩
theorem small_new (e s : Nat) : (Ext.new e s).Small := fun j => by
  have g : (Ext.new e s).secAt j = Sec0 := by
    unfold Ext.secAt Ext.new
    simp only
    rw [List.getD_eq_getElem?_getD]
    by_cases h : j < e * s
    · rw [List.getElem?_eq_getElem (by simpa using h)]; simp
    · rw [List.getElem?_eq_none (by simpa using h)]; rfl
  rw [g]; exact ⟨Nat.zero_le _, Nat.zero_le _⟩
theorem not_sec_nil : isSec ⟨#[]⟩ = false := by
  cases h : isSec ⟨#[]⟩ with
  | false => rfl
  | true => have := ((isSec_iff _).1 h).1; exact absurd this (by decide)
theorem lifeTo_none (c : Cont) : ∀ k, (∀ i, i < k → isSec (c i) = false) → lifeTo c k = 0
  | 0, _ => rfl
  | k + 1, h => by
    unfold lifeTo
    rw [h k (by omega), Bool.false_and, if_neg (by simp)]
    exact lifeTo_none c k fun i hi => h i (by omega)
theorem stands_none (c : Cont) (S : Nat) (h : isSec (c 0) = false) : stands c S = (0, [], 0) := by unfold stands; rw [h]; rfl
/-- a log of a new world -/
theorem open_new (e s f : Nat) (_hs : 1 ≤ s) : openP (nowC (Ext.new e s) f) (nowC (Ext.new e s) (f + 1)) s f = (⟨f, f + 1, 0, 0, 1, false⟩, []) := by
  have h1 : ∀ e' i, isSec (nowC (Ext.new e s) e' i) = false := fun e' i => by rw [(now_new e s e' i).1]; exact not_sec_nil
  unfold openP
  rw [stands_none _ _ (h1 f 0), stands_none _ _ (h1 (f + 1) 0), lifeTo_none _ _ (fun i _ => h1 f i), lifeTo_none _ _ (fun i _ => h1 (f + 1) i)]
  rfl
theorem lInv_new (s : Nat) (h : Ext.fits 2 s = true) : LInv (Ext.new 2 s) ⟨0, 1, 0, 0, 1, false⟩ none [] [] := by
  have ho := Ext.new_ok h
  refine ⟨ho, rfl, rfl, rfl, .inl ⟨rfl, rfl, (fun x q => by cases q), fun _ _ => ⟨#[]⟩, base_new s ho.2.2.1 _ (fun _ _ _ => not_sec_nil), fun e _ i _ => now_new 2 s e i⟩⟩

end Go.Proofs.YtfodclafkdkjbaaDoor

namespace Go.Proofs.YtfodclafkdkjbaaDoor
open Go.RowKit

theorem move_next {m : Ext} {l : Lg} {x : Wr} {kept next : List ByteArray} (h : LInv m l (some x) kept next) (hk : x.moves ≤ x.parts.length) : Go.Proofs.YtfodclafkdkjbaaDoor.move m l x = ((Go.Proofs.YtfodclafkdkjbaaDoor.move m l x).1, l, { x with moves := x.moves + 1 }, 1, 0) := by
  have e := h.move.1
  unfold Go.Proofs.YtfodclafkdkjbaaDoor.move at e ⊢
  rw [if_neg (by omega)] at e ⊢
  by_cases c1 : x.moves < x.parts.length
  · rw [if_pos c1] at e ⊢
    by_cases c2 : (m.write (l.to x.base : Nat) (l.fr x.base + x.moves : Nat) (x.sector l)).2 = 0
    · rw [if_pos c2]
    · rw [if_neg c2] at e; exact absurd e c2
  · rw [if_neg c1, if_pos (by omega)] at e ⊢
    by_cases c2 : (m.flush (l.to x.base : Nat)).2 = 0
    · rw [if_pos c2]
    · rw [if_neg c2] at e; exact absurd e c2
theorem write_sec (m : Ext) (e a : Int) (s : ByteArray) : (m.write e a s).1.sec = m.sec := by
  unfold Ext.write
  repeat' split
  all_goals rfl
theorem flush_sec (m : Ext) (e : Int) : (m.flush e).1.sec = m.sec := by
  unfold Ext.flush
  repeat' split
  all_goals rfl
theorem move_sec (m : Ext) (l : Lg) (x : Wr) : (Go.Proofs.YtfodclafkdkjbaaDoor.move m l x).1.sec = m.sec := by
  unfold Go.Proofs.YtfodclafkdkjbaaDoor.move
  repeat' split
  all_goals first | rfl | exact write_sec _ _ _ _ | exact flush_sec _ _
def abc : ByteArray := ⟨#[97, 98, 99]⟩
theorem abc_write : Lg.write ⟨0, 1, 0, 0, 1, false⟩ 4 abc true = (⟨0, 1, 0, 0, 1, true⟩, some ⟨true, partsOf abc, 0⟩, 0) := by
  unfold Lg.write Lg.fr
  rw [if_neg (by simp), if_neg (by simp), if_neg (by unfold cntN; decide), if_neg (by simp)]
theorem abc_len : (partsOf abc).length = 1 := by rw [partsOf_len]; rfl
/-- what three moves leave -/
theorem abc_moves : ∃ m1 m2, Go.Proofs.YtfodclafkdkjbaaDoor.move (Ext.new 2 4) ⟨0, 1, 0, 0, 1, true⟩ ⟨true, partsOf abc, 0⟩ = (m1, ⟨0, 1, 0, 0, 1, true⟩, ⟨true, partsOf abc, 1⟩, 1, 0) ∧
    Go.Proofs.YtfodclafkdkjbaaDoor.move m1 ⟨0, 1, 0, 0, 1, true⟩ ⟨true, partsOf abc, 1⟩ = (m2, ⟨0, 1, 0, 0, 1, true⟩, ⟨true, partsOf abc, 2⟩, 1, 0) ∧
    Go.Proofs.YtfodclafkdkjbaaDoor.move m2 ⟨0, 1, 0, 0, 1, true⟩ ⟨true, partsOf abc, 2⟩ = (m2, ⟨0, 0, 1, 1, 1, false⟩, ⟨true, partsOf abc, 3⟩, 2, 0) ∧ m1.sec = 4 ∧ m2.sec = 4 := by
  obtain ⟨x, hx, h0⟩ := ((lInv_new 4 (by decide)).write abc true).1 (by show (Lg.write _ 4 abc true).2.2 = 0; rw [abc_write])
  have hx' : some (⟨true, partsOf abc, 0⟩ : Wr) = some x := by
    rw [← hx]; show _ = (Lg.write _ 4 abc true).2.1; rw [abc_write]
  injection hx' with hx'
  subst hx'
  have e0 : (Lg.write ⟨0, 1, 0, 0, 1, false⟩ (Ext.new 2 4).sec abc true).1 = ⟨0, 1, 0, 0, 1, true⟩ := by show (Lg.write _ 4 abc true).1 = _; rw [abc_write]
  rw [e0] at h0
  have a1 := move_next h0 (by simp only; rw [abc_len]; omega)
  have b1 := h0.move.2
  rw [a1] at b1
  obtain ⟨m1, hm1⟩ : ∃ m1, m1 = (Go.Proofs.YtfodclafkdkjbaaDoor.move (Ext.new 2 4) ⟨0, 1, 0, 0, 1, true⟩ ⟨true, partsOf abc, 0⟩).1 := ⟨_, rfl⟩
  rw [← hm1] at a1 b1
  simp only [Nat.zero_add] at a1 b1
  have a2 := move_next b1 (by simp only; rw [abc_len]; omega)
  have b2 := b1.move.2
  rw [a2] at b2
  obtain ⟨m2, hm2⟩ : ∃ m2, m2 = (Go.Proofs.YtfodclafkdkjbaaDoor.move m1 ⟨0, 1, 0, 0, 1, true⟩ ⟨true, partsOf abc, 1⟩).1 := ⟨_, rfl⟩
  rw [← hm2] at a2 b2
  refine ⟨m1, m2, a1, a2, ?_, ?_, ?_⟩
  · unfold Go.Proofs.YtfodclafkdkjbaaDoor.move
    rw [if_neg (by simp only; rw [abc_len]; omega), if_neg (by simp only; rw [abc_len]; omega), if_neg (by simp only; rw [abc_len]; omega)]
    simp only [abc_len]
    rfl
  · rw [hm1, move_sec]; rfl
  · rw [hm2, move_sec, hm1, move_sec]; rfl

set_option maxRecDepth 100000 in
set_option maxHeartbeats 2000000 in
/-- cloisonnelaw07.awake -/
theorem awake7 {P : RelP} {Q : RelQ} (X : SegAt P Q) (w : World) : Calls Tryd.prog 7 #[] w fun e w' => e = .returned (.bool true) ∧ Below w.heap.size w w' := by
  obtain ⟨m1, m2, e1, e2, e3, s1, s2⟩ := abc_moves
  obtain ⟨m0, h0⟩ : ∃ m0, m0 = Ext.new 2 4 := ⟨_, rfl⟩
  obtain ⟨y, hy⟩ : ∃ y : ByteArray, y = abc := ⟨_, rfl⟩
  have OP := Lib.hid (show openP (nowC m0 0) (nowC m0 1) m0.sec 0 = (⟨0, 1, 0, 0, 1, false⟩, []) by rw [h0]; exact open_new 2 4 0 (by omega))
  have WR := Lib.hid (show Lg.write ⟨0, 1, 0, 0, 1, false⟩ m0.sec y true = (⟨0, 1, 0, 0, 1, true⟩, some ⟨true, partsOf y, 0⟩, 0) by rw [h0, hy]; exact abc_write)
  have PL := Lib.hid (show (partsOf y).length = 1 by rw [hy]; exact abc_len)
  have YS := Lib.hid (show y.size ≤ 5000 by rw [hy]; decide)
  have GK := Lib.hid (show GOk m0.sec ⟨0, 1, 0, 0, 1, true⟩ (some ⟨true, partsOf y, 0⟩) by
    have k0 : GOk m0.sec ⟨0, 1, 0, 0, 1, false⟩ none := by
      have := GOk.open_ (c := nowC m0 0) (d := nowC m0 1) (S := m0.sec) (f := 0) (by rw [h0]; decide) (by rw [h0]; decide) (by omega)
      rw [OP.out] at this; exact this
    have := (k0.write y true (y := ⟨true, partsOf y, 0⟩) (by rw [WR.out])).1
    rw [WR.out] at this; exact this)
  rw [← h0, ← hy] at e1
  rw [← hy] at e2 e3
  have E1 := Lib.hid e1
  have E2 := Lib.hid e2
  have E3 := Lib.hid e3
  have S0 := Lib.hid (show m0.sec = 4 by rw [h0]; rfl)
  have S1 := Lib.hid s1
  have S2 := Lib.hid s2
  have M0 := Lib.hid (show m0.off = false ∧ m0.ext = 2 by rw [h0]; exact ⟨rfl, rfl⟩)
  have N := Lib.hid (X.new 2 4 w ⟨by decide, by decide⟩ ⟨by decide, by decide⟩)
  have X' := Lib.hid X
  have HY := Lib.hid (show (⟨#[97, 98, 99]⟩ : ByteArray) = y from hy.symm)
  have H0 := Lib.hid h0
  clear e1 e2 e3 s1 s2 h0 hy X
  go_enter Tryd.func7, Tryd.ntmps7
  go_wp2_with fail
  refine N.out.mono ?_
  rintro e w1 ⟨hb1, ⟨_, b, rfl, hp⟩ | ⟨hf, _⟩⟩
  case inr => exact absurd hf (by decide)
  have P1 := Lib.hid (show P w1 (fun k => k < w.heap.size) b m0 by rw [H0.out]; exact hp)
  have B1 := Lib.hid hb1
  clear hp hb1
  go_wp2_with fail
  refine (X'.out.openYes _ b m0 0 w1 P1.out M0.out.1 (by rw [M0.out.2]; omega)).mono ?_
  rintro e w2 ⟨⟨bl, v, rfl, ho, hq⟩, hk⟩
  rw [OP.out] at hq ho
  obtain ⟨A, c, hv, _⟩ := ho.form
  have BW := Lib.hid (fun (k : Nat) (hk : k < w.heap.size) => hk)
  have B2 := Lib.hid (B1.out.trans (hk.below (B := w.heap.size) (fun k q => q) B1.out.size))
  have Q2 := Lib.hid hq
  simp only [List.length_nil] at hv
  subst hv
  clear hq ho hk
  go_wp2_with fail
  rw [HY.out]
  refine (X'.out.base _ b bl none m0 _ none y w2 Q2.out YS.out).mono ?_
  rintro e w3 ⟨hr, hk⟩
  rw [WR.out] at hr
  obtain ⟨px, rfl, hq⟩ := hr
  have B3 := Lib.hid (B2.out.trans (hk.below (B := w.heap.size) (fun k q => .inl q) B2.out.size))
  have Q3 := Lib.hid hq
  clear hq hk
  go_wp2_with fail
  refine (X'.out.move _ b bl px m0 _ _ w3 Q3.out GK.out.mv).mono ?_
  rintro e w4 ⟨rfl, hq, hk⟩
  rw [E1.out] at hq ⊢
  have B4 := Lib.hid (B3.out.trans (hk.below (B := w.heap.size) (fun k q => .inl q) B3.out.size))
  have Q4 := Lib.hid hq
  have GK2 := Lib.hid (show GOk 4 ⟨0, 1, 0, 0, 1, true⟩ (some ⟨true, partsOf y, 1⟩) by
    have := GK.out.move (m := m0)
    rw [E1.out, S0.out] at this; exact this)
  clear hq hk
  go_wp2_with fail
  refine (X'.out.move _ b bl px m1 _ _ w4 Q4.out (by rw [S1.out]; exact GK2.out.mv)).mono ?_
  rintro e w5 ⟨rfl, hq, hk⟩
  rw [E2.out] at hq ⊢
  have B5 := Lib.hid (B4.out.trans (hk.below (B := w.heap.size) (fun k q => .inl q) B4.out.size))
  have Q5 := Lib.hid hq
  have GK3 := Lib.hid (show GOk 4 ⟨0, 1, 0, 0, 1, true⟩ (some ⟨true, partsOf y, 2⟩) by
    have := GK2.out.move (m := m1)
    rw [E2.out] at this; exact this)
  clear hq hk
  go_wp2_with fail
  refine (X'.out.move _ b bl px m2 _ _ w5 Q5.out (by rw [S2.out]; exact GK3.out.mv)).mono ?_
  rintro e w6 ⟨rfl, hq, hk⟩
  rw [E3.out] at hq ⊢
  have B6 := Lib.hid (B5.out.trans (hk.below (B := w.heap.size) (fun k q => .inl q) B5.out.size))
  have Q6 := Lib.hid hq
  clear hq hk
  go_wp2_with fail
  refine (X'.out.used _ b bl _ m2 _ _ w6 Q6.out).mono ?_
  rintro e w7 ⟨rfl, _, hk⟩
  have B7 := Lib.hid (B6.out.trans (hk.below (B := w.heap.size) (fun k q => .inl q) B6.out.size))
  clear hk
  go_wp2_with fail
  go_ret
  exact ⟨by first | rfl | simp, B7.out⟩

end Go.Proofs.YtfodclafkdkjbaaDoor

namespace Go.Proofs.YtfodclafkdkjbaaDoor
open Go.RowKit

/-- the program's world m at b, the reference's m2 at p (its sectors at g); B: what was there before both -/
structure Both7 (P : RelP) (B : Nat) (w : World) (b p g : Nat) (m m2 : Ext) : Prop where
  lft : P w (fun k => k < B ∨ k = p ∨ k = g) b m
  r : RefE w p g m2
  hp : B ≤ p
  hg : B ≤ g
  s : B ≤ w.heap.size
section
variable {P : RelP} {Q : RelQ} {B b p g : Nat} {w w' : World} {m m2 m' m3 : Ext}
theorem Both7.left (h : Both7 P B w b p g m m2) (hp : P w' (fun k => k < B ∨ k = p ∨ k = g) b m') (hk : Kept (fun k => k < B ∨ k = p ∨ k = g) w w') : Both7 P B w' b p g m' m2 ∧ Below B w w' :=
  ⟨⟨hp, h.r.keep hk (fun q => q (.inr (.inl rfl))) (fun q => q (.inr (.inr rfl))), h.hp, h.hg, Nat.le_trans h.s hk.size⟩, hk.below (fun _ q => .inl q) h.s⟩
theorem Both7.right (X : SegAt P Q) (h : Both7 P B w b p g m m2) (hr : RefE w' p g m3) (hc : Chg (fun k => k = p ∨ k = g) w w') : Both7 P B w' b p g m m3 ∧ Below B w w' :=
  ⟨⟨X.pKeep h.lft (fun k hk hn => hc.block k hk (fun q => hn (.inr q))) hc.size (fun _ q => .inl q) (fun k q => Nat.lt_of_lt_of_le (X.pLt h.lft k q) hc.size), hr, h.hp, h.hg, Nat.le_trans h.s hc.size⟩,
    hc.below (fun k q => by have := h.hp; have := h.hg; rcases q with q | q <;> omega) h.s⟩
theorem Both7.new (X : SegAt P Q) (h : Both7 P B w b p g m m2) (hb : Below w.heap.size w w') : Both7 P B w' b p g m m2 :=
  ⟨X.pKeep h.lft (fun k hk _ => hb.block k hk) hb.size (fun _ q => .inl q) (fun k q => Nat.lt_of_lt_of_le (X.pLt h.lft k q) hb.size), h.r.below hb, h.hp, h.hg, Nat.le_trans h.s hb.size⟩
theorem Both7.drewN (X : SegAt P Q) (h : Both7 P B w b p g m m2) (n : Nat) : Both7 P B (w.drewN n) b p g m m2 :=
  ⟨X.pKeep h.lft (fun _ _ _ => rfl) (Nat.le_refl _) (fun _ q => .inl q) (fun k q => X.pLt h.lft k q), ⟨h.r.ne, h.r.a, h.r.b, h.r.ok⟩, h.hp, h.hg, h.s⟩
end
theorem lay_same (m : Ext) (e a : Int) (s : ByteArray) : (m.lay e a s).1.off = m.off ∧ (m.lay e a s).1.ext = m.ext ∧ (m.lay e a s).1.sec = m.sec := by
  unfold Ext.lay
  repeat' split
  all_goals exact ⟨rfl, rfl, rfl⟩
theorem recs_len (c : Cont) (S : Nat) (G : Int) : ∀ f a, (recs c S G f a).1.length ≤ f
  | 0, _ => Nat.le_refl _
  | f + 1, a => by
    unfold recs
    split
    · exact Nat.zero_le _
    · have := recs_len c S G f (a + recN c S G a)
      simp only [List.length_cons]; omega
theorem stands_len (c : Cont) (S : Nat) : (stands c S).2.1.length ≤ S := by
  unfold stands
  split
  · split
    · exact Nat.zero_le _
    · exact recs_len c S _ S 0
  · exact Nat.zero_le _
theorem openP_len (c d : Cont) (S f : Nat) : (openP c d S f).2.length ≤ S := by
  unfold openP
  split
  · exact stands_len c S
  · split
    · exact stands_len d S
    · exact Nat.zero_le _
theorem openP_busy (c d : Cont) (S f : Nat) : (openP c d S f).1.busy = false := by
  unfold openP
  repeat' split
  all_goals rfl

end Go.Proofs.YtfodclafkdkjbaaDoor
