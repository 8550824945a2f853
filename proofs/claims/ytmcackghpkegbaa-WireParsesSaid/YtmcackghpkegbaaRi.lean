/- (*wire.reader).item: walked, given what number does. -/
import Derived.Test.YtmcackghpkegbaaRf
import Derived.Test.YtmcackghpkegbaaFi
import Derived.Laws.MakeOwn
namespace Go.Proofs.Ytmcackghpkegbaa
open Go.RowKit

/-- the slice at A reads as xs, whose kids have no kids d deep; nothing of it lies in a block below B -/
def SlItG : Nat → Nat → World → Option Addr → List Item → Prop
  | 0, _, _, _, xs => xs = []
  | d + 1, B, w, A, xs => 0 < xs.length → ∃ b, A = some ⟨b, 0, none⟩ ∧ B ≤ b ∧ b < w.heap.size ∧ ∀ j, j < xs.length → ∃ AL cL AK cK,
      w.cell? ⟨b, j * 4, none⟩ = some (.int .u64 (xs.getD j It0).n) ∧ w.cell? ⟨b, j * 4 + 1, none⟩ = some (.string (xs.getD j It0).s) ∧
      w.cell? ⟨b, j * 4 + 2, none⟩ = some (.slice AL (xs.getD j It0).l.length cL) ∧ w.cell? ⟨b, j * 4 + 3, none⟩ = some (.slice AK (xs.getD j It0).ks.length cK) ∧
      SlG (b + 1) w AL (xs.getD j It0).l ∧ SlItG d (b + 1) w AK (xs.getD j It0).ks

theorem SlItG.nil (d B : Nat) (w : World) (A : Option Addr) : SlItG d B w A [] := by
  cases d with
  | zero => rfl
  | succ d => exact fun h => absurd h (by simp)
theorem SlItG.keep {d : Nat} : ∀ {B : Nat} {w w' : World} {A : Option Addr} {xs : List Item} {row : Option Nat}, SlItG d B w A xs → w.grownBy w' row → (∀ r, row = some r → r < B) → SlItG d B w' A xs := by
  induction d with
  | zero => intro B w w' A xs row h _ _; exact h
  | succ d ih =>
    intro B w w' A xs row h hg hr hp
    obtain ⟨b, e, hB, hb, hc⟩ := h hp
    have hne : ∀ j, some (⟨b, j, none⟩ : Addr).block ≠ row := fun j e2 => by have := hr b e2.symm; omega
    refine ⟨b, e, hB, Nat.lt_of_lt_of_le hb hg.size, fun j hj => ?_⟩
    obtain ⟨AL, cL, AK, cK, h0, h1, h2, h3, sl, sk⟩ := hc j hj
    exact ⟨AL, cL, AK, cK, hg.cell h0 (hne _), hg.cell h1 (hne _), hg.cell h2 (hne _), hg.cell h3 (hne _), sl.keep hg (fun r e2 => by have := hr r e2; omega), ih sk hg (fun r e2 => by have := hr r e2; omega)⟩
theorem SlItG.more {d : Nat} {B B' : Nat} {w : World} {A : Option Addr} {xs : List Item} (h : SlItG d B w A xs) (hB : B' ≤ B) : SlItG d B' w A xs := by
  cases d with
  | zero => exact h
  | succ d =>
    intro hp
    obtain ⟨b, e, hB2, r⟩ := h hp
    exact ⟨b, e, Nat.le_trans hB hB2, r⟩
theorem SlItG.slit {d : Nat} : ∀ {B : Nat} {w : World} {A : Option Addr} {xs : List Item} (k : Nat), SlItG d B w A xs → SlIt k w A xs := by
  induction d with
  | zero => intro B w A xs k h; rw [show xs = [] from h]; exact SlIt.nil _ _ _
  | succ d ih =>
    intro B w A xs k h
    cases k with
    | zero => trivial
    | succ k =>
      intro hp
      obtain ⟨b, e, _, hb, hc⟩ := h hp
      refine ⟨b, 0, e, hb, fun j hj => ?_⟩
      obtain ⟨AL, cL, AK, cK, h0, h1, h2, h3, sl, sk⟩ := hc j hj
      simp only [Nat.zero_add]
      exact ⟨AL, cL, AK, cK, h0, h1, h2, h3, sl.1, ih k sk⟩

/-- v is the item x as a value; nothing of it lies in a block below B -/
def OneG (d B : Nat) (x : Item) (w : World) (v : Value) : Prop :=
  ∃ AL cL AK cK, v = .agg #[.int .u64 x.n, .string x.s, .slice AL x.l.length cL, .slice AK x.ks.length cK] ∧ SlG B w AL x.l ∧ SlItG d B w AK x.ks
theorem One0.g {B : Nat} {x : Item} {w : World} {v : Value} (h : One0 B x w v) (d : Nat) : OneG d B x w v := by
  obtain ⟨A, c, e, sl, hk⟩ := h
  exact ⟨A, c, none, 0, by rw [hk]; exact e, sl, by rw [hk]; exact SlItG.nil _ _ _ _⟩
theorem OneG.keep {d B : Nat} {x : Item} {w w' : World} {v : Value} {row : Option Nat} (h : OneG d B x w v) (hg : w.grownBy w' row) (hr : ∀ r, row = some r → r < B) : OneG d B x w' v := by
  obtain ⟨AL, cL, AK, cK, e, sl, sk⟩ := h
  exact ⟨AL, cL, AK, cK, e, sl.keep hg hr, sk.keep hg hr⟩
theorem OneG.more {d B B' : Nat} {x : Item} {w : World} {v : Value} (h : OneG d B x w v) (hB : B' ≤ B) : OneG d B' x w v := by
  obtain ⟨AL, cL, AK, cK, e, sl, sk⟩ := h
  exact ⟨AL, cL, AK, cK, e, sl.more hB, sk.more hB⟩

/-- a row of n items in block b while it is filled: xs are there -/
structure Fill (d : Nat) (w : World) (b n : Nat) (xs : List Item) : Prop where
  lt : b < w.heap.size
  has : ∀ i, i < n * 4 → (w.cell? ⟨b, i, none⟩).isSome = true
  fz : ∀ i, w.frozen? ⟨b, i, none⟩ = false
  le : xs.length ≤ n
  there : ∀ j, j < xs.length → ∃ AL cL AK cK,
      w.cell? ⟨b, j * 4, none⟩ = some (.int .u64 (xs.getD j It0).n) ∧ w.cell? ⟨b, j * 4 + 1, none⟩ = some (.string (xs.getD j It0).s) ∧
      w.cell? ⟨b, j * 4 + 2, none⟩ = some (.slice AL (xs.getD j It0).l.length cL) ∧ w.cell? ⟨b, j * 4 + 3, none⟩ = some (.slice AK (xs.getD j It0).ks.length cK) ∧
      SlG (b + 1) w AL (xs.getD j It0).l ∧ SlItG d (b + 1) w AK (xs.getD j It0).ks

theorem Fill.made (d : Nat) (w : World) (n : Nat) (M : Array Value) (t : TypeId) (hM : M.size = n * 4) : Fill d (w.alloc (.cells M t)) w.heap.size n [] :=
  ⟨by simp, fun i hi => by rw [World.cell?_alloc_at _ _ _ _ rfl, Array.getElem?_eq_getElem (by omega)]; rfl, fun i => by rw [World.frozen?_alloc_at _ _ _ _ rfl], Nat.zero_le _, fun j hj => absurd hj (by simp)⟩
theorem Fill.keep {d : Nat} {w w' : World} {b n : Nat} {xs : List Item} {row : Option Nat} (h : Fill d w b n xs) (hg : w.grownBy w' row) (hr : ∀ r, row = some r → r < b) : Fill d w' b n xs := by
  have hne : ∀ j, some (⟨b, j, none⟩ : Addr).block ≠ row := fun j e2 => by have := hr b e2.symm; omega
  refine ⟨Nat.lt_of_lt_of_le h.lt hg.size, fun i hi => ?_, fun i => (hg.frozen_far ⟨b, i, none⟩ h.lt (hne i)).trans (h.fz i), h.le, fun j hj => ?_⟩
  · rw [hg.cell_far ⟨b, i, none⟩ h.lt (hne i)]; exact h.has i hi
  · obtain ⟨AL, cL, AK, cK, h0, h1, h2, h3, sl, sk⟩ := h.there j hj
    exact ⟨AL, cL, AK, cK, hg.cell h0 (hne _), hg.cell h1 (hne _), hg.cell h2 (hne _), hg.cell h3 (hne _), sl.keep hg (fun r e2 => by have := hr r e2; omega), sk.keep hg (fun r e2 => by have := hr r e2; omega)⟩

theorem Fill.keep0 {d : Nat} {w w' : World} {b n : Nat} {row : Option Nat} (h : Fill d w b n []) (hg : w.grownBy w' row) (hr : row ≠ some b) : Fill d w' b n [] :=
  ⟨Nat.lt_of_lt_of_le h.lt hg.size, fun i hi => by rw [hg.cell_far ⟨b, i, none⟩ h.lt (Ne.symm hr)]; exact h.has i hi, fun i => (hg.frozen_far ⟨b, i, none⟩ h.lt (Ne.symm hr)).trans (h.fz i), Nat.zero_le _, fun j hj => absurd hj (by simp)⟩

/-- four cells from o on -/
def set4o (w : World) (b o : Nat) (v0 v1 v2 v3 : Value) : World := (((w.setCell ⟨b, o, none⟩ v0).setCell ⟨b, o + 1, none⟩ v1).setCell ⟨b, o + 2, none⟩ v2).setCell ⟨b, o + 3, none⟩ v3
theorem set4o_grown (w : World) (b o : Nat) (v0 v1 v2 v3 : Value) : w.grownBy (set4o w b o v0 v1 v2 v3) (some b) :=
  (((grown_setj _ _ _ _).trans (grown_setj _ _ _ _)).trans (grown_setj _ _ _ _)).trans (grown_setj _ _ _ _)
theorem set4o_frozen (w : World) (b o : Nat) (v0 v1 v2 v3 : Value) (a : Addr) : (set4o w b o v0 v1 v2 v3).frozen? a = w.frozen? a := by
  unfold set4o; simp only [World.frozen?_setCell]
theorem addr_ne (b : Nat) {i j : Nat} (h : i ≠ j) : (⟨b, i, none⟩ : Addr) ≠ ⟨b, j, none⟩ := fun e => by
  injection e with _ e2; exact h e2
theorem set4o_other (w : World) (b o : Nat) (v0 v1 v2 v3 : Value) (i : Nat) (h : i < o ∨ o + 3 < i) : (set4o w b o v0 v1 v2 v3).cell? ⟨b, i, none⟩ = w.cell? ⟨b, i, none⟩ := by
  unfold set4o
  rw [World.cell?_setCell_other _ _ _ _ (addr_ne b (by omega)), World.cell?_setCell_other _ _ _ _ (addr_ne b (by omega)), World.cell?_setCell_other _ _ _ _ (addr_ne b (by omega)), World.cell?_setCell_other _ _ _ _ (addr_ne b (by omega))]
theorem isSome_set (w : World) (b i j : Nat) (v : Value) (h : (w.cell? ⟨b, i, none⟩).isSome = true) : ((w.setCell ⟨b, j, none⟩ v).cell? ⟨b, i, none⟩).isSome = true := by
  by_cases e : j = i
  · subst e; rw [World.cell?_setCell_same' _ _ _ h]; rfl
  · rw [World.cell?_setCell_other _ _ _ _ (addr_ne b e)]; exact h
theorem set4o_has (w : World) (b o : Nat) (v0 v1 v2 v3 : Value) (i : Nat) (h : (w.cell? ⟨b, i, none⟩).isSome = true) : ((set4o w b o v0 v1 v2 v3).cell? ⟨b, i, none⟩).isSome = true :=
  isSome_set _ _ _ _ _ (isSome_set _ _ _ _ _ (isSome_set _ _ _ _ _ (isSome_set _ _ _ _ _ h)))
theorem set4o_at (w : World) (b o : Nat) (v0 v1 v2 v3 : Value) (h0 : (w.cell? ⟨b, o, none⟩).isSome = true) (h1 : (w.cell? ⟨b, o + 1, none⟩).isSome = true) (h2 : (w.cell? ⟨b, o + 2, none⟩).isSome = true) (h3 : (w.cell? ⟨b, o + 3, none⟩).isSome = true) :
    (set4o w b o v0 v1 v2 v3).cell? ⟨b, o, none⟩ = some v0 ∧ (set4o w b o v0 v1 v2 v3).cell? ⟨b, o + 1, none⟩ = some v1 ∧ (set4o w b o v0 v1 v2 v3).cell? ⟨b, o + 2, none⟩ = some v2 ∧ (set4o w b o v0 v1 v2 v3).cell? ⟨b, o + 3, none⟩ = some v3 := by
  unfold set4o
  refine ⟨?_, ?_, ?_, ?_⟩
  · rw [World.cell?_setCell_other _ _ _ _ (addr_ne b (by omega)), World.cell?_setCell_other _ _ _ _ (addr_ne b (by omega)), World.cell?_setCell_other _ _ _ _ (addr_ne b (by omega)), World.cell?_setCell_same' _ _ _ h0]
  · rw [World.cell?_setCell_other _ _ _ _ (addr_ne b (by omega)), World.cell?_setCell_other _ _ _ _ (addr_ne b (by omega)), World.cell?_setCell_same' _ _ _ (isSome_set _ _ _ _ _ h1)]
  · rw [World.cell?_setCell_other _ _ _ _ (addr_ne b (by omega)), World.cell?_setCell_same' _ _ _ (isSome_set _ _ _ _ _ (isSome_set _ _ _ _ _ h2))]
  · rw [World.cell?_setCell_same' _ _ _ (isSome_set _ _ _ _ _ (isSome_set _ _ _ _ _ (isSome_set _ _ _ _ _ h3)))]

/-- one more item is stored -/
theorem Fill.put {d : Nat} {w : World} {b n : Nat} {xs : List Item} {x : Item} {AL AK : Option Addr} {cL cK : Nat} (h : Fill d w b n xs) (hl : xs.length < n) (sl : SlG (b + 1) w AL x.l) (sk : SlItG d (b + 1) w AK x.ks) :
    Fill d (set4o w b (xs.length * 4) (.int .u64 x.n) (.string x.s) (.slice AL x.l.length cL) (.slice AK x.ks.length cK)) b n (xs ++ [x]) := by
  have hg := set4o_grown w b (xs.length * 4) (.int .u64 x.n) (.string x.s) (.slice AL x.l.length cL) (.slice AK x.ks.length cK)
  have hr : ∀ r, some b = some r → r < b + 1 := fun r e => by injection e with e; omega
  refine ⟨Nat.lt_of_lt_of_le h.lt hg.size, fun i hi => set4o_has _ _ _ _ _ _ _ _ (h.has i hi), fun i => (set4o_frozen _ _ _ _ _ _ _ _).trans (h.fz i), by simp; omega, fun j hj => ?_⟩
  rw [List.length_append, List.length_singleton] at hj
  by_cases hjl : j < xs.length
  · have e : (xs ++ [x]).getD j It0 = xs.getD j It0 := by
      rw [List.getD_eq_getElem?_getD, List.getElem?_append_left hjl, ← List.getD_eq_getElem?_getD]
    rw [e]
    obtain ⟨AL', cL', AK', cK', h0, h1, h2, h3, sl', sk'⟩ := h.there j hjl
    exact ⟨AL', cL', AK', cK', (set4o_other _ _ _ _ _ _ _ _ (by omega)).trans h0, (set4o_other _ _ _ _ _ _ _ _ (by omega)).trans h1, (set4o_other _ _ _ _ _ _ _ _ (by omega)).trans h2, (set4o_other _ _ _ _ _ _ _ _ (by omega)).trans h3, sl'.keep hg hr, sk'.keep hg hr⟩
  · obtain rfl : j = xs.length := by omega
    have e : (xs ++ [x]).getD xs.length It0 = x := by
      rw [List.getD_eq_getElem?_getD, List.getElem?_append_right (Nat.le_refl _)]; simp
    rw [e]
    obtain ⟨c0, c1, c2, c3⟩ := set4o_at w b (xs.length * 4) (.int .u64 x.n) (.string x.s) (.slice AL x.l.length cL) (.slice AK x.ks.length cK) (h.has _ (by omega)) (h.has _ (by omega)) (h.has _ (by omega)) (h.has _ (by omega))
    exact ⟨AL, cL, AK, cK, c0, c1, c2, c3, sl.keep hg hr, sk.keep hg hr⟩
theorem Fill.whole {d : Nat} {w : World} {b n : Nat} {xs : List Item} {B : Nat} (h : Fill d w b n xs) (hB : B ≤ b) : SlItG (d + 1) B w (some ⟨b, 0, none⟩) xs := fun _ => ⟨b, rfl, hB, h.lt, h.there⟩

end Go.Proofs.Ytmcackghpkegbaa
