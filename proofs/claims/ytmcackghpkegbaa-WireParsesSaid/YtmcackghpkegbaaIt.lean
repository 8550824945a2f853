/- Items: plain; how a slice of items in memory reads as such; what 'far' and 'Same' say of them. -/
import Derived.Test.YtmcackghpkegbaaProg
import Derived.Test.YtmcackghpkegbaaSl
import Derived.Test.YtmcackghpkegbaaLa
namespace Go.Proofs.Ytmcackghpkegbaa
open Go.RowKit

inductive Item where
  | mk (n : Int) (s : ByteArray) (l : List Int) (ks : List Item)
namespace Item
def n : Item → Int | .mk n _ _ _ => n
def s : Item → ByteArray | .mk _ s _ _ => s
def l : Item → List Int | .mk _ _ l _ => l
def ks : Item → List Item | .mk _ _ _ ks => ks
theorem ext4 {x y : Item} (h1 : x.n = y.n) (h2 : x.s = y.s) (h3 : x.l = y.l) (h4 : x.ks = y.ks) : x = y := by
  cases x; cases y; simp only [n, s, l, ks] at *; subst h1; subst h2; subst h3; subst h4; rfl
end Item
def It0 : Item := .mk 0 ⟨#[]⟩ [] []

theorem take_succ_it (xs : List Item) (k : Nat) (h : k < xs.length) : xs.take (k + 1) = xs.take k ++ [xs.getD k It0] := by
  rw [List.take_succ_eq_append_getElem h, List.getD_eq_getElem?_getD, List.getElem?_eq_getElem h]; rfl
theorem getD_mem_it (xs : List Item) (k : Nat) (h : k < xs.length) : xs.getD k It0 ∈ xs := by
  rw [List.getD_eq_getElem?_getD, List.getElem?_eq_getElem h]; exact List.getElem_mem h

/-- do they fit into Go's kinds, d deep? -/
def FitIt : Nat → List Item → Prop
  | 0, xs => xs.length ≤ maxLen
  | d + 1, xs => xs.length ≤ maxLen ∧ ∀ x ∈ xs, 0 ≤ x.n ∧ x.n < 18446744073709551616 ∧ x.s.size ≤ maxLen ∧ x.l.length ≤ maxLen ∧ La.U64 x.l ∧ FitIt d x.ks
theorem FitIt.len {d : Nat} {xs : List Item} (h : FitIt d xs) : xs.length ≤ maxLen := by
  cases d with
  | zero => exact h
  | succ d => exact h.1

theorem fit_less {d : Nat} : ∀ {xs : List Item}, FitIt (d + 1) xs → FitIt d xs := by
  induction d with
  | zero => intro xs h; exact h.1
  | succ d ih =>
    intro xs h
    exact ⟨h.1, fun x hx => by
      obtain ⟨h0, h1, h2, h3, h4, h5⟩ := h.2 x hx
      exact ⟨h0, h1, h2, h3, h4, ih h5⟩⟩

/-- an item's parts fit, its kids d deep -/
def FitOne (d : Nat) (x : Item) : Prop := 0 ≤ x.n ∧ x.n < 18446744073709551616 ∧ x.s.size ≤ maxLen ∧ x.l.length ≤ maxLen ∧ La.U64 x.l ∧ FitIt d x.ks

/-- The slice at A reads as xs, d deep. -/
def SlIt : Nat → World → Option Addr → List Item → Prop
  | 0, _, _, _ => True
  | d + 1, w, A, xs => 0 < xs.length → ∃ b o, A = some ⟨b, o, none⟩ ∧ b < w.heap.size ∧ ∀ j, j < xs.length → ∃ AL cL AK cK,
      w.cell? ⟨b, o + j * 4, none⟩ = some (.int .u64 (xs.getD j It0).n) ∧ w.cell? ⟨b, o + j * 4 + 1, none⟩ = some (.string (xs.getD j It0).s) ∧
      w.cell? ⟨b, o + j * 4 + 2, none⟩ = some (.slice AL (xs.getD j It0).l.length cL) ∧ w.cell? ⟨b, o + j * 4 + 3, none⟩ = some (.slice AK (xs.getD j It0).ks.length cK) ∧
      Sl w AL (xs.getD j It0).l ∧ SlIt d w AK (xs.getD j It0).ks

section
variable {w w' : World} {A : Option Addr} {xs : List Item}
theorem SlIt.nil (d : Nat) (w : World) (A : Option Addr) : SlIt d w A [] := by
  cases d with
  | zero => trivial
  | succ d => exact fun h => absurd h (by simp)
theorem SlIt.below {d : Nat} : ∀ {A : Option Addr} {xs : List Item}, SlIt d w A xs → Below w.heap.size w w' → SlIt d w' A xs := by
  induction d with
  | zero => intro A xs _ _; trivial
  | succ d ih =>
    intro A xs h hb hn
    obtain ⟨b, o, e, hlt, hc⟩ := h hn
    refine ⟨b, o, e, Nat.lt_of_lt_of_le hlt hb.size, fun j hj => ?_⟩
    obtain ⟨AL, cL, AK, cK, c0, c1, c2, c3, sl, sk⟩ := hc j hj
    exact ⟨AL, cL, AK, cK, (hb.cell (p := ⟨b, o + j * 4, none⟩) hlt).trans c0, (hb.cell (p := ⟨b, o + j * 4 + 1, none⟩) hlt).trans c1, (hb.cell (p := ⟨b, o + j * 4 + 2, none⟩) hlt).trans c2, (hb.cell (p := ⟨b, o + j * 4 + 3, none⟩) hlt).trans c3, sl.below hb, ih sk hb⟩
theorem SlIt.drewN {d : Nat} (h : SlIt d w A xs) (n : Nat) : SlIt d (w.drewN n) A xs := by
  exact h.below (below_drewN (Below.refl _ _) n)
theorem SlIt.alloc {d : Nat} (h : SlIt d w A xs) (o : Obj) : SlIt d (w.alloc o) A xs := h.below ((Below.refl _ _).alloc (Nat.le_refl _) o)
theorem SlIt.less {d : Nat} : ∀ {A : Option Addr} {xs : List Item}, SlIt (d + 1) w A xs → SlIt d w A xs := by
  induction d with
  | zero => intro A xs _; trivial
  | succ d ih =>
    intro A xs h hn
    obtain ⟨b, o, e, hlt, hc⟩ := h hn
    refine ⟨b, o, e, hlt, fun j hj => ?_⟩
    obtain ⟨AL, cL, AK, cK, c0, c1, c2, c3, sl, sk⟩ := hc j hj
    exact ⟨AL, cL, AK, cK, c0, c1, c2, c3, sl, ih sk⟩
end

/-- v is the item x as a value, whose kids read d deep -/
def ItV (d : Nat) (w : World) (v : Value) (x : Item) : Prop :=
  ∃ AL cL AK cK, v = .agg #[.int .u64 x.n, .string x.s, .slice AL x.l.length cL, .slice AK x.ks.length cK] ∧ Sl w AL x.l ∧ SlIt d w AK x.ks
theorem ItV.below {d : Nat} {w w' : World} {v : Value} {x : Item} (h : ItV d w v x) (hb : Below w.heap.size w w') : ItV d w' v x := by
  obtain ⟨AL, cL, AK, cK, e, sl, sk⟩ := h
  exact ⟨AL, cL, AK, cK, e, sl.below hb, sk.below hb⟩

/-- are items more than are gone through, k deep? (the statements' own 'far' at depth 4 - k) -/
def farB : Nat → List Item → Bool
  | 0, _ => true
  | k + 1, xs => decide (100 < xs.length) || xs.any (fun x => decide (300 < x.s.size) || decide (20 < x.l.length) || farB k x.ks)

/-- no kids below depth d -/
def DepIt : Nat → List Item → Prop
  | 0, xs => xs = []
  | d + 1, xs => ∀ x ∈ xs, DepIt d x.ks
theorem DepIt.nil (d : Nat) : DepIt d [] := by
  cases d with
  | zero => rfl
  | succ d => intro x hx; cases hx
theorem dep_of_far (k : Nat) : ∀ xs, farB k xs = false → DepIt k xs := by
  induction k with
  | zero => intro xs h; cases h
  | succ k ih =>
    intro xs h x hx
    simp only [farB, Bool.or_eq_false_iff, List.any_eq_false] at h
    have h2 := h.2 x hx
    simp only [Bool.or_eq_true, not_or, Bool.not_eq_true] at h2
    exact ih _ h2.2
theorem len_of_far {k : Nat} {xs : List Item} (h : farB k xs = false) : xs.length ≤ 100 := by
  cases k with
  | zero => cases h
  | succ k => simp only [farB, Bool.or_eq_false_iff, decide_eq_false_iff_not] at h; omega

open Classical in
/-- the same items? -/
noncomputable def sameIt (a b : List Item) : Bool := decide (a = b)
open Classical in
/-- the same item? -/
noncomputable def sameOne (a b : Item) : Bool := decide (a = b)
theorem sameIt_iff (a b : List Item) : sameIt a b = true ↔ a = b := by unfold sameIt; simp
theorem sameOne_iff (a b : Item) : sameOne a b = true ↔ a = b := by unfold sameOne; simp
theorem sameIt_comm (a b : List Item) : sameIt a b = sameIt b a := by
  rw [Bool.eq_iff_iff, sameIt_iff, sameIt_iff]; exact eq_comm
theorem sameOne_eq (a b : Item) : sameOne a b = (decide (a.n = b.n) && decide (a.s = b.s) && decide (a.l = b.l) && sameIt a.ks b.ks) := by
  rw [Bool.eq_iff_iff, sameOne_iff]
  simp only [Bool.and_eq_true, decide_eq_true_eq, sameIt_iff]
  constructor
  · rintro rfl; exact ⟨⟨⟨rfl, rfl⟩, rfl⟩, rfl⟩
  · rintro ⟨⟨⟨h1, h2⟩, h3⟩, h4⟩; exact Item.ext4 h1 h2 h3 h4
theorem sameIt_len {a b : List Item} (h : a.length ≠ b.length) : sameIt a b = false := by
  rw [Bool.eq_false_iff, Ne, sameIt_iff]; rintro rfl; exact h rfl
/-- as far as place k they are the same, and there one is not -/
theorem sameIt_no {a b : List Item} (k : Nat) (h : sameOne (a.getD k It0) (b.getD k It0) = false) : sameIt a b = false := by
  rw [Bool.eq_false_iff, Ne, sameIt_iff]; rintro rfl
  rw [Bool.eq_false_iff, Ne, sameOne_iff] at h; exact h rfl
theorem sameIt_all {a b : List Item} (hl : a.length = b.length) (h : ∀ k, k < a.length → sameOne (a.getD k It0) (b.getD k It0) = true) : sameIt a b = true := by
  rw [sameIt_iff]
  apply List.ext_getElem hl
  intro i h1 h2
  have := (sameOne_iff _ _).1 (h i h1)
  rw [List.getD_eq_getElem?_getD, List.getD_eq_getElem?_getD, List.getElem?_eq_getElem h1, List.getElem?_eq_getElem h2] at this
  exact this

end Go.Proofs.Ytmcackghpkegbaa
