/- Labels made: one more tag put in, all tags put in, what two have together: as plain functions, and what holds of them. -/
import Derived.Test.YtmcackghpkegbaaLa
namespace Go.Proofs.Ytmcackghpkegbaa
namespace La

/-- the reference's Put, as its loop goes: what is still to come -/
def putGo : List Int → Int → Bool → List Int
  | [], t, p => if p then [] else [t]
  | x :: r, t, p => (if !p && decide (t ≤ x) then [t] else []) ++ ((if x == t then [] else [x]) ++ putGo r t (p || decide (t ≤ x)))
def put (zs : List Int) (t : Int) : List Int := putGo zs t false
/-- the reference's Of -/
def ofAll (ts : List Int) : List Int := ts.foldl put []

def Up (zs : List Int) : Prop := zs.Pairwise (· < ·)

theorem putGo_true : ∀ (zs : List Int) (t : Int), putGo zs t true = zs.filter (fun x => !(x == t))
  | [], t => by simp [putGo]
  | x :: r, t => by
    rw [putGo, Bool.true_or, putGo_true r t]
    by_cases h : x = t <;> simp [h]

/-- put into a list that rises: nothing comes, if it is there; else it stands in its place -/
theorem put_up : ∀ (zs : List Int) (t : Int) (i : Nat), Up zs → LB zs t i → put zs t = if has zs t then zs else zs.take i ++ t :: zs.drop i
  | [], t, i, _, _ => by simp [put, putGo, has]
  | x :: r, t, i, hu, hl => by
    have hur : Up r := (List.pairwise_cons.1 hu).2
    have hx : ∀ y ∈ r, x < y := (List.pairwise_cons.1 hu).1
    obtain ⟨h1, h2, h3⟩ := hl
    unfold put
    rw [putGo]
    rcases Int.lt_trichotomy x t with c | c | c
    · -- behind x
      have hi : i ≠ 0 := by
        intro e; subst e
        have := h3 0 (Nat.le_refl _) (by simp); simp at this; omega
      obtain ⟨j, rfl⟩ : ∃ j, i = j + 1 := ⟨i - 1, by omega⟩
      have hlr : LB r t j := ⟨by simpa using h1, fun s hs => by simpa using h2 (s + 1) (by omega), fun s hs hs2 => by simpa using h3 (s + 1) (by omega) (by simpa using hs2)⟩
      have ih := put_up r t j hur hlr
      unfold put at ih
      have e1 : decide (t ≤ x) = false := decide_eq_false (by omega)
      have e2 : (x == t) = false := by simp; omega
      rw [e1, e2]
      simp only [Bool.not_false, Bool.true_and, Bool.false_eq_true, if_false, Bool.or_false, List.nil_append, List.take_succ_cons, List.drop_succ_cons]
      rw [ih]
      have e3 : has (x :: r) t = has r t := by
        unfold has; rw [decide_eq_decide, List.mem_cons]
        constructor
        · rintro (h | h)
          · omega
          · exact h
        · exact Or.inr
      rw [e3]
      split <;> simp
    · subst c
      have e1 : decide (x ≤ x) = true := decide_eq_true (Int.le_refl _)
      have e3 : has (x :: r) x = true := by simp [has]
      rw [e1, e3]
      simp only [Bool.not_false, Bool.true_and, if_true, beq_self_eq_true, Bool.false_or, List.nil_append]
      rw [putGo_true]
      have : r.filter (fun y => !(y == x)) = r := by
        rw [List.filter_eq_self]
        intro y hy
        have := hx y hy
        simp; omega
      rw [this]; rfl
    · have hi : i = 0 := by
        rcases Nat.eq_zero_or_pos i with e | e
        · exact e
        · have := h2 0 e; simp at this; omega
      subst hi
      have e1 : decide (t ≤ x) = true := decide_eq_true (by omega)
      have e2 : (x == t) = false := by simp; omega
      have e3 : has (x :: r) t = false := by
        unfold has; rw [decide_eq_false_iff_not, List.mem_cons]
        rintro (h | h)
        · omega
        · have := hx t h; omega
      rw [e1, e2, e3]
      simp only [Bool.not_false, Bool.true_and, if_true, Bool.false_eq_true, if_false, Bool.false_or, List.take_zero, List.drop_zero, List.nil_append]
      rw [putGo_true]
      have : r.filter (fun y => !(y == t)) = r := by
        rw [List.filter_eq_self]
        intro y hy
        have := hx y hy
        simp; omega
      rw [this]; rfl

theorem up_getD (zs : List Int) (h : Up zs) (i j : Nat) (hij : i < j) (hj : j < zs.length) : zs.getD i 0 < zs.getD j 0 := by
  rw [List.getD, List.getD, List.getElem?_eq_getElem hj, List.getElem?_eq_getElem (Nat.lt_trans hij hj)]
  exact List.pairwise_iff_getElem.1 h i j (Nat.lt_trans hij hj) hj hij
theorem Up.asc {zs : List Int} (h : Up zs) : Asc zs := fun i j hij hj => Int.le_of_lt (up_getD zs h i j hij hj)

/-- there is a place -/
theorem lb_exists (zs : List Int) (h : Up zs) (t : Int) : ∃ i, LB zs t i := by
  induction zs with
  | nil => exact ⟨0, Nat.zero_le _, fun s hs => by omega, fun s _ hs => by simp at hs⟩
  | cons x r ih =>
    have hur : Up r := (List.pairwise_cons.1 h).2
    have hx : ∀ y ∈ r, x < y := (List.pairwise_cons.1 h).1
    by_cases c : x < t
    · obtain ⟨i, h1, h2, h3⟩ := ih hur
      refine ⟨i + 1, by simpa using h1, fun s hs => ?_, fun s hs hs2 => ?_⟩
      · cases s with
        | zero => simpa using c
        | succ s => simpa using h2 s (by omega)
      · cases s with
        | zero => omega
        | succ s => simpa using h3 s (by omega) (by simpa using hs2)
    · refine ⟨0, Nat.zero_le _, fun s hs => by omega, fun s _ hs2 => ?_⟩
      cases s with
      | zero => simp; omega
      | succ s =>
        have := hx _ (getD_mem r s (by simpa using hs2))
        simp; simp at this; omega

theorem mem_put (zs : List Int) (h : Up zs) (t x : Int) : x ∈ put zs t ↔ x = t ∨ x ∈ zs := by
  obtain ⟨i, hi⟩ := lb_exists zs h t
  rw [put_up zs t i h hi]
  cases hh : has zs t
  · rw [if_neg (by simp), List.mem_append, List.mem_cons]
    have : x ∈ zs ↔ x ∈ zs.take i ∨ x ∈ zs.drop i := by rw [← List.mem_append, List.take_append_drop]
    rw [this]
    constructor
    · rintro (h | h | h)
      · exact Or.inr (Or.inl h)
      · exact Or.inl h
      · exact Or.inr (Or.inr h)
    · rintro (h | h | h)
      · exact Or.inr (Or.inl h)
      · exact Or.inl h
      · exact Or.inr (Or.inr h)
  · rw [if_pos rfl]
    constructor
    · exact Or.inr
    · rintro (h | h)
      · rw [h]; exact (has_iff _ _).1 hh
      · exact h

theorem put_ups (zs : List Int) (h : Up zs) (t : Int) : Up (put zs t) := by
  obtain ⟨i, hi⟩ := lb_exists zs h t
  rw [put_up zs t i h hi]
  cases hh : has zs t
  · rw [if_neg (by simp)]
    obtain ⟨h1, h2, h3⟩ := hi
    unfold Up
    have hsplit : zs = zs.take i ++ zs.drop i := (List.take_append_drop i zs).symm
    have hp : (zs.take i ++ zs.drop i).Pairwise (· < ·) := by rw [← hsplit]; exact h
    rw [List.pairwise_append] at hp
    rw [List.pairwise_append, List.pairwise_cons]
    have hnt : t ∉ zs := fun h => by rw [← has_iff, hh] at h; cases h
    have hb : ∀ y ∈ zs.drop i, t < y := by
      intro y hy
      rw [mem_iff_getD] at hy
      obtain ⟨k, hk, rfl⟩ := hy
      rw [List.length_drop] at hk
      have e : (zs.drop i).getD k 0 = zs.getD (i + k) 0 := by simp [List.getD, List.getElem?_drop]
      have h5 := h3 (i + k) (by omega) (by omega)
      have h6 : zs.getD (i + k) 0 ≠ t := fun h => hnt (by rw [← h]; exact getD_mem zs _ (by omega))
      rw [e]; omega
    have ha : ∀ y ∈ zs.take i, y < t := by
      intro y hy
      rw [mem_iff_getD] at hy
      obtain ⟨k, hk, rfl⟩ := hy
      rw [List.length_take] at hk
      have e : (zs.take i).getD k 0 = zs.getD k 0 := by
        simp only [List.getD]; rw [List.getElem?_take, if_pos (by omega)]
      rw [e]; exact h2 k (by omega)
    refine ⟨hp.1, ⟨hb, hp.2.1⟩, fun y hy z hz => ?_⟩
    rcases List.mem_cons.1 hz with rfl | hz
    · exact ha y hy
    · exact hp.2.2 y hy z hz
  · rw [if_pos rfl]; exact h

theorem put_length (zs : List Int) (h : Up zs) (t : Int) : (put zs t).length = if has zs t then zs.length else zs.length + 1 := by
  obtain ⟨i, hi⟩ := lb_exists zs h t
  rw [put_up zs t i h hi]
  have h1 := hi.1
  split
  · rfl
  · simp; omega

theorem fold_ups : ∀ (ts acc : List Int), Up acc → Up (ts.foldl put acc)
  | [], _, h => h
  | t :: r, acc, h => fold_ups r _ (put_ups acc h t)
theorem fold_length_ge : ∀ (ts acc : List Int), Up acc → acc.length ≤ (ts.foldl put acc).length
  | [], _, _ => Nat.le_refl _
  | t :: r, acc, h => by
    have h1 := fold_length_ge r _ (put_ups acc h t)
    have h2 := put_length acc h t
    rw [List.foldl_cons]
    split at h2 <;> omega
theorem mem_fold : ∀ (ts acc : List Int), Up acc → ∀ x, x ∈ ts.foldl put acc ↔ x ∈ acc ∨ x ∈ ts
  | [], acc, _, x => by simp
  | t :: r, acc, h, x => by
    rw [List.foldl_cons, mem_fold r _ (put_ups acc h t), mem_put acc h, List.mem_cons]
    constructor
    · rintro ((h | h) | h)
      · exact Or.inr (Or.inl h)
      · exact Or.inl h
      · exact Or.inr (Or.inr h)
    · rintro (h | h | h)
      · exact Or.inl (Or.inr h)
      · exact Or.inl (Or.inl h)
      · exact Or.inr h
theorem ofAll_up (ts : List Int) : Up (ofAll ts) := fold_ups ts [] List.Pairwise.nil
theorem mem_ofAll (ts : List Int) (x : Int) : x ∈ ofAll ts ↔ x ∈ ts := by
  unfold ofAll; rw [mem_fold ts [] List.Pairwise.nil]; simp
theorem ofAll_u64 (ts : List Int) (h : U64 ts) : U64 (ofAll ts) := fun x hx => h x ((mem_ofAll ts x).1 hx)

/-- risesB is Up, from above p -/
theorem rises_iff : ∀ (zs : List Int) (p : Int), risesB p zs = true ↔ Up zs ∧ ∀ x ∈ zs, p < x
  | [], p => by simp [risesB, Up]
  | x :: r, p => by
    rw [risesB, Bool.and_eq_true, decide_eq_true_eq, rises_iff r x]
    unfold Up
    rw [List.pairwise_cons]
    constructor
    · rintro ⟨h1, h2, h3⟩
      refine ⟨⟨h3, h2⟩, fun y hy => ?_⟩
      rcases List.mem_cons.1 hy with rfl | hy
      · exact h1
      · have := h3 y hy; omega
    · rintro ⟨⟨h1, h2⟩, h3⟩
      exact ⟨h3 x (by simp), h2, h1⟩
theorem right_iff (zs : List Int) : right zs = true ↔ zs.length ≤ 6 ∧ Up zs ∧ ∀ x ∈ zs, 0 < x := by
  unfold right; rw [Bool.and_eq_true, decide_eq_true_eq, rises_iff]

/-- lists that rise and have the same members are one -/
theorem up_ext : ∀ (a b : List Int), Up a → Up b → (∀ x, x ∈ a ↔ x ∈ b) → a = b
  | [], [], _, _, _ => rfl
  | [], y :: b, _, _, h => by have := (h y).2 (by simp); simp at this
  | x :: a, [], _, _, h => by have := (h x).1 (by simp); simp at this
  | x :: a, y :: b, ha, hb, h => by
    have ha1 := (List.pairwise_cons.1 ha).1
    have hb1 := (List.pairwise_cons.1 hb).1
    have hxy : x = y := by
      have h1 := (h x).1 (by simp)
      have h2 := (h y).2 (by simp)
      rcases List.mem_cons.1 h1 with e | e
      · exact e
      · rcases List.mem_cons.1 h2 with e2 | e2
        · exact e2.symm
        · have := hb1 x e; have := ha1 y e2; omega
    subst hxy
    congr 1
    refine up_ext a b (List.pairwise_cons.1 ha).2 (List.pairwise_cons.1 hb).2 (fun z => ?_)
    constructor
    · intro hz
      have h1 := (h z).1 (List.mem_cons_of_mem _ hz)
      rcases List.mem_cons.1 h1 with e | e
      · have := ha1 z hz; omega
      · exact e
    · intro hz
      have h1 := (h z).2 (List.mem_cons_of_mem _ hz)
      rcases List.mem_cons.1 h1 with e | e
      · have := hb1 z hz; omega
      · exact e

/-- those of a that are b's, or aren't -/
def parted (a b : List Int) (s : Bool) : List Int := a.filter (fun x => has b x == s)
theorem parted_up (a b : List Int) (s : Bool) (h : Up a) : Up (parted a b s) := List.Pairwise.filter _ h
theorem mem_parted (a b : List Int) (x : Int) : x ∈ parted a b true ↔ x ∈ a ∧ x ∈ b := by
  unfold parted; rw [List.mem_filter, beq_iff_eq, has_iff]
theorem parted_length (a b : List Int) (s : Bool) : (parted a b s).length ≤ a.length := List.length_filter_le _ _

end La
end Go.Proofs.Ytmcackghpkegbaa
