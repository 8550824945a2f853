/- Labels as lists of whole numbers: what each function of layer 2 tells, as a plain function. -/
namespace Go.Proofs.Ytoljhoabbaigdaa
namespace La

/-- is x among zs? -/
def has (zs : List Int) (x : Int) : Bool := decide (x ∈ zs)
/-- are all of a among b? -/
def inn (a b : List Int) : Bool := decide (∀ x ∈ a, x ∈ b)
/-- do they rise, from above p? -/
def risesB : Int → List Int → Bool
  | _, [] => true
  | p, x :: r => decide (p < x) && risesB x r
/-- is it a label? -/
def right (zs : List Int) : Bool := decide (zs.length ≤ 6) && risesB 0 zs

theorem has_iff (zs : List Int) (x : Int) : has zs x = true ↔ x ∈ zs := by simp [has]
theorem inn_iff (a b : List Int) : inn a b = true ↔ ∀ x ∈ a, x ∈ b := by simp [inn]

theorem take_succ (zs : List Int) (k : Nat) (h : k < zs.length) : zs.take (k + 1) = zs.take k ++ [zs.getD k 0] := by
  rw [List.take_succ_eq_append_getElem h, List.getD, List.getElem?_eq_getElem h]; rfl
theorem mem_take_succ (zs : List Int) (k : Nat) (h : k < zs.length) (x : Int) : x ∈ zs.take (k + 1) ↔ x ∈ zs.take k ∨ x = zs.getD k 0 := by
  rw [take_succ zs k h]; simp
theorem getD_mem (zs : List Int) (k : Nat) (h : k < zs.length) : zs.getD k 0 ∈ zs := by
  rw [List.getD, List.getElem?_eq_getElem h]; exact List.getElem_mem h
theorem mem_iff_getD (zs : List Int) (x : Int) : x ∈ zs ↔ ∃ k, k < zs.length ∧ zs.getD k 0 = x := by
  constructor
  · intro h
    obtain ⟨k, hk, e⟩ := List.getElem_of_mem h
    exact ⟨k, hk, by rw [List.getD, List.getElem?_eq_getElem hk]; exact e⟩
  · rintro ⟨k, hk, rfl⟩; exact getD_mem zs k hk

/-- the one behind the last of l, or p -/
def lastOr (p : Int) (l : List Int) : Int := l.getLastD p

theorem rises_snoc : ∀ (l : List Int) (p x : Int), risesB p (l ++ [x]) = (risesB p l && decide (l.getLastD p < x))
  | [], p, x => by simp [risesB]
  | a :: l, p, x => by
    have ih := rises_snoc l a x
    have e : (a :: l).getLastD p = l.getLastD a := by cases l <;> simp [List.getLastD]
    rw [List.cons_append, risesB, ih, risesB, e, Bool.and_assoc]

theorem rises_take_false (p : Int) (zs : List Int) (k : Nat) (h : risesB p (zs.take k) = false) : risesB p zs = false := by
  have key : ∀ (l m : List Int) (p : Int), risesB p l = false → risesB p (l ++ m) = false := by
    intro l
    induction l with
    | nil => intro m p h; simp [risesB] at h
    | cons a l ih =>
      intro m p h
      rw [List.cons_append, risesB]
      rw [risesB] at h
      cases hd : decide (p < a)
      · rfl
      · rw [hd, Bool.true_and] at h
        rw [Bool.true_and]; exact ih m a h
  rw [← List.take_append_drop k zs]; exact key _ _ _ h

theorem rises_take_true (p : Int) (zs : List Int) (k : Nat) (h : risesB p zs = true) : risesB p (zs.take k) = true := by
  cases hb : risesB p (zs.take k)
  · rw [rises_take_false p zs k hb] at h; exact h
  · rfl

/-- the one before place k, or p -/
theorem lastD_take (p : Int) (zs : List Int) (k : Nat) (h : k < zs.length) : (zs.take (k + 1)).getLastD p = zs.getD k 0 := by
  rw [take_succ zs k h]; simp [List.getLastD_eq_getLast?]

/-- one more place: it rises on -/
theorem rises_step (zs : List Int) (k : Nat) (h : k < zs.length) (p : Int) : risesB p (zs.take (k + 1)) = (risesB p (zs.take k) && decide ((zs.take k).getLastD p < zs.getD k 0)) := by
  rw [take_succ zs k h, rises_snoc]
theorem right_false_at (zs : List Int) (k : Nat) (h : risesB 0 (zs.take k) = false) : right zs = false := by
  unfold right; rw [rises_take_false 0 zs k h, Bool.and_false]
theorem right_all (zs : List Int) (h : risesB 0 zs = true) : right zs = decide (zs.length ≤ 6) := by
  unfold right; rw [h, Bool.and_true]
theorem right_long (zs : List Int) (h : 6 < zs.length) : right zs = false := by
  unfold right; rw [decide_eq_false (by omega), Bool.false_and]

/-- words of 64 bits, all of them -/
def U64 (zs : List Int) : Prop := ∀ x ∈ zs, 0 ≤ x ∧ x < 18446744073709551616
theorem U64.get {zs : List Int} (h : U64 zs) (k : Nat) (hk : k < zs.length) : 0 ≤ zs.getD k 0 ∧ zs.getD k 0 < 18446744073709551616 := h _ (getD_mem zs k hk)
theorem U64.nil : U64 [] := by intro x h; simp at h
theorem U64.cons {x : Int} {l : List Int} (h : 0 ≤ x ∧ x < 18446744073709551616) (k : U64 l) : U64 (x :: l) := by
  intro y hy
  rcases List.mem_cons.1 hy with e | e
  · rw [e]; exact h
  · exact k y e
theorem U64.append {a b : List Int} (h : U64 a) (k : U64 b) : U64 (a ++ b) := by
  intro y hy
  rcases List.mem_append.1 hy with e | e
  · exact h y e
  · exact k y e

/-- the order of labels: which one stands ahead -/
def lex : List Int → List Int → Int
  | [], [] => 0
  | [], _ :: _ => -1
  | _ :: _, [] => 1
  | x :: a, y :: b => if x < y then -1 else if y < x then 1 else lex a b
def cmpI (x y : Int) : Int := if x < y then -1 else if y < x then 1 else 0
def cmp (a b : List Int) : Int := if a.length < b.length then -1 else if b.length < a.length then 1 else lex a b

theorem lex_drop (a b : List Int) (k : Nat) (ha : k < a.length) (hb : k < b.length) : lex (a.drop k) (b.drop k) = if a.getD k 0 < b.getD k 0 then -1 else if b.getD k 0 < a.getD k 0 then 1 else lex (a.drop (k + 1)) (b.drop (k + 1)) := by
  rw [List.drop_eq_getElem_cons ha, List.drop_eq_getElem_cons hb, lex, List.getD, List.getD, List.getElem?_eq_getElem ha, List.getElem?_eq_getElem hb]; rfl
theorem lex_drop_lt (a b : List Int) (k : Nat) (ha : k < a.length) (hb : k < b.length) (h : a.getD k 0 < b.getD k 0) : lex (a.drop k) (b.drop k) = -1 := by
  rw [lex_drop a b k ha hb, if_pos h]
theorem lex_drop_gt (a b : List Int) (k : Nat) (ha : k < a.length) (hb : k < b.length) (h : b.getD k 0 < a.getD k 0) : lex (a.drop k) (b.drop k) = 1 := by
  rw [lex_drop a b k ha hb, if_neg (by omega), if_pos h]
theorem lex_drop_eq (a b : List Int) (k : Nat) (ha : k < a.length) (hb : k < b.length) (h : a.getD k 0 = b.getD k 0) : lex (a.drop k) (b.drop k) = lex (a.drop (k + 1)) (b.drop (k + 1)) := by
  rw [lex_drop a b k ha hb, if_neg (by omega), if_neg (by omega)]

/-- do they not fall? -/
def ascB : List Int → Bool
  | x :: y :: r => decide (x ≤ y) && ascB (y :: r)
  | _ => true
theorem ascB_iff : ∀ zs : List Int, ascB zs = true ↔ ∀ t, t + 1 < zs.length → zs.getD t 0 ≤ zs.getD (t + 1) 0
  | [] => by simp [ascB]
  | [x] => by simp [ascB]
  | x :: y :: r => by
    rw [ascB, Bool.and_eq_true, ascB_iff (y :: r), decide_eq_true_eq]
    constructor
    · rintro ⟨h1, h2⟩ t ht
      cases t with
      | zero => simpa using h1
      | succ t => exact h2 t (by simpa using ht)
    · intro h
      exact ⟨by simpa using h 0 (by simp), fun t ht => h (t + 1) (by simpa using ht)⟩
def Asc (zs : List Int) : Prop := ∀ i j, i < j → j < zs.length → zs.getD i 0 ≤ zs.getD j 0
theorem Asc.of_ascB {zs : List Int} (h : ascB zs = true) : Asc zs := by
  rw [ascB_iff] at h
  intro i j hij
  induction j with
  | zero => omega
  | succ j ih =>
    intro hj
    rcases Nat.lt_or_ge i j with c | c
    · exact Int.le_trans (ih c (by omega)) (h j hj)
    · have : i = j := by omega
      subst this; exact h i hj

/-- place i is where x stands, or would stand -/
def LB (zs : List Int) (x : Int) (i : Nat) : Prop := i ≤ zs.length ∧ (∀ t, t < i → zs.getD t 0 < x) ∧ (∀ t, i ≤ t → t < zs.length → x ≤ zs.getD t 0)
theorem LB.has_of_eq {zs : List Int} {x : Int} {i : Nat} (hi : i < zs.length) (h : zs.getD i 0 = x) : has zs x = true := by
  rw [has_iff, ← h]; exact getD_mem zs i hi
theorem LB.has_of_ne {zs : List Int} {x : Int} {i : Nat} (ha : Asc zs) (hl : LB zs x i) (h : i < zs.length → zs.getD i 0 ≠ x) : has zs x = false := by
  cases hb : has zs x
  · rfl
  · rw [has_iff, mem_iff_getD] at hb
    obtain ⟨k, hk, e⟩ := hb
    obtain ⟨h1, h2, h3⟩ := hl
    rcases Nat.lt_or_ge k i with c | c
    · have := h2 k c; omega
    · have hi : i < zs.length := by omega
      have h5 := h3 i (Nat.le_refl _) hi
      have h6 := h hi
      rcases Nat.lt_or_ge i k with d | d
      · have := ha i k d hk; omega
      · have : i = k := by omega
        subst this; exact absurd e h6

end La
end Go.Proofs.Ytoljhoabbaigdaa
