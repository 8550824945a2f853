/- Programs on numbers in plain words: what a step puts, how far a program goes, how high its stack is; numbers by their bits. -/
import Derived.Test.YtoljhoabbaigdaaG1f
import Derived.Laws.FloatArith
namespace Go.Proofs.Ytoljhoabbaigdaa.Ex
open Ieee Fl

/-- a step: what it is, and its own bits -/
structure Cd where
  op : Int
  b : Nat
def Cd.Z : Cd := ⟨0, 0⟩

/-- the bits of what came of an operation -/
def fopB (r : Option Nat) : Nat := match r with | some r => bitsOf r | none => NANB
def ops4 (op : Int) (a b : Nat) : Option Nat := if op = 3 then double.add a b else if op = 4 then double.sub a b else if op = 5 then double.mul a b else double.div a b
def tk (op : Int) : Nat := if op ≤ 2 then 0 else if op ≤ 8 then 2 else if op ≤ 12 ∨ op = 14 ∨ op = 15 then 1 else if op = 13 then 2 else 3
def pt (op : Int) : Nat := if op = 12 ∨ op = 13 then 2 else if op = 14 then 0 else 1
def isC (c : Cd) : Bool := decide (1 ≤ c.op) && (decide (c.op ≤ 16) && ((decide (c.op = 2) || decide (c.b = 0)) && decide (bitsOf c.b = c.b)))
def right (p : List Cd) : Bool := decide (1 ≤ p.length) && (decide (p.length ≤ 32) && p.all isC)
/-- is it a number, and no infinity? -/
def fin (a : Nat) : Bool := decide (a % S63 < INF)
/-- is it above nought? -/
def pos (c : Nat) : Bool := decide (0 < c) && decide (c ≤ INF)
/-- what a step puts for what it takes, the last one last -/
def mk (op : Int) (own x a b c : Nat) : Option (List Nat) :=
  if op = 1 then some [bitsOf x]
  else if op = 2 then some [own]
  else if op ≤ 6 then some [fopB (ops4 op a b)]
  else if op = 7 then some [if place b < place a then b else a]
  else if op = 8 then some [if place a < place b then b else a]
  else if op = 9 then some [bitsOf (a ^^^ 2 ^ 63)]
  else if op = 10 then some [bitsOf (a % S63)]
  else if op = 11 then some [floorB a]
  else if op = 12 then some [a, a]
  else if op = 13 then some [b, a]
  else if op = 14 then some []
  else if op = 15 then (if fin a then some [a] else none)
  else some [if pos c then a else b]
/-- no step may be done at such a height -/
def bad (op : Int) (h : Nat) : Prop := h < tk op ∨ 8 + tk op < h + pt op
instance (op : Int) (h : Nat) : Decidable (bad op h) := by unfold bad; infer_instance
def stp (c : Cd) (x : Nat) (s : List Nat) : Option (List Nat) :=
  if bad c.op s.length then none
  else (mk c.op c.b x (s.getD (s.length - tk c.op) 0) (s.getD (s.length - tk c.op + 1) 0) (s.getD (s.length - tk c.op + 2) 0)).map (s.take (s.length - tk c.op) ++ ·)
/-- the stack behind all steps that go well, and how many these are -/
def go (x : Nat) : List Cd → List Nat → List Nat × Nat
  | [], s => (s, 0)
  | c :: p, s => match stp c x s with
    | none => (s, 0)
    | some t => ((go x p t).1, (go x p t).2 + 1)
/-- how high the stack is -/
def hts : List Cd → Nat → Option Nat
  | [], h => some h
  | c :: p, h => if bad c.op h then none else hts p (h - tk c.op + pt c.op)

/-- numbers of one's own bits -/
def Ok (s : List Nat) : Prop := ∀ a, a ∈ s → Fits a ∧ bitsOf a = a
theorem Ok.nil : Ok [] := fun _ h => by cases h
theorem Ok.app {s t : List Nat} (h : Ok s) (k : Ok t) : Ok (s ++ t) := fun a ha => by
  rcases List.mem_append.1 ha with q | q
  · exact h a q
  · exact k a q
theorem Ok.take {s : List Nat} (h : Ok s) (n : Nat) : Ok (s.take n) := fun a ha => h a (List.mem_of_mem_take ha)
theorem Ok.drop {s : List Nat} (h : Ok s) (n : Nat) : Ok (s.drop n) := fun a ha => h a (List.mem_of_mem_drop ha)
theorem Ok.get {s : List Nat} (h : Ok s) {i : Nat} (hi : i < s.length) : Fits (s.getD i 0) ∧ bitsOf (s.getD i 0) = s.getD i 0 := by
  rw [List.getD_eq_getElem?_getD, List.getElem?_eq_getElem hi]
  exact h _ (List.getElem_mem hi)
theorem Ok.one {a : Nat} (h : Fits a) (k : bitsOf a = a) : Ok [a] := fun b hb => by
  rw [List.mem_singleton] at hb; subst hb; exact ⟨h, k⟩
theorem Ok.two {a b : Nat} (h : Fits a ∧ bitsOf a = a) (k : Fits b ∧ bitsOf b = b) : Ok [a, b] := fun c hc => by
  simp at hc
  rcases hc with rfl | rfl
  · exact h
  · exact k
theorem bits_NAN : bitsOf NANB = NANB := by decide
theorem bits_bits (a : Nat) : bitsOf (bitsOf a) = bitsOf a := by
  by_cases h : nanB a = true
  · have e : bitsOf a = NANB := by unfold bitsOf; rw [if_pos h]
    rw [e]; exact bits_NAN
  · have e : bitsOf a = a := by unfold bitsOf; rw [if_neg h]
    rw [e, e]
theorem bits_of_not {a : Nat} (h : nanB a = false) : bitsOf a = a := by unfold bitsOf; rw [h]; rfl
theorem fits_NAN : Fits NANB := Fits.mk (by unfold NANB; decide)
theorem fopB_ok {op : Int} {a b : Nat} : Fits (fopB (ops4 op a b)) ∧ bitsOf (fopB (ops4 op a b)) = fopB (ops4 op a b) := by
  have key : ∀ r : Option Nat, (∀ y, r = some y → Fits y) → Fits (fopB r) ∧ bitsOf (fopB r) = fopB r := by
    intro r hr
    cases r with
    | none => exact ⟨fits_NAN, bits_NAN⟩
    | some y => exact ⟨bitsOf_fits (hr y rfl), bits_bits y⟩
  refine key _ fun y hy => ?_
  unfold ops4 at hy
  split at hy
  · exact double.add_lt hy
  · split at hy
    · exact double.sub_lt hy
    · split at hy
      · exact double.mul_lt hy
      · exact double.div_lt hy
theorem xor_fits {a : Nat} (h : Fits a) : Fits (a ^^^ 2 ^ 63) := by
  unfold Fits at *
  exact Nat.xor_lt_two_pow h (by decide)
theorem nan_word {b : Nat} (h : b % S63 ≤ INF) : nanB b = false := by unfold nanB; simp; omega
theorem write_le (s : Bool) (m : Nat) (i : Int) : double.nearest s m i % S63 ≤ INF ∧ Fits (double.nearest s m i) := by
  have hw : ∀ r, r ≤ INF → double.word s r % S63 ≤ INF ∧ Fits (double.word s r) := fun r hr => by
    have := word_fits s hr
    exact ⟨by rw [this.2.1]; exact hr, this.1⟩
  unfold Format.nearest
  split
  · exact hw 0 (Nat.zero_le _)
  · have e : double.infRung = INF := fmt_consts.2.2.1
    rw [e]
    exact hw _ (Nat.min_le_right _ _)
theorem floor_ok {a : Nat} (h : Fits a) (k : bitsOf a = a) : Fits (floorB a) ∧ bitsOf (floorB a) = floorB a := by
  cases hn : nanB a
  · rw [← floor_eq h hn]
    have hr := rung_eq h
    have hF : F a < 4503599627370496 := by unfold F; omega
    have hE : E a < 2048 := by unfold E; omega
    have key : ∀ s m i, (double.read a).integral .down = .number s m i → Fits (double.write ((double.read a).integral .down)) ∧ bitsOf (double.write ((double.read a).integral .down)) = double.write ((double.read a).integral .down) := by
      intro s m i e
      rw [e]
      unfold Format.write
      have := write_le s m i
      exact ⟨this.2, bits_of_not (nan_word this.1)⟩
    by_cases h0 : E a = 0
    · rw [read_sub h h0] at key ⊢
      exact key _ _ _ rfl
    · by_cases h1 : E a < 2047
      · rw [read_norm h h0 h1] at key ⊢
        exact key _ _ _ rfl
      · have hI : a % S63 = INF := by
          unfold nanB at hn
          have hn' : ¬ INF < a % S63 := by simpa using hn
          rw [INF_eq] at *
          omega
        rw [floor_eq h hn]
        unfold floorB
        rw [if_pos (Or.inr (by omega))]
        exact ⟨h, k⟩
  · have e : floorB a = a := by
      have hr := rung_eq h
      have hF : F a < 4503599627370496 := by unfold F; omega
      have hE : E a < 2048 := by unfold E; omega
      unfold nanB at hn
      have hn' : INF < a % S63 := by simpa using hn
      rw [INF_eq] at hn'
      unfold floorB
      rw [if_pos (Or.inr (by omega))]
    rw [e]; exact ⟨h, k⟩

/-- a thing that holds of what each step puts -/
theorem mk_cases {P : Option (List Nat) → Prop} (op : Int) (own x a b c : Nat)
    (h1 : op = 1 → P (some [bitsOf x])) (h2 : op = 2 → P (some [own])) (h3 : op ≠ 1 → op ≠ 2 → op ≤ 6 → P (some [fopB (ops4 op a b)]))
    (h7 : op = 7 → P (some [if place b < place a then b else a])) (h8 : op = 8 → P (some [if place a < place b then b else a]))
    (h9 : op = 9 → P (some [bitsOf (a ^^^ 2 ^ 63)])) (h10 : op = 10 → P (some [bitsOf (a % S63)])) (h11 : op = 11 → P (some [floorB a]))
    (h12 : op = 12 → P (some [a, a])) (h13 : op = 13 → P (some [b, a])) (h14 : op = 14 → P (some []))
    (h15 : op = 15 → P (if fin a then some [a] else none)) (h16 : 16 ≤ op → P (some [if pos c then a else b])) : P (mk op own x a b c) := by
  unfold mk
  by_cases e1 : op = 1
  · rw [if_pos e1]; exact h1 e1
  rw [if_neg e1]
  by_cases e2 : op = 2
  · rw [if_pos e2]; exact h2 e2
  rw [if_neg e2]
  by_cases e3 : op ≤ 6
  · rw [if_pos e3]; exact h3 e1 e2 e3
  rw [if_neg e3]
  by_cases e7 : op = 7
  · rw [if_pos e7]; exact h7 e7
  rw [if_neg e7]
  by_cases e8 : op = 8
  · rw [if_pos e8]; exact h8 e8
  rw [if_neg e8]
  by_cases e9 : op = 9
  · rw [if_pos e9]; exact h9 e9
  rw [if_neg e9]
  by_cases e10 : op = 10
  · rw [if_pos e10]; exact h10 e10
  rw [if_neg e10]
  by_cases e11 : op = 11
  · rw [if_pos e11]; exact h11 e11
  rw [if_neg e11]
  by_cases e12 : op = 12
  · rw [if_pos e12]; exact h12 e12
  rw [if_neg e12]
  by_cases e13 : op = 13
  · rw [if_pos e13]; exact h13 e13
  rw [if_neg e13]
  by_cases e14 : op = 14
  · rw [if_pos e14]; exact h14 e14
  rw [if_neg e14]
  by_cases e15 : op = 15
  · rw [if_pos e15]; exact h15 e15
  rw [if_neg e15]
  exact h16 (by omega)
theorem mk_ok {op : Int} {own x a b c : Nat} (hx : Fits x) (ho : Fits own ∧ bitsOf own = own) (ha : Fits a ∧ bitsOf a = a) (hb : Fits b ∧ bitsOf b = b) : ∀ l, mk op own x a b c = some l → Ok l := by
  have one : ∀ y, Fits y ∧ bitsOf y = y → ∀ m, some [y] = some m → Ok m := fun y hy m e => by injection e with e; subst e; exact Ok.one hy.1 hy.2
  have bits : ∀ y, Fits y → Fits (bitsOf y) ∧ bitsOf (bitsOf y) = bitsOf y := fun y hy => ⟨bitsOf_fits hy, bits_bits y⟩
  have pick : ∀ q : Prop, [Decidable q] → Fits (if q then b else a) ∧ bitsOf (if q then b else a) = if q then b else a := fun q _ => by by_cases h : q <;> simp only [h, if_true, if_false] <;> assumption
  refine mk_cases (P := fun r => ∀ l, r = some l → Ok l) op own x a b c ?_ ?_ ?_ ?_ ?_ ?_ ?_ ?_ ?_ ?_ ?_ ?_ ?_
  · intro _; exact one _ (bits x hx)
  · intro _; exact one _ ho
  · intro _ _ _; exact one _ fopB_ok
  · intro _; exact one _ (pick _)
  · intro _; exact one _ (pick _)
  · intro _; exact one _ (bits _ (xor_fits ha.1))
  · intro _; exact one _ (bits _ (Fits.mk (by rw [S63_eq]; omega)))
  · intro _; exact one _ (floor_ok ha.1 ha.2)
  · intro _ l h; injection h with h; subst h; exact Ok.two ha ha
  · intro _ l h; injection h with h; subst h; exact Ok.two hb ha
  · intro _ l h; injection h with h; subst h; exact Ok.nil
  · intro _
    cases fin a
    · intro l h; cases h
    · exact one _ ha
  · intro _
    refine one _ ?_
    cases pos c
    · exact hb
    · exact ha
theorem getD_ok {s : List Nat} (h : Ok s) (i : Nat) : Fits (s.getD i 0) ∧ bitsOf (s.getD i 0) = s.getD i 0 := by
  rcases Nat.lt_or_ge i s.length with q | q
  · exact h.get q
  · rw [List.getD_eq_getElem?_getD, List.getElem?_eq_none q]
    exact ⟨Fits.mk (by decide), by decide⟩
theorem isC_iff (c : Cd) : isC c = true ↔ 1 ≤ c.op ∧ c.op ≤ 16 ∧ (c.op = 2 ∨ c.b = 0) ∧ bitsOf c.b = c.b := by
  unfold isC; simp
theorem mk_len {op : Int} {own x a b c : Nat} (h1 : 1 ≤ op) (h2 : op ≤ 16) : ∀ l, mk op own x a b c = some l → l.length = pt op := by
  have one : ∀ y m, some [y] = some m → (m : List Nat).length = 1 := fun y m e => by injection e with e; subst e; rfl
  have p1 : op ≠ 12 → op ≠ 13 → op ≠ 14 → pt op = 1 := fun e1 e2 e3 => by unfold pt; rw [if_neg (by omega), if_neg e3]
  refine mk_cases (P := fun r => ∀ l, r = some l → l.length = pt op) op own x a b c ?_ ?_ ?_ ?_ ?_ ?_ ?_ ?_ ?_ ?_ ?_ ?_ ?_
  · intro e l h; rw [one _ _ h, p1] <;> omega
  · intro e l h; rw [one _ _ h, p1] <;> omega
  · intro _ _ e l h; rw [one _ _ h, p1] <;> omega
  · intro e l h; rw [one _ _ h, p1] <;> omega
  · intro e l h; rw [one _ _ h, p1] <;> omega
  · intro e l h; rw [one _ _ h, p1] <;> omega
  · intro e l h; rw [one _ _ h, p1] <;> omega
  · intro e l h; rw [one _ _ h, p1] <;> omega
  · intro e l h; injection h with h; subst h; subst e; rfl
  · intro e l h; injection h with h; subst h; subst e; rfl
  · intro e l h; injection h with h; subst h; subst e; rfl
  · intro e
    cases fin a
    · intro l h; cases h
    · intro l h; rw [one _ _ h, p1] <;> omega
  · intro e l h; rw [one _ _ h, p1] <;> omega
theorem stp_ok {c : Cd} {x : Nat} {s t : List Nat} (hx : Fits x) (hc : Fits c.b) (h : isC c = true) (hs : Ok s) (k : stp c x s = some t) : Ok t ∧ t.length ≤ 8 ∧ t.length = s.length - tk c.op + pt c.op := by
  obtain ⟨h1, h2, _, h4⟩ := (isC_iff c).1 h
  unfold stp at k
  split at k
  · cases k
  · rename_i hb
    unfold bad at hb
    obtain ⟨l, hm, rfl⟩ := Option.map_eq_some_iff.1 k
    have hl := mk_len h1 h2 _ hm
    refine ⟨(hs.take _).app (mk_ok hx ⟨hc, h4⟩ (getD_ok hs _) (getD_ok hs _) _ hm), ?_, ?_⟩
    · rw [List.length_append, List.length_take, hl]; omega
    · rw [List.length_append, List.length_take, hl]; omega
/-- all steps are some -/
def Steps (p : List Cd) : Prop := ∀ c, c ∈ p → isC c = true ∧ Fits c.b
theorem go_ok {x : Nat} (hx : Fits x) : ∀ (p : List Cd) (s : List Nat), Steps p → Ok s → s.length ≤ 8 → Ok (go x p s).1 ∧ (go x p s).1.length ≤ 8 ∧ (go x p s).2 ≤ p.length
  | [], s, _, hs, hl => ⟨hs, hl, Nat.le_refl _⟩
  | c :: p, s, hp, hs, hl => by
    obtain ⟨h1, h2⟩ := hp c (List.mem_cons_self ..)
    cases hk : stp c x s with
    | none => rw [go, hk]; exact ⟨hs, hl, Nat.zero_le _⟩
    | some t =>
      have ht := stp_ok hx h2 h1 hs hk
      have ih := go_ok hx p t (fun d hd => hp d (List.mem_cons_of_mem _ hd)) ht.1 ht.2.1
      rw [go, hk]
      exact ⟨ih.1, ih.2.1, by simpa using ih.2.2⟩
theorem go_none {x : Nat} {c : Cd} {p : List Cd} {s : List Nat} (h : stp c x s = none) : go x (c :: p) s = (s, 0) := by rw [go, h]
theorem go_some {x : Nat} {c : Cd} {p : List Cd} {s t : List Nat} (h : stp c x s = some t) : go x (c :: p) s = ((go x p t).1, (go x p t).2 + 1) := by rw [go, h]
/-- without a check the stack is the program's alone -/
theorem mk_some {op : Int} (own x a b c : Nat) (h : op ≠ 15) : ∃ l, mk op own x a b c = some l := by
  refine mk_cases (P := fun r => ∃ l, r = some l) op own x a b c ?_ ?_ ?_ ?_ ?_ ?_ ?_ ?_ ?_ ?_ ?_ ?_ ?_
  all_goals intros
  all_goals first | exact ⟨_, rfl⟩ | contradiction
theorem go_hts {x : Nat} (hx : Fits x) : ∀ (p : List Cd) (s : List Nat), Steps p → (∀ c, c ∈ p → c.op ≠ 15) → Ok s → s.length ≤ 8 →
    ((go x p s).2 = p.length ↔ (hts p s.length).isSome) ∧ (∀ h, hts p s.length = some h → (go x p s).1.length = h)
  | [], s, _, _, _, _ => ⟨by simp [go, hts], fun h e => by injection e⟩
  | c :: p, s, hp, hc, hs, hl => by
    obtain ⟨h1, h2⟩ := hp c (List.mem_cons_self ..)
    by_cases hb : bad c.op s.length
    · have hk : stp c x s = none := by unfold stp; rw [if_pos hb]
      rw [go_none hk, hts, if_pos hb]
      exact ⟨by simp, fun h e => by cases e⟩
    · obtain ⟨l, hm⟩ := mk_some c.b x (s.getD (s.length - tk c.op) 0) (s.getD (s.length - tk c.op + 1) 0) (s.getD (s.length - tk c.op + 2) 0) (hc c (List.mem_cons_self ..))
      have hk : stp c x s = some (s.take (s.length - tk c.op) ++ l) := by unfold stp; rw [if_neg hb, hm]; rfl
      have ht := stp_ok hx h2 h1 hs hk
      have ih := go_hts hx p _ (fun d hd => hp d (List.mem_cons_of_mem _ hd)) (fun d hd => hc d (List.mem_cons_of_mem _ hd)) ht.1 ht.2.1
      rw [go_some hk, hts, if_neg hb, ← ht.2.2]
      exact ⟨by simpa using ih.1, ih.2⟩
/-- two numbers without a check: as far, as high -/
theorem go_alike {x y : Nat} (hx : Fits x) (hy : Fits y) : ∀ (p : List Cd) (s t : List Nat), Steps p → (∀ c, c ∈ p → c.op ≠ 15) → Ok s → s.length ≤ 8 → Ok t → t.length = s.length →
    (go x p s).1.length = (go y p t).1.length ∧ (go x p s).2 = (go y p t).2
  | [], s, t, _, _, _, _, _, e => ⟨e.symm, rfl⟩
  | c :: p, s, t, hp, hc, hs, hl, ht, e => by
    obtain ⟨h1, h2⟩ := hp c (List.mem_cons_self ..)
    by_cases hb : bad c.op s.length
    · have hk : stp c x s = none := by unfold stp; rw [if_pos hb]
      have hk2 : stp c y t = none := by unfold stp; rw [e, if_pos hb]
      rw [go_none hk, go_none hk2]
      exact ⟨e.symm, rfl⟩
    · obtain ⟨l, hm⟩ := mk_some c.b x (s.getD (s.length - tk c.op) 0) (s.getD (s.length - tk c.op + 1) 0) (s.getD (s.length - tk c.op + 2) 0) (hc c (List.mem_cons_self ..))
      have hk : stp c x s = some (s.take (s.length - tk c.op) ++ l) := by unfold stp; rw [if_neg hb, hm]; rfl
      obtain ⟨m, hn⟩ := mk_some c.b y (t.getD (t.length - tk c.op) 0) (t.getD (t.length - tk c.op + 1) 0) (t.getD (t.length - tk c.op + 2) 0) (hc c (List.mem_cons_self ..))
      have hk2 : stp c y t = some (t.take (t.length - tk c.op) ++ m) := by unfold stp; rw [if_neg (by rw [e]; exact hb), hn]; rfl
      have q1 := stp_ok hx h2 h1 hs hk
      have q2 := stp_ok hy h2 h1 ht hk2
      have ih := go_alike hx hy p _ _ (fun d hd => hp d (List.mem_cons_of_mem _ hd)) (fun d hd => hc d (List.mem_cons_of_mem _ hd)) q1.1 q1.2.1 q2.1 (by rw [q1.2.2, q2.2.2, e])
      rw [go_some hk, go_some hk2]
      exact ⟨ih.1, by simpa using ih.2⟩
/-- numbers that are one -/
theorem stp_same {c : Cd} {x y : Nat} {s : List Nat} (h : bitsOf x = bitsOf y) : stp c x s = stp c y s := by
  unfold stp mk; rw [h]
theorem go_same {x y : Nat} (h : bitsOf x = bitsOf y) : ∀ (p : List Cd) (s : List Nat), go x p s = go y p s
  | [], _ => rfl
  | c :: p, s => by
    rw [go, go, stp_same h]
    split
    · rfl
    · rename_i t _; rw [go_same h p t]
theorem right_steps {p : List Cd} (h : right p = true) (hf : ∀ c, c ∈ p → Fits c.b) : Steps p ∧ 1 ≤ p.length ∧ p.length ≤ 32 := by
  unfold right at h
  simp at h
  exact ⟨fun c hc => ⟨h.2.2 c hc, hf c hc⟩, h.1, h.2.1⟩

end Go.Proofs.Ytoljhoabbaigdaa.Ex
