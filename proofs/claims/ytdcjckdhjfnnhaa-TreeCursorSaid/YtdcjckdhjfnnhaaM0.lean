/- Proved parts: Sl Chg La. Conditions: each theorem's own. -/
import Derived.WalkKit
import Derived.WalkLawsBesides
import Derived.Handy
import Derived.Below
import Derived.OwnWalk
import Derived.Laws.OwnMore
import Derived.Deep.Draws
import Derived.Deep.AppendLies
import Derived.Lib.Hide
import Derived.Laws.BitsLemmas
import Derived.WideShapes
namespace Go.Proofs.Ytdcjckdhjfnnhaa
open Go.RowKit

theorem ret_int {k : IntKind} {a b : Int} (h : a = b) : Ending.returned (.int k a) = .returned (.int k b) := by rw [h]
theorem ret_bool {a b : Bool} (h : a = b) : Ending.returned (.bool a) = .returned (.bool b) := by rw [h]

/-- The slice at A reads as zs. -/
def Sl (w : World) (A : Option Addr) (zs : List Int) : Prop :=
  0 < zs.length → ∃ b o, A = some ⟨b, o, none⟩ ∧ b < w.heap.size ∧ ∀ j, j < zs.length → w.cell? ⟨b, o + j, none⟩ = some (.int .u64 (zs.getD j 0))

section
variable {w w' : World} {A : Option Addr} {zs : List Int}
theorem Sl.nil (w : World) (A : Option Addr) : Sl w A [] := fun h => absurd h (by simp)
theorem Sl.at_ {k : Nat} (h : Sl w A zs) (hk : k < zs.length) : ∃ b o, A = some ⟨b, o, none⟩ ∧ b < w.heap.size ∧ ∀ j, j < zs.length → w.cell? ⟨b, o + j, none⟩ = some (.int .u64 (zs.getD j 0)) := h (by omega)
theorem Sl.below (h : Sl w A zs) (hb : Below w.heap.size w w') : Sl w' A zs := fun hn => by
  obtain ⟨b, o, e, hlt, hc⟩ := h hn
  exact ⟨b, o, e, Nat.lt_of_lt_of_le hlt hb.size, fun j hj => (hb.cell (p := ⟨b, o + j, none⟩) hlt).trans (hc j hj)⟩
theorem Sl.drewN (h : Sl w A zs) (n : Nat) : Sl (w.drewN n) A zs := h
theorem Sl.drew (h : Sl w A zs) : Sl w.drew A zs := h
theorem Sl.alloc (h : Sl w A zs) (o : Obj) : Sl (w.alloc o) A zs := h.below ((Below.refl _ _).alloc (Nat.le_refl _) o)
end

theorem drewN2 (w : World) (n m : Nat) : ∃ k, (w.drewN n).drewN m = w.drewN k := ⟨n + m, World.drewN_drewN w n m⟩
theorem drewN3 (w : World) (n m l : Nat) : ∃ k, ((w.drewN n).drewN m).drewN l = w.drewN k := ⟨n + m + l, by rw [World.drewN_drewN, World.drewN_drewN, Nat.add_assoc]⟩
theorem below_drewN {B : Nat} {a w : World} (h : Below B a w) (n : Nat) : Below B a (w.drewN n) := ⟨h.os, h.tape, h.output, h.size, h.block⟩
theorem below_drew {B : Nat} {a w : World} (h : Below B a w) : Below B a w.drew := ⟨h.os, h.tape, h.output, h.size, h.block⟩
/-- two calls, one behind the other -/
theorem below_then {W w w' : World} (h : Below W.heap.size W w) (k : Below w.heap.size w w') : Below W.heap.size W w' := h.trans (k.mono h.size)
theorem byte_at (s : ByteArray) (k : Nat) (h : k < s.size) : s[k] = s.data.toList.getD k 0 := by
  have h' : k < s.data.toList.length := by simpa using h
  rw [List.getD_eq_getElem?_getD, List.getElem?_eq_getElem h']
  rfl
theorem or_join (x y : Nat) (hx : x < 72057594037927936) (hy : y < 256) : bits .or .u64 (IntKind.u64.wrap ((x : Int) * 256)) (IntKind.u64.wrap (y : Int)) = ((x * 256 + y : Nat) : Int) := by
  have e1 : IntKind.u64.wrap ((x : Int) * 256) = (x : Int) * 256 := by rw [IntKind.wrap_u64]; omega
  have e2 : IntKind.u64.wrap (y : Int) = y := by rw [IntKind.wrap_u64]; omega
  have h := bits_join .u64 64 (by decide) (fun n h0 h1 => by rw [IntKind.wrap_u64]; omega) 8 ((x : Int) * 256) y (by omega) (by omega) (by omega) (by omega) (by omega) (by omega)
  rw [e1, e2, h]
  omega
theorem toList_inj {a b : ByteArray} (h : a.toList = b.toList) : a = b := by
  rw [ByteArray.toList_eq, ByteArray.toList_eq] at h
  exact WideShapes.bytes_inj h
theorem str_ne {a b : ByteArray} (h : a ≠ b) : (a.toList == b.toList) = false := by
  rw [beq_eq_false_iff_ne]; exact fun k => h (toList_inj k)
theorem str_eq {a b : ByteArray} (h : a = b) : (a.toList == b.toList) = true := by rw [h]; exact beq_self_eq_true _

end Go.Proofs.Ytdcjckdhjfnnhaa

namespace Go.Proofs.Ytdcjckdhjfnnhaa
open Go.RowKit

/-- all blocks but F's, and but new ones, are as they were -/
structure Chg (F : Nat → Prop) (w w' : World) : Prop where
  os : w'.os = w.os
  tape : w'.tape = w.tape
  output : w'.output = w.output
  size : w.heap.size ≤ w'.heap.size
  block : ∀ k, k < w.heap.size → ¬ F k → w'.heap[k]? = w.heap[k]?
section
variable {F G : Nat → Prop} {a b c w w' : World}
theorem Chg.refl (F : Nat → Prop) (w : World) : Chg F w w := ⟨rfl, rfl, rfl, Nat.le_refl _, fun _ _ _ => rfl⟩
/-- two steps; the second one may turn what the first one made -/
theorem Chg.trans (h : Chg F a b) (k : Chg G b c) (hg : ∀ i, G i → F i ∨ a.heap.size ≤ i) : Chg F a c :=
  ⟨k.os.trans h.os, k.tape.trans h.tape, k.output.trans h.output, Nat.le_trans h.size k.size, fun i hi hn => (k.block i (Nat.lt_of_lt_of_le hi h.size) (fun e => by
    rcases hg i e with q | q
    · exact hn q
    · omega)).trans (h.block i hi hn)⟩
theorem Chg.then (h : Chg F a b) (k : Chg F b c) : Chg F a c := h.trans k fun _ e => .inl e
theorem Chg.mono (h : Chg F w w') (hg : ∀ i, F i → G i) : Chg G w w' := ⟨h.os, h.tape, h.output, h.size, fun i hi hn => h.block i hi fun e => hn (hg i e)⟩
theorem Chg.of_below (h : Below w.heap.size w w') : Chg F w w' := ⟨h.os, h.tape, h.output, h.size, fun i hi _ => h.block i hi⟩
theorem Chg.below {B : Nat} (h : Chg F w w') (hF : ∀ i, F i → B ≤ i) (hB : B ≤ w.heap.size) : Below B w w' := ⟨h.os, h.tape, h.output, h.size, fun i hi => h.block i (by omega) fun e => by have := hF i e; omega⟩
theorem Chg.drew (h : Chg F a w) : Chg F a w.drew := ⟨h.os, h.tape, h.output, h.size, h.block⟩
theorem Chg.drewN (h : Chg F a w) (n : Nat) : Chg F a (w.drewN n) := ⟨h.os, h.tape, h.output, h.size, h.block⟩
theorem Chg.alloc (h : Chg F a w) (o : Obj) : Chg F a (w.alloc o) :=
  h.trans (G := fun _ => False) ⟨rfl, rfl, rfl, by simp, fun k hk _ => Below.heap_alloc _ _ _ hk⟩ (fun _ e => e.elim)
theorem Chg.setCell (h : Chg F a w) {p : Addr} (hp : F p.block ∨ a.heap.size ≤ p.block) (u : Value) : Chg F a (w.setCell p u) :=
  h.trans (G := fun i => i = p.block) ⟨rfl, rfl, rfl, by simp [World.setCell], fun k _ hk => Below.heap_setCell _ _ _ _ hk⟩ (fun i e => by subst e; exact hp)
theorem Chg.grown {row : Option Nat} (h : Chg F a w) (hg : w.grownBy w' row) (hr : ∀ k, row = some k → F k ∨ a.heap.size ≤ k) : Chg F a w' :=
  h.trans (G := fun i => row = some i) ⟨hg.os, hg.tape, hg.output, hg.size, fun k hk hn => hg.block k hk fun e => hn e.symm⟩ (fun i e => hr i e)
theorem Chg.cell (h : Chg F w w') {p : Addr} {v : Value} (hc : w.cell? p = some v) (hn : ¬ F p.block) : w'.cell? p = some v :=
  (World.cell?_of_block (w := w) (h.block p.block (World.block_lt_of_cell? w p hc) hn)).trans hc
end

/-- block g holds cs -/
def RowAt (w : World) (g : Nat) (cs : List Value) (t : TypeId) : Prop := w.heap[g]? = some (.cells cs.toArray t)
section
variable {F : Nat → Prop} {w w' : World} {g : Nat} {cs : List Value} {t : TypeId}
theorem RowAt.lt (h : RowAt w g cs t) : g < w.heap.size := (Array.getElem?_eq_some_iff.1 h).1
theorem RowAt.cell (h : RowAt w g cs t) (i : Nat) : w.cell? ⟨g, i, none⟩ = cs[i]? := by
  unfold World.cell?
  rw [show w.heap[(⟨g, i, none⟩ : Addr).block]? = some (.cells cs.toArray t) from h]
  simp
theorem RowAt.frozen (h : RowAt w g cs t) (i : Nat) : w.frozen? ⟨g, i, none⟩ = false := by
  unfold World.frozen?
  rw [show w.heap[(⟨g, i, none⟩ : Addr).block]? = some (.cells cs.toArray t) from h]
  simp
theorem RowAt.keep (h : RowAt w g cs t) (hc : Chg F w w') (hn : ¬ F g) : RowAt w' g cs t := (hc.block g h.lt hn).trans h
theorem RowAt.below (h : RowAt w g cs t) (hb : Below w.heap.size w w') : RowAt w' g cs t := (hb.block g h.lt).trans h
theorem RowAt.drewN (h : RowAt w g cs t) (n : Nat) : RowAt (w.drewN n) g cs t := h
theorem RowAt.new (w : World) (cs : List Value) (t : TypeId) : RowAt (w.alloc (.cells cs.toArray t)) w.heap.size cs t := heap_alloc_new w _
theorem RowAt.alloc (h : RowAt w g cs t) (o : Obj) : RowAt (w.alloc o) g cs t := h.below ((Below.refl _ _).alloc (Nat.le_refl _) o)
theorem RowAt.set (h : RowAt w g cs t) (i : Nat) (v : Value) : RowAt (w.setCell ⟨g, i, none⟩ v) g (cs.set i v) t := by
  unfold RowAt World.setCell
  simp only [Array.getElem?_modify]
  rw [show w.heap[g]? = some (.cells cs.toArray t) from h]
  simp
theorem RowAt.other (h : RowAt w g cs t) {p : Addr} (hp : p.block ≠ g) (v : Value) : RowAt (w.setCell p v) g cs t := (Below.heap_setCell _ _ _ _ (Ne.symm hp)).trans h
end

section
variable {α : Type} {f : α → List Value} {n : Nat}
theorem flat_len (hf : ∀ x, (f x).length = n) : ∀ l : List α, (l.flatMap f).length = l.length * n
  | [] => by simp
  | x :: l => by rw [List.flatMap_cons, List.length_append, hf, flat_len hf l, List.length_cons, Nat.add_mul]; omega
theorem flat_at (hf : ∀ x, (f x).length = n) : ∀ (l : List α) (i j : Nat) (hi : i < l.length), j < n → (l.flatMap f)[i * n + j]? = (f l[i])[j]?
  | [], i, j, hi, _ => by simp at hi
  | x :: l, 0, j, _, hj => by
    rw [List.flatMap_cons, Nat.zero_mul, Nat.zero_add, List.getElem?_append_left (by rw [hf]; exact hj)]; rfl
  | x :: l, i + 1, j, hi, hj => by
    have h := flat_at hf l i j (by simpa using hi) hj
    rw [List.flatMap_cons, List.getElem?_append_right (by rw [hf, Nat.add_mul]; omega), hf, show (i + 1) * n + j - n = i * n + j by rw [Nat.add_mul]; omega, h]
    rfl
theorem flat_set (hf : ∀ x, (f x).length = n) : ∀ (l : List α) (i j : Nat) (v : Value) (y : α) (hi : i < l.length), j < n → (f l[i]).set j v = f y → (l.flatMap f).set (i * n + j) v = (l.set i y).flatMap f
  | [], i, j, v, y, hi, _, _ => by simp at hi
  | x :: l, 0, j, v, y, _, hj, hy => by
    rw [List.flatMap_cons, Nat.zero_mul, Nat.zero_add, List.set_append_left _ _ (by rw [hf]; exact hj)]
    rw [show (f x).set j v = f y from hy]
    rfl
  | x :: l, i + 1, j, v, y, hi, hj, hy => by
    have h := flat_set hf l i j v y (by simpa using hi) hj hy
    rw [List.flatMap_cons, List.set_append_right _ _ (by rw [hf, Nat.add_mul]; omega), hf, show (i + 1) * n + j - n = i * n + j by rw [Nat.add_mul]; omega, h]
    rfl
end

end Go.Proofs.Ytdcjckdhjfnnhaa

namespace Go.Proofs.Ytdcjckdhjfnnhaa
namespace La

/-- is x among zs? -/
def has (zs : List Int) (x : Int) : Bool := decide (x ∈ zs)
/-- are all of a among b? -/
def inn (a b : List Int) : Bool := decide (∀ x ∈ a, x ∈ b)
/-- do they rise, from above p? -/
def risesB : Int → List Int → Bool
  | _, [] => true
  | p, x :: r => decide (p < x) && risesB x r
/-- is it a label? -/
def right (zs : List Int) : Bool := decide (zs.length ≤ 6) && risesB 0 zs

theorem has_iff (zs : List Int) (x : Int) : has zs x = true ↔ x ∈ zs := by simp [has]
theorem inn_iff (a b : List Int) : inn a b = true ↔ ∀ x ∈ a, x ∈ b := by simp [inn]

theorem take_succ (zs : List Int) (k : Nat) (h : k < zs.length) : zs.take (k + 1) = zs.take k ++ [zs.getD k 0] := by
  rw [List.take_succ_eq_append_getElem h, List.getD, List.getElem?_eq_getElem h]; rfl
theorem mem_take_succ (zs : List Int) (k : Nat) (h : k < zs.length) (x : Int) : x ∈ zs.take (k + 1) ↔ x ∈ zs.take k ∨ x = zs.getD k 0 := by
  rw [take_succ zs k h]; simp
theorem getD_mem (zs : List Int) (k : Nat) (h : k < zs.length) : zs.getD k 0 ∈ zs := by
  rw [List.getD, List.getElem?_eq_getElem h]; exact List.getElem_mem h
theorem mem_iff_getD (zs : List Int) (x : Int) : x ∈ zs ↔ ∃ k, k < zs.length ∧ zs.getD k 0 = x := by
  constructor
  · intro h
    obtain ⟨k, hk, e⟩ := List.getElem_of_mem h
    exact ⟨k, hk, by rw [List.getD, List.getElem?_eq_getElem hk]; exact e⟩
  · rintro ⟨k, hk, rfl⟩; exact getD_mem zs k hk

/-- the one behind the last of l, or p -/
def lastOr (p : Int) (l : List Int) : Int := l.getLastD p

theorem rises_snoc : ∀ (l : List Int) (p x : Int), risesB p (l ++ [x]) = (risesB p l && decide (l.getLastD p < x))
  | [], p, x => by simp [risesB]
  | a :: l, p, x => by
    have ih := rises_snoc l a x
    have e : (a :: l).getLastD p = l.getLastD a := by cases l <;> simp [List.getLastD]
    rw [List.cons_append, risesB, ih, risesB, e, Bool.and_assoc]

theorem rises_take_false (p : Int) (zs : List Int) (k : Nat) (h : risesB p (zs.take k) = false) : risesB p zs = false := by
  have key : ∀ (l m : List Int) (p : Int), risesB p l = false → risesB p (l ++ m) = false := by
    intro l
    induction l with
    | nil => intro m p h; simp [risesB] at h
    | cons a l ih =>
      intro m p h
      rw [List.cons_append, risesB]
      rw [risesB] at h
      cases hd : decide (p < a)
      · rfl
      · rw [hd, Bool.true_and] at h
        rw [Bool.true_and]; exact ih m a h
  rw [← List.take_append_drop k zs]; exact key _ _ _ h

theorem rises_take_true (p : Int) (zs : List Int) (k : Nat) (h : risesB p zs = true) : risesB p (zs.take k) = true := by
  cases hb : risesB p (zs.take k)
  · rw [rises_take_false p zs k hb] at h; exact h
  · rfl

/-- the one before place k, or p -/
theorem lastD_take (p : Int) (zs : List Int) (k : Nat) (h : k < zs.length) : (zs.take (k + 1)).getLastD p = zs.getD k 0 := by
  rw [take_succ zs k h]; simp [List.getLastD_eq_getLast?]

/-- one more place: it rises on -/
theorem rises_step (zs : List Int) (k : Nat) (h : k < zs.length) (p : Int) : risesB p (zs.take (k + 1)) = (risesB p (zs.take k) && decide ((zs.take k).getLastD p < zs.getD k 0)) := by
  rw [take_succ zs k h, rises_snoc]
theorem right_false_at (zs : List Int) (k : Nat) (h : risesB 0 (zs.take k) = false) : right zs = false := by
  unfold right; rw [rises_take_false 0 zs k h, Bool.and_false]
theorem right_all (zs : List Int) (h : risesB 0 zs = true) : right zs = decide (zs.length ≤ 6) := by
  unfold right; rw [h, Bool.and_true]
theorem right_long (zs : List Int) (h : 6 < zs.length) : right zs = false := by
  unfold right; rw [decide_eq_false (by omega), Bool.false_and]

/-- words of 64 bits, all of them -/
def U64 (zs : List Int) : Prop := ∀ x ∈ zs, 0 ≤ x ∧ x < 18446744073709551616
theorem U64.get {zs : List Int} (h : U64 zs) (k : Nat) (hk : k < zs.length) : 0 ≤ zs.getD k 0 ∧ zs.getD k 0 < 18446744073709551616 := h _ (getD_mem zs k hk)
theorem U64.nil : U64 [] := by intro x h; simp at h
theorem U64.cons {x : Int} {l : List Int} (h : 0 ≤ x ∧ x < 18446744073709551616) (k : U64 l) : U64 (x :: l) := by
  intro y hy
  rcases List.mem_cons.1 hy with e | e
  · rw [e]; exact h
  · exact k y e
theorem U64.append {a b : List Int} (h : U64 a) (k : U64 b) : U64 (a ++ b) := by
  intro y hy
  rcases List.mem_append.1 hy with e | e
  · exact h y e
  · exact k y e

/-- the order of labels: which one stands ahead -/
def lex : List Int → List Int → Int
  | [], [] => 0
  | [], _ :: _ => -1
  | _ :: _, [] => 1
  | x :: a, y :: b => if x < y then -1 else if y < x then 1 else lex a b
def cmpI (x y : Int) : Int := if x < y then -1 else if y < x then 1 else 0
def cmp (a b : List Int) : Int := if a.length < b.length then -1 else if b.length < a.length then 1 else lex a b

theorem lex_drop (a b : List Int) (k : Nat) (ha : k < a.length) (hb : k < b.length) : lex (a.drop k) (b.drop k) = if a.getD k 0 < b.getD k 0 then -1 else if b.getD k 0 < a.getD k 0 then 1 else lex (a.drop (k + 1)) (b.drop (k + 1)) := by
  rw [List.drop_eq_getElem_cons ha, List.drop_eq_getElem_cons hb, lex, List.getD, List.getD, List.getElem?_eq_getElem ha, List.getElem?_eq_getElem hb]; rfl
theorem lex_drop_lt (a b : List Int) (k : Nat) (ha : k < a.length) (hb : k < b.length) (h : a.getD k 0 < b.getD k 0) : lex (a.drop k) (b.drop k) = -1 := by
  rw [lex_drop a b k ha hb, if_pos h]
theorem lex_drop_gt (a b : List Int) (k : Nat) (ha : k < a.length) (hb : k < b.length) (h : b.getD k 0 < a.getD k 0) : lex (a.drop k) (b.drop k) = 1 := by
  rw [lex_drop a b k ha hb, if_neg (by omega), if_pos h]
theorem lex_drop_eq (a b : List Int) (k : Nat) (ha : k < a.length) (hb : k < b.length) (h : a.getD k 0 = b.getD k 0) : lex (a.drop k) (b.drop k) = lex (a.drop (k + 1)) (b.drop (k + 1)) := by
  rw [lex_drop a b k ha hb, if_neg (by omega), if_neg (by omega)]

/-- do they not fall? -/
def ascB : List Int → Bool
  | x :: y :: r => decide (x ≤ y) && ascB (y :: r)
  | _ => true
theorem ascB_iff : ∀ zs : List Int, ascB zs = true ↔ ∀ t, t + 1 < zs.length → zs.getD t 0 ≤ zs.getD (t + 1) 0
  | [] => by simp [ascB]
  | [x] => by simp [ascB]
  | x :: y :: r => by
    rw [ascB, Bool.and_eq_true, ascB_iff (y :: r), decide_eq_true_eq]
    constructor
    · rintro ⟨h1, h2⟩ t ht
      cases t with
      | zero => simpa using h1
      | succ t => exact h2 t (by simpa using ht)
    · intro h
      exact ⟨by simpa using h 0 (by simp), fun t ht => h (t + 1) (by simpa using ht)⟩
def Asc (zs : List Int) : Prop := ∀ i j, i < j → j < zs.length → zs.getD i 0 ≤ zs.getD j 0
theorem Asc.of_ascB {zs : List Int} (h : ascB zs = true) : Asc zs := by
  rw [ascB_iff] at h
  intro i j hij
  induction j with
  | zero => omega
  | succ j ih =>
    intro hj
    rcases Nat.lt_or_ge i j with c | c
    · exact Int.le_trans (ih c (by omega)) (h j hj)
    · have : i = j := by omega
      subst this; exact h i hj

/-- place i is where x stands, or would stand -/
def LB (zs : List Int) (x : Int) (i : Nat) : Prop := i ≤ zs.length ∧ (∀ t, t < i → zs.getD t 0 < x) ∧ (∀ t, i ≤ t → t < zs.length → x ≤ zs.getD t 0)
theorem LB.has_of_eq {zs : List Int} {x : Int} {i : Nat} (hi : i < zs.length) (h : zs.getD i 0 = x) : has zs x = true := by
  rw [has_iff, ← h]; exact getD_mem zs i hi
theorem LB.has_of_ne {zs : List Int} {x : Int} {i : Nat} (ha : Asc zs) (hl : LB zs x i) (h : i < zs.length → zs.getD i 0 ≠ x) : has zs x = false := by
  cases hb : has zs x
  · rfl
  · rw [has_iff, mem_iff_getD] at hb
    obtain ⟨k, hk, e⟩ := hb
    obtain ⟨h1, h2, h3⟩ := hl
    rcases Nat.lt_or_ge k i with c | c
    · have := h2 k c; omega
    · have hi : i < zs.length := by omega
      have h5 := h3 i (Nat.le_refl _) hi
      have h6 := h hi
      rcases Nat.lt_or_ge i k with d | d
      · have := ha i k d hk; omega
      · have : i = k := by omega
        subst this; exact absurd e h6

end La
end Go.Proofs.Ytdcjckdhjfnnhaa
