/- Proved parts: B5m B5a B5b. Conditions: each theorem's own. -/
import Derived.Test.YtiiokmfnohifmaaGreatM19
import Derived.Test.YtiiokmfnohifmaaGreatM32
import Derived.Test.YtiiokmfnohifmaaGreatM36
import Derived.Test.YtiiokmfnohifmaaGreatM34
import Derived.Test.YtiiokmfnohifmaaGreatM41
import Derived.Test.YtiiokmfnohifmaaGreatM44
import Derived.Test.YtiiokmfnohifmaaGreatM37
namespace Go.Proofs.YtiiokmfnohifmaaGreat
open Go.RowKit

theorem ownsRow_keepk {w w' : World} {B n size : Nat} {e : TypeId} {v : Value} {xs : List Value} (h : w.ownsRow B e size v n xs) (hk : ∀ k, v.ownBlock = some k → w'.heap[k]? = w.heap[k]?) : w'.ownsRow B e size v n xs := by
  rcases h with ⟨h1, h2⟩
  refine ⟨h1, ?_⟩
  rcases h2 with ⟨rfl, h0⟩ | ⟨g, cap, cur, rfl, hB, hg, r⟩
  · exact .inl ⟨rfl, h0⟩
  · exact .inr ⟨g, cap, cur, rfl, hB, (hk g rfl).trans hg, r⟩
/-- a row of cells, one an element, wherever it lies -/
def oVec (t : TypeId) (v : Value) (xs : List Value) : Ob where
  P := fun w F => w.ownsRow 0 t 1 v xs.length xs ∧ ∀ k, F k ↔ v.ownBlock = some k
  keep := fun h hk _ => ⟨ownsRow_keepk h.1 fun k e => hk k ((h.2 k).2 e), h.2⟩
  lt := fun h e => (World.ownsRow.lt h.1 _ ((h.2 _).1 e)).2
theorem Rep.keep {w w' : World} {T : Nat} {E : Nat → Prop} {l : KV} {b : Nat} (h : Rep w T E l b) (hk : ∀ k, E k → w'.heap[k]? = w.heap[k]?) (hs : w.heap.size ≤ w'.heap.size) : Rep w' T E l b := by
  obtain ⟨s, h1, h2⟩ := h
  exact ⟨s, h1.keep hk hs, h2⟩
theorem Rep.lt {w : World} {T : Nat} {E : Nat → Prop} {l : KV} {b : Nat} (h : Rep w T E l b) {k : Nat} (e : E k) : k < w.heap.size := by
  obtain ⟨s, h1, _⟩ := h
  exact h1.lt k e
/-- the tree, if there is one -/
def oTree (T : Option Nat) (l : KV) (b : Nat) : Ob where
  P := fun w F => (T = none ∧ l = [] ∧ ∀ k, ¬ F k) ∨ ∃ t, T = some t ∧ Rep w t F l b
  keep := fun h hk hs => by
    rcases h with h | ⟨t, e, h⟩
    · exact .inl h
    · exact .inr ⟨t, e, h.keep hk hs⟩
  lt := fun h e => by
    rcases h with h | ⟨t, _, h⟩
    · exact absurd e (h.2.2 _)
    · exact h.lt e
/-- versions in blocks of their own -/
structure DatP (vs : List Value) (cs : List (List Ver)) (w : World) (F : Nat → Prop) : Prop where
  len : vs.length = cs.length
  at_ : ∀ i, i < cs.length → ∃ A c, vs.getD i undef = .slice A (cs.getD i []).length c ∧ (cs.getD i []).length ≤ c ∧ SlVG w F A (cs.getD i [])
  lt : ∀ k, F k → k < w.heap.size
def oDat (vs : List Value) (cs : List (List Ver)) : Ob where
  P := DatP vs cs
  keep := fun h hk hs => ⟨h.len, fun i hi => by
    obtain ⟨A, c, e, hc, hs'⟩ := h.at_ i hi
    exact ⟨A, c, e, hc, hs'.keep hk hs⟩, fun k e => Nat.lt_of_lt_of_le (h.lt k e) hs⟩
  lt := fun h e => h.lt _ e
/-- one chain -/
def oCh (A : Option Addr) (l : List Ver) : Ob where
  P := fun w F => SlVG w F A l ∧ ∀ k, F k → k < w.heap.size
  keep := fun h hk hs => ⟨h.1.keep hk hs, fun k e => Nat.lt_of_lt_of_le (h.2 k e) hs⟩
  lt := fun h e => h.2 _ e
def oRing (q : Nat) (r : Rg) : Ob where
  P := fun w F => theR w q F r
  keep := fun ⟨v, e, h, ok⟩ hk _ => ⟨v, e, h.keep fun k q => hk k (by rw [e]; exact q), ok⟩
  lt := fun ⟨v, e, h, _⟩ q => h.lt _ (by rw [e] at q; exact q)
/-- a label -/
def oLab (v : Value) (zs : List Int) : Ob where
  P := fun w F => (∃ A c, v = .slice A zs.length c ∧ Sl w A zs ∧ (0 < zs.length → ∃ g o, A = some ⟨g, o, none⟩ ∧ F g)) ∧ ∀ k, F k → k < w.heap.size
  keep := fun h hk hs => ⟨by
    obtain ⟨A, c, e, sl, hf⟩ := h.1
    refine ⟨A, c, e, fun hp => ?_, hf⟩
    obtain ⟨g, o, e2, hg⟩ := hf hp
    obtain ⟨b, o', e3, hlt, hc⟩ := sl hp
    rw [e2] at e3
    injection e3 with e3
    injection e3 with e4 e5 _
    subst e4; subst e5
    exact ⟨g, o, e2, Nat.lt_of_lt_of_le hlt hs, fun j hj => (World.cell?_of_block (hk g hg)).trans (hc j hj)⟩, fun k e => Nat.lt_of_lt_of_le (h.2 k e) hs⟩
  lt := fun h e => h.2 _ e

section
variable {w0 w w' : World} {N : Nat → Prop} {os : List Ob} {i : Nat}
/-- the last thing becomes a part of another one -/
theorem Side.merge {o oi o' : Ob} (h : Side w0 N w (os ++ [o])) (hi : os[i]? = some oi) (hm : ∀ F F' : Nat → Prop, oi.P w F → o.P w F' → o'.P w fun k => F k ∨ F' k) : Side w0 N w (os.set i o') := by
  obtain ⟨F, h1, h2, h3, h4, h5⟩ := h
  have il : i < os.length := (List.getElem?_eq_some_iff.1 hi).1
  have la : (os ++ [o]).length = os.length + 1 := by simp
  have pl : o.P w (F os.length) := h1 os.length o Side.last
  have pi := h1 i oi (Side.idx hi)
  rw [la] at h2 h3
  refine ⟨fun j => if j = i then fun k => F i k ∨ F os.length k else F j, fun j u hj => ?_, fun j l k hj hl hn e f => ?_, fun j k hj e f => ?_, h4, h5⟩
  · show u.P w (if j = i then fun k => F i k ∨ F os.length k else F j)
    by_cases z : j = i
    · subst z
      rw [List.getElem?_set_self il] at hj
      injection hj with hj
      rw [if_pos rfl, ← hj]; exact hm _ _ pi pl
    · rw [List.getElem?_set_ne (fun e => z e.symm)] at hj
      rw [if_neg z]; exact h1 j u (Side.idx hj)
  · rw [List.length_set] at hj hl
    have e : (if j = i then fun k => F i k ∨ F os.length k else F j) k := e
    have f : (if l = i then fun k => F i k ∨ F os.length k else F l) k := f
    by_cases z : j = i
    · have y : ¬ l = i := fun y => hn (z.trans y.symm)
      rw [if_pos z] at e; rw [if_neg y] at f
      rcases e with e | e
      · exact h2 i l k (by omega) (by omega) (fun t => y t.symm) e f
      · exact h2 os.length l k (by omega) (by omega) (by omega) e f
    · rw [if_neg z] at e
      by_cases y : l = i
      · rw [if_pos y] at f
        rcases f with f | f
        · exact h2 j i k (by omega) (by omega) z e f
        · exact h2 j os.length k (by omega) (by omega) (by omega) e f
      · rw [if_neg y] at f
        exact h2 j l k (by omega) (by omega) hn e f
  · rw [List.length_set] at hj
    have e : (if j = i then fun k => F i k ∨ F os.length k else F j) k := e
    by_cases z : j = i
    · rw [if_pos z] at e
      rcases e with e | e
      · exact h3 i k (by omega) e f
      · exact h3 os.length k (by omega) e f
    · rw [if_neg z] at e; exact h3 j k (by omega) e f
/-- one of them is told otherwise, in the same blocks -/
theorem Side.tell {o o' : Ob} (h : Side w0 N w os) (hi : os[i]? = some o) (hm : ∀ F, o.P w F → o'.P w F) : Side w0 N w (os.set i o') := by
  obtain ⟨F, p, _, k⟩ := h.left hi
  exact k w o' F (Chg.refl _ _) (hm F p) fun _ e => .inl e
/-- all of them, in the blocks of F -/
def Allf (w : World) (F : Nat → Prop) (os : List Ob) : Prop :=
  ∃ Fs : Nat → Nat → Prop, (∀ (i : Nat) (o : Ob), os[i]? = some o → o.P w (Fs i)) ∧ (∀ (i j k : Nat), i < os.length → j < os.length → i ≠ j → Fs i k → ¬ Fs j k) ∧ ∀ k, F k ↔ ∃ i, i < os.length ∧ Fs i k
theorem Allf.lt {F : Nat → Prop} (h : Allf w F os) {k : Nat} (e : F k) : k < w.heap.size := by
  obtain ⟨Fs, h1, _, h3⟩ := h
  obtain ⟨i, hi, e⟩ := (h3 k).1 e
  exact (os[i]).lt (h1 i _ (List.getElem?_eq_getElem hi)) e
theorem Allf.keep {F : Nat → Prop} (h : Allf w F os) (hk : ∀ k, F k → w'.heap[k]? = w.heap[k]?) (hs : w.heap.size ≤ w'.heap.size) : Allf w' F os := by
  obtain ⟨Fs, h1, h2, h3⟩ := h
  exact ⟨Fs, fun i o e => o.keep (h1 i o e) (fun k q => hk k ((h3 k).2 ⟨i, (List.getElem?_eq_some_iff.1 e).1, q⟩)) hs, h2, h3⟩
theorem Allf.side {F : Nat → Prop} (h : Allf w F os) : Side w (fun k => k < w.heap.size ∧ ¬ F k) w os := by
  obtain ⟨Fs, h1, h2, h3⟩ := h
  exact ⟨Fs, h1, h2, fun i k hi e f => f.2 ((h3 k).2 ⟨i, hi, e⟩), fun k e => e.1, Chg.refl _ _⟩
/-- new ones -/
theorem Side.allNew (h : Side w (fun k => k < w.heap.size) w' os) : Below w.heap.size w w' ∧ ∃ F', Allf w' F' os ∧ ∀ k, F' k → w.heap.size ≤ k := by
  refine ⟨h.base (Nat.le_refl _) fun _ e => e, ?_⟩
  obtain ⟨Fs, h1, h2, h3, h4, h5⟩ := h
  refine ⟨fun k => ∃ i, i < os.length ∧ Fs i k, ⟨Fs, h1, h2, fun k => Iff.rfl⟩, fun k ⟨i, hi, e⟩ => ?_⟩
  have := h3 i k hi e
  omega
end

section
variable {w w' : World} {t : TypeId} {v : Value} {xs : List Value}
theorem vec_form (h : w.ownsRow 0 t 1 v xs.length xs) : (v = .slice none 0 0 ∧ xs = []) ∨ ∃ g c, v = .slice (some ⟨g, 0, none⟩) xs.length c ∧ xs.length ≤ c ∧ g < w.heap.size ∧ (∀ j, j < xs.length → w.cell? ⟨g, j, none⟩ = xs[j]?) ∧ ∀ j, w.frozen? ⟨g, j, none⟩ = false := by
  rcases h.2 with ⟨rfl, h0⟩ | ⟨g, cap, cur, rfl, hB, hg, hc, _⟩
  · exact .inl ⟨rfl, List.length_eq_zero_iff.1 h0⟩
  · refine .inr ⟨g, cap, rfl, hc, (Array.getElem?_eq_some_iff.1 hg).1, fun j hj => World.ownsRow.cellAt h j (by omega), fun j => ?_⟩
    have r : RowAt w g cur.toList t := by unfold RowAt; simpa using hg
    exact r.frozen j
theorem vec_set {g n c p : Nat} {u : Value} (h : w.ownsRow 0 t 1 (.slice (some ⟨g, 0, none⟩) n c) xs.length xs) : (w.setCell ⟨g, p, none⟩ u).ownsRow 0 t 1 (.slice (some ⟨g, 0, none⟩) n c) (xs.set p u).length (xs.set p u) := by
  rcases h with ⟨h1, h2 | ⟨g', cap, cur, e, hB, hg, hc, hm, hs, ht⟩⟩
  · injection h2.1 with e _ _; cases e
  · injection e with e1 e2 e3
    injection e1 with e1
    injection e1 with e1 _ _
    subst e1; subst e2; subst e3
    have r : RowAt w g cur.toList t := by unfold RowAt; simpa using hg
    have r2 := r.set p u
    refine ⟨by simp, .inr ⟨g, c, (cur.toList.set p u).toArray, by rw [List.length_set], hB, r2, by rw [List.length_set]; exact hc, hm, by simpa using hs, ?_⟩⟩
    rw [List.length_set, List.take_set, ht]
end

set_option maxRecDepth 100000 in
/-- append(v, u) -/
theorem wp_vec {w : World} {ops : Array Oper} {rest : List Oper} {o : Oper} {a : Act} {Q : Exit → Act → World → Prop} (hgd : o.guard = none) (s x : Operand) (t e : TypeId)
    (ho : o.op = .call { callee := .builtin .append, args := #[s, x], argTypes := #[t, t] }) (i0 : TypeInfo) (z : Value) (bytes : Nat) (ht : Tryz.prog.underlying t = some (.slice e)) (hi : Tryz.prog.info? e = some i0) (hz : i0.zero = some z)
    (h1 : i0.size = 1) (hby : i0.bytes = bytes) (hzs : z.cells.size = 1) (hb : bytes ≤ 100) (v : Value) (xs : List Value) (hs : a.eval s = v) (hown : w.ownsRow 0 e 1 v xs.length xs) (g : Nat) (u : Value)
    (hx : a.eval x = .slice (some ⟨g, 0, none⟩) 1 1) (hc : w.cell? ⟨g, 0, none⟩ = some u) (hu : u.oneCell' = true) (hl : xs.length ≤ 1000000)
    (k : ∀ v' w', w'.ownsRow 0 e 1 v' (xs ++ [u]).length (xs ++ [u]) → w.grownBy w' v.ownBlock → (v'.ownBlock = v.ownBlock ∨ v'.ownBlock = some w.heap.size) → wpList Tryz.prog ops Q rest (a.put o.dst v') w') : wpList Tryz.prog ops Q (o :: rest) a w := by
  refine wpList_append_own_at w hgd s x t ho 0 e i0 z 1 bytes ht hi hz h1 hby hzs (by decide) v xs.length xs hs hown ⟨g, 0, none⟩ 1 1 [u] hx rfl ?_ ?_ (by unfold maxLen; omega) (by
    have : (xs.length + 1) * bytes ≤ 1000001 * 100 := Nat.mul_le_mul (by omega) hb
    omega) (Nat.zero_le _) ?_
  · intro j y hj
    cases j with
    | zero => simp at hj; subst hj; exact hc
    | succ j => simp at hj
  · intro y hy; simp at hy; subst hy; exact hu
  · intro v' w' h1 h2 _ h4
    exact k v' w' (by rw [List.length_append, List.length_singleton]; exact h1) h2 h4

section
variable {w0 w w' : World} {N : Nat → Prop} {os : List Ob} {i : Nat} {t : TypeId} {v : Value} {xs : List Value}
theorem Side.vecAt (h : Side w0 N w os) (hi : os[i]? = some (oVec t v xs)) : w.ownsRow 0 t 1 v xs.length xs := by
  obtain ⟨F, hP⟩ := h.get hi
  exact hP.1
theorem Side.vecSet {g n c p : Nat} {u : Value} (h : Side w0 N w os) (hi : os[i]? = some (oVec t (.slice (some ⟨g, 0, none⟩) n c) xs)) : Side w0 N (w.setCell ⟨g, p, none⟩ u) (os.set i (oVec t (.slice (some ⟨g, 0, none⟩) n c) (xs.set p u))) := by
  obtain ⟨F, q, _, k⟩ := h.left hi
  exact k _ _ F ((Chg.refl _ _).setCell (.inl ((q.2 g).2 rfl)) u) ⟨vec_set q.1, q.2⟩ fun _ e => .inl e
theorem Side.vecGrow {v' u : Value} (h : Side w0 N w os) (hi : os[i]? = some (oVec t v xs)) (ho : w'.ownsRow 0 t 1 v' (xs ++ [u]).length (xs ++ [u])) (hg : w.grownBy w' v.ownBlock) (h4 : v'.ownBlock = v.ownBlock ∨ v'.ownBlock = some w.heap.size) :
    Side w0 N w' (os.set i (oVec t v' (xs ++ [u]))) := by
  obtain ⟨F, q, _, k⟩ := h.left hi
  refine k _ _ (fun k => v'.ownBlock = some k) ((Chg.refl _ _).grown hg fun b e => .inl ((q.2 b).2 e)) ⟨ho, fun _ => Iff.rfl⟩ fun b e => ?_
  rcases h4 with h4 | h4
  · exact .inl ((q.2 b).2 (by rw [← h4]; exact e))
  · rw [h4] at e
    injection e with e
    exact .inr (by omega)
/-- the last cell of a row is let go -/
theorem Side.vecPop {g n c : Nat} {u : Value} (h : Side w0 N w os) (hi : os[i]? = some (oVec t (.slice (some ⟨g, 0, none⟩) n c) (xs ++ [u]))) : Side w0 N w (os.set i (oVec t (.slice (some ⟨g, 0, none⟩) xs.length c) xs)) :=
  h.tell hi fun F q => ⟨by
    rcases q.1 with ⟨h1, h2 | ⟨g', cap, cur, e, hB, hg, hc, hm, hs, ht⟩⟩
    · injection h2.1 with e _ _; cases e
    · injection e with e1 e2 e3
      injection e1 with e1
      injection e1 with e1 _ _
      subst e1; subst e3
      refine ⟨by simp, .inr ⟨g, c, cur, rfl, hB, hg, by simp at hc; omega, hm, hs, ?_⟩⟩
      have := congrArg (List.take (xs.length * 1)) ht
      rwa [List.take_take, List.take_left' (by simp), Nat.min_eq_left (by simp)] at this, q.2⟩
/-- a chain becomes one of the data -/
theorem DatP.put {vs : List Value} {cs : List (List Ver)} {F F' : Nat → Prop} {A : Option Addr} {l : List Ver} {c p : Nat} (h : DatP vs cs w F) (hs : SlVG w F' A l ∧ ∀ k, F' k → k < w.heap.size) (hc : l.length ≤ c) (hp : p < cs.length) :
    DatP (vs.set p (Value.slice A l.length c)) (cs.set p l) w fun k => F k ∨ F' k := by
  refine ⟨by rw [List.length_set, List.length_set]; exact h.len, fun i hi => ?_, fun k e => by
    rcases e with e | e
    · exact h.lt k e
    · exact hs.2 k e⟩
  rw [List.length_set] at hi
  by_cases z : i = p
  · subst z
    have e1 : (vs.set i (Value.slice A l.length c)).getD i undef = .slice A l.length c := by
      rw [List.getD_eq_getElem?_getD, List.getElem?_set_self (by rw [h.len]; exact hi)]; rfl
    rw [e1, Fine.getD_set_self hi]
    exact ⟨A, c, rfl, hc, hs.1.mono fun k e => .inr e⟩
  · have e1 : (vs.set p (Value.slice A l.length c)).getD i undef = vs.getD i undef := by
      rw [List.getD_eq_getElem?_getD, List.getElem?_set_ne (fun e => z e.symm), List.getD_eq_getElem?_getD]
    rw [e1, Fine.getD_set_ne z]
    obtain ⟨A', c', h1, h2, h3⟩ := h.at_ i hi
    exact ⟨A', c', h1, h2, h3.mono fun k e => .inl e⟩
theorem DatP.push {vs : List Value} {cs : List (List Ver)} {F F' : Nat → Prop} {A : Option Addr} {l : List Ver} {c : Nat} (h : DatP vs cs w F) (hs : SlVG w F' A l ∧ ∀ k, F' k → k < w.heap.size) (hc : l.length ≤ c) :
    DatP (vs ++ [Value.slice A l.length c]) (cs ++ [l]) w fun k => F k ∨ F' k := by
  refine ⟨by rw [List.length_append, List.length_append, h.len]; rfl, fun i hi => ?_, fun k e => by
    rcases e with e | e
    · exact h.lt k e
    · exact hs.2 k e⟩
  rw [List.length_append, List.length_singleton] at hi
  by_cases z : i = cs.length
  · subst z
    have e1 : (vs ++ [Value.slice A l.length c]).getD cs.length undef = .slice A l.length c := by
      rw [List.getD_eq_getElem?_getD, ← h.len, List.getElem?_append_right (Nat.le_refl _), Nat.sub_self]; rfl
    have e2 : (cs ++ [l]).getD cs.length [] = l := by
      rw [List.getD_eq_getElem?_getD, List.getElem?_append_right (Nat.le_refl _), Nat.sub_self]; rfl
    rw [e1, e2]
    exact ⟨A, c, rfl, hc, hs.1.mono fun k e => .inr e⟩
  · have hi : i < cs.length := by omega
    have e1 : (vs ++ [Value.slice A l.length c]).getD i undef = vs.getD i undef := by
      rw [List.getD_eq_getElem?_getD, List.getElem?_append_left (by rw [h.len]; exact hi), List.getD_eq_getElem?_getD]
    have e2 : (cs ++ [l]).getD i [] = cs.getD i [] := by
      rw [List.getD_eq_getElem?_getD, List.getElem?_append_left hi, List.getD_eq_getElem?_getD]
    rw [e1, e2]
    obtain ⟨A', c', h1, h2, h3⟩ := h.at_ i hi
    exact ⟨A', c', h1, h2, h3.mono fun k e => .inl e⟩
end

/-- what a room's block holds, and what it leads to -/
structure Sh where
  lb : Value
  g1 : Int
  g2 : Int
  g3 : Int
  q : Nat
  tv : Value
  cv : Value
  fv : Value
  x1 : Int
  x2 : Int
  x3 : Int
  T : Option Nat
  l : KV
  bd : Nat
  vs : List Value
  cs : List (List Ver)
  fr : List Nat
  r : Rg
  zs : List Int
namespace Sh
def row (s : Sh) : List Value := [s.lb, .int .i64 s.g1, .int .i64 s.g2, .int .i64 s.g3, .pointer (some ⟨s.q, 0, none⟩), s.tv, s.cv, s.fv, .int .i64 s.x1, .int .i64 s.x2, .int .i64 s.x3]
def ptrs (T : Option Nat) : List Value := T.toList.map Ptr
def frs (fr : List Nat) : List Value := fr.map fun p : Nat => Value.int .i64 (p : Int)
def os (b : Nat) (s : Sh) : List Ob := [Ob.row b s.row 87, oTree s.T s.l s.bd, oVec 133 s.tv (ptrs s.T), oVec 95 s.cv s.vs, oVec 3 s.fv (frs s.fr), oDat s.vs s.cs, oRing s.q s.r, oLab s.lb s.zs]
/-- the shelf tells L, but for the sums; P bounds what was ever put -/
structure AtF (s : Sh) (L : Ch) (P : Nat) : Prop where
  fine : Fine s.l s.cs s.fr L
  t0 : s.T = none → s.tv = .slice none 0 0 ∧ s.l = []
  n1 : L.length ≤ P
  n2 : s.bd ≤ 29 * (2 * P - L.length)
  n3 : s.cs.length ≤ P
  n4 : P ≤ 13200
  good : GoodC L
  right : ∀ x, x ∈ L → rightL x.2 = true
  n5 : L.length ≤ 3950
/-- the shelf tells L -/
structure At (s : Sh) (L : Ch) (P : Nat) : Prop where
  f : s.AtF L P
  x1 : s.x1 = (L.live : Nat)
  x2 : s.x2 = (L.alive : Nat)
  x3 : s.x3 = (L.vers : Nat)
/-- what the shelf's functions leave alone -/
def Hd (s s' : Sh) : Prop := s'.lb = s.lb ∧ s'.g1 = s.g1 ∧ s'.g2 = s.g2 ∧ s'.g3 = s.g3 ∧ s'.q = s.q ∧ s'.r = s.r ∧ s'.zs = s.zs
end Sh
abbrev PtrS (b : Nat) : Value := .pointer (some ⟨b, 5, none⟩)

end Go.Proofs.YtiiokmfnohifmaaGreat

namespace Go.Proofs.YtiiokmfnohifmaaGreat
open Go.RowKit

set_option maxRecDepth 100000 in
/-- weight -/
theorem xWeightR (k : ByteArray) (x : Val) (w : World) (hf : x.Fits) (hs : x.txt.size ≤ 1000) (hk : k.size ≤ 1000000) (ho : x.ok = true) :
    Calls Tryz.prog 107 #[.string k, x.v] w fun e w' => e = .returned (.int .i64 ((k.size + x.pack.size : Nat) : Int)) ∧ Below w.heap.size w w' := by
  have pl := (Val.pack_size x ho).1
  have P := Lib.hid (fun w => by have := vpWeight x w hf hs; rw [ho, if_pos rfl] at this; exact this)
  obtain ⟨z, hz⟩ : ∃ z, z = x.pack.size := ⟨_, rfl⟩
  obtain ⟨n, hn⟩ : ∃ n, n = k.size + z := ⟨_, rfl⟩
  obtain ⟨m, hm⟩ : ∃ m, m = k.size := ⟨_, rfl⟩
  simp only [← hz] at P pl ⊢
  rw [← hn]
  have HN := Lib.hid (show n = m + z by rw [hn, hm])
  rw [← hm] at hk hn
  clear hz ho hf hs
  obtain ⟨nm, t, b⟩ := x
  change Hid (∀ w, Calls Tryz.prog 129 #[.agg #[.bool nm, .string t, .int .u64 (b : Int)]] w _) at P
  show Calls Tryz.prog 107 #[.string k, .agg #[.bool nm, .string t, .int .u64 (b : Int)]] w _
  have B0 := Lib.hid ((Below.refl w.heap.size w).alloc (Nat.le_refl _) (.cells #[.bool nm, .string t, .int .u64 (b : Int)] 56))
  have WR := Lib.hid (show wrap64 ((k.size : Int) + (z : Int)) = (n : Int) by rw [HN.out, hm]; unfold wrap64; omega)
  clear hn hm
  go_enter Tryz.func107, Tryz.ntmps107
  go_wp2_with fail
  refine (P.out _).mono ?_
  rintro e w1 ⟨rfl, hb1⟩
  have HB1 := Lib.hid (below_then B0.out hb1)
  clear hb1
  go_wp2_with fail
  go_ret
  exact ⟨by rw [← WR.out]; rfl, HB1.out⟩

set_option maxRecDepth 100000 in
/-- plus -/
theorem xPlusR (a b c d e f x y z : Int) (w : World) (h1 : wrap64 (a + d) = x) (h2 : wrap64 (b + e) = y) (h3 : wrap64 (c + f) = z) :
    Calls Tryz.prog 95 #[.agg #[.int .i64 a, .int .i64 b, .int .i64 c], .agg #[.int .i64 d, .int .i64 e, .int .i64 f]] w fun r w' => r = .returned (.agg #[.int .i64 x, .int .i64 y, .int .i64 z]) ∧ Below w.heap.size w w' := by
  have R0 := Lib.hid (RowAt.new ((w.alloc (.cells #[.int .i64 a, .int .i64 b, .int .i64 c] 83)).alloc (.cells #[.int .i64 d, .int .i64 e, .int .i64 f] 83)) [.int .i64 x, .int .i64 y, .int .i64 z] 83)
  have B0 := Lib.hid (((((Below.refl _ w).alloc (Nat.le_refl _) (.cells #[.int .i64 a, .int .i64 b, .int .i64 c] 83)).alloc (by simp) (.cells #[.int .i64 d, .int .i64 e, .int .i64 f] 83)).alloc (by simp; omega) (.cells #[.int .i64 x, .int .i64 y, .int .i64 z] 83)))
  go_enter Tryz.func95, Tryz.ntmps95
  go_wp2_with fail
  rw [h1, h2, h3]
  refine bodyPost_ret (results_cell_one rfl _ _ (w.heap.size + 1 + 1) _ [.int .i64 x, .int .i64 y, .int .i64 z] _ rfl (by have := R0.out; rw [show ((w.alloc (.cells #[.int .i64 a, .int .i64 b, .int .i64 c] 83)).alloc (.cells #[.int .i64 d, .int .i64 e, .int .i64 f] 83)).heap.size = w.heap.size + 1 + 1 by simp] at this; exact this) Tryz.underlying83 rfl (by kernel_rfl)) rfl ?_
  exact ⟨rfl, B0.out⟩
set_option maxRecDepth 100000 in
/-- less -/
theorem xLessR (a b c d e f x y z : Int) (w : World) (h1 : wrap64 (a - d) = x) (h2 : wrap64 (b - e) = y) (h3 : wrap64 (c - f) = z) :
    Calls Tryz.prog 93 #[.agg #[.int .i64 a, .int .i64 b, .int .i64 c], .agg #[.int .i64 d, .int .i64 e, .int .i64 f]] w fun r w' => r = .returned (.agg #[.int .i64 x, .int .i64 y, .int .i64 z]) ∧ Below w.heap.size w w' := by
  have R0 := Lib.hid (RowAt.new ((w.alloc (.cells #[.int .i64 a, .int .i64 b, .int .i64 c] 83)).alloc (.cells #[.int .i64 d, .int .i64 e, .int .i64 f] 83)) [.int .i64 x, .int .i64 y, .int .i64 z] 83)
  have B0 := Lib.hid (((((Below.refl _ w).alloc (Nat.le_refl _) (.cells #[.int .i64 a, .int .i64 b, .int .i64 c] 83)).alloc (by simp) (.cells #[.int .i64 d, .int .i64 e, .int .i64 f] 83)).alloc (by simp; omega) (.cells #[.int .i64 x, .int .i64 y, .int .i64 z] 83)))
  go_enter Tryz.func93, Tryz.ntmps93
  go_wp2_with fail
  rw [h1, h2, h3]
  refine bodyPost_ret (results_cell_one rfl _ _ (w.heap.size + 1 + 1) _ [.int .i64 x, .int .i64 y, .int .i64 z] _ rfl (by have := R0.out; rw [show ((w.alloc (.cells #[.int .i64 a, .int .i64 b, .int .i64 c] 83)).alloc (.cells #[.int .i64 d, .int .i64 e, .int .i64 f] 83)).heap.size = w.heap.size + 1 + 1 by simp] at this; exact this) Tryz.underlying83 rfl (by kernel_rfl)) rfl ?_
  exact ⟨rfl, B0.out⟩

theorem last_right {l : List Ver} (h : rightL l = true) (hg : GoodL l) (hp : 0 < l.length) : (lastL l).val.Fits ∧ (lastL l).val.txt.size ≤ 1000 ∧ (lastL l).val.ok = true := by
  have hi : l.length - 1 < l.length := by omega
  have := (rightL_iff l).1 h _ hi
  obtain ⟨x1, x2⟩ := hg.get hi
  unfold mayV at this
  simp only [Bool.and_eq_true] at this
  exact ⟨x1, x2, this.2.2.1⟩
theorem wgt_last {l : List Ver} {k : ByteArray} (h : rightL l = true) (hg : GoodL l) : Ch.wgt (k, l) = if l.length = 0 ∨ (lastL l).gone = true then 0 else k.size + (lastL l).val.pack.size := by
  show (if weightL l = 0 then 0 else weightL l + k.size) = _
  unfold weightL
  by_cases z : l.length = 0 ∨ (lastL l).gone = true
  · rw [if_pos z, if_pos z, if_pos rfl]
  · rw [if_neg z, if_neg z]
    have hp : 0 < l.length := by
      have : ¬ l.length = 0 := fun e => z (.inl e)
      omega
    have := (Val.pack_size _ (last_right h hg hp).2.2).2
    rw [if_neg (by omega)]
    show _ + k.size = _
    omega
set_option maxRecDepth 100000 in
set_option maxHeartbeats 1000000 in
/-- sumsOf -/
theorem xSumsR (k : ByteArray) (l : List Ver) (A : Option Addr) (c : Nat) (w : World) (h : SlV w A l) (hg : GoodL l) (hr : rightL l = true) (hk : k.size ≤ 1000000) :
    Calls Tryz.prog 94 #[.string k, .slice A l.length c] w fun e w' => e = .returned (.agg #[.int .i64 (Ch.wgt (k, l) : Nat), .int .i64 (Ch.aliv (k, l) : Nat), .int .i64 (l.length : Nat)]) ∧ Below w.heap.size w w' := by
  have CL := fun W (hs : SlV W A l) => xLast9 l A c W hs hg
  have e1 := wgt_last (k := k) hr hg
  have e2 : Ch.aliv (k, l) = if l.length = 0 ∨ (lastL l).gone = true then 0 else 1 := rfl
  obtain ⟨a, ha⟩ : ∃ a, a = Ch.wgt (k, l) := ⟨_, rfl⟩
  obtain ⟨b, hb⟩ : ∃ a, a = Ch.aliv (k, l) := ⟨_, rfl⟩
  obtain ⟨y, hy⟩ : ∃ y, y = (if (rightL l && decide (0 < l.length)) = true then lastL l else Ver.Z) := ⟨_, rfl⟩
  obtain ⟨D, hD⟩ : ∃ D, D = decide (0 < l.length) := ⟨_, rfl⟩
  rw [hr, Bool.true_and, ← hD] at hy
  simp only [hr, Bool.true_and, ← hD, ← hy] at CL
  have LR := Lib.hid (fun (hd : D = true) => show y.val.Fits ∧ y.val.txt.size ≤ 1000 ∧ y.val.ok = true from by
    rw [hy, if_pos hd]
    exact last_right hr hg (by rw [hD] at hd; exact of_decide_eq_true hd))
  have EA := Lib.hid (show a = if D = false ∨ y.gone = true then 0 else k.size + y.val.pack.size from by
    rw [ha, e1, hy]
    by_cases z : l.length = 0
    · have : D = false := by rw [hD]; exact decide_eq_false (by omega)
      rw [if_pos (.inl z), this]; rfl
    · have : D = true := by rw [hD]; exact decide_eq_true (by omega)
      rw [this]
      simp [z])
  have EB := Lib.hid (show b = if D = false ∨ y.gone = true then 0 else 1 from by
    rw [hb, e2, hy]
    by_cases z : l.length = 0
    · have : D = false := by rw [hD]; exact decide_eq_false (by omega)
      rw [if_pos (.inl z), this]; rfl
    · have : D = true := by rw [hD]; exact decide_eq_true (by omega)
      rw [this]
      simp [z])
  obtain ⟨n, hn⟩ : ∃ n, n = l.length := ⟨_, rfl⟩
  rw [← ha, ← hb, ← hn]
  simp only [← hn] at CL
  have CL : ∀ W, SlV W A l → Calls Tryz.prog 106 #[.slice A n c] W fun e w' => e = .returned (.tuple #[.agg #[.int .i64 y.seq, .bool y.gone, .bool y.val.num, .string y.val.txt, .int .u64 (y.val.bits : Int)], .bool D]) ∧ Below W.heap.size W w' := CL
  have CL := Lib.hid CL
  have CW := Lib.hid (fun (hd : D = true) w => xWeightR k y.val w (LR.out hd).1 (LR.out hd).2.1 hk (LR.out hd).2.2)
  have g0 := RowAt.new w [.int .i64 0, .int .i64 0, .int .i64 0] 83
  obtain ⟨B, hB⟩ : ∃ B, B = w.heap.size := ⟨_, rfl⟩
  have b0 : Below w.heap.size w (w.alloc (.cells #[.int .i64 0, .int .i64 0, .int .i64 0] 83)) := (Below.refl _ _).alloc (Nat.le_refl _) _
  have S0 := Lib.hid (h.below b0)
  rw [← hB] at g0 b0 ⊢
  have G0 := Lib.hid g0
  have B0 := Lib.hid b0
  have HB := Lib.hid hB
  obtain ⟨sq, gn, v⟩ := y
  obtain ⟨m, t, u⟩ := v
  clear h hg hr hk e1 e2 ha hb hy hD hn LR g0 b0 hB
  go_enter Tryz.func94, Tryz.ntmps94
  go_wp2_with fail
  rw [← HB.out]
  refine (CL.out _ S0.out).mono ?_
  rintro e w1 ⟨rfl, hb1⟩
  have G1 := Lib.hid (G0.out.below hb1)
  have B1 := Lib.hid (B0.out.trans (hb1.mono (by rw [HB.out]; simp)))
  clear hb1
  have END := Lib.hid (fun (W : World) (x1 x2 x3 : Int) (r : RowAt W B [.int .i64 x1, .int .i64 x2, .int .i64 x3] 83) (tm : Array Value) (hp : tm.getD 4 undef = .pointer (some ⟨B, 0, none⟩)) => results_cell_one (fn := Tryz.f94) rfl tm W B _ [.int .i64 x1, .int .i64 x2, .int .i64 x3] _ hp r Tryz.underlying83 rfl (by kernel_rfl))
  have LT := Lib.hid (show B < w1.heap.size from G1.out.lt)
  have AL := Lib.hid (G1.out.alloc (.cells #[.int .i64 sq, .bool gn, .bool m, .string t, .int .u64 (u : Int)] 92))
  have AB := Lib.hid (B1.out.alloc (Nat.le_of_lt LT.out) (.cells #[.int .i64 sq, .bool gn, .bool m, .string t, .int .u64 (u : Int)] 92))
  have f0 := AL.out.frozen 0
  have f1 := AL.out.frozen 1
  have f2 := AL.out.frozen 2
  have d0 := AL.out.cell 0
  have d1 := AL.out.cell 1
  have d2 := AL.out.cell 2
  simp only [List.getElem?_cons_succ, List.getElem?_cons_zero] at d0 d1 d2
  by_cases q : D = true ∧ gn = false
  · obtain ⟨rfl, rfl⟩ := q
    have ea : a = k.size + (Val.pack ⟨m, t, u⟩).size := EA.out
    have eb : b = 1 := EB.out
    have CX := Lib.hid (fun w => CW.out rfl w)
    obtain ⟨z, hz⟩ : ∃ z, z = k.size + (Val.pack ⟨m, t, u⟩).size := ⟨_, rfl⟩
    simp only [← hz] at CX ea
    have CX : Hid (∀ w, Calls Tryz.prog 107 #[.string k, .agg #[.bool m, .string t, .int .u64 (u : Int)]] w fun e w' => e = .returned (.int .i64 (z : Nat)) ∧ Below w.heap.size w w') := CX
    subst ea; subst eb
    clear CW EA EB CL hz
    go_wp2_with fail
    refine (CX.out _).mono ?_
    rintro e w2 ⟨rfl, hb2⟩
    have G2 := Lib.hid (AL.out.below hb2)
    have B2 := Lib.hid (AB.out.trans (hb2.mono (by simp; have := LT.out; omega)))
    clear f0 f1 f2 d0 d1 d2
    have f0 := G2.out.frozen 0
    have f1 := G2.out.frozen 1
    have f2 := G2.out.frozen 2
    have d0 := G2.out.cell 0
    have d1 := G2.out.cell 1
    have d2 := G2.out.cell 2
    simp only [List.getElem?_cons_succ, List.getElem?_cons_zero] at d0 d1 d2
    clear hb2
    go_wp2_with fail
    refine bodyPost_ret (END.out _ _ _ _ (((G2.out.set 0 _).set 1 _).set 2 _) _ rfl) rfl ⟨rfl, ((B2.out.setCell (p := ⟨B, 0, none⟩) (Nat.le_refl _) _).setCell (p := ⟨B, 1, none⟩) (Nat.le_refl _) _).setCell (p := ⟨B, 2, none⟩) (Nat.le_refl _) _⟩
  · have q2 : D = false ∨ gn = true := by
      cases D
      · exact .inl rfl
      · cases gn
        · exact absurd ⟨rfl, rfl⟩ q
        · exact .inr rfl
    have ea : a = 0 := by rw [EA.out, if_pos q2]
    have eb : b = 0 := by rw [EB.out, if_pos q2]
    subst ea; subst eb
    clear CW EA EB CL q
    cases D with
    | false =>
      clear q2
      go_wp2_with fail
      refine bodyPost_ret (END.out _ _ _ _ (((AL.out.set 0 _).set 1 _).set 2 _) _ rfl) rfl ⟨rfl, ((AB.out.setCell (p := ⟨B, 0, none⟩) (Nat.le_refl _) _).setCell (p := ⟨B, 1, none⟩) (Nat.le_refl _) _).setCell (p := ⟨B, 2, none⟩) (Nat.le_refl _) _⟩
    | true =>
      have e : gn = true := by rcases q2 with q2 | q2; cases q2; exact q2
      subst e
      clear q2
      go_wp2_with fail
      refine bodyPost_ret (END.out _ _ _ _ (((AL.out.set 0 _).set 1 _).set 2 _) _ rfl) rfl ⟨rfl, ((AB.out.setCell (p := ⟨B, 0, none⟩) (Nat.le_refl _) _).setCell (p := ⟨B, 1, none⟩) (Nat.le_refl _) _).setCell (p := ⟨B, 2, none⟩) (Nat.le_refl _) _⟩

end Go.Proofs.YtiiokmfnohifmaaGreat

namespace Go.Proofs.YtiiokmfnohifmaaGreat
open Go.RowKit

section
variable {w0 w : World} {N : Nat → Prop} {b : Nat} {s : Sh} {L : Ch} {P : Nat} {os2 : List Ob}
theorem Sh.rowAt (h : Side w0 N w (s.os b ++ os2)) : RowAt w b s.row 87 := h.rowAt (i := 0) rfl
theorem Sh.fits (a : s.AtF L P) : s.l.length ≤ 4000 ∧ ∀ x, x ∈ s.l → x.1.size ≤ 1000000 :=
  ⟨by rw [a.fine.llen]; have := a.n5; omega, fun x hx => by have := a.fine.kmem (k := x.1) (p := x.2) hx; omega⟩
theorem Sh.tview (h : Side w0 N w (s.os b ++ os2)) (a : s.AtF L P) : (s.T = none ∧ s.l = [] ∧ s.tv = .slice none 0 0) ∨
    ∃ t g c E, s.T = some t ∧ s.tv = .slice (some ⟨g, 0, none⟩) 1 c ∧ w.cell? ⟨g, 0, none⟩ = some (Ptr t) ∧ Rep w t E s.l s.bd := by
  obtain ⟨F, hP⟩ := h.get (i := 1) rfl
  have hv := h.vecAt (i := 2) (t := 133) (v := s.tv) (xs := Sh.ptrs s.T) rfl
  rcases hP with ⟨e, e2, _⟩ | ⟨t, e, hr⟩
  · exact .inl ⟨e, e2, (a.t0 e).1⟩
  · refine .inr ?_
    rw [e] at hv
    rcases vec_form hv with ⟨_, e3⟩ | ⟨g, c, e3, hc, hg, hcell, _⟩
    · cases e3
    · exact ⟨t, g, c, F, e, e3, hcell 0 (by show 0 < 1; decide), hr⟩
set_option maxRecDepth 100000 in
set_option maxHeartbeats 1000000 in
/-- find -/
theorem xFindR (h : Side w0 N w (s.os b ++ os2)) (a : s.AtF L P) (k : ByteArray) :
    Calls Tryz.prog 96 #[PtrS b, .string k] w fun e w' => ∃ tp p, e = .returned (.tuple #[tp, .int .i64 p]) ∧ Below w.heap.size w w' ∧ (L.has k = false → tp = .pointer none ∧ p = 0) ∧ (L.has k = true → ∃ t, s.T = some t ∧ tp = Ptr t ∧ p = s.l.num (s.l.pos k)) := by
  have c5 := (Sh.rowAt h).cell 5
  simp only [Sh.row, List.getElem?_cons_succ, List.getElem?_cons_zero] at c5
  have hh := a.fine.has k
  rcases Sh.tview h a with ⟨e1, e2, e3⟩ | ⟨t, g, c, E, e1, e2, c0, hr⟩
  · have hn : L.has k = false := by rw [← hh, e2]; rfl
    have HN := Lib.hid hn
    rw [e3] at c5
    clear h a e1 e2 e3 hh hn
    go_enter Tryz.func96, Tryz.ntmps96
    go_wp2_with fail
    refine wp_loop_rounds 1 ?_
    rw [rounds_succ]
    go_wp2_with fail
    go_ret2
    exact ⟨_, _, rfl, Below.refl _ _, fun _ => ⟨rfl, rfl⟩, fun z => by rw [HN.out] at z; cases z⟩
  · obtain ⟨f1, f2⟩ := Sh.fits a
    have GC := Lib.hid (xGet w t E s.l s.bd k hr f1)
    rw [e2] at c5
    have HT := Lib.hid e1
    cases hk : s.l.has k with
    | false =>
      rw [hk] at GC
      simp only [Bool.false_eq_true, if_false] at GC
      have HL := Lib.hid (show L.has k = false by rw [← hh, hk])
      clear h a e1 e2 hh hr f1 f2 hk
      go_enter Tryz.func96, Tryz.ntmps96
      go_wp2_with fail
      refine wp_loop_rounds 2 ?_
      rw [rounds_succ]
      go_wp2_with fail
      refine GC.out.mono ?_
      rintro e w1 ⟨rfl, hb⟩
      have HB := Lib.hid hb
      clear hb
      go_wp2_with fail
      rw [rounds_succ]
      go_wp2_with fail
      go_ret2
      exact ⟨_, _, rfl, HB.out, fun _ => ⟨rfl, rfl⟩, fun z => by rw [HL.out] at z; cases z⟩
    | true =>
      rw [hk, if_pos rfl] at GC
      have HL := Lib.hid (show L.has k = true by rw [← hh, hk])
      obtain ⟨p, hp⟩ : ∃ p, p = s.l.num (s.l.pos k) := ⟨_, rfl⟩
      rw [← hp] at GC ⊢
      clear h a e1 e2 hh hr f1 f2 hk hp
      go_enter Tryz.func96, Tryz.ntmps96
      go_wp2_with fail
      refine wp_loop_rounds 2 ?_
      rw [rounds_succ]
      go_wp2_with fail
      refine GC.out.mono ?_
      rintro e w1 ⟨rfl, hb⟩
      have HB := Lib.hid hb
      clear hb
      go_wp2_with fail
      go_ret2
      exact ⟨_, _, rfl, HB.out, fun z => (by rw [HL.out] at z; cases z), fun _ => ⟨t, HT.out, rfl, rfl⟩⟩
/-- a chain at hand -/
theorem Sh.cview (h : Side w0 N w (s.os b ++ os2)) {n : Nat} (hn : n < s.cs.length) : ∃ g c A c2, s.cv = .slice (some ⟨g, 0, none⟩) s.cs.length c ∧ w.cell? ⟨g, n, none⟩ = some (.slice A (s.cs.getD n []).length c2) ∧ w.frozen? ⟨g, n, none⟩ = false ∧ (s.cs.getD n []).length ≤ c2 ∧ SlV w A (s.cs.getD n []) := by
  have hv := h.vecAt (i := 3) (t := 95) (v := s.cv) (xs := s.vs) rfl
  obtain ⟨F, hP⟩ := h.get (i := 5) (o := oDat s.vs s.cs) rfl
  have hl : s.vs.length = s.cs.length := hP.len
  obtain ⟨A, c2, e, hc, hs⟩ := hP.at_ n hn
  rcases vec_form hv with ⟨_, e3⟩ | ⟨g, c, e3, _, hg, hcell, hf⟩
  · rw [e3] at hl; simp at hl; omega
  · rw [hl] at e3
    refine ⟨g, c, A, c2, e3, ?_, hf n, hc, hs.1⟩
    rw [hcell n (by omega), ← e, List.getD_eq_getElem?_getD, List.getElem?_eq_getElem (by omega)]; rfl
set_option maxRecDepth 100000 in
set_option maxHeartbeats 1000000 in
/-- chain -/
theorem xChainR (h : Side w0 N w (s.os b ++ os2)) (a : s.AtF L P) (k : ByteArray) :
    Calls Tryz.prog 68 #[PtrS b, .string k] w fun e w' => ∃ A c, e = .returned (.slice A (L.of k).length c) ∧ (L.of k).length ≤ c ∧ SlV w' A (L.of k) ∧ Below w.heap.size w w' := by
  have FC := Lib.hid (xFindR h a k)
  cases hk : L.has k with
  | false =>
    have eo := Lib.hid (Ch.of_no hk)
    have FC := Lib.hid (FC.out.mono (R' := fun e w' => e = .returned (.tuple #[.pointer none, .int .i64 0]) ∧ Below w.heap.size w w') fun e w' ⟨tp, p, h1, h2, h3, _⟩ => by obtain ⟨rfl, rfl⟩ := h3 hk; exact ⟨h1, h2⟩)
    rw [eo.out]
    clear h a hk
    go_enter Tryz.func68, Tryz.ntmps68
    go_wp2_with fail
    refine FC.out.mono ?_
    rintro e w1 ⟨rfl, hb⟩
    have HB := Lib.hid hb
    clear hb
    go_wp2_with fail
    go_ret
    exact ⟨none, 0, rfl, Nat.le_refl _, SlV.nil _ _, HB.out⟩
  | true =>
    obtain ⟨n, n1, n2, n3, _, _⟩ := a.fine.place hk
    obtain ⟨t, ht⟩ : ∃ t, s.T = some t := by
      rcases Sh.tview h a with ⟨_, e2, _⟩ | ⟨t, _, _, _, e1, _⟩
      · have := a.fine.has k; rw [e2, hk] at this; cases this
      · exact ⟨t, e1⟩
    have FC := Lib.hid (FC.out.mono (R' := fun e w' => e = .returned (.tuple #[Ptr t, .int .i64 (n : Int)]) ∧ Below w.heap.size w w') fun e w' ⟨tp, p, h1, h2, _, h4⟩ => by
      obtain ⟨t', e1, rfl, rfl⟩ := h4 hk
      rw [ht] at e1
      injection e1 with e1
      subst e1
      rw [n1] at h1
      exact ⟨h1, h2⟩)
    have CV := Lib.hid (fun W (hb : Below w.heap.size w W) => show ∃ g c A c2, W.cell? ⟨b, 6, none⟩ = some (.slice (some ⟨g, 0, none⟩) s.cs.length c) ∧ W.cell? ⟨g, n, none⟩ = some (.slice A (L.of k).length c2) ∧ (L.of k).length ≤ c2 ∧ SlV W A (L.of k) from by
      obtain ⟨g, c, A, c2, e1, e2, _, e4, e5⟩ := Sh.cview (h.below hb) n2
      have c6 := (Sh.rowAt (h.below hb)).cell 6
      simp only [Sh.row, List.getElem?_cons_succ, List.getElem?_cons_zero] at c6
      rw [n3] at e2 e4 e5
      rw [e1] at c6
      exact ⟨g, c, A, c2, c6, e2, e4, e5⟩)
    have bn := a.n3
    have b4 := a.n4
    obtain ⟨M, hM⟩ : ∃ M, M = s.cs.length := ⟨_, rfl⟩
    obtain ⟨l, hl⟩ : ∃ l, l = L.of k := ⟨_, rfl⟩
    obtain ⟨m, hm⟩ : ∃ m, m = l.length := ⟨_, rfl⟩
    rw [← hl] at CV ⊢
    rw [← hm] at CV ⊢
    rw [← hM] at n2 bn
    simp only [← hM] at CV
    clear h a hk ht n1 n3 hM hl hm
    go_enter Tryz.func68, Tryz.ntmps68
    go_wp2_with fail
    refine FC.out.mono ?_
    rintro e w1 ⟨rfl, hb⟩
    obtain ⟨g, c, A, c2, q1, q2, q3, q4⟩ := CV.out w1 hb
    have HB := Lib.hid hb
    have Q3 := Lib.hid q3
    have Q4 := Lib.hid q4
    clear hb q3 q4 CV
    have i0 : (0 : Int) ≤ (n : Int) := by omega
    have i1 : (n : Int) < (M : Int) := by omega
    go_wp2_with fail
    go_ret
    exact ⟨A, c2, rfl, Q3.out, Q4.out, HB.out⟩
end

end Go.Proofs.YtiiokmfnohifmaaGreat
