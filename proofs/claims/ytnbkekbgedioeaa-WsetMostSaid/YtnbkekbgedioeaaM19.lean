/- Proved parts: D2p. Conditions: each theorem's own. -/
import Derived.Test.YtnbkekbgedioeaaM18
import Derived.Test.YtnbkekbgedioeaaM8
namespace Go.Proofs.Ytnbkekbgedioeaa
open Go.RowKit

namespace Wl
theorem rise_iff (L : Wl) : L.Rise ↔ L.Pairwise fun x y => ltB x.key y.key = true := by
  unfold Rise Ch.Rise ch
  rw [List.pairwise_map]
theorem mem_take {L : Wl} {k : ByteArray} {y : Wr} (h : y ∈ L.take (L.pos k)) : ltB y.key k = true := by
  obtain ⟨i, hi, rfl⟩ := List.mem_iff_getElem.1 h
  rw [List.length_take] at hi
  have hi2 : i < L.pos k := by omega
  have := below hi2
  unfold key at this
  rw [← get (by omega)] at this
  rwa [List.getElem_take]
theorem mem_drop {L : Wl} {k : ByteArray} {y : Wr} (hr : L.Rise) (h : y ∈ L.drop (L.aft k)) : ltB k y.key = true := by
  obtain ⟨i, hi, rfl⟩ := List.mem_iff_getElem.1 h
  rw [List.length_drop] at hi
  have := (le_of (k := k) hr (j := L.aft k + i) (by omega)).1.2 (Nat.le_add_right _ _)
  unfold key at this
  rw [← get (by omega)] at this
  rwa [List.getElem_drop]
theorem put_rise {L : Wl} (hr : L.Rise) (x : Wr) : (L.put x).Rise := by
  rw [rise_iff]
  have p := (rise_iff L).1 hr
  unfold put
  rw [List.pairwise_append]
  refine ⟨p.sublist (List.take_sublist _ _), List.pairwise_cons.2 ⟨fun y hy => mem_drop hr hy, p.sublist (List.drop_sublist _ _)⟩, fun y hy z hz => ?_⟩
  have a := mem_take hy
  rcases List.mem_cons.1 hz with rfl | hz
  · exact a
  · exact ltB_trans a (mem_drop hr hz)
theorem put_mem {L : Wl} {x y : Wr} (h : y ∈ L.put x) : y = x ∨ y ∈ L := by
  unfold put at h
  rcases List.mem_append.1 h with h | h
  · exact .inr (List.mem_of_mem_take h)
  · rcases List.mem_cons.1 h with h | h
    · exact .inl h
    · exact .inr (List.mem_of_mem_drop h)
theorem wE_zero {L : Wl} {x : Wr} : wE L x = 0 ↔ may x = true ∧ ¬ (L.has x.key = false ∧ 16 ≤ L.length) := by
  unfold wE
  cases may x with
  | false => simp
  | true =>
    rw [if_pos rfl]
    by_cases q : L.has x.key = false ∧ 16 ≤ L.length
    · rw [if_pos q]; exact ⟨fun e => (by cases e), fun e => absurd q e.2⟩
    · rw [if_neg q]; exact ⟨fun _ => ⟨rfl, q⟩, fun _ => rfl⟩
end Wl
theorem OkWl.nil : OkWl [] := ⟨(Wl.rise_iff []).2 List.Pairwise.nil, Nat.zero_le _, fun x hx => by cases hx⟩
theorem OkWl.wr {L : Wl} (h : OkWl L) {x : Wr} (hx : x.val.bits < 18446744073709551616) : OkWl (L.wL x) := by
  unfold Wl.wL
  by_cases e : L.wE x = 0
  · rw [if_pos e]
    obtain ⟨e1, e2⟩ := Wl.wE_zero.1 e
    refine ⟨Wl.put_rise h.rise x, ?_, fun y hy => ?_⟩
    · have := (Wl.put_big h.len x)
      exact Nat.le_of_not_lt fun a => e2 (this.1 a)
    · rcases Wl.put_mem hy with rfl | hy
      · exact ⟨e1, hx⟩
      · exact h.may y hy
  · rw [if_neg e]; exact h

/-- writes, and what they were at each mark -/
structure Ws where
  L : Wl
  M : List Wl
namespace Ws
structure Ok (m : Ws) : Prop where
  l : OkWl m.L
  ms : ∀ l, l ∈ m.M → OkWl l
  len : m.M.length ≤ 4
def new : Ws := ⟨[], []⟩
def wr (m : Ws) (x : Wr) : Ws := ⟨m.L.wL x, m.M⟩
def mkE (m : Ws) : Int := if 4 ≤ m.M.length then 5 else 0
def mkN (m : Ws) : Int := if 4 ≤ m.M.length then 0 else (m.M.length : Int) + 1
def mk' (m : Ws) : Ws := if 4 ≤ m.M.length then m else ⟨m.L, m.M ++ [m.L]⟩
def bkE (m : Ws) (n : Int) : Int := if n < 1 ∨ (m.M.length : Int) < n then 7 else 0
def bk (m : Ws) (n : Int) : Ws := if n < 1 ∨ (m.M.length : Int) < n then m else ⟨m.M.getD (n.toNat - 1) [], m.M.take n.toNat⟩
theorem ok_new : new.Ok := ⟨OkWl.nil, fun l hl => (by cases hl), Nat.zero_le _⟩
theorem ok_wr {m : Ws} (h : m.Ok) {x : Wr} (hx : x.val.bits < 18446744073709551616) : (m.wr x).Ok := ⟨h.l.wr hx, h.ms, h.len⟩
theorem ok_mk {m : Ws} (h : m.Ok) : m.mk'.Ok := by
  unfold mk'
  by_cases q : 4 ≤ m.M.length
  · rw [if_pos q]; exact h
  · rw [if_neg q]
    refine ⟨h.l, fun l hl => ?_, by show (m.M ++ [m.L]).length ≤ 4; rw [List.length_append, List.length_singleton]; omega⟩
    rcases List.mem_append.1 hl with hl | hl
    · exact h.ms l hl
    · rw [List.mem_singleton] at hl; rw [hl]; exact h.l
theorem ok_bk {m : Ws} (h : m.Ok) (n : Int) : (m.bk n).Ok := by
  unfold bk
  by_cases q : n < 1 ∨ (m.M.length : Int) < n
  · rw [if_pos q]; exact h
  · rw [if_neg q]
    have q1 : n.toNat - 1 < m.M.length := by omega
    refine ⟨?_, fun l hl => h.ms l (List.mem_of_mem_take hl), by show (m.M.take n.toNat).length ≤ 4; rw [List.length_take]; have := h.len; omega⟩
    show OkWl (m.M.getD (n.toNat - 1) [])
    rw [List.getD_eq_getElem?_getD, List.getElem?_eq_getElem q1]
    exact h.ms _ (List.getElem_mem q1)
theorem Ok.mark {m : Ws} (h : m.Ok) {i : Nat} (hi : i < m.M.length) : OkWl (m.M.getD i []) := by
  rw [List.getD_eq_getElem?_getD, List.getElem?_eq_getElem hi]
  exact h.ms _ (List.getElem_mem hi)
end Ws

/-- a row of writes -/
def oWr (v : Value) (l : Wl) : Ob where
  P := fun w F => NodeAtW w v l ∧ ∀ k, F k ↔ v.ownBlock = some k
  keep := fun h hk _ => ⟨h.1.keep fun k e => hk k ((h.2 k).2 e), h.2⟩
  lt := fun h e => h.1.lt ((h.2 _).1 e)
/-- what the marks have, in blocks of their own -/
structure MkP (vs : List Value) (M : List Wl) (w : World) (F : Nat → Prop) : Prop where
  len : vs.length = M.length
  at_ : ∀ i, i < M.length → NodeAtW w (vs.getD i undef) (M.getD i []) ∧ ∀ k, (vs.getD i undef).ownBlock = some k → F k
  lt : ∀ k, F k → k < w.heap.size
def oMk (vs : List Value) (M : List Wl) : Ob where
  P := MkP vs M
  keep := fun h hk hs => ⟨h.len, fun i hi => ⟨(h.at_ i hi).1.keep fun k e => hk k ((h.at_ i hi).2 k e), (h.at_ i hi).2⟩, fun k e => Nat.lt_of_lt_of_le (h.lt k e) hs⟩
  lt := fun h e => h.lt _ e
theorem MkP.push {vs : List Value} {M : List Wl} {w : World} {F F' : Nat → Prop} {v : Value} {l : Wl} (h : MkP vs M w F) (h2 : NodeAtW w v l ∧ ∀ k, F' k ↔ v.ownBlock = some k) : MkP (vs ++ [v]) (M ++ [l]) w fun k => F k ∨ F' k := by
  refine ⟨by rw [List.length_append, List.length_append, h.len]; rfl, fun i hi => ?_, fun k e => ?_⟩
  · rw [List.length_append, List.length_singleton] at hi
    by_cases q : i < M.length
    · rw [List.getD_eq_getElem?_getD, List.getElem?_append_left (by rw [h.len]; exact q), ← List.getD_eq_getElem?_getD, List.getD_eq_getElem?_getD (l := M ++ [l]), List.getElem?_append_left q, ← List.getD_eq_getElem?_getD]
      exact ⟨(h.at_ i q).1, fun k e => .inl ((h.at_ i q).2 k e)⟩
    · obtain rfl : i = M.length := by omega
      have e1 : (vs ++ [v]).getD M.length undef = v := by rw [List.getD_eq_getElem?_getD, List.getElem?_append_right (by rw [h.len]; exact Nat.le_refl _), h.len, Nat.sub_self]; rfl
      have e2 : (M ++ [l]).getD M.length [] = l := by rw [List.getD_eq_getElem?_getD, List.getElem?_append_right (Nat.le_refl _), Nat.sub_self]; rfl
      rw [e1, e2]
      exact ⟨h2.1, fun k e => .inr ((h2.2 k).2 e)⟩
  · rcases e with e | e
    · exact h.lt k e
    · exact h2.1.lt ((h2.2 k).1 e)
theorem MkP.take {vs : List Value} {M : List Wl} {w : World} {F : Nat → Prop} (n : Nat) (h : MkP vs M w F) : MkP (vs.take n) (M.take n) w F := by
  refine ⟨by rw [List.length_take, List.length_take, h.len], fun i hi => ?_, h.lt⟩
  rw [List.length_take] at hi
  rw [List.getD_eq_getElem?_getD, List.getElem?_take, if_pos (by omega), ← List.getD_eq_getElem?_getD, List.getD_eq_getElem?_getD (l := M.take n), List.getElem?_take, if_pos (by omega), ← List.getD_eq_getElem?_getD]
  exact h.at_ i (by omega)
/-- a set at block b, its struct's type t: what it leads to -/
def sOs (t : TypeId) (b : Nat) (v vm : Value) (vs : List Value) (m : Ws) : List Ob := [Ob.row b [v, vm] t, oWr v m.L, oVec 27 vm vs, oMk vs m.M]
section
variable {w0 w w' : World} {N : Nat → Prop} {t : TypeId} {b : Nat} {v vm : Value} {vs : List Value} {m : Ws} {os2 : List Ob}
theorem Sets.row (h : Side w0 N w (sOs t b v vm vs m ++ os2)) : RowAt w b [v, vm] t := h.rowAt (i := 0) rfl
theorem Sets.node (h : Side w0 N w (sOs t b v vm vs m ++ os2)) : NodeAtW w v m.L := by
  obtain ⟨F, hP⟩ := h.get (i := 1) (o := oWr v m.L) rfl
  exact hP.1
theorem Sets.marks (h : Side w0 N w (sOs t b v vm vs m ++ os2)) : vs.length = m.M.length ∧ ∀ i, i < m.M.length → NodeAtW w (vs.getD i undef) (m.M.getD i []) := by
  obtain ⟨F, hP⟩ := h.get (i := 3) (o := oMk vs m.M) rfl
  exact ⟨hP.len, fun i hi => (hP.at_ i hi).1⟩
theorem Sets.vec (h : Side w0 N w (sOs t b v vm vs m ++ os2)) : w.ownsRow 0 27 1 vm vs.length vs := h.vecAt (i := 2) rfl
theorem Sets.form (h : Side w0 N w (sOs t b v vm vs m ++ os2)) : ∃ A c, vm = .slice A m.M.length c ∧ m.M.length ≤ c ∧ (0 < m.M.length → ∃ g, A = some ⟨g, 0, none⟩ ∧ ∀ j, j < m.M.length → w.cell? ⟨g, j, none⟩ = some (vs.getD j undef)) := by
  have hl := (Sets.marks h).1
  rcases vec_form (Sets.vec h) with ⟨e, e2⟩ | ⟨g, c, e, hc, _, hcell, _⟩
  · rw [e2] at hl
    exact ⟨none, 0, by rw [e, ← hl]; rfl, by rw [← hl]; exact Nat.le_refl _, fun hp => by rw [← hl] at hp; exact absurd hp (by simp)⟩
  · rw [hl] at e hc hcell
    refine ⟨_, c, e, hc, fun _ => ⟨g, rfl, fun j hj => ?_⟩⟩
    rw [hcell j hj, List.getD_eq_getElem?_getD, List.getElem?_eq_getElem (by omega)]; rfl
end
/-- a set of that type at b, in the blocks of F, is m -/
def SetAt (t : TypeId) (w : World) (b : Nat) (F : Nat → Prop) (m : Ws) : Prop := m.Ok ∧ ∃ v vm vs, Allf w F (sOs t b v vm vs m)
/-- as a thing -/
def obS (t : TypeId) (b : Nat) (m : Ws) : Ob where
  P := fun w F => SetAt t w b F m
  keep := fun ⟨ok, v, vm, vs, h⟩ hk hs => ⟨ok, v, vm, vs, h.keep hk hs⟩
  lt := fun ⟨_, _, _, _, h⟩ e => h.lt e
section
variable {w0 w : World} {N : Nat → Prop} {os : List Ob} {i : Nat} {t : TypeId} {b : Nat} {m : Ws} {T : Ending → World → Prop} {P : Program} {f : FuncId} {args : Array Value}
theorem sOk (h : Side w0 N w os) (hi : os[i]? = some (obS t b m)) : m.Ok := by
  obtain ⟨F, hP⟩ := h.get hi
  exact hP.1
/-- a call that turns the set -/
theorem sCall {m' : Ws} (h : Side w0 N w os) (hi : os[i]? = some (obS t b m))
    (hc : ∀ (w1 : World) (N1 : Nat → Prop) v vm vs, m.Ok → Side w1 N1 w (sOs t b v vm vs m) → Calls P f args w fun e w' => T e w' ∧ m'.Ok ∧ ∃ v' vm' vs', Side w1 N1 w' (sOs t b v' vm' vs' m')) :
    Calls P f args w fun e w' => T e w' ∧ Side w0 N w' (os.set i (obS t b m')) :=
  h.call hi fun F ⟨ok, v, vm, vs, hP⟩ _ => (hc w _ v vm vs ok hP.side).mono fun e w' ⟨te, ok', v', vm', vs', h'⟩ => by
    obtain ⟨c, F', a, hk⟩ := h'.allf
    exact ⟨te, c, F', ⟨ok', v', vm', vs', a⟩, hk⟩
/-- a call that only reads it -/
theorem sAsk (h : Side w0 N w os) (hi : os[i]? = some (obS t b m))
    (hc : ∀ (v vm : Value) (vs : List Value), m.Ok → Side w (fun _ => False) w (sOs t b v vm vs m ++ []) → Calls P f args w fun e w' => T e w' ∧ Below w.heap.size w w') :
    Calls P f args w fun e w' => T e w' ∧ Below w.heap.size w w' ∧ Side w0 N w' os := by
  obtain ⟨F, ok, v, vm, vs, hP⟩ := h.get hi
  obtain ⟨Fs, p1, p2, p3⟩ := hP
  refine (hc v vm vs ok ?_).mono fun e w' ⟨te, hb⟩ => ⟨te, hb, h.below hb⟩
  rw [List.append_nil]
  exact ⟨Fs, p1, p2, fun i k _ _ f => f, fun k e => e.elim, Chg.refl _ _⟩
end

end Go.Proofs.Ytnbkekbgedioeaa
