/- Proved parts: T8ca T8cb. Conditions: each theorem's own. -/
import Derived.Test.YtdcjckdhjfnnhaaM38
import Derived.Test.YtdcjckdhjfnnhaaM40
import Derived.Maps.AppendAt
namespace Go.Proofs.Ytdcjckdhjfnnhaa
open Go.RowKit Go.Shelf

theorem ks_mem {l : KV} {s : ByteArray} : s ∈ l.ks ↔ ∃ j, j < l.length ∧ l.key j = s := by
  unfold KV.ks
  rw [List.mem_map]
  constructor
  · rintro ⟨x, hx, rfl⟩
    obtain ⟨j, hj, rfl⟩ := List.getElem_of_mem hx
    exact ⟨j, hj, by rw [KV.getE l j hj]⟩
  · rintro ⟨j, hj, rfl⟩
    exact ⟨l[j], List.getElem_mem hj, by rw [KV.getE l j hj]⟩
theorem put_ks_old {l : KV} {k : ByteArray} {n : Int} (h : l.has k = true) : (l.put k n).ks = l.ks := by
  obtain ⟨hp, hk⟩ := (KV.has_iff l k).1 h
  unfold KV.put KV.ks
  rw [if_pos h, List.map_set]
  have e : (l.map Prod.fst)[l.pos k]'(by rw [List.length_map]; exact hp) = k := by rw [List.getElem_map, KV.getE l _ hp]; exact hk
  refine List.ext_getElem (by simp) fun i h1 h2 => ?_
  rw [List.getElem_set]
  split
  · rename_i q
    subst q
    exact e.symm
  · rfl
theorem put_ks_new {l : KV} {k : ByteArray} {n : Int} (h : l.has k = false) : (l.put k n).ks = l.ks.take (l.pos k) ++ k :: l.ks.drop (l.pos k) := by
  unfold KV.put KV.ks
  rw [if_neg (by rw [h]; decide)]
  simp [List.map_take, List.map_drop]
theorem put_keeps {l : KV} {k s : ByteArray} {n : Int} (h : s ∈ l.ks) : s ∈ (l.put k n).ks := by
  cases hh : l.has k with
  | true => rw [put_ks_old hh]; exact h
  | false =>
    rw [put_ks_new hh]
    rw [← List.take_append_drop (l.pos k) l.ks] at h
    rcases List.mem_append.1 h with q | q
    · exact List.mem_append.2 (.inl q)
    · exact List.mem_append.2 (.inr (List.mem_cons_of_mem _ q))
theorem put_brings {l : KV} {k s : ByteArray} {n : Int} (h : s ∈ (l.put k n).ks) : s = k ∨ s ∈ l.ks := by
  cases hh : l.has k with
  | true => rw [put_ks_old hh] at h; exact .inr h
  | false =>
    rw [put_ks_new hh] at h
    rcases List.mem_append.1 h with q | q
    · exact .inr (List.mem_of_mem_take q)
    · rcases List.mem_cons.1 q with q | q
      · exact .inl q
      · exact .inr (List.mem_of_mem_drop q)
theorem del_brings {l : KV} {k s : ByteArray} (h : s ∈ (l.del k).ks) : s ∈ l.ks := by
  cases hh : l.has k with
  | true =>
    rw [(KV.del_ks hh).1] at h
    rcases List.mem_append.1 h with q | q
    · exact List.mem_of_mem_take q
    · exact List.mem_of_mem_drop q
  | false =>
    have e : l.del k = l := if_neg (by rw [hh]; decide)
    rw [e] at h; exact h
theorem del_keeps {l : KV} {k s : ByteArray} (h : s ∈ l.ks) (hn : s ≠ k) : s ∈ (l.del k).ks := by
  cases hh : l.has k with
  | true =>
    obtain ⟨hp, hk⟩ := (KV.has_iff l k).1 hh
    have hp' : l.pos k < l.ks.length := by rw [KV.ks_len]; exact hp
    have e : l.ks[l.pos k] = k := by
      have := KV.ks_get l (l.pos k) hp
      rw [List.getD_eq_getElem?_getD, List.getElem?_eq_getElem hp'] at this
      exact this.trans hk
    rw [(KV.del_ks hh).1]
    rw [← List.take_append_drop (l.pos k) l.ks, List.drop_eq_getElem_cons hp', e] at h
    rcases List.mem_append.1 h with q | q
    · exact List.mem_append.2 (.inl q)
    · rcases List.mem_cons.1 q with q | q
      · exact absurd q hn
      · exact List.mem_append.2 (.inr q)
  | false =>
    have e : l.del k = l := if_neg (by rw [hh]; decide)
    rw [e]; exact h
/-- the first key above c -/
theorem aft_above {l : KV} {c : ByteArray} (h0 : RiseL l) (h : l.aft c < l.length) : ltB c (l.key (l.aft c)) = true := by
  have stop := KV.pos_stop c l
  cases hh : l.has c with
  | true =>
    obtain ⟨hp, hk⟩ := (KV.has_iff l c).1 hh
    have ea : l.aft c = l.pos c + 1 := if_pos hh
    rw [ea] at h ⊢
    have := KV.rise_at h0 (show l.pos c < l.pos c + 1 by omega) h
    rw [hk] at this; exact this
  | false =>
    have ea : l.aft c = l.pos c := if_neg (by rw [hh]; decide)
    rw [ea] at h ⊢
    cases q : ltB c (l.key (l.pos c)) with
    | true => rfl
    | false =>
      have e := ltB_total (stop h) q
      have := (KV.has_iff l c).2 ⟨h, e⟩
      rw [hh] at this; cases this
/-- those above c stand there or behind -/
theorem aft_at {l : KV} {c : ByteArray} {j : Nat} (h : ltB c (l.key j) = true) : l.aft c ≤ j := by
  have below := KV.pos_below c l j
  by_cases q : l.aft c ≤ j
  · exact q
  · have lt : j < l.aft c := by omega
    have pp : j < l.pos c ∨ (j = l.pos c ∧ l.has c = true) := by
      cases hh : l.has c with
      | true =>
        have ea : l.aft c = l.pos c + 1 := if_pos hh
        rw [ea] at lt
        by_cases z : j < l.pos c
        · exact .inl z
        · exact .inr ⟨by omega, rfl⟩
      | false =>
        have ea : l.aft c = l.pos c := if_neg (by rw [hh]; decide)
        rw [ea] at lt; exact .inl lt
    rcases pp with p | ⟨p, hh⟩
    · have := ltB_asym (below p)
      rw [h] at this; cases this
    · have e := ((KV.has_iff l c).1 hh).2
      rw [p, e, ltB_irr] at h; cases h
theorem rise_le {l : KV} (h0 : RiseL l) {i j : Nat} (hi : i ≤ j) (hj : j < l.length) : ltB (l.key j) (l.key i) = false := by
  rcases Nat.lt_or_ge i j with q | q
  · exact ltB_asym (KV.rise_at h0 q hj)
  · rw [show i = j by omega]; exact ltB_irr _
theorem pos_empty (l : KV) : l.pos ⟨#[]⟩ = 0 := by
  cases l with
  | nil => rfl
  | cons x l =>
    unfold KV.pos
    have e : ltB x.1 ⟨#[]⟩ = false := by
      unfold ltB
      have z : (⟨#[]⟩ : ByteArray).toList = [] := by kernel_rfl
      rw [z]
      unfold Op.bytesLess
      rfl
    rw [e]; rfl

/-- what a walk has met (M), where it stands (c, if ok), of all keys there have been (U); S: those that stay -/
structure Wk (U S : List ByteArray) (L : KV) (M : List ByteArray) (ok : Bool) (c : ByteArray) : Prop where
  rise : M.Pairwise fun x y => ltB x y = true
  last : ok = true → ∀ m ∈ M, ltB m c = true
  inU : ∀ m ∈ M, m ∈ U
  cU : ok = true → c ∈ U
  lU : ∀ s ∈ L.ks, s ∈ U
  sL : ∀ s ∈ S, s ∈ L.ks
  sM : ∀ s ∈ S, s ∈ M ∨ (ok = true ∧ ltB s c = false)
section
variable {U S M : List ByteArray} {L : KV} {c : ByteArray}
/-- at first -/
theorem Wk.first (h0 : RiseL L) (hU : ∀ s ∈ L.ks, s ∈ U) (hS : ∀ s ∈ S, s ∈ L.ks) : Wk U S L [] (decide (L.pos ⟨#[]⟩ < L.length)) (if L.pos ⟨#[]⟩ < L.length then L.key (L.pos ⟨#[]⟩) else ⟨#[]⟩) := by
  rw [pos_empty]
  refine ⟨List.Pairwise.nil, fun _ m hm => (by cases hm), fun m hm => (by cases hm), fun h => ?_, hU, hS, fun s hs => ?_⟩
  · have h := of_decide_eq_true h
    rw [if_pos h]
    exact hU _ (ks_mem.2 ⟨0, h, rfl⟩)
  · obtain ⟨j, hj, rfl⟩ := ks_mem.1 (hS s hs)
    have h : 0 < L.length := by omega
    refine .inr ⟨decide_eq_true h, ?_⟩
    rw [if_pos h]
    exact rise_le h0 (Nat.zero_le j) hj
/-- other keys have come and gone -/
theorem Wk.turn {ok : Bool} {L' : KV} (h : Wk U S L M ok c) (hU : ∀ s ∈ L'.ks, s ∈ U) (hS : ∀ s ∈ S, s ∈ L'.ks) : Wk U S L' M ok c := ⟨h.rise, h.last, h.inU, h.cU, hU, hS, h.sM⟩
/-- one on -/
theorem Wk.next (h : Wk U S L M true c) (h0 : RiseL L) : Wk U S L (M ++ [c]) (decide (L.aft c < L.length)) (if L.aft c < L.length then L.key (L.aft c) else ⟨#[]⟩) := by
  refine ⟨?_, fun hq m hm => ?_, fun m hm => ?_, fun hq => ?_, h.lU, h.sL, fun s hs => ?_⟩
  · refine List.pairwise_append.2 ⟨h.rise, List.pairwise_singleton _ _, fun a ha b hb => ?_⟩
    rw [List.mem_singleton.1 hb]
    exact h.last rfl a ha
  · have hq := of_decide_eq_true hq
    rw [if_pos hq]
    have up := aft_above h0 hq
    rcases List.mem_append.1 hm with q | q
    · exact ltB_trans (h.last rfl m q) up
    · rw [List.mem_singleton.1 q]; exact up
  · rcases List.mem_append.1 hm with q | q
    · exact h.inU m q
    · rw [List.mem_singleton.1 q]; exact h.cU rfl
  · have hq := of_decide_eq_true hq
    rw [if_pos hq]
    exact h.lU _ (ks_mem.2 ⟨_, hq, rfl⟩)
  · rcases h.sM s hs with q | ⟨_, q⟩
    · exact .inl (List.mem_append.2 (.inl q))
    · by_cases e : s = c
      · exact .inl (List.mem_append.2 (.inr (by rw [e]; simp)))
      · have up : ltB c s = true := by
          cases z : ltB c s with
          | true => rfl
          | false => exact absurd (ltB_total q z) e
        obtain ⟨j, hj, rfl⟩ := ks_mem.1 (h.sL s hs)
        have lj := aft_at up
        have hq : L.aft c < L.length := by omega
        refine .inr ⟨decide_eq_true hq, ?_⟩
        rw [if_pos hq]
        exact rise_le h0 lj hj
end
/-- a rising list of keys out of U has no more keys than U -/
theorem rise_few : ∀ (M U : List ByteArray), (M.Pairwise fun x y => ltB x y = true) → (∀ m ∈ M, m ∈ U) → M.length ≤ U.length
  | [], U, _, _ => Nat.zero_le _
  | a :: M, U, h, hu => by
    obtain ⟨h1, h2⟩ := List.pairwise_cons.1 h
    have ha : a ∈ U := hu a (List.mem_cons_self ..)
    obtain ⟨p, q, rfl⟩ := List.append_of_mem ha
    have := rise_few M (p ++ q) h2 fun m hm => by
      have ne : m ≠ a := fun e => by
        have := h1 m hm
        rw [e, ltB_irr] at this; cases this
      rcases List.mem_append.1 (hu m (List.mem_cons_of_mem _ hm)) with r | r
      · exact List.mem_append.2 (.inl r)
      · rcases List.mem_cons.1 r with r | r
        · exact absurd r ne
        · exact List.mem_append.2 (.inr r)
    simp only [List.length_append, List.length_cons] at this ⊢
    omega
/-- of two rising lists the one whose keys the other has is a part of it -/
theorem rise_sub : ∀ (M S : List ByteArray), (M.Pairwise fun x y => ltB x y = true) → (S.Pairwise fun x y => ltB x y = true) → (∀ s ∈ S, s ∈ M) → S.Sublist M
  | [], S, _, _, h => by
    cases S with
    | nil => exact List.Sublist.slnil
    | cons s S => cases h s (List.mem_cons_self ..)
  | a :: M, [], _, _, _ => List.nil_sublist _
  | a :: M, s :: S, hm, hs, h => by
    obtain ⟨m1, m2⟩ := List.pairwise_cons.1 hm
    obtain ⟨s1, s2⟩ := List.pairwise_cons.1 hs
    by_cases e : s = a
    · subst e
      refine List.Sublist.cons_cons _ (rise_sub M S m2 s2 fun x hx => ?_)
      rcases List.mem_cons.1 (h x (List.mem_cons_of_mem _ hx)) with q | q
      · have := s1 x hx
        rw [q, ltB_irr] at this; cases this
      · exact q
    · refine List.Sublist.cons _ (rise_sub M (s :: S) m2 hs fun x hx => ?_)
      rcases List.mem_cons.1 (h x hx) with q | q
      · exfalso
        have hsM : s ∈ M := by
          rcases List.mem_cons.1 (h s (List.mem_cons_self ..)) with r | r
          · exact absurd r e
          · exact r
        have l1 := m1 s hsM
        rcases List.mem_cons.1 hx with r | r
        · exact e (r.symm.trans q)
        · have l2 := s1 x r
          rw [q, ltB_asym l1] at l2; cases l2
      · exact q
theorem ks_rise {l : KV} (h : RiseL l) : l.ks.Pairwise fun x y => ltB x y = true := List.pairwise_map.2 h

/-- is s named by one of the first k acts? -/
def nmd (xs : List Act3) (s : ByteArray) : Nat → Bool
  | 0 => false
  | k + 1 => nmd xs s k || ((xs.getD k At0).s.toList == s.toList)
theorem nmd_no {xs : List Act3} {s : ByteArray} : ∀ {m : Nat}, nmd xs s m = false → ∀ j, j < m → (xs.getD j At0).s ≠ s
  | 0, _, j, hj => by cases hj
  | m + 1, h, j, hj => by
    unfold nmd at h
    rw [Bool.or_eq_false_iff] at h
    by_cases e : j = m
    · intro q
      rw [e] at q
      rw [q] at h
      simp at h
    · exact nmd_no h.1 j (by omega)
/-- the keys that aren't named -/
def stay (xs : List Act3) (m : Nat) (l : List ByteArray) : List ByteArray := l.filter fun s => !(nmd xs s m)
theorem stay_snoc (xs : List Act3) (m : Nat) (l : List ByteArray) (s : ByteArray) : stay xs m (l ++ [s]) = stay xs m l ++ (if nmd xs s m then [] else [s]) := by
  unfold stay
  rw [List.filter_append, List.filter_cons]
  cases nmd xs s m <;> rfl
theorem stay_len (xs : List Act3) (m : Nat) (l : List ByteArray) : (stay xs m l).length ≤ l.length := List.length_filter_le _ _

end Go.Proofs.Ytdcjckdhjfnnhaa

namespace Go.Proofs.Ytdcjckdhjfnnhaa
open Go.RowKit Go.Shelf

set_option maxRecDepth 100000 in
/-- append(v, y): which row it is -/
theorem wp_putA {ops : Array Oper} {rest : List Oper} {o : Oper} {a : Act} {w : World} {Q : Exit → Act → World → Prop} (hgd : o.guard = none) (s x : Operand)
    (ho : o.op = .call { callee := .builtin .append, args := #[s, x], argTypes := #[27, 27] })
    (v : Value) (zs : List ByteArray) (hs : a.eval s = v) (hown : OwnS w 0 v zs) (g : Nat) (y : ByteArray) (hx : a.eval x = .slice (some ⟨g, 0, none⟩) 1 1)
    (hc : w.cell? ⟨g, 0, none⟩ = some (.string y)) (hl : zs.length + 1 ≤ 1000000)
    (h : ∀ v' w', OwnS w' 0 v' (zs ++ [y]) → w.grownBy w' v.ownBlock → (v'.ownBlock = v.ownBlock ∨ v'.ownBlock = some w.heap.size) → wpList Try.prog ops Q rest (a.put o.dst v') w') : wpList Try.prog ops Q (o :: rest) a w := by
  obtain ⟨i0, hi, hz0, hz1, hz2⟩ := info_parts infoStr
  refine wpList_append_own_at (w := w) hgd s x 27 ho 0 9 i0 _ 1 16 Try.underlying27 hi hz0 hz1 hz2 rfl (by decide) v zs.length _ hs hown ⟨g, 0, none⟩ 1 1 [.string y] hx rfl ?_ ?_
    (by unfold maxLen; omega) (by omega) (Nat.zero_le _) ?_
  · intro j u hj
    cases j with
    | zero => simp at hj; subst hj; exact hc
    | succ j => simp at hj
  · intro u hu; simp at hu; subst hu; rfl
  · intro v' w' h1 h2 _ h4
    refine h v' w' ?_ h2 h4
    unfold OwnS
    simpa using h1
theorem OwnS.chg {w w' : World} {F : Nat → Prop} {B : Nat} {v : Value} {zs : List ByteArray} (h : OwnS w B v zs) (hc : Chg F w w') (hn : ∀ k, v.ownBlock = some k → ¬ F k) : OwnS w' B v zs :=
  h.keepV fun k e => hc.block k (h.lt k e).2 (hn k e)

/-- the program's tree over l and a row v of strings M, neither in the other's blocks nor in N's, which are as they were in w0 -/
def Cur (w0 : World) (N : Nat → Prop) (w : World) (T : Nat) (l : KV) (b : Nat) (v : Value) (M : List ByteArray) : Prop := ∃ E : Nat → Prop, Rep w T E l b ∧ OwnS w 0 v M ∧ (∀ k, v.ownBlock = some k → ¬ E k ∧ ¬ N k) ∧ (∀ k, E k → ¬ N k) ∧ (∀ k, N k → k < w0.heap.size) ∧ Chg (fun k => ¬ N k) w0 w
section
variable {w0 w w' : World} {N : Nat → Prop} {T b : Nat} {l : KV} {v : Value} {M : List ByteArray}
theorem Cur.below (h : Cur w0 N w T l b v M) (hb : Below w.heap.size w w') : Cur w0 N w' T l b v M := by
  obtain ⟨E, h1, h2, h3, h4, h5, h6⟩ := h
  exact ⟨E, h1.below hb, h2.below hb, h3, h4, h5, h6.belowB h6.size hb⟩
theorem Cur.chg (h : Cur w0 N w T l b v M) : Chg (fun k => ¬ N k) w0 w := by
  obtain ⟨_, _, _, _, _, _, h6⟩ := h
  exact h6
theorem Cur.row (h : Cur w0 N w T l b v M) : OwnS w 0 v M := by
  obtain ⟨_, _, h2, _⟩ := h
  exact h2
theorem Cur.base {B : Nat} (h : Cur w0 N w T l b v M) (hB : B ≤ w0.heap.size) (hN : ∀ k, k < B → N k) : Below B w0 w := by
  have c := h.chg
  exact ⟨c.os, c.tape, c.output, c.size, fun k hk => c.block k (by omega) fun f => f (hN k hk)⟩
theorem Cur.more (h : Cur w0 N w T l b v M) {b2 : Nat} (hb : b ≤ b2) : Cur w0 N w T l b2 v M := by
  obtain ⟨E, ⟨s, h1, ok, hs⟩, h2⟩ := h
  exact ⟨E, ⟨s, h1, ok, Nat.le_trans hs hb⟩, h2⟩
theorem Cur.rise (h : Cur w0 N w T l b v M) : RiseL l := by
  obtain ⟨E, ⟨s, _, ok, _⟩, _⟩ := h
  exact ok.rise
/-- from here on all that has come since w stays, too -/
theorem Cur.fresh (h : Cur w0 N w T l b v M) (hb : Below w.heap.size w w') : ∃ N' : Nat → Prop, Cur w' N' w' T l b v M ∧ (∀ k, N k → N' k) ∧ (∀ k, w.heap.size ≤ k → k < w'.heap.size → N' k) := by
  obtain ⟨E, h1, h2, h3, h4, h5, h6⟩ := h
  refine ⟨fun k => k < w'.heap.size ∧ ¬ E k ∧ v.ownBlock ≠ some k, ⟨E, h1.below hb, h2.below hb, fun k e => ⟨(h3 k e).1, fun f => f.2.2 e⟩, fun k e f => f.2.1 e, fun k f => f.1, Chg.refl _ _⟩, fun k f => ⟨?_, fun e => h4 k e f, fun e => (h3 k e).2 f⟩, fun k hk hl => ⟨hl, fun e => ?_, fun e => ?_⟩⟩
  · have := h5 k f; have := h6.size; have := hb.size; omega
  · have := h1.lt k e; omega
  · have := (h2.lt k e).2; omega
/-- another row instead, an empty one; the old one stays as it is -/
theorem Cur.switch (h : Cur w0 N w T l b v M) : ∃ N' : Nat → Prop, Cur (w.alloc (.cells #[] 9)) N' (w.alloc (.cells #[] 9)) T l b (.slice (some ⟨w.heap.size, 0, none⟩) 0 0) [] ∧ (∀ k, N k → N' k) ∧ (∀ k, v.ownBlock = some k → N' k) := by
  obtain ⟨E, h1, h2, h3, h4, h5, h6⟩ := h
  have hb : Below w.heap.size w (w.alloc (.cells #[] 9)) := (Below.refl _ _).alloc (Nat.le_refl _) _
  refine ⟨fun k => k < w.heap.size ∧ ¬ E k, ⟨E, h1.below hb, OwnS.made w (Nat.zero_le _), fun k e => ?_, fun k e f => f.2 e, fun k f => Nat.lt_of_lt_of_le f.1 hb.size, Chg.refl _ _⟩, fun k f => ⟨?_, fun e => h4 k e f⟩, fun k e => ⟨(h2.lt k e).2, (h3 k e).1⟩⟩
  · injection e with e
    subst e
    exact ⟨fun f => Nat.lt_irrefl _ (h1.lt _ f), fun f => Nat.lt_irrefl _ f.1⟩
  · have := h5 k f; have := h6.size; omega
/-- one more in the row -/
theorem Cur.put1 {o : Obj} {y : ByteArray} {v' : Value} (h : Cur w0 N w T l b v M) (ho : OwnS w' 0 v' (M ++ [y])) (hg : (w.alloc o).grownBy w' v.ownBlock) (hv : v'.ownBlock = v.ownBlock ∨ v'.ownBlock = some (w.alloc o).heap.size) : Cur w0 N w' T l b v' (M ++ [y]) := by
  obtain ⟨E, h1, h2, h3, h4, h5, h6⟩ := h
  have hz : (w.alloc o).heap.size = w.heap.size + 1 := by simp
  have sz := hg.size
  refine ⟨E, h1.keep (fun k e => ?_) (by omega), ho, fun k e => ?_, h4, h5, (h6.alloc o).grown hg fun k e => .inl (h3 k e).2⟩
  · have lt := h1.lt k e
    rw [hg.block k (by omega) fun q => (h3 k q.symm).1 e]
    exact Below.heap_alloc _ _ _ lt
  · rcases hv with q | q
    · exact h3 k (q ▸ e)
    · rw [q] at e
      injection e with e
      refine ⟨fun f => by have := h1.lt k f; omega, fun f => by have := h5 k f; have := h6.size; omega⟩
theorem cPut (h : Cur w0 N w T l b v M) (k : ByteArray) (n : Int) (hl : l.length ≤ 1000) (hk : k.size ≤ 100) (hb : b ≤ 40000) :
    Calls Try.prog 8 #[Ptr T, .string k, .int .i64 n] w fun x w' => x = .returned (.tuple #[.int .i64 (if l.has k then l.num (l.pos k) else 0), .bool (l.has k), .int .i64 0]) ∧ Cur w0 N w' T (l.put k n) (b + 25) v M := by
  obtain ⟨E, h1, h2, h3, h4, h5, h6⟩ := h
  refine (xPut w T E l b k n h1 hl hb (by omega)).mono ?_
  rintro x w' ⟨hx, E', r, a, c⟩
  refine ⟨hx, E', r, h2.chg c fun k e => (h3 k e).1, fun k e => ⟨fun f => ?_, (h3 k e).2⟩, fun k e f => ?_, h5, h6.trans c fun k e => .inl (h4 k e)⟩
  · rcases a k f with q | q
    · exact (h3 k e).1 q
    · have := (h2.lt k e).2; omega
  · rcases a k e with q | q
    · exact h4 k q f
    · have := h5 k f; have := h6.size; omega
theorem cDel (h : Cur w0 N w T l b v M) (k : ByteArray) (hl : l.length ≤ 1000) (hb : b ≤ 40000) :
    Calls Try.prog 10 #[Ptr T, .string k] w fun x w' => x = .returned (.tuple #[.int .i64 (if l.has k then l.num (l.pos k) else 0), .bool (l.has k)]) ∧ Cur w0 N w' T (l.del k) (b + 25) v M := by
  obtain ⟨E, h1, h2, h3, h4, h5, h6⟩ := h
  refine (xDel w T E l b k h1 hl hb).mono ?_
  rintro x w' ⟨hx, E', r, a, c⟩
  refine ⟨hx, E', r, h2.chg c fun k e => (h3 k e).1, fun k e => ⟨fun f => ?_, (h3 k e).2⟩, fun k e f => ?_, h5, h6.trans c fun k e => .inl (h4 k e)⟩
  · rcases a k f with q | q
    · exact (h3 k e).1 q
    · have := (h2.lt k e).2; omega
  · rcases a k e with q | q
    · exact h4 k q f
    · have := h5 k f; have := h6.size; omega
theorem cSeek (h : Cur w0 N w T l b v M) (hs : Short l) (k : ByteArray) (hl : l.length ≤ 1000) :
    Calls Try.prog 15 #[Ptr T, .string k] w fun e w' => e = .returned (.tuple #[.string (if l.pos k < l.length then l.key (l.pos k) else ⟨#[]⟩), .int .i64 (if l.pos k < l.length then l.num (l.pos k) else 0), .bool (decide (l.pos k < l.length))]) ∧ Cur w0 N w' T l b v M := by
  have h' := h
  obtain ⟨E, h1, _⟩ := h
  exact (xSeek w T E l b k h1 hl (fun x hx => by have := hs x hx; omega)).mono fun e w' ⟨he, hb⟩ => ⟨he, h'.below hb⟩
theorem cAfter (h : Cur w0 N w T l b v M) (hs : Short l) (k : ByteArray) (hl : l.length ≤ 1000) :
    Calls Try.prog 16 #[Ptr T, .string k] w fun e w' => e = .returned (.tuple #[.string (if l.aft k < l.length then l.key (l.aft k) else ⟨#[]⟩), .int .i64 (if l.aft k < l.length then l.num (l.aft k) else 0), .bool (decide (l.aft k < l.length))]) ∧ Cur w0 N w' T l b v M := by
  have h' := h
  obtain ⟨E, h1, _⟩ := h
  exact (xAfter w T E l b k h1 hl (fun x hx => by have := hs x hx; omega)).mono fun e w' ⟨he, hb⟩ => ⟨he, h'.below hb⟩
theorem cKeys (h : Cur w0 N w T l b v M) (hs : Short l) (k : ByteArray) (m : Int) (hl : l.length ≤ 1000) :
    Calls Try.prog 13 #[Ptr T, .string k, .int .i64 m] w fun e w' => ∃ u, e = .returned u ∧ OwnS w' w.heap.size u (((KV.ks l).drop (l.pos k)).take m.toNat) ∧ Below w.heap.size w w' := by
  obtain ⟨E, h1, _⟩ := h
  refine (xKeys w T E l b k m h1 hl (fun x hx => by have := hs x hx; omega)).mono ?_
  rintro e w' ⟨u, he, ho, _, hb⟩
  exact ⟨u, he, ho, hb⟩
end
theorem cur_new {w1 w2 : World} {T : Nat} (w : World) (ht : TabG w2 T (fun k => k = T) Tab.bare) (hT : T = w1.heap.size) (h1 : Below w.heap.size w w1) (h2 : Below w1.heap.size w1 w2) :
    Cur w (fun k => k < w.heap.size) w2 T [] 0 (.slice none 0 0) [] :=
  ⟨fun k => k = T, ⟨Tab.bare, ht, .inl ⟨rfl, rfl⟩, Nat.le_refl _⟩, ⟨rfl, .inl ⟨rfl, rfl⟩⟩, fun k e => (by cases e), fun k e f => (by have := h1.size; omega), fun k f => f, ((Chg.of_below h1).belowB (B := w1.heap.size) h1.size h2).mono fun k f => f⟩

end Go.Proofs.Ytdcjckdhjfnnhaa
