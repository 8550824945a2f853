/- insert's and remove's steps up, in plain words. -/
import Derived.Test.YtdcjckdhjfnnhaaT8l
namespace Go.Proofs.Ytdcjckdhjfnnhaa
open Go.RowKit

theorem Tab.take_nd' {s : Tab} {zs : KV} (hf : ∀ f, f ∈ s.free → f < s.nds.length) (r : Nat) : (s.take zs).nd r = if r = s.place then zs else s.nd r := by
  unfold Tab.take Tab.nd Tab.place
  cases e : s.free.getLast? with
  | none =>
    simp only [List.getD_eq_getElem?_getD]
    by_cases q : r = s.nds.length
    · subst q; simp
    · rw [if_neg q]
      by_cases q2 : r < s.nds.length
      · rw [List.getElem?_append_left q2]
      · rw [List.getElem?_eq_none (by simp; omega), List.getElem?_eq_none (by omega)]
  | some p =>
    have := hf p (List.mem_of_getLast? e)
    simp only
    rw [Tab.nd_set this]
theorem Tab.place_new {s : Tab} : s.place ∈ s.free ∨ s.place = s.nds.length := by
  unfold Tab.place
  cases e : s.free.getLast? with
  | none => exact .inr rfl
  | some p => exact .inl (List.mem_of_getLast? e)
theorem Tab.place_lt {s : Tab} {zs : KV} (hf : ∀ f, f ∈ s.free → f < s.nds.length) : s.place < (s.take zs).nds.length := by
  unfold Tab.place Tab.take
  cases e : s.free.getLast? with
  | none => simp
  | some p => simp; exact hf p (List.mem_of_getLast? e)
theorem dropLast_last {l : List Nat} {p : Nat} (h : l.getLast? = some p) (hn : l.Nodup) : p ∉ l.dropLast := by
  have e : l = l.dropLast ++ [p] := by
    rcases List.eq_nil_or_concat l with t | ⟨a, b, t⟩
    · rw [t] at h; cases h
    · rw [List.concat_eq_append] at t
      rw [t, List.getLast?_concat] at h
      injection h with h
      rw [t, List.dropLast_concat, h]
  rw [e, List.nodup_append] at hn
  exact fun t => hn.2.2 p t p (by simp) rfl
theorem Tab.place_out {s : Tab} {zs : KV} (hn : s.free.Nodup) : s.place ∉ (s.take zs).free := by
  rw [Tab.take_free]
  unfold Tab.place
  cases e : s.free.getLast? with
  | none =>
    rw [List.getLast?_eq_none_iff.1 e]; simp
  | some p => exact dropLast_last e hn
theorem Tab.take_sum {s : Tab} {zs : KV} : (s.take zs).nds.length + (s.take zs).free.length ≤ s.nds.length + s.free.length + 1 := by
  unfold Tab.take
  cases e : s.free.getLast? with
  | none => simp; omega
  | some p => simp; omega

theorem kv_cut (z : KV) (a : Nat) (ha : a < z.length) (y : ByteArray × Int) : z.set a y = z.take a ++ [y] ++ z.drop (a + 1) := by
  rw [List.set_eq_take_append_cons_drop, if_pos ha]; simp

section
variable {s : Tab} {L : Nat → List Nat} {l : KV} {h p : Nat} {K : ByteArray}
/-- a stretch of a node's items, and the nodes that they tell -/
theorem Mid.seg (m : Mid s L l h p K) (hd : h + 1 < s.depth) {q a n : Nat} (hq : q ∈ L (h + 1)) :
    ∃ A B X M Y, L (h + 1) = A ++ [q] ++ B ∧ L h = X ++ M ++ Y ∧ A.flatMap s.nd ++ (s.nd q).take a = X.map (s.lk true p K) ∧ ((s.nd q).drop a).take n = M.map (s.lk true p K) ∧ ((s.nd q).drop a).drop n ++ B.flatMap s.nd = Y.map (s.lk true p K) := by
  obtain ⟨A, B, e⟩ := List.append_of_mem hq
  have k := m.link h hd
  rw [decide_eq_true rfl, e, List.flatMap_append, List.flatMap_cons] at k
  have e2 : s.nd q = (s.nd q).take a ++ (((s.nd q).drop a).take n ++ ((s.nd q).drop a).drop n) := by rw [List.take_append_drop, List.take_append_drop]
  have k2 : (L h).map (s.lk true p K) = ((A.flatMap s.nd ++ (s.nd q).take a) ++ ((s.nd q).drop a).take n) ++ (((s.nd q).drop a).drop n ++ B.flatMap s.nd) := by
    rw [← k]
    conv => lhs; rw [e2]
    simp only [List.append_assoc]
  obtain ⟨W, Y, h1, h2, h3⟩ := List.map_eq_append_iff.1 k2
  obtain ⟨X, M, h4, h5, h6⟩ := List.map_eq_append_iff.1 h2
  exact ⟨A, B, X, M, Y, by rw [e]; simp, by rw [h1, h4], h5.symm, h6.symm, h3.symm⟩
theorem lk_num (b : Bool) (r : Nat) : (s.lk b p K r).2 = (r : Int) := rfl
theorem KV.num_of {z : KV} {a : Nat} (ha : a < z.length) : (z[a]'ha).2 = z.num a := by rw [KV.getE z a ha]
theorem Mid.seg1 (m : Mid s L l h p K) (hd : h + 1 < s.depth) {q a r : Nat} (hq : q ∈ L (h + 1)) (ha : a < (s.nd q).length) (hn : (s.nd q).num a = r) :
    ∃ A B X Y, L (h + 1) = A ++ [q] ++ B ∧ L h = X ++ [r] ++ Y ∧ A.flatMap s.nd ++ (s.nd q).take a = X.map (s.lk true p K) ∧ (s.nd q).drop (a + 1) ++ B.flatMap s.nd = Y.map (s.lk true p K) := by
  obtain ⟨A, B, X, M, Y, h1, h2, h3, h4, h5⟩ := m.seg hd (a := a) (n := 1) hq
  have e : ((s.nd q).drop a).take 1 = [(s.nd q)[a]] := by rw [List.drop_eq_getElem_cons ha]; rfl
  rw [e] at h4
  match M, h4 with
  | [t], h4 =>
    simp only [List.map_cons, List.map_nil, List.cons.injEq, and_true] at h4
    have h6 := congrArg Prod.snd h4
    rw [KV.num_of, hn, lk_num] at h6
    have h7 : r = t := Int.ofNat.inj h6
    subst h7
    refine ⟨A, B, X, Y, h1, h2, h3, ?_⟩
    rw [List.drop_drop] at h5
    exact h5
  | [], h4 => cases h4
  | _ :: _ :: _, h4 => simp at h4
theorem Mid.seg2 (m : Mid s L l h p K) (hd : h + 1 < s.depth) {q a r t : Nat} (hq : q ∈ L (h + 1)) (ha : a + 1 < (s.nd q).length) (hn : (s.nd q).num a = r) (hn2 : (s.nd q).num (a + 1) = t) :
    ∃ A B X Y, L (h + 1) = A ++ [q] ++ B ∧ L h = X ++ [r, t] ++ Y ∧ A.flatMap s.nd ++ (s.nd q).take a = X.map (s.lk true p K) ∧ (s.nd q).drop (a + 1 + 1) ++ B.flatMap s.nd = Y.map (s.lk true p K) := by
  obtain ⟨A, B, X, M, Y, h1, h2, h3, h4, h5⟩ := m.seg hd (a := a) (n := 2) hq
  have e : ((s.nd q).drop a).take 2 = [(s.nd q)[a], (s.nd q)[a + 1]] := by
    rw [List.drop_eq_getElem_cons (show a < (s.nd q).length by omega), List.drop_eq_getElem_cons ha]; rfl
  rw [e] at h4
  match M, h4 with
  | [u, v], h4 =>
    simp only [List.map_cons, List.map_nil, List.cons.injEq, and_true] at h4
    have h6 := congrArg Prod.snd h4.1
    have h7 := congrArg Prod.snd h4.2
    rw [KV.num_of, hn, lk_num] at h6
    rw [KV.num_of, hn2, lk_num] at h7
    have h8 : r = u := Int.ofNat.inj h6
    have h9 : t = v := Int.ofNat.inj h7
    subst h8
    subst h9
    refine ⟨A, B, X, Y, h1, h2, h3, ?_⟩
    rw [List.drop_drop] at h5
    exact h5
  | [], h4 => cases h4
  | [_], h4 => simp at h4
  | _ :: _ :: _ :: _, h4 => simp at h4
end

end Go.Proofs.Ytdcjckdhjfnnhaa
