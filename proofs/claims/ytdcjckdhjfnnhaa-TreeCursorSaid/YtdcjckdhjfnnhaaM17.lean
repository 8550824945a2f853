/- Proved parts: T8u T8v T9e. Conditions: each theorem's own. -/
import Derived.Test.YtdcjckdhjfnnhaaM16
namespace Go.Proofs.Ytdcjckdhjfnnhaa
open Go.RowKit

theorem Tab.take_nd' {s : Tab} {zs : KV} (hf : ∀ f, f ∈ s.free → f < s.nds.length) (r : Nat) : (s.take zs).nd r = if r = s.place then zs else s.nd r := by
  unfold Tab.take Tab.nd Tab.place
  cases e : s.free.getLast? with
  | none =>
    simp only [List.getD_eq_getElem?_getD]
    by_cases q : r = s.nds.length
    · subst q; simp
    · rw [if_neg q]
      by_cases q2 : r < s.nds.length
      · rw [List.getElem?_append_left q2]
      · rw [List.getElem?_eq_none (by simp; omega), List.getElem?_eq_none (by omega)]
  | some p =>
    have := hf p (List.mem_of_getLast? e)
    simp only
    rw [Tab.nd_set this]
theorem Tab.place_new {s : Tab} : s.place ∈ s.free ∨ s.place = s.nds.length := by
  unfold Tab.place
  cases e : s.free.getLast? with
  | none => exact .inr rfl
  | some p => exact .inl (List.mem_of_getLast? e)
theorem Tab.place_lt {s : Tab} {zs : KV} (hf : ∀ f, f ∈ s.free → f < s.nds.length) : s.place < (s.take zs).nds.length := by
  unfold Tab.place Tab.take
  cases e : s.free.getLast? with
  | none => simp
  | some p => simp; exact hf p (List.mem_of_getLast? e)
theorem dropLast_last {l : List Nat} {p : Nat} (h : l.getLast? = some p) (hn : l.Nodup) : p ∉ l.dropLast := by
  have e : l = l.dropLast ++ [p] := by
    rcases List.eq_nil_or_concat l with t | ⟨a, b, t⟩
    · rw [t] at h; cases h
    · rw [List.concat_eq_append] at t
      rw [t, List.getLast?_concat] at h
      injection h with h
      rw [t, List.dropLast_concat, h]
  rw [e, List.nodup_append] at hn
  exact fun t => hn.2.2 p t p (by simp) rfl
theorem Tab.place_out {s : Tab} {zs : KV} (hn : s.free.Nodup) : s.place ∉ (s.take zs).free := by
  rw [Tab.take_free]
  unfold Tab.place
  cases e : s.free.getLast? with
  | none =>
    rw [List.getLast?_eq_none_iff.1 e]; simp
  | some p => exact dropLast_last e hn
theorem Tab.take_sum {s : Tab} {zs : KV} : (s.take zs).nds.length + (s.take zs).free.length ≤ s.nds.length + s.free.length + 1 := by
  unfold Tab.take
  cases e : s.free.getLast? with
  | none => simp; omega
  | some p => simp; omega

theorem kv_cut (z : KV) (a : Nat) (ha : a < z.length) (y : ByteArray × Int) : z.set a y = z.take a ++ [y] ++ z.drop (a + 1) := by
  rw [List.set_eq_take_append_cons_drop, if_pos ha]; simp

section
variable {s : Tab} {L : Nat → List Nat} {l : KV} {h p : Nat} {K : ByteArray}
/-- a stretch of a node's items, and the nodes that they tell -/
theorem Mid.seg (m : Mid s L l h p K) (hd : h + 1 < s.depth) {q a n : Nat} (hq : q ∈ L (h + 1)) :
    ∃ A B X M Y, L (h + 1) = A ++ [q] ++ B ∧ L h = X ++ M ++ Y ∧ A.flatMap s.nd ++ (s.nd q).take a = X.map (s.lk true p K) ∧ ((s.nd q).drop a).take n = M.map (s.lk true p K) ∧ ((s.nd q).drop a).drop n ++ B.flatMap s.nd = Y.map (s.lk true p K) := by
  obtain ⟨A, B, e⟩ := List.append_of_mem hq
  have k := m.link h hd
  rw [decide_eq_true rfl, e, List.flatMap_append, List.flatMap_cons] at k
  have e2 : s.nd q = (s.nd q).take a ++ (((s.nd q).drop a).take n ++ ((s.nd q).drop a).drop n) := by rw [List.take_append_drop, List.take_append_drop]
  have k2 : (L h).map (s.lk true p K) = ((A.flatMap s.nd ++ (s.nd q).take a) ++ ((s.nd q).drop a).take n) ++ (((s.nd q).drop a).drop n ++ B.flatMap s.nd) := by
    rw [← k]
    conv => lhs; rw [e2]
    simp only [List.append_assoc]
  obtain ⟨W, Y, h1, h2, h3⟩ := List.map_eq_append_iff.1 k2
  obtain ⟨X, M, h4, h5, h6⟩ := List.map_eq_append_iff.1 h2
  exact ⟨A, B, X, M, Y, by rw [e]; simp, by rw [h1, h4], h5.symm, h6.symm, h3.symm⟩
theorem lk_num (b : Bool) (r : Nat) : (s.lk b p K r).2 = (r : Int) := rfl
theorem KV.num_of {z : KV} {a : Nat} (ha : a < z.length) : (z[a]'ha).2 = z.num a := by rw [KV.getE z a ha]
theorem Mid.seg1 (m : Mid s L l h p K) (hd : h + 1 < s.depth) {q a r : Nat} (hq : q ∈ L (h + 1)) (ha : a < (s.nd q).length) (hn : (s.nd q).num a = r) :
    ∃ A B X Y, L (h + 1) = A ++ [q] ++ B ∧ L h = X ++ [r] ++ Y ∧ A.flatMap s.nd ++ (s.nd q).take a = X.map (s.lk true p K) ∧ (s.nd q).drop (a + 1) ++ B.flatMap s.nd = Y.map (s.lk true p K) := by
  obtain ⟨A, B, X, M, Y, h1, h2, h3, h4, h5⟩ := m.seg hd (a := a) (n := 1) hq
  have e : ((s.nd q).drop a).take 1 = [(s.nd q)[a]] := by rw [List.drop_eq_getElem_cons ha]; rfl
  rw [e] at h4
  match M, h4 with
  | [t], h4 =>
    simp only [List.map_cons, List.map_nil, List.cons.injEq, and_true] at h4
    have h6 := congrArg Prod.snd h4
    rw [KV.num_of, hn, lk_num] at h6
    have h7 : r = t := Int.ofNat.inj h6
    subst h7
    refine ⟨A, B, X, Y, h1, h2, h3, ?_⟩
    rw [List.drop_drop] at h5
    exact h5
  | [], h4 => cases h4
  | _ :: _ :: _, h4 => simp at h4
theorem Mid.seg2 (m : Mid s L l h p K) (hd : h + 1 < s.depth) {q a r t : Nat} (hq : q ∈ L (h + 1)) (ha : a + 1 < (s.nd q).length) (hn : (s.nd q).num a = r) (hn2 : (s.nd q).num (a + 1) = t) :
    ∃ A B X Y, L (h + 1) = A ++ [q] ++ B ∧ L h = X ++ [r, t] ++ Y ∧ A.flatMap s.nd ++ (s.nd q).take a = X.map (s.lk true p K) ∧ (s.nd q).drop (a + 1 + 1) ++ B.flatMap s.nd = Y.map (s.lk true p K) := by
  obtain ⟨A, B, X, M, Y, h1, h2, h3, h4, h5⟩ := m.seg hd (a := a) (n := 2) hq
  have e : ((s.nd q).drop a).take 2 = [(s.nd q)[a], (s.nd q)[a + 1]] := by
    rw [List.drop_eq_getElem_cons (show a < (s.nd q).length by omega), List.drop_eq_getElem_cons ha]; rfl
  rw [e] at h4
  match M, h4 with
  | [u, v], h4 =>
    simp only [List.map_cons, List.map_nil, List.cons.injEq, and_true] at h4
    have h6 := congrArg Prod.snd h4.1
    have h7 := congrArg Prod.snd h4.2
    rw [KV.num_of, hn, lk_num] at h6
    rw [KV.num_of, hn2, lk_num] at h7
    have h8 : r = u := Int.ofNat.inj h6
    have h9 : t = v := Int.ofNat.inj h7
    subst h8
    subst h9
    refine ⟨A, B, X, Y, h1, h2, h3, ?_⟩
    rw [List.drop_drop] at h5
    exact h5
  | [], h4 => cases h4
  | [_], h4 => simp at h4
  | _ :: _ :: _ :: _, h4 => simp at h4
end

end Go.Proofs.Ytdcjckdhjfnnhaa

namespace Go.Proofs.Ytdcjckdhjfnnhaa
open Go.RowKit

theorem KV.key0_take (z : KV) (n : Nat) (hn : 0 < n) : KV.key (z.take n) 0 = z.key 0 := by
  unfold KV.key
  rw [List.getD_eq_getElem?_getD, List.getD_eq_getElem?_getD, List.getElem?_take, if_pos hn]
theorem KV.key0_drop (z : KV) (n : Nat) : KV.key (z.drop n) 0 = z.key n := by
  unfold KV.key
  rw [List.getD_eq_getElem?_getD, List.getD_eq_getElem?_getD, List.getElem?_drop, Nat.add_zero]
theorem ins_mid (Z1 Z2 : KV) (x y : ByteArray × Int) : ins (Z1 ++ [x] ++ Z2) (Z1.length + 1) y = Z1 ++ [x, y] ++ Z2 := by
  unfold ins
  have e : Z1.length + 1 = (Z1 ++ [x]).length := by simp
  rw [e, List.take_left, List.drop_left]; simp

section
variable {s t : Tab} {L : Nat → List Nat} {l : KV} {h p : Nat} {K : ByteArray}
/-- what is left of a step up -/
structure Stepped (s s' : Tab) (L : Nat → List Nat) (h q : Nat) (n k : Nat) : Prop where
  depth : s'.depth = s.depth
  root : s'.root = s.root
  count : s'.count = s.count
  other : ∀ j r, j < s.depth → j ≠ h → r ∈ L j → r ≠ q → s'.nd r = s.nd r
  size : n ≤ (s'.nd q).length ∧ (s'.nd q).length ≤ n + 1
  sum : s'.nds.length + s'.free.length ≤ s.nds.length + s.free.length + k
theorem Tab.take_same (s : Tab) (zs : KV) : (s.take zs).depth = s.depth ∧ (s.take zs).root = s.root ∧ (s.take zs).count = s.count := by
  unfold Tab.take; cases s.free.getLast? <;> exact ⟨rfl, rfl, rfl⟩

theorem Mid.fixed (m : Mid s L l h p K) (hd : h + 1 < s.depth) {A B X M Y : List Nat} {Z1 Z2 : KV} {q P k : Nat}
    (hA : L (h + 1) = A ++ [q] ++ B) (hX : L h = X ++ M ++ Y) (e1 : A.flatMap s.nd ++ Z1 = X.map (s.lk true p K)) (e2 : Z2 ++ B.flatMap s.nd = Y.map (s.lk true p K)) (hp : p ∈ M) (hP : P ∈ M)
    (td : t.depth = s.depth) (tr : t.root = s.root) (tc : t.count = s.count) (tq : t.nd q = Z1 ++ [((t.nd P).key 0, (P : Int))] ++ Z2) (tp : t.nd P = M.flatMap s.nd)
    (to : ∀ j r, j < s.depth → r ∈ L j → r ≠ q → r ∉ M → t.nd r = s.nd r) (tl : t.nds.length = s.nds.length) (tf : t.free.Nodup)
    (tfr : ∀ f, f ∈ t.free → f < s.nds.length ∧ f ≠ P ∧ (f ∈ M ∨ ∀ j, j < s.depth → f ∉ L j)) (ts : t.nds.length + t.free.length ≤ s.nds.length + s.free.length + k) (z2 : 2 ≤ (t.nd P).length) (z5 : (t.nd P).length ≤ 7) :
    ∃ M', Mid (t.fix (q, Z1.length) P) (fun j => if j = h then X ++ M' ++ Y else L j) l (h + 1) q ((s.nd q).key 0) ∧ Stepped s (t.fix (q, Z1.length) P) L h q (Z1.length + 1 + Z2.length) (k + 1) := by
  have qL : q ∈ L (h + 1) := by rw [hA]; simp
  have Ml : ∀ r, r ∈ M → r ∈ L h := fun r hr => by rw [hX]; simp [hr]
  have notM : ∀ j r, j < s.depth → j ≠ h → r ∈ L j → r ∉ M := fun j r hj hn hr hm => hn (m.lev j h r hj (by omega) hr (Ml r hm))
  have qM : q ∉ M := notM (h + 1) q hd (by omega) qL
  have Pq : P ≠ q := fun e => qM (e ▸ hP)
  have Pl : P < s.nds.length := m.lt h P (by omega) (Ml P hP)
  have ql : q < s.nds.length := m.lt (h + 1) q hd qL
  by_cases c : 4 < (t.nd P).length
  · have ef : t.fix (q, Z1.length) P = t.split (q, Z1.length) P := if_pos c
    have fl : ∀ f, f ∈ t.free → f < t.nds.length := fun f hf => by rw [tl]; exact (tfr f hf).1
    -- the place
    obtain ⟨pl, hpl⟩ : ∃ pl, pl = t.place := ⟨_, rfl⟩
    have plq : pl ≠ q := fun e => by
      rcases Tab.place_new (s := t) with k | k
      · rw [← hpl, e] at k
        rcases (tfr q k).2.2 with u | u
        · exact qM u
        · exact u (h + 1) hd qL
      · rw [← hpl, e, tl] at k; omega
    have plP : pl ≠ P := fun e => by
      rcases Tab.place_new (s := t) with k | k
      · rw [← hpl, e] at k; exact (tfr P k).2.1 rfl
      · rw [← hpl, e, tl] at k; omega
    have plM : pl ∈ M ∨ ∀ j, j < s.depth → pl ∉ L j := by
      rcases Tab.place_new (s := t) with k | k
      · rw [← hpl] at k; exact (tfr pl k).2.2
      · refine .inr fun j hj hm => ?_
        have := m.lt j pl hj hm
        rw [← hpl, tl] at k; omega
    have l1 : (t.put P ((t.nd P).take 3)).nds.length = t.nds.length := Tab.put_len _ _ _
    have n2 : ∀ r, ((t.put P ((t.nd P).take 3)).take ((t.nd P).drop 3)).nd r = if r = pl then (t.nd P).drop 3 else if r = P then (t.nd P).take 3 else t.nd r := fun r => by
      rw [Tab.take_nd' (s := t.put P ((t.nd P).take 3)) (fun f hf => by rw [l1]; exact fl f hf), Tab.put_place, ← hpl, Tab.put_nd (by rw [tl]; exact Pl)]
    have l2 := (Tab.take_len (s := t.put P ((t.nd P).take 3)) (zs := (t.nd P).drop 3)).1
    rw [l1] at l2
    have n3 : ∀ r, (t.split (q, Z1.length) P).nd r = if r = q then Z1 ++ [((t.nd P).key 0, (P : Int)), ((t.nd P).key 3, (pl : Int))] ++ Z2 else if r = pl then (t.nd P).drop 3 else if r = P then (t.nd P).take 3 else t.nd r := fun r => by
      unfold Tab.split
      simp only
      rw [Tab.put_nd (by omega), n2, n2, if_neg (Ne.symm plq), if_neg (Ne.symm Pq), tq, ins_mid, ← hpl]
    have l3 : (t.split (q, Z1.length) P).nds.length = ((t.put P ((t.nd P).take 3)).take ((t.nd P).drop 3)).nds.length := Tab.put_len _ _ _
    have f3 : (t.split (q, Z1.length) P).free = t.free.dropLast := Tab.take_free
    have sm := Tab.take_same (t.put P ((t.nd P).take 3)) ((t.nd P).drop 3)
    have d3 : (t.split (q, Z1.length) P).depth = s.depth := sm.1.trans td
    have r3 : (t.split (q, Z1.length) P).root = s.root := sm.2.1.trans tr
    have c3 : (t.split (q, Z1.length) P).count = s.count := sm.2.2.trans tc
    have pnl : pl < (t.split (q, Z1.length) P).nds.length := by
      rw [l3, hpl, ← Tab.put_place t P ((t.nd P).take 3)]
      exact Tab.place_lt (s := t.put P ((t.nd P).take 3)) (fun f hf => by rw [l1]; exact fl f hf)
    have ps := Tab.take_sum (s := t.put P ((t.nd P).take 3)) (zs := (t.nd P).drop 3)
    have pf : (t.put P ((t.nd P).take 3)).free = t.free := rfl
    have po := Tab.place_out (s := t) (zs := (t.nd P).drop 3) tf
    rw [Tab.take_free, ← hpl] at po
    refine ⟨[P, pl], ?_, ?_⟩
    · rw [ef]
      refine m.relink hd hA hX e1 e2 hp d3 r3 ?_ (fun j r hj hr hq hm => ?_) ?_ ?_ (fun r hr => ?_) (by rw [l3]; omega) (by rw [f3]; exact tf.sublist (List.dropLast_sublist _)) (fun f hf => ?_) (fun r hr => ?_)
      · rw [n3, if_pos rfl]
        simp only [List.map_cons, List.map_nil]
        rw [n3 P, n3 pl, if_neg Pq, if_neg plq, if_neg (Ne.symm plP), if_pos rfl, if_pos rfl, KV.key0_take _ _ (by decide), KV.key0_drop]
      · have r1 : r ≠ P := fun e => hm (e ▸ hP)
        have r2 : r ≠ pl := fun e => by
          rcases plM with k | k
          · exact hm (e ▸ k)
          · exact k j hj (e ▸ hr)
        rw [n3, if_neg hq, if_neg r2, if_neg r1]
        exact to j r hj hr hq hm
      · simp only [List.flatMap_cons, List.flatMap_nil, List.append_nil]
        rw [n3 P, n3 pl, if_neg Pq, if_neg plq, if_neg (Ne.symm plP), if_pos rfl, if_pos rfl, List.take_append_drop, tp]
      · simp; exact fun e => plP e.symm
      · simp at hr
        rcases hr with rfl | rfl
        · exact ⟨by rw [l3]; omega, .inl hP⟩
        · exact ⟨pnl, plM⟩
      · rw [f3] at hf
        have hf2 := List.dropLast_subset _ hf
        obtain ⟨a1, a2, a3⟩ := tfr f hf2
        refine ⟨by rw [l3]; omega, ?_, a3⟩
        simp
        exact ⟨a2, fun e => po (e ▸ hf)⟩
      · simp at hr
        rcases hr with rfl | rfl
        · rw [n3, if_neg Pq, if_neg (Ne.symm plP), if_pos rfl, List.length_take]; omega
        · rw [n3, if_neg plq, if_pos rfl, List.length_drop]; omega
    · rw [ef]
      refine ⟨d3, r3, c3, fun j r hj hn hr hq => ?_, ?_, ?_⟩
      · have hm := notM j r hj hn hr
        have r1 : r ≠ P := fun e => hm (e ▸ hP)
        have r2 : r ≠ pl := fun e => by
          rcases plM with k | k
          · exact hm (e ▸ k)
          · exact k j hj (e ▸ hr)
        rw [n3, if_neg hq, if_neg r2, if_neg r1]
        exact to j r hj hr hq hm
      · rw [n3, if_pos rfl]; simp; omega
      · have : (t.split (q, Z1.length) P).free = ((t.put P ((t.nd P).take 3)).take ((t.nd P).drop 3)).free := rfl
        rw [l3, this]
        rw [l1, pf] at ps
        omega
  · have ef : t.fix (q, Z1.length) P = t := if_neg c
    refine ⟨[P], ?_, ?_⟩
    · rw [ef]
      refine m.relink hd hA hX e1 e2 hp td tr ?_ to ?_ (by simp) (fun r hr => ?_) (by rw [tl]; exact Nat.le_refl _) tf (fun f hf => ?_) (fun r hr => ?_)
      · rw [tq]; rfl
      · simp only [List.flatMap_cons, List.flatMap_nil, List.append_nil]; exact tp
      · simp at hr; subst hr; exact ⟨by rw [tl]; exact Pl, .inl hP⟩
      · obtain ⟨a1, a2, a3⟩ := tfr f hf
        exact ⟨by rw [tl]; exact a1, by simp; exact a2, a3⟩
      · simp at hr; subst hr; exact ⟨z2, by omega⟩
    · rw [ef]
      refine ⟨td, tr, tc, fun j r hj hn hr hq => to j r hj hr hq (notM j r hj hn hr), ?_, by omega⟩
      rw [tq]; simp; omega
end

end Go.Proofs.Ytdcjckdhjfnnhaa

namespace Go.Proofs.Ytdcjckdhjfnnhaa
open Go.RowKit

set_option maxHeartbeats 1000000 in
set_option maxRecDepth 100000 in
/-- insert, of no way -/
theorem xInsert0 (w : World) (T : Nat) (E : Nat → Prop) (s : Tab) (v : Value) (k : ByteArray) (n : Int) (h : TabG w T E s) (hv : SlW w v []) (hf : ∀ p, p ∈ s.free → p < s.nds.length) (hn : s.nds.length ≤ 100000) (hn2 : s.free.length ≤ 100000) :
    Calls Try.prog 24 #[Ptr T, v, .agg #[.string k, .int .i64 n]] w fun r w' => r = .returned (.tuple #[]) ∧ LeftP w T E { s.take [(k, n)] with root := s.place, depth := 1 } w' := by
  obtain ⟨rv, fv, vs, h⟩ := h
  obtain ⟨A, c, rfl, _⟩ := hv
  obtain ⟨q, hq⟩ : ∃ q, q = w.heap.size := ⟨_, rfl⟩
  obtain ⟨w1, hw1⟩ : ∃ w1, w1 = (w.alloc (.cells #[.string k, .int .i64 n] 56)).alloc (.cells #[.string k, .int .i64 n] 56) := ⟨_, rfl⟩
  have B1 : Below w.heap.size w w1 := by rw [hw1]; exact ((Below.refl _ _).alloc (Nat.le_refl _) _).alloc (by simp) _
  have s1 : w1.heap.size = q + 2 := by rw [hw1, hq]; simp
  have r1 : RowAt w1 (q + 1) [.string k, .int .i64 n] 56 := by
    rw [hw1, hq]
    have := RowAt.new (w.alloc (.cells #[.string k, .int .i64 n] 56)) [.string k, .int .i64 n] 56
    simpa using this
  have v1 : TabV w1 T (fun i => E i ∨ i = q + 1) s rv fv vs := (h.below B1).grow (fun i e => .inl e) (fun i e => by
    rcases e with e | e
    · have := h.lt i e; omega
    · omega)
  have wn : WinAt w1 (q + 1) 0 1 [(k, n)] := by
    refine ⟨Nat.le_refl _, by decide, by decide, fun j u hj => ?_, fun j hj => ?_, ⟨_, r1⟩⟩
    · rw [Nat.zero_add, r1.cell]; exact hj
    · rw [Nat.zero_add, r1.cell, List.getElem?_eq_getElem hj]; rfl
  have TC := Lib.hid (xTake w1 T (fun i => E i ∨ i = q + 1) s rv fv vs (some ⟨q + 1, 0, none⟩) 1 1 [(k, n)] v1 wn.node (fun i j ⟨_, _, _, e, _⟩ => by
    injection e with e _ _
    injection e with e
    injection e with e _ _
    have e : i = q + 1 := e.symm
    refine ⟨⟨.inr e, fun t => ?_, fun t => ?_, fun t => ?_⟩, fun m hm f => ?_⟩
    · have := h.lt T h.eT; omega
    · have := h.lt i (h.eN i t).1; omega
    · have := h.lt i (h.eF i t).1; omega
    · have := h.lt i (h.eW m i j hm f).1; omega) hf hn hn2)
  have FIN := Lib.hid (show ∀ w3, TookP w1 T (fun i => E i ∨ i = q + 1) s rv fv [(k, n)] w3 → LeftP w T E { s.take [(k, n)] with root := s.place, depth := 1 } ((w3.setCell ⟨T, 2, none⟩ (.int .i64 s.place)).setCell ⟨T, 3, none⟩ (.int .i64 1)) from fun w3 ⟨⟨E3, ⟨rv3, fv3, vs3, h3⟩, a3, c3⟩, _⟩ => by
    have h4 := h3.field (s' := { s.take [(k, n)] with root := s.place }) (u := .int .i64 s.place) 2 rfl rfl rfl
    have h5 := h4.field (s' := { s.take [(k, n)] with root := s.place, depth := 1 }) (u := .int .i64 1) 3 rfl rfl rfl
    refine ⟨E3, ⟨rv3, fv3, vs3, h5⟩, fun i e => ?_, ?_⟩
    · rcases a3 i e with (f | f) | f
      · exact .inl f
      · exact .inr (by omega)
      · exact .inr (by omega)
    · refine Chg.setCell (Chg.setCell ((Chg.of_below B1).trans c3 fun i e => ?_) (.inl h.eT) _) (.inl h.eT) _
      rcases e with e | e
      · exact .inl e
      · exact .inr (by omega))
  have ST := Lib.hid (show ∀ w3, TookP w1 T (fun i => E i ∨ i = q + 1) s rv fv [(k, n)] w3 → (∃ u, w3.cell? ⟨T, 2, none⟩ = some u) ∧ (∃ u, w3.cell? ⟨T, 3, none⟩ = some u) ∧ ∀ j, w3.frozen? ⟨T, j, none⟩ = false from fun w3 ⟨⟨E3, ⟨rv3, fv3, vs3, h3⟩, _, _⟩, _⟩ => ⟨⟨_, h3.row.cell 2⟩, ⟨_, h3.row.cell 3⟩, fun j => h3.row.frozen j⟩)
  have HW1 := Lib.hid hw1
  have HQ := Lib.hid hq
  clear h v1 wn r1 s1 B1 hw1 hq hn hn2 hf
  go_enter Try.func24, Try.ntmps24
  go_wp2_with (go_at_call 32; rw [← HW1.out, ← HQ.out]; refine TC.out.mono ?_; rintro r w3 ⟨rfl, ht⟩; obtain ⟨⟨u2, e2⟩, ⟨u3, e3⟩, z⟩ := ST.out w3 ht; have z2 := z 2; have z3 := z 3; have T3 := Lib.hid ht; clear ht z)
  (try simp only [Exit.inBlock, Exit.then])
  refine bodyPost_ret (results_none rfl _ _ _) rfl ?_
  exact ⟨rfl, FIN.out w3 T3.out⟩

end Go.Proofs.Ytdcjckdhjfnnhaa
