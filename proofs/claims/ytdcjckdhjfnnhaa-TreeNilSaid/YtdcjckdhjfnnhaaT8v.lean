/- A step up: the key told, the node parted if it is too great. -/
import Derived.Test.YtdcjckdhjfnnhaaT8u
namespace Go.Proofs.Ytdcjckdhjfnnhaa
open Go.RowKit

theorem KV.key0_take (z : KV) (n : Nat) (hn : 0 < n) : KV.key (z.take n) 0 = z.key 0 := by
  unfold KV.key
  rw [List.getD_eq_getElem?_getD, List.getD_eq_getElem?_getD, List.getElem?_take, if_pos hn]
theorem KV.key0_drop (z : KV) (n : Nat) : KV.key (z.drop n) 0 = z.key n := by
  unfold KV.key
  rw [List.getD_eq_getElem?_getD, List.getD_eq_getElem?_getD, List.getElem?_drop, Nat.add_zero]
theorem ins_mid (Z1 Z2 : KV) (x y : ByteArray × Int) : ins (Z1 ++ [x] ++ Z2) (Z1.length + 1) y = Z1 ++ [x, y] ++ Z2 := by
  unfold ins
  have e : Z1.length + 1 = (Z1 ++ [x]).length := by simp
  rw [e, List.take_left, List.drop_left]; simp

section
variable {s t : Tab} {L : Nat → List Nat} {l : KV} {h p : Nat} {K : ByteArray}
/-- what is left of a step up -/
structure Stepped (s s' : Tab) (L : Nat → List Nat) (h q : Nat) (n k : Nat) : Prop where
  depth : s'.depth = s.depth
  root : s'.root = s.root
  count : s'.count = s.count
  other : ∀ j r, j < s.depth → j ≠ h → r ∈ L j → r ≠ q → s'.nd r = s.nd r
  size : n ≤ (s'.nd q).length ∧ (s'.nd q).length ≤ n + 1
  sum : s'.nds.length + s'.free.length ≤ s.nds.length + s.free.length + k
theorem Tab.take_same (s : Tab) (zs : KV) : (s.take zs).depth = s.depth ∧ (s.take zs).root = s.root ∧ (s.take zs).count = s.count := by
  unfold Tab.take; cases s.free.getLast? <;> exact ⟨rfl, rfl, rfl⟩

theorem Mid.fixed (m : Mid s L l h p K) (hd : h + 1 < s.depth) {A B X M Y : List Nat} {Z1 Z2 : KV} {q P k : Nat}
    (hA : L (h + 1) = A ++ [q] ++ B) (hX : L h = X ++ M ++ Y) (e1 : A.flatMap s.nd ++ Z1 = X.map (s.lk true p K)) (e2 : Z2 ++ B.flatMap s.nd = Y.map (s.lk true p K)) (hp : p ∈ M) (hP : P ∈ M)
    (td : t.depth = s.depth) (tr : t.root = s.root) (tc : t.count = s.count) (tq : t.nd q = Z1 ++ [((t.nd P).key 0, (P : Int))] ++ Z2) (tp : t.nd P = M.flatMap s.nd)
    (to : ∀ j r, j < s.depth → r ∈ L j → r ≠ q → r ∉ M → t.nd r = s.nd r) (tl : t.nds.length = s.nds.length) (tf : t.free.Nodup)
    (tfr : ∀ f, f ∈ t.free → f < s.nds.length ∧ f ≠ P ∧ (f ∈ M ∨ ∀ j, j < s.depth → f ∉ L j)) (ts : t.nds.length + t.free.length ≤ s.nds.length + s.free.length + k) (z2 : 2 ≤ (t.nd P).length) (z5 : (t.nd P).length ≤ 7) :
    ∃ M', Mid (t.fix (q, Z1.length) P) (fun j => if j = h then X ++ M' ++ Y else L j) l (h + 1) q ((s.nd q).key 0) ∧ Stepped s (t.fix (q, Z1.length) P) L h q (Z1.length + 1 + Z2.length) (k + 1) := by
  have qL : q ∈ L (h + 1) := by rw [hA]; simp
  have Ml : ∀ r, r ∈ M → r ∈ L h := fun r hr => by rw [hX]; simp [hr]
  have notM : ∀ j r, j < s.depth → j ≠ h → r ∈ L j → r ∉ M := fun j r hj hn hr hm => hn (m.lev j h r hj (by omega) hr (Ml r hm))
  have qM : q ∉ M := notM (h + 1) q hd (by omega) qL
  have Pq : P ≠ q := fun e => qM (e ▸ hP)
  have Pl : P < s.nds.length := m.lt h P (by omega) (Ml P hP)
  have ql : q < s.nds.length := m.lt (h + 1) q hd qL
  by_cases c : 4 < (t.nd P).length
  · have ef : t.fix (q, Z1.length) P = t.split (q, Z1.length) P := if_pos c
    have fl : ∀ f, f ∈ t.free → f < t.nds.length := fun f hf => by rw [tl]; exact (tfr f hf).1
    -- the place
    obtain ⟨pl, hpl⟩ : ∃ pl, pl = t.place := ⟨_, rfl⟩
    have plq : pl ≠ q := fun e => by
      rcases Tab.place_new (s := t) with k | k
      · rw [← hpl, e] at k
        rcases (tfr q k).2.2 with u | u
        · exact qM u
        · exact u (h + 1) hd qL
      · rw [← hpl, e, tl] at k; omega
    have plP : pl ≠ P := fun e => by
      rcases Tab.place_new (s := t) with k | k
      · rw [← hpl, e] at k; exact (tfr P k).2.1 rfl
      · rw [← hpl, e, tl] at k; omega
    have plM : pl ∈ M ∨ ∀ j, j < s.depth → pl ∉ L j := by
      rcases Tab.place_new (s := t) with k | k
      · rw [← hpl] at k; exact (tfr pl k).2.2
      · refine .inr fun j hj hm => ?_
        have := m.lt j pl hj hm
        rw [← hpl, tl] at k; omega
    have l1 : (t.put P ((t.nd P).take 3)).nds.length = t.nds.length := Tab.put_len _ _ _
    have n2 : ∀ r, ((t.put P ((t.nd P).take 3)).take ((t.nd P).drop 3)).nd r = if r = pl then (t.nd P).drop 3 else if r = P then (t.nd P).take 3 else t.nd r := fun r => by
      rw [Tab.take_nd' (s := t.put P ((t.nd P).take 3)) (fun f hf => by rw [l1]; exact fl f hf), Tab.put_place, ← hpl, Tab.put_nd (by rw [tl]; exact Pl)]
    have l2 := (Tab.take_len (s := t.put P ((t.nd P).take 3)) (zs := (t.nd P).drop 3)).1
    rw [l1] at l2
    have n3 : ∀ r, (t.split (q, Z1.length) P).nd r = if r = q then Z1 ++ [((t.nd P).key 0, (P : Int)), ((t.nd P).key 3, (pl : Int))] ++ Z2 else if r = pl then (t.nd P).drop 3 else if r = P then (t.nd P).take 3 else t.nd r := fun r => by
      unfold Tab.split
      simp only
      rw [Tab.put_nd (by omega), n2, n2, if_neg (Ne.symm plq), if_neg (Ne.symm Pq), tq, ins_mid, ← hpl]
    have l3 : (t.split (q, Z1.length) P).nds.length = ((t.put P ((t.nd P).take 3)).take ((t.nd P).drop 3)).nds.length := Tab.put_len _ _ _
    have f3 : (t.split (q, Z1.length) P).free = t.free.dropLast := Tab.take_free
    have sm := Tab.take_same (t.put P ((t.nd P).take 3)) ((t.nd P).drop 3)
    have d3 : (t.split (q, Z1.length) P).depth = s.depth := sm.1.trans td
    have r3 : (t.split (q, Z1.length) P).root = s.root := sm.2.1.trans tr
    have c3 : (t.split (q, Z1.length) P).count = s.count := sm.2.2.trans tc
    have pnl : pl < (t.split (q, Z1.length) P).nds.length := by
      rw [l3, hpl, ← Tab.put_place t P ((t.nd P).take 3)]
      exact Tab.place_lt (s := t.put P ((t.nd P).take 3)) (fun f hf => by rw [l1]; exact fl f hf)
    have ps := Tab.take_sum (s := t.put P ((t.nd P).take 3)) (zs := (t.nd P).drop 3)
    have pf : (t.put P ((t.nd P).take 3)).free = t.free := rfl
    have po := Tab.place_out (s := t) (zs := (t.nd P).drop 3) tf
    rw [Tab.take_free, ← hpl] at po
    refine ⟨[P, pl], ?_, ?_⟩
    · rw [ef]
      refine m.relink hd hA hX e1 e2 hp d3 r3 ?_ (fun j r hj hr hq hm => ?_) ?_ ?_ (fun r hr => ?_) (by rw [l3]; omega) (by rw [f3]; exact tf.sublist (List.dropLast_sublist _)) (fun f hf => ?_) (fun r hr => ?_)
      · rw [n3, if_pos rfl]
        simp only [List.map_cons, List.map_nil]
        rw [n3 P, n3 pl, if_neg Pq, if_neg plq, if_neg (Ne.symm plP), if_pos rfl, if_pos rfl, KV.key0_take _ _ (by decide), KV.key0_drop]
      · have r1 : r ≠ P := fun e => hm (e ▸ hP)
        have r2 : r ≠ pl := fun e => by
          rcases plM with k | k
          · exact hm (e ▸ k)
          · exact k j hj (e ▸ hr)
        rw [n3, if_neg hq, if_neg r2, if_neg r1]
        exact to j r hj hr hq hm
      · simp only [List.flatMap_cons, List.flatMap_nil, List.append_nil]
        rw [n3 P, n3 pl, if_neg Pq, if_neg plq, if_neg (Ne.symm plP), if_pos rfl, if_pos rfl, List.take_append_drop, tp]
      · simp; exact fun e => plP e.symm
      · simp at hr
        rcases hr with rfl | rfl
        · exact ⟨by rw [l3]; omega, .inl hP⟩
        · exact ⟨pnl, plM⟩
      · rw [f3] at hf
        have hf2 := List.dropLast_subset _ hf
        obtain ⟨a1, a2, a3⟩ := tfr f hf2
        refine ⟨by rw [l3]; omega, ?_, a3⟩
        simp
        exact ⟨a2, fun e => po (e ▸ hf)⟩
      · simp at hr
        rcases hr with rfl | rfl
        · rw [n3, if_neg Pq, if_neg (Ne.symm plP), if_pos rfl, List.length_take]; omega
        · rw [n3, if_neg plq, if_pos rfl, List.length_drop]; omega
    · rw [ef]
      refine ⟨d3, r3, c3, fun j r hj hn hr hq => ?_, ?_, ?_⟩
      · have hm := notM j r hj hn hr
        have r1 : r ≠ P := fun e => hm (e ▸ hP)
        have r2 : r ≠ pl := fun e => by
          rcases plM with k | k
          · exact hm (e ▸ k)
          · exact k j hj (e ▸ hr)
        rw [n3, if_neg hq, if_neg r2, if_neg r1]
        exact to j r hj hr hq hm
      · rw [n3, if_pos rfl]; simp; omega
      · have : (t.split (q, Z1.length) P).free = ((t.put P ((t.nd P).take 3)).take ((t.nd P).drop 3)).free := rfl
        rw [l3, this]
        rw [l1, pf] at ps
        omega
  · have ef : t.fix (q, Z1.length) P = t := if_neg c
    refine ⟨[P], ?_, ?_⟩
    · rw [ef]
      refine m.relink hd hA hX e1 e2 hp td tr ?_ to ?_ (by simp) (fun r hr => ?_) (by rw [tl]; exact Nat.le_refl _) tf (fun f hf => ?_) (fun r hr => ?_)
      · rw [tq]; rfl
      · simp only [List.flatMap_cons, List.flatMap_nil, List.append_nil]; exact tp
      · simp at hr; subst hr; exact ⟨by rw [tl]; exact Pl, .inl hP⟩
      · obtain ⟨a1, a2, a3⟩ := tfr f hf
        exact ⟨by rw [tl]; exact a1, by simp; exact a2, a3⟩
      · simp at hr; subst hr; exact ⟨z2, by omega⟩
    · rw [ef]
      refine ⟨td, tr, tc, fun j r hj hn hr hq => to j r hj hr hq (notM j r hj hn hr), ?_, by omega⟩
      rw [tq]; simp; omega
end

end Go.Proofs.Ytdcjckdhjfnnhaa
