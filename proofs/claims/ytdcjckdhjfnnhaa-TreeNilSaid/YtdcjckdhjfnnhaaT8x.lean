/- The top: a root is parted, a lone kid becomes the root. -/
import Derived.Test.YtdcjckdhjfnnhaaT8t
namespace Go.Proofs.Ytdcjckdhjfnnhaa
open Go.RowKit

section
variable {s : Tab} {L : Nat → List Nat} {l : KV} {e : Nat} {K : ByteArray}
theorem Mid.rootOf {h p : Nat} (m : Mid s L l h p K) {r : Nat} (hr : r ∈ L (s.depth - 1)) : r = s.root := by rw [m.top] at hr; simpa using hr
theorem Mid.fineTop (m : Mid s L l e s.root K) (he : e + 1 = s.depth) (h2 : 1 ≤ (s.nd s.root).length) (h5 : (s.nd s.root).length ≤ 5) (hb : s.nds.length + s.free.length ≤ 50000) (hd : s.depth ≤ 50000) : FineTop s :=
  ⟨m.lt (s.depth - 1) s.root (by omega) (by rw [m.top]; simp), h2, by omega, fun f hf => (m.free f hf).1, by omega, by omega, hd⟩
/-- a new root -/
theorem Mid.top_ok (m : Mid s L l e s.root K) (he : e + 1 = s.depth) (h2 : 2 ≤ (s.nd s.root).length) (h5 : (s.nd s.root).length ≤ 5) :
    ∃ L', Whole s.top L' l ∧ s.top.count = s.count ∧ s.top.nds.length + s.top.free.length ≤ s.nds.length + s.free.length + 2 ∧ s.top.depth ≤ s.depth + 1 := by
  have rL : s.root ∈ L e := by rw [show e = s.depth - 1 by omega, m.top]; simp
  have Le : L e = [s.root] := by rw [show e = s.depth - 1 by omega, m.top]
  have rl := m.lt e s.root (by omega) rL
  by_cases c : 4 < (s.nd s.root).length
  · have ef : s.top = { s.cutR.take [((s.nd s.root).key 0, (s.root : Int)), ((s.nd s.root).key 3, (s.place : Int))] with root := s.cutR.place, depth := s.depth + 1 } := if_pos c
    obtain ⟨R, hR⟩ : ∃ R, R = s.root := ⟨_, rfl⟩
    obtain ⟨p1, hp1⟩ : ∃ p1, p1 = s.place := ⟨_, rfl⟩
    obtain ⟨p2, hp2⟩ : ∃ p2, p2 = s.cutR.place := ⟨_, rfl⟩
    have fl : ∀ f, f ∈ s.free → f < s.nds.length := fun f hf => (m.free f hf).1
    have l1 : (s.put s.root ((s.nd s.root).take 3)).nds.length = s.nds.length := Tab.put_len _ _ _
    have l2 := Tab.take_len (s := s.put s.root ((s.nd s.root).take 3)) (zs := (s.nd s.root).drop 3)
    rw [l1] at l2
    have n2 : ∀ r, s.cutR.nd r = if r = p1 then (s.nd R).drop 3 else if r = R then (s.nd R).take 3 else s.nd r := fun r => by
      unfold Tab.cutR
      rw [Tab.take_nd' (s := s.put s.root ((s.nd s.root).take 3)) (fun f hf => by rw [l1]; exact fl f hf), Tab.put_place, ← hp1, Tab.put_nd rl, hR]
    have f2 : s.cutR.free = s.free.dropLast := Tab.take_free
    have f2l : ∀ f, f ∈ s.cutR.free → f < s.nds.length ∧ f ∈ s.free := fun f hf => by
      rw [f2] at hf
      have := List.dropLast_subset _ hf
      exact ⟨fl f this, this⟩
    have len2 : s.nds.length ≤ s.cutR.nds.length := l2.1
    have n3 : ∀ r, s.top.nd r = if r = p2 then [((s.nd R).key 0, (R : Int)), ((s.nd R).key 3, (p1 : Int))] else s.cutR.nd r := fun r => by
      rw [ef]
      show (s.cutR.take _).nd r = _
      rw [Tab.take_nd' (fun f hf => Nat.lt_of_lt_of_le (f2l f hf).1 len2), ← hp2, hp1, hR]
    have new1 : ∀ j, j < s.depth → p1 ∉ L j := fun j hj hm => by
      rcases Tab.place_new (s := s) with k | k
      · rw [← hp1] at k; exact (m.free p1 k).2 j hj hm
      · have := m.lt j p1 hj hm
        rw [← hp1] at k; omega
    have new2 : (∀ j, j < s.depth → p2 ∉ L j) ∧ p2 ≠ p1 := by
      have po := Tab.place_out (s := s) (zs := (s.nd s.root).drop 3) m.fnd
      rw [Tab.take_free, ← hp1] at po
      rcases Tab.place_new (s := s.cutR) with k | k
      · rw [← hp2] at k
        refine ⟨fun j hj hm => (m.free p2 (f2l p2 k).2).2 j hj hm, fun t => ?_⟩
        rw [f2, t] at k
        exact po k
      · rw [← hp2] at k
        refine ⟨fun j hj hm => by have := m.lt j p2 hj hm; omega, fun t => ?_⟩
        have : p1 < s.cutR.nds.length := by
          have := Tab.place_lt (s := s.put s.root ((s.nd s.root).take 3)) (zs := (s.nd s.root).drop 3) (fun f hf => by rw [l1]; exact fl f hf)
          rw [Tab.put_place, ← hp1] at this
          exact this
        omega
    have p1R : p1 ≠ R := fun t => new1 e (by omega) (by rw [t, hR]; exact rL)
    have p2R : p2 ≠ R := fun t => new2.1 e (by omega) (by rw [t, hR]; exact rL)
    have nR : s.top.nd R = (s.nd R).take 3 := by rw [n3, if_neg (Ne.symm p2R), n2, if_neg (Ne.symm p1R), if_pos rfl]
    have nP1 : s.top.nd p1 = (s.nd R).drop 3 := by rw [n3, if_neg (Ne.symm new2.2), n2, if_pos rfl]
    have nP2 : s.top.nd p2 = [((s.nd R).key 0, (R : Int)), ((s.nd R).key 3, (p1 : Int))] := by rw [n3, if_pos rfl]
    have nO : ∀ j r, j < s.depth → r ∈ L j → r ≠ R → s.top.nd r = s.nd r := fun j r hj hr hn => by
      rw [n3, if_neg (fun t => new2.1 j hj (by rw [← t]; exact hr)), n2, if_neg (fun t => new1 j hj (by rw [← t]; exact hr)), if_neg hn]
    have dT : s.top.depth = s.depth + 1 := by rw [ef]
    have rT : s.top.root = p2 := by rw [ef]; exact hp2.symm
    have cT : s.top.count = s.count := by
      rw [ef]
      exact (Tab.take_same s.cutR _).2.2.trans (Tab.take_same (s.put s.root ((s.nd s.root).take 3)) _).2.2
    have fT : s.top.free = s.free.dropLast.dropLast := by
      rw [ef, ← f2]
      exact Tab.take_free
    have lT : s.top.nds.length = (s.cutR.take [((s.nd s.root).key 0, (s.root : Int)), ((s.nd s.root).key 3, (s.place : Int))]).nds.length := by rw [ef]
    have lT1 : s.cutR.nds.length ≤ s.top.nds.length := by rw [lT]; exact (Tab.take_len (s := s.cutR)).1
    have p1T : p1 < s.top.nds.length := by
      have := Tab.place_lt (s := s.put s.root ((s.nd s.root).take 3)) (zs := (s.nd s.root).drop 3) (fun f hf => by rw [l1]; exact fl f hf)
      rw [Tab.put_place, ← hp1] at this
      exact Nat.lt_of_lt_of_le this lT1
    have p2T : p2 < s.top.nds.length := by
      rw [lT, hp2]
      exact Tab.place_lt (s := s.cutR) (fun f hf => Nat.lt_of_lt_of_le (f2l f hf).1 len2)
    have sum : s.top.nds.length + s.top.free.length ≤ s.nds.length + s.free.length + 2 := by
      have a1 := Tab.take_sum (s := s.put s.root ((s.nd s.root).take 3)) (zs := (s.nd s.root).drop 3)
      have a2 := Tab.take_sum (s := s.cutR) (zs := [((s.nd s.root).key 0, (s.root : Int)), ((s.nd s.root).key 3, (s.place : Int))])
      rw [l1] at a1
      have a3 : s.top.free = (s.cutR.take [((s.nd s.root).key 0, (s.root : Int)), ((s.nd s.root).key 3, (s.place : Int))]).free := by rw [ef]
      have a4 : (s.put s.root ((s.nd s.root).take 3)).free = s.free := rfl
      rw [a4] at a1
      unfold Tab.cutR at a2 lT a3
      rw [lT, a3]
      omega
    refine ⟨fun j => if j = s.depth then [p2] else if j = e then [R, p1] else L j, ?_, cT, sum, by omega⟩
    have Rn : ∀ j r, j < s.depth → j ≠ e → r ∈ L j → r ≠ R := fun j r hj hn hr t => hn (m.lev j e r hj (by omega) hr (by rw [t, hR]; exact rL))
    refine ⟨by omega, ?_, fun j hj => ?_, fun i j r hi hj h1 h3 => ?_, fun j r hj hr => ?_, ?_, fun f hf => ?_, fun j r hj hr _ => ?_, fun j hj => ?_, ?_⟩
    · rw [dT, rT, show s.depth + 1 - 1 = s.depth by omega, if_pos rfl]
    · show (if j = s.depth then [p2] else if j = e then [R, p1] else L j).Nodup
      by_cases a : j = s.depth
      · rw [if_pos a]; simp
      · rw [if_neg a]
        by_cases b : j = e
        · rw [if_pos b]; simp; exact fun t => p1R t.symm
        · rw [if_neg b]; exact m.nodup j (by omega)
    · rw [dT] at hi hj
      have key : ∀ i, i < s.depth + 1 → r ∈ (if i = s.depth then [p2] else if i = e then [R, p1] else L i) → (i = s.depth ∧ r = p2) ∨ (i = e ∧ r = p1) ∨ (i < s.depth ∧ r ∈ L i) := fun i hi h => by
        by_cases a : i = s.depth
        · rw [if_pos a] at h; simp at h; exact .inl ⟨a, h⟩
        · rw [if_neg a] at h
          by_cases b : i = e
          · rw [if_pos b] at h
            simp at h
            rcases h with h | h
            · exact .inr (.inr ⟨by omega, by rw [b, h, hR]; exact rL⟩)
            · exact .inr (.inl ⟨b, h⟩)
          · rw [if_neg b] at h; exact .inr (.inr ⟨by omega, h⟩)
      rcases key i hi h1 with ⟨a1, a2⟩ | ⟨a1, a2⟩ | ⟨a1, a2⟩ <;> rcases key j hj h3 with ⟨b1, b2⟩ | ⟨b1, b2⟩ | ⟨b1, b2⟩
      · omega
      · exact absurd (a2.symm.trans b2) new2.2
      · exact absurd (a2 ▸ b2) (new2.1 j b1)
      · exact absurd (b2.symm.trans a2) new2.2
      · omega
      · exact absurd (a2 ▸ b2) (new1 j b1)
      · exact absurd (b2 ▸ a2) (new2.1 i a1)
      · exact absurd (b2 ▸ a2) (new1 i a1)
      · exact m.lev i j r a1 b1 a2 b2
    · rw [dT] at hj
      by_cases a : j = s.depth
      · rw [if_pos a] at hr; simp at hr; rw [hr]; exact p2T
      · rw [if_neg a] at hr
        by_cases b : j = e
        · rw [if_pos b] at hr
          simp at hr
          rcases hr with hr | hr
          · rw [hr, hR]; omega
          · rw [hr]; exact p1T
        · rw [if_neg b] at hr
          have := m.lt j r (by omega) hr
          omega
    · rw [fT]; exact (m.fnd.sublist (List.dropLast_sublist _)).sublist (List.dropLast_sublist _)
    · rw [fT] at hf
      have hf1 := List.dropLast_subset _ hf
      have hf2 := List.dropLast_subset _ hf1
      obtain ⟨a1, a2⟩ := m.free f hf2
      refine ⟨by omega, fun j hj => ?_⟩
      rw [dT] at hj
      have fp1 : f ≠ p1 := fun t => by
        have po := Tab.place_out (s := s) (zs := (s.nd s.root).drop 3) m.fnd
        rw [Tab.take_free, ← hp1, ← t] at po
        exact po hf1
      have fp2 : f ≠ p2 := fun t => by
        have po := Tab.place_out (s := s.cutR) (zs := (s.nd s.root).drop 3) (by rw [f2]; exact m.fnd.sublist (List.dropLast_sublist _))
        rw [Tab.take_free, f2, ← hp2, ← t] at po
        exact po hf
      by_cases a : j = s.depth
      · rw [if_pos a]; simp; exact fp2
      · rw [if_neg a]
        by_cases b : j = e
        · rw [if_pos b]; simp
          exact ⟨fun t => a2 e (by omega) (by rw [t, hR]; exact rL), fp1⟩
        · rw [if_neg b]; exact a2 j (by omega)
    · rw [dT] at hj ⊢
      rw [if_neg (show ¬ s.depth + 1 = 1 by have := m.d1; omega)]
      by_cases a : j = s.depth
      · rw [if_pos a] at hr; simp at hr; rw [hr, nP2]; exact ⟨by simp, by simp⟩
      · rw [if_neg a] at hr
        by_cases b : j = e
        · rw [if_pos b] at hr
          simp at hr
          rcases hr with hr | hr
          · rw [hr, nR, List.length_take, hR]; omega
          · rw [hr, nP1, List.length_drop, hR]; omega
        · rw [if_neg b] at hr
          have := m.size j r (by omega) hr (fun t => b t.1)
          rw [if_neg (show ¬ s.depth = 1 by omega)] at this
          rw [nO j r (by omega) hr (Rn j r (by omega) b hr)]
          exact this
    · rw [dT] at hj
      have lks : ∀ (W : List Nat), W.map (s.top.lk (decide (j = s.top.depth)) 0 ⟨#[]⟩) = W.map (fun r => ((s.top.nd r).key 0, (r : Int))) := fun W => by
        apply List.map_congr_left
        intro r _
        unfold Tab.lk
        rw [if_neg (fun t => by have := t.1; simp at this; omega)]
      rw [lks]
      by_cases a : j + 1 = s.depth
      · have je : j = e := by omega
        rw [if_pos a, if_neg (show ¬ j = s.depth by omega), if_pos je]
        simp only [List.flatMap_cons, List.flatMap_nil, List.append_nil, List.map_cons, List.map_nil]
        rw [nP2, nR, nP1, KV.key0_take _ _ (by decide), KV.key0_drop]
      · rw [if_neg a, if_neg (show ¬ j = s.depth by omega)]
        have key : (if j + 1 = e then [R, p1] else L (j + 1)).flatMap s.top.nd = (L (j + 1)).flatMap s.nd := by
          by_cases b : j + 1 = e
          · rw [if_pos b, b, Le]
            simp only [List.flatMap_cons, List.flatMap_nil, List.append_nil]
            rw [nR, nP1, List.take_append_drop, hR]
          · rw [if_neg b]
            exact fm_congr fun r hr => nO (j + 1) r (by omega) hr (Rn (j + 1) r (by omega) b hr)
        rw [key, if_neg (show ¬ j = e by omega), m.link j (by omega)]
        apply List.map_congr_left
        intro r hr
        unfold Tab.lk
        rw [if_neg (fun t => by have := t.1; simp at this; omega), nO j r (by omega) hr (Rn j r (by omega) (by omega) hr)]
    · rw [if_neg (show ¬ 0 = s.depth by have := m.d1; omega), ← m.leaf]
      by_cases b : 0 = e
      · rw [if_pos b, b, Le]
        simp only [List.flatMap_cons, List.flatMap_nil, List.append_nil]
        rw [nR, nP1, List.take_append_drop, hR]
      · rw [if_neg b]
        exact fm_congr fun r hr => nO 0 r m.d1 hr (Rn 0 r m.d1 b hr)
  · have ef : s.top = s := if_neg c
    rw [ef]
    exact ⟨L, m.clean (fun _ _ => ⟨by split <;> omega, by omega⟩) (fun h => by omega), rfl, by omega, by omega⟩
end

end Go.Proofs.Ytdcjckdhjfnnhaa
