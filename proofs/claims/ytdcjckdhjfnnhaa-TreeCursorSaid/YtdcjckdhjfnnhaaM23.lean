/- Proved parts: T8x T8ec. Conditions: each theorem's own. -/
import Derived.Test.YtdcjckdhjfnnhaaM22
import Derived.Test.YtdcjckdhjfnnhaaM8
namespace Go.Proofs.Ytdcjckdhjfnnhaa
open Go.RowKit

section
variable {s : Tab} {L : Nat → List Nat} {l : KV} {e : Nat} {K : ByteArray}
theorem Mid.rootOf {h p : Nat} (m : Mid s L l h p K) {r : Nat} (hr : r ∈ L (s.depth - 1)) : r = s.root := by rw [m.top] at hr; simpa using hr
theorem Mid.fineTop (m : Mid s L l e s.root K) (he : e + 1 = s.depth) (h2 : 1 ≤ (s.nd s.root).length) (h5 : (s.nd s.root).length ≤ 5) (hb : s.nds.length + s.free.length ≤ 50000) (hd : s.depth ≤ 50000) : FineTop s :=
  ⟨m.lt (s.depth - 1) s.root (by omega) (by rw [m.top]; simp), h2, by omega, fun f hf => (m.free f hf).1, by omega, by omega, hd⟩
/-- a new root -/
theorem Mid.top_ok (m : Mid s L l e s.root K) (he : e + 1 = s.depth) (h2 : 2 ≤ (s.nd s.root).length) (h5 : (s.nd s.root).length ≤ 5) :
    ∃ L', Whole s.top L' l ∧ s.top.count = s.count ∧ s.top.nds.length + s.top.free.length ≤ s.nds.length + s.free.length + 2 ∧ s.top.depth ≤ s.depth + 1 := by
  have rL : s.root ∈ L e := by rw [show e = s.depth - 1 by omega, m.top]; simp
  have Le : L e = [s.root] := by rw [show e = s.depth - 1 by omega, m.top]
  have rl := m.lt e s.root (by omega) rL
  by_cases c : 4 < (s.nd s.root).length
  · have ef : s.top = { s.cutR.take [((s.nd s.root).key 0, (s.root : Int)), ((s.nd s.root).key 3, (s.place : Int))] with root := s.cutR.place, depth := s.depth + 1 } := if_pos c
    obtain ⟨R, hR⟩ : ∃ R, R = s.root := ⟨_, rfl⟩
    obtain ⟨p1, hp1⟩ : ∃ p1, p1 = s.place := ⟨_, rfl⟩
    obtain ⟨p2, hp2⟩ : ∃ p2, p2 = s.cutR.place := ⟨_, rfl⟩
    have fl : ∀ f, f ∈ s.free → f < s.nds.length := fun f hf => (m.free f hf).1
    have l1 : (s.put s.root ((s.nd s.root).take 3)).nds.length = s.nds.length := Tab.put_len _ _ _
    have l2 := Tab.take_len (s := s.put s.root ((s.nd s.root).take 3)) (zs := (s.nd s.root).drop 3)
    rw [l1] at l2
    have n2 : ∀ r, s.cutR.nd r = if r = p1 then (s.nd R).drop 3 else if r = R then (s.nd R).take 3 else s.nd r := fun r => by
      unfold Tab.cutR
      rw [Tab.take_nd' (s := s.put s.root ((s.nd s.root).take 3)) (fun f hf => by rw [l1]; exact fl f hf), Tab.put_place, ← hp1, Tab.put_nd rl, hR]
    have f2 : s.cutR.free = s.free.dropLast := Tab.take_free
    have f2l : ∀ f, f ∈ s.cutR.free → f < s.nds.length ∧ f ∈ s.free := fun f hf => by
      rw [f2] at hf
      have := List.dropLast_subset _ hf
      exact ⟨fl f this, this⟩
    have len2 : s.nds.length ≤ s.cutR.nds.length := l2.1
    have n3 : ∀ r, s.top.nd r = if r = p2 then [((s.nd R).key 0, (R : Int)), ((s.nd R).key 3, (p1 : Int))] else s.cutR.nd r := fun r => by
      rw [ef]
      show (s.cutR.take _).nd r = _
      rw [Tab.take_nd' (fun f hf => Nat.lt_of_lt_of_le (f2l f hf).1 len2), ← hp2, hp1, hR]
    have new1 : ∀ j, j < s.depth → p1 ∉ L j := fun j hj hm => by
      rcases Tab.place_new (s := s) with k | k
      · rw [← hp1] at k; exact (m.free p1 k).2 j hj hm
      · have := m.lt j p1 hj hm
        rw [← hp1] at k; omega
    have new2 : (∀ j, j < s.depth → p2 ∉ L j) ∧ p2 ≠ p1 := by
      have po := Tab.place_out (s := s) (zs := (s.nd s.root).drop 3) m.fnd
      rw [Tab.take_free, ← hp1] at po
      rcases Tab.place_new (s := s.cutR) with k | k
      · rw [← hp2] at k
        refine ⟨fun j hj hm => (m.free p2 (f2l p2 k).2).2 j hj hm, fun t => ?_⟩
        rw [f2, t] at k
        exact po k
      · rw [← hp2] at k
        refine ⟨fun j hj hm => by have := m.lt j p2 hj hm; omega, fun t => ?_⟩
        have : p1 < s.cutR.nds.length := by
          have := Tab.place_lt (s := s.put s.root ((s.nd s.root).take 3)) (zs := (s.nd s.root).drop 3) (fun f hf => by rw [l1]; exact fl f hf)
          rw [Tab.put_place, ← hp1] at this
          exact this
        omega
    have p1R : p1 ≠ R := fun t => new1 e (by omega) (by rw [t, hR]; exact rL)
    have p2R : p2 ≠ R := fun t => new2.1 e (by omega) (by rw [t, hR]; exact rL)
    have nR : s.top.nd R = (s.nd R).take 3 := by rw [n3, if_neg (Ne.symm p2R), n2, if_neg (Ne.symm p1R), if_pos rfl]
    have nP1 : s.top.nd p1 = (s.nd R).drop 3 := by rw [n3, if_neg (Ne.symm new2.2), n2, if_pos rfl]
    have nP2 : s.top.nd p2 = [((s.nd R).key 0, (R : Int)), ((s.nd R).key 3, (p1 : Int))] := by rw [n3, if_pos rfl]
    have nO : ∀ j r, j < s.depth → r ∈ L j → r ≠ R → s.top.nd r = s.nd r := fun j r hj hr hn => by
      rw [n3, if_neg (fun t => new2.1 j hj (by rw [← t]; exact hr)), n2, if_neg (fun t => new1 j hj (by rw [← t]; exact hr)), if_neg hn]
    have dT : s.top.depth = s.depth + 1 := by rw [ef]
    have rT : s.top.root = p2 := by rw [ef]; exact hp2.symm
    have cT : s.top.count = s.count := by
      rw [ef]
      exact (Tab.take_same s.cutR _).2.2.trans (Tab.take_same (s.put s.root ((s.nd s.root).take 3)) _).2.2
    have fT : s.top.free = s.free.dropLast.dropLast := by
      rw [ef, ← f2]
      exact Tab.take_free
    have lT : s.top.nds.length = (s.cutR.take [((s.nd s.root).key 0, (s.root : Int)), ((s.nd s.root).key 3, (s.place : Int))]).nds.length := by rw [ef]
    have lT1 : s.cutR.nds.length ≤ s.top.nds.length := by rw [lT]; exact (Tab.take_len (s := s.cutR)).1
    have p1T : p1 < s.top.nds.length := by
      have := Tab.place_lt (s := s.put s.root ((s.nd s.root).take 3)) (zs := (s.nd s.root).drop 3) (fun f hf => by rw [l1]; exact fl f hf)
      rw [Tab.put_place, ← hp1] at this
      exact Nat.lt_of_lt_of_le this lT1
    have p2T : p2 < s.top.nds.length := by
      rw [lT, hp2]
      exact Tab.place_lt (s := s.cutR) (fun f hf => Nat.lt_of_lt_of_le (f2l f hf).1 len2)
    have sum : s.top.nds.length + s.top.free.length ≤ s.nds.length + s.free.length + 2 := by
      have a1 := Tab.take_sum (s := s.put s.root ((s.nd s.root).take 3)) (zs := (s.nd s.root).drop 3)
      have a2 := Tab.take_sum (s := s.cutR) (zs := [((s.nd s.root).key 0, (s.root : Int)), ((s.nd s.root).key 3, (s.place : Int))])
      rw [l1] at a1
      have a3 : s.top.free = (s.cutR.take [((s.nd s.root).key 0, (s.root : Int)), ((s.nd s.root).key 3, (s.place : Int))]).free := by rw [ef]
      have a4 : (s.put s.root ((s.nd s.root).take 3)).free = s.free := rfl
      rw [a4] at a1
      unfold Tab.cutR at a2 lT a3
      rw [lT, a3]
      omega
    refine ⟨fun j => if j = s.depth then [p2] else if j = e then [R, p1] else L j, ?_, cT, sum, by omega⟩
    have Rn : ∀ j r, j < s.depth → j ≠ e → r ∈ L j → r ≠ R := fun j r hj hn hr t => hn (m.lev j e r hj (by omega) hr (by rw [t, hR]; exact rL))
    refine ⟨by omega, ?_, fun j hj => ?_, fun i j r hi hj h1 h3 => ?_, fun j r hj hr => ?_, ?_, fun f hf => ?_, fun j r hj hr _ => ?_, fun j hj => ?_, ?_⟩
    · rw [dT, rT, show s.depth + 1 - 1 = s.depth by omega, if_pos rfl]
    · show (if j = s.depth then [p2] else if j = e then [R, p1] else L j).Nodup
      by_cases a : j = s.depth
      · rw [if_pos a]; simp
      · rw [if_neg a]
        by_cases b : j = e
        · rw [if_pos b]; simp; exact fun t => p1R t.symm
        · rw [if_neg b]; exact m.nodup j (by omega)
    · rw [dT] at hi hj
      have key : ∀ i, i < s.depth + 1 → r ∈ (if i = s.depth then [p2] else if i = e then [R, p1] else L i) → (i = s.depth ∧ r = p2) ∨ (i = e ∧ r = p1) ∨ (i < s.depth ∧ r ∈ L i) := fun i hi h => by
        by_cases a : i = s.depth
        · rw [if_pos a] at h; simp at h; exact .inl ⟨a, h⟩
        · rw [if_neg a] at h
          by_cases b : i = e
          · rw [if_pos b] at h
            simp at h
            rcases h with h | h
            · exact .inr (.inr ⟨by omega, by rw [b, h, hR]; exact rL⟩)
            · exact .inr (.inl ⟨b, h⟩)
          · rw [if_neg b] at h; exact .inr (.inr ⟨by omega, h⟩)
      rcases key i hi h1 with ⟨a1, a2⟩ | ⟨a1, a2⟩ | ⟨a1, a2⟩ <;> rcases key j hj h3 with ⟨b1, b2⟩ | ⟨b1, b2⟩ | ⟨b1, b2⟩
      · omega
      · exact absurd (a2.symm.trans b2) new2.2
      · exact absurd (a2 ▸ b2) (new2.1 j b1)
      · exact absurd (b2.symm.trans a2) new2.2
      · omega
      · exact absurd (a2 ▸ b2) (new1 j b1)
      · exact absurd (b2 ▸ a2) (new2.1 i a1)
      · exact absurd (b2 ▸ a2) (new1 i a1)
      · exact m.lev i j r a1 b1 a2 b2
    · rw [dT] at hj
      by_cases a : j = s.depth
      · rw [if_pos a] at hr; simp at hr; rw [hr]; exact p2T
      · rw [if_neg a] at hr
        by_cases b : j = e
        · rw [if_pos b] at hr
          simp at hr
          rcases hr with hr | hr
          · rw [hr, hR]; omega
          · rw [hr]; exact p1T
        · rw [if_neg b] at hr
          have := m.lt j r (by omega) hr
          omega
    · rw [fT]; exact (m.fnd.sublist (List.dropLast_sublist _)).sublist (List.dropLast_sublist _)
    · rw [fT] at hf
      have hf1 := List.dropLast_subset _ hf
      have hf2 := List.dropLast_subset _ hf1
      obtain ⟨a1, a2⟩ := m.free f hf2
      refine ⟨by omega, fun j hj => ?_⟩
      rw [dT] at hj
      have fp1 : f ≠ p1 := fun t => by
        have po := Tab.place_out (s := s) (zs := (s.nd s.root).drop 3) m.fnd
        rw [Tab.take_free, ← hp1, ← t] at po
        exact po hf1
      have fp2 : f ≠ p2 := fun t => by
        have po := Tab.place_out (s := s.cutR) (zs := (s.nd s.root).drop 3) (by rw [f2]; exact m.fnd.sublist (List.dropLast_sublist _))
        rw [Tab.take_free, f2, ← hp2, ← t] at po
        exact po hf
      by_cases a : j = s.depth
      · rw [if_pos a]; simp; exact fp2
      · rw [if_neg a]
        by_cases b : j = e
        · rw [if_pos b]; simp
          exact ⟨fun t => a2 e (by omega) (by rw [t, hR]; exact rL), fp1⟩
        · rw [if_neg b]; exact a2 j (by omega)
    · rw [dT] at hj ⊢
      rw [if_neg (show ¬ s.depth + 1 = 1 by have := m.d1; omega)]
      by_cases a : j = s.depth
      · rw [if_pos a] at hr; simp at hr; rw [hr, nP2]; exact ⟨by simp, by simp⟩
      · rw [if_neg a] at hr
        by_cases b : j = e
        · rw [if_pos b] at hr
          simp at hr
          rcases hr with hr | hr
          · rw [hr, nR, List.length_take, hR]; omega
          · rw [hr, nP1, List.length_drop, hR]; omega
        · rw [if_neg b] at hr
          have := m.size j r (by omega) hr (fun t => b t.1)
          rw [if_neg (show ¬ s.depth = 1 by omega)] at this
          rw [nO j r (by omega) hr (Rn j r (by omega) b hr)]
          exact this
    · rw [dT] at hj
      have lks : ∀ (W : List Nat), W.map (s.top.lk (decide (j = s.top.depth)) 0 ⟨#[]⟩) = W.map (fun r => ((s.top.nd r).key 0, (r : Int))) := fun W => by
        apply List.map_congr_left
        intro r _
        unfold Tab.lk
        rw [if_neg (fun t => by have := t.1; simp at this; omega)]
      rw [lks]
      by_cases a : j + 1 = s.depth
      · have je : j = e := by omega
        rw [if_pos a, if_neg (show ¬ j = s.depth by omega), if_pos je]
        simp only [List.flatMap_cons, List.flatMap_nil, List.append_nil, List.map_cons, List.map_nil]
        rw [nP2, nR, nP1, KV.key0_take _ _ (by decide), KV.key0_drop]
      · rw [if_neg a, if_neg (show ¬ j = s.depth by omega)]
        have key : (if j + 1 = e then [R, p1] else L (j + 1)).flatMap s.top.nd = (L (j + 1)).flatMap s.nd := by
          by_cases b : j + 1 = e
          · rw [if_pos b, b, Le]
            simp only [List.flatMap_cons, List.flatMap_nil, List.append_nil]
            rw [nR, nP1, List.take_append_drop, hR]
          · rw [if_neg b]
            exact fm_congr fun r hr => nO (j + 1) r (by omega) hr (Rn (j + 1) r (by omega) b hr)
        rw [key, if_neg (show ¬ j = e by omega), m.link j (by omega)]
        apply List.map_congr_left
        intro r hr
        unfold Tab.lk
        rw [if_neg (fun t => by have := t.1; simp at this; omega), nO j r (by omega) hr (Rn j r (by omega) (by omega) hr)]
    · rw [if_neg (show ¬ 0 = s.depth by have := m.d1; omega), ← m.leaf]
      by_cases b : 0 = e
      · rw [if_pos b, b, Le]
        simp only [List.flatMap_cons, List.flatMap_nil, List.append_nil]
        rw [nR, nP1, List.take_append_drop, hR]
      · rw [if_neg b]
        exact fm_congr fun r hr => nO 0 r m.d1 hr (Rn 0 r m.d1 b hr)
  · have ef : s.top = s := if_neg c
    rw [ef]
    exact ⟨L, m.clean (fun _ _ => ⟨by split <;> omega, by omega⟩) (fun h => by omega), rfl, by omega, by omega⟩
end

end Go.Proofs.Ytdcjckdhjfnnhaa

namespace Go.Proofs.Ytdcjckdhjfnnhaa
open Go.RowKit

set_option maxRecDepth 100000 in
set_option maxHeartbeats 4000000 in
/-- Put of a key that isn't there, into a tree of one key at least -/
theorem rPutSN (p g c : Nat) (G : Nat → Prop) (k : ByteArray) (y : Int) (w : World) (h : RefT w G p []) (hr : RowAt w p [.slice (some ⟨g, 0, none⟩) 0 c, .slice none 0 0] 30) :
    Calls Try.prog 9 #[.pointer (some ⟨p, 0, none⟩), .string k, .int .i64 y] w fun x w' => x = .returned (.tuple #[.int .i64 0, .bool false]) ∧ LeftT w G p [(k, y)] w' := by
  have AT := Lib.hid (show Calls Try.prog 14 #[.pointer (some ⟨p, 0, none⟩), .string k] w fun x w' => x = .returned (.tuple #[.int .i64 0, .bool false]) ∧ ∃ n, w' = w.drewN n from rAt p G [] k w h (by simp))
  have Gp : G p := by obtain ⟨_, _, _, _, _, h4, _⟩ := h; exact h4
  have R1 := Lib.hid hr
  have DK' := Lib.hid (show KV.ks [(k, y)] = [] ++ [k] ++ [] from rfl)
  have DN' := Lib.hid (show KV.ns [(k, y)] = [] ++ [y] ++ [] from rfl)
  have LT := Lib.hid (show p < w.heap.size from hr.lt)
  have GP := Lib.hid Gp
  clear h hr Gp
  go_enter Try.func9, Try.ntmps9
  go_wp2_with fail
  refine AT.out.mono ?_
  rintro x w1 ⟨rfl, m1, hw1⟩
  have B1 := Lib.hid (show Below w.heap.size w w1 by rw [hw1]; exact ⟨rfl, rfl, rfl, Nat.le_refl _, fun _ _ => rfl⟩)
  have Z1 := Lib.hid (show w1.heap.size = w.heap.size by rw [hw1]; rfl)
  have R2 := Lib.hid (R1.out.below B1.out)
  have d0 := R2.out.cell 0
  have d1 := R2.out.cell 1
  simp only [List.getElem?_cons_succ, List.getElem?_cons_zero] at d0 d1
  clear hw1
  have pl : p < w1.heap.size := by rw [Z1.out]; exact LT.out
  have PL := Lib.hid pl
  obtain ⟨B, hB⟩ : ∃ B, B = w1.heap.size := ⟨_, rfl⟩
  have OM := Lib.hid (show OwnS (w1.alloc (.cells #[] 9)) B (.slice (some ⟨w1.heap.size, 0, none⟩) 0 0) [] from OwnS.made w1 (by omega))
  have HB := Lib.hid hB
  clear hB
  have LB := Lib.hid (show p < B by rw [HB.out]; exact PL.out)
  go_wp2_with fail
  obtain ⟨w2, hw2⟩ : ∃ w2, w2 = w1.alloc (.cells #[] 9) := ⟨_, rfl⟩
  obtain ⟨w3, hw3⟩ : ∃ w3, w3 = w2.alloc (.cells #[] 3) := ⟨_, rfl⟩
  have z2 : w2.heap.size = w1.heap.size + 1 := by rw [hw2, World.size_alloc]
  rw [← hw2, ← hw3]
  obtain ⟨v1, hv1⟩ : ∃ v1, v1 = Value.slice (some ⟨w1.heap.size, 0, none⟩) 0 0 := ⟨_, rfl⟩
  obtain ⟨v2, hv2⟩ : ∃ v2, v2 = Value.slice (some ⟨w1.heap.size + 1, 0, none⟩) 0 0 := ⟨_, rfl⟩
  rw [← hv1, ← hv2]
  have o2 : OwnS w2 B v1 [] := by rw [hv1, hw2]; exact OM.out
  have o3 : OwnJ w3 w2.heap.size v2 [] := by rw [hv2, ← z2, hw3]; exact OwnJ.made w2 _ (Nat.le_refl _)
  have B2 := Lib.hid (show Below B w1 w2 by rw [hw2]; exact (Below.refl B w1).alloc (by rw [HB.out]; exact Nat.le_refl _) _)
  have bb : Below w2.heap.size w2 w3 := by rw [hw3]; exact (Below.refl _ w2).alloc (Nat.le_refl _) _
  have B3 := Lib.hid bb
  have O3 := Lib.hid o3
  have O2' := Lib.hid (o2.below bb)
  have R3 := Lib.hid (show RowAt w2 p _ _ from (B2.out.block p LB.out).trans R2.out)
  have R4 := Lib.hid (R3.out.below bb)
  have SB := Lib.hid (show B ≤ w2.heap.size by rw [HB.out]; exact B2.out.size)
  have SC := Lib.hid (show B ≤ w3.heap.size from Nat.le_trans SB.out bb.size)
  have pl := R4.out.lt
  have d0 := R4.out.cell 0
  have d1 := R4.out.cell 1
  have f0 := R4.out.frozen 0
  simp only [List.getElem?_cons_succ, List.getElem?_cons_zero] at d0 d1
  clear o2 o3 hw2 hw3 z2 hv1 hv2 bb
  go_region_law (first
      | (refine step_appS rfl (.tmp 52) (.tmp 54) rfl B v1 [] [k] rfl (World.ownsRow.alloc (w := w3) O2'.out _) _ _ rfl (slS_one _ k _) (by simp) (by show B ≤ (w3.alloc _).heap.size; rw [World.size_alloc]; exact Nat.le_succ_of_le SC.out) ?_
         intro v3 w4 ho hg hb
         have bb : Below B w3 w4 := ((Below.refl B w3).alloc (by exact SC.out) _).drew.trans hb
         have oa := Lib.hid (show OwnJ (w3.alloc (.cells #[.string k] 9)).drew w2.heap.size v2 [] from World.ownsRow.alloc (w := w3) O3.out _)
         have ob := Lib.hid (show OwnS (w3.alloc (.cells #[.string k] 9)).drew B v1 [] from World.ownsRow.alloc (w := w3) O2'.out _)
         have O3s := Lib.hid (oa.out.keepB (w' := w4) fun j hj => hg.block j (oa.out.ltB j hj).2 (fun e => ownSJ_ne ob.out oa.out e.symm hj))
         have O4w := Lib.hid ho
         have B4 := Lib.hid bb
         have R5 := Lib.hid (show RowAt w4 p _ _ from (bb.block p LB.out).trans R4.out)
         have SD := Lib.hid (show B ≤ w4.heap.size from Nat.le_trans SC.out bb.size)
         have SX := Lib.hid (show w3.heap.size ≤ w4.heap.size from bb.size)
         have pl := R5.out.lt
         have d0 := R5.out.cell 0
         have d1 := R5.out.cell 1
         simp only [List.getElem?_cons_succ, List.getElem?_cons_zero] at d0 d1
         clear ho hg hb bb oa ob)
      | (refine step_appSm rfl (.tmp 55) (.tmp 61) rfl B v3 ([] ++ [k]) [] rfl O4w.out _ _ _ (by first | rfl | simp) rfl (fun hn => absurd hn (by simp)) (by simp) SD.out ?_
         intro v4 w5 ho hg hb
         obtain ⟨A4, c4, ev, _⟩ := ho.sl
         obtain ⟨N4, hN4⟩ : ∃ N4, N4 = ([] ++ [k] ++ []).length := ⟨_, rfl⟩
         have O3t := Lib.hid ((O3s.out.keepB (w' := w5) fun j hj => hg.block j (O3s.out.ltB j hj).2 (fun e => ownSJ_ne O4w.out O3s.out e.symm hj)).setCell (p := ⟨p, 0, none⟩) (Nat.lt_of_lt_of_le LB.out SB.out) v4)
         have O5 := Lib.hid (ho.setCell (p := ⟨p, 0, none⟩) LB.out v4)
         have B5 := Lib.hid hb
         have R6 := Lib.hid (show RowAt w5 p _ _ from (hb.block p LB.out).trans R5.out)
         have R7 := Lib.hid (R6.out.set 0 v4)
         have SE := Lib.hid (show w2.heap.size ≤ (w5.setCell ⟨p, 0, none⟩ v4).heap.size by rw [World.size_setCell]; exact Nat.le_trans B3.out.size (Nat.le_trans SX.out hb.size))
         have pl := R6.out.lt
         have d0 := R6.out.cell 0
         have d1 := R6.out.cell 1
         have f0 := R6.out.frozen 0
         have e0 := R7.out.cell 0
         have e1 := R7.out.cell 1
         have el := R7.out.lt
         simp only [List.getElem?_cons_succ, List.getElem?_cons_zero, List.set_cons_zero] at d0 d1 e0 e1
         rw [← hN4] at ev
         subst ev
         have HN := Lib.hid hN4
         clear ho hg hb hN4))
  all_goals (
    have C6 := Lib.hid (show Chg G w (w5.setCell ⟨p, 0, none⟩ (.slice A4 N4 c4)) from
      (((((Chg.of_below B1.out).belowB (by rw [HB.out, Z1.out]; exact Nat.le_refl _) B2.out).belowB (Nat.le_trans (by rw [HB.out, Z1.out]; exact Nat.le_refl _) SB.out) B3.out).belowB (by rw [HB.out, Z1.out]; exact Nat.le_refl _) B4.out).belowB (by rw [HB.out, Z1.out]; exact Nat.le_refl _) B5.out).setCell (.inl GP.out) _)
    obtain ⟨w6, hw6⟩ : ∃ w6, w6 = w5.setCell ⟨p, 0, none⟩ (.slice A4 N4 c4) := ⟨_, rfl⟩
    rw [← hw6] at O3t O5 R7 SE e0 e1 el C6 ⊢
    have PB := Lib.hid (show p < w2.heap.size from Nat.lt_of_lt_of_le LB.out SB.out)
    clear hw6 d0 d1 f0 pl
    have pl := el
    go_wp2_with fail)
  all_goals (
    go_region_law (first
      | (refine step_appJ rfl (.tmp 66) (.tmp 68) rfl w2.heap.size v2 [] [y] rfl (World.ownsRow.alloc (w := w6) O3t.out _) _ _ rfl (slJ_one _ y _) (by simp) (by show w2.heap.size ≤ (w6.alloc _).heap.size; rw [World.size_alloc]; exact Nat.le_succ_of_le SE.out) ?_
         intro v5 w7 ho hg hb
         have bb : Below w2.heap.size w6 w7 := ((Below.refl _ w6).alloc SE.out _).drew.trans hb
         have oa := Lib.hid (show OwnJ (w6.alloc (.cells #[.int .i64 y] 3)).drew w2.heap.size v2 [] from World.ownsRow.alloc (w := w6) O3t.out _)
         have ob := Lib.hid (show OwnS (w6.alloc (.cells #[.int .i64 y] 3)).drew B (.slice A4 N4 c4) ([] ++ [k] ++ []) from World.ownsRow.alloc (w := w6) O5.out _)
         have O5s := Lib.hid (ob.out.keepV (w' := w7) fun j hj => hg.block j (World.ownsRow.lt ob.out j hj).2 (fun e => ownSJ_ne ob.out oa.out hj e.symm))
         have O6w := Lib.hid ho
         have B7 := Lib.hid bb
         have R8 := Lib.hid (show RowAt w7 p _ _ from (bb.block p PB.out).trans R7.out)
         have SF := Lib.hid (show w2.heap.size ≤ w7.heap.size from Nat.le_trans SE.out bb.size)
         have pl := R8.out.lt
         have d0 := R8.out.cell 0
         have d1 := R8.out.cell 1
         simp only [List.getElem?_cons_succ, List.getElem?_cons_zero, List.set_cons_zero] at d0 d1
         clear ho hg hb bb oa ob)
      | (refine step_appJm rfl (.tmp 69) (.tmp 75) rfl w2.heap.size v5 ([] ++ [y]) [] rfl O6w.out _ _ _ (by first | rfl | simp) rfl (fun hn => absurd hn (by simp)) (by simp) SF.out ?_
         intro v6 w8 ho hg hb
         obtain ⟨A6, c6, ev, _⟩ := ho.form
         obtain ⟨N6, hN6⟩ : ∃ N6, N6 = ([] ++ [y] ++ []).length := ⟨_, rfl⟩
         have O7 := Lib.hid (ho.setCell (p := ⟨p, 1, none⟩) PB.out v6)
         have O5t := Lib.hid ((O5s.out.keepV (w' := w8) fun j hj => hg.block j (World.ownsRow.lt O5s.out j hj).2 (fun e => ownSJ_ne O5s.out O6w.out hj e.symm)).setCell (p := ⟨p, 1, none⟩) LB.out v6)
         have B8 := Lib.hid hb
         have R9 := Lib.hid (show RowAt w8 p _ _ from (hb.block p PB.out).trans R8.out)
         have R10 := Lib.hid (R9.out.set 1 v6)
         have pl := R9.out.lt
         have d0 := R9.out.cell 0
         have d1 := R9.out.cell 1
         have f1 := R9.out.frozen 1
         simp only [List.getElem?_cons_succ, List.getElem?_cons_zero, List.set_cons_zero] at d0 d1
         rw [← hN6] at ev
         subst ev
         have HM := Lib.hid hN6
         clear ho hg hb hN6)))
  all_goals go_wp2_with fail
  all_goals go_ret2
  all_goals exact ⟨rfl, LeftT.of (B := B) (C := w2.heap.size) (by rw [HB.out, Z1.out]; exact Nat.le_refl _) LB.out GP.out O5t.out O7.out SB.out DK'.out DN'.out R10.out
      (((C6.out.belowB (Nat.le_trans (by rw [HB.out, Z1.out]; exact Nat.le_refl _) SB.out) B7.out).belowB (Nat.le_trans (by rw [HB.out, Z1.out]; exact Nat.le_refl _) SB.out) B8.out).setCell (.inl GP.out) _)⟩

end Go.Proofs.Ytdcjckdhjfnnhaa
