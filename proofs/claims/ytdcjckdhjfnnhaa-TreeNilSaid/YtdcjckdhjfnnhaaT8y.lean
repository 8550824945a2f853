/- Put and Del in plain words: the levels stay whole. -/
import Derived.Test.YtdcjckdhjfnnhaaT8x
namespace Go.Proofs.Ytdcjckdhjfnnhaa
open Go.RowKit

section
variable {s : Tab} {L : Nat → List Nat} {l : KV} {e : Nat} {K : ByteArray}
theorem Mid.shut_ok (m : Mid s L l e s.root K) (he : e + 1 = s.depth) (h1 : e ≠ 0 → 1 ≤ (s.nd s.root).length) (h4 : (s.nd s.root).length ≤ 4) (hc : s.count = l.length) (hb : s.nds.length + s.free.length ≤ 50000) (hd : s.depth ≤ 50000) :
    FineShut s ∧ ((l = [] ∧ s.shut = Tab.bare) ∨ ∃ L', Whole s.shut L' l ∧ s.shut.count = l.length ∧ s.shut.nds.length + s.shut.free.length ≤ s.nds.length + s.free.length + 1) := by
  have rL : s.root ∈ L e := by rw [show e = s.depth - 1 by omega, m.top]; simp
  have Le : L e = [s.root] := by rw [show e = s.depth - 1 by omega, m.top]
  have rl := m.lt e s.root (by omega) rL
  -- a lone kid
  have lone : (s.nd s.root).length = 1 → 1 < s.depth → ∃ c : Nat, L (e - 1) = [c] ∧ (s.nd s.root).num 0 = c := fun a b => by
    have k := m.link (e - 1) (by omega)
    rw [show e - 1 + 1 = e by omega, Le] at k
    simp only [List.flatMap_cons, List.flatMap_nil, List.append_nil] at k
    have kl := congrArg List.length k
    rw [List.length_map, a] at kl
    match hL : L (e - 1), kl with
    | [c], _ =>
      rw [hL] at k
      exact ⟨c, rfl, by rw [k]; rfl⟩
    | [], kl => simp at kl
    | _ :: _ :: _, kl => simp at kl
  refine ⟨⟨rl, by omega, hd, by omega, fun a b => by obtain ⟨c, _, h⟩ := lone a b; exact ⟨c, h⟩⟩, ?_⟩
  by_cases c0 : s.count = 0
  · refine .inl ⟨List.eq_nil_of_length_eq_zero (by omega), if_pos c0⟩
  · refine .inr ?_
    by_cases c1 : 1 < s.depth ∧ (s.nd s.root).length = 1
    · obtain ⟨c, hcl, hcn⟩ := lone c1.2 c1.1
      have ef : s.shut = ({ s with root := c, depth := s.depth - 1 } : Tab).off s.root := by
        unfold Tab.shut
        rw [if_neg c0, if_pos c1, hcn]; rfl
      have nd' : ∀ r, s.shut.nd r = if r = s.root then [] else s.nd r := fun r => by
        rw [ef]; exact Tab.off_nd (s := { s with root := c, depth := s.depth - 1 }) rl r
      have dT : s.shut.depth = e := by rw [ef]; show s.depth - 1 = e; omega
      have fT : s.shut.free = s.free ++ [s.root] := by rw [ef]; rfl
      have lT : s.shut.nds.length = s.nds.length := by rw [ef]; exact Tab.off_len _ _
      have rn : ∀ j r, j < e → r ∈ L j → r ≠ s.root := fun j r hj hr t => by
        have := m.lev j e r (by omega) (by omega) hr (by rw [t]; exact rL); omega
      have nO : ∀ j r, j < e → r ∈ L j → s.shut.nd r = s.nd r := fun j r hj hr => by rw [nd', if_neg (rn j r hj hr)]
      refine ⟨L, ⟨by omega, ?_, fun j hj => m.nodup j (by omega), fun i j r hi hj => m.lev i j r (by omega) (by omega), fun j r hj hr => by rw [lT]; exact m.lt j r (by omega) hr, ?_, fun f hf => ?_, fun j r hj hr _ => ?_, fun j hj => ?_, ?_⟩, by rw [ef]; exact hc, by rw [lT, fT]; simp; omega⟩
      · rw [dT, hcl, ef]; rfl
      · rw [fT, List.nodup_append]
        exact ⟨m.fnd, by simp, fun x hx y hy t => by simp at hy; exact (m.free x hx).2 e (by omega) (by rw [t, hy]; exact rL)⟩
      · rw [fT, List.mem_append] at hf
        rw [lT, dT]
        rcases hf with hf | hf
        · exact ⟨(m.free f hf).1, fun j hj => (m.free f hf).2 j (by omega)⟩
        · simp at hf
          rw [hf]; exact ⟨rl, fun j hj hm => rn j s.root hj hm rfl⟩
      · rw [dT] at hj ⊢
        have := m.size j r (by omega) hr (fun t => by omega)
        rw [if_neg (show ¬ s.depth = 1 by omega)] at this
        rw [nO j r hj hr]
        by_cases t : e = 1
        · rw [if_pos t]; omega
        · rw [if_neg t]; exact this
      · rw [dT] at hj
        rw [fm_congr (g := s.nd) (fun r hr => nO (j + 1) r hj hr), m.link j (by omega)]
        apply List.map_congr_left
        intro r hr
        unfold Tab.lk
        rw [if_neg (fun t => by have := t.1; simp at this; omega), if_neg (fun t => by have := t.1; simp at this; omega), nO j r (by omega) hr]
      · rw [← m.leaf]
        exact fm_congr fun r hr => nO 0 r (by omega) hr
    · have ef : s.shut = s := by
        unfold Tab.shut
        rw [if_neg c0, if_neg c1]
      rw [ef]
      refine ⟨L, m.clean (fun _ _ => ⟨?_, h4⟩) (fun h => by omega), hc, by omega⟩
      by_cases d : s.depth = 1
      · rw [if_pos d]
        have e0 : e = 0 := by omega
        have k := m.leaf
        rw [← e0, Le] at k
        simp only [List.flatMap_cons, List.flatMap_nil, List.append_nil] at k
        rw [k]; omega
      · rw [if_neg d]
        have := h1 (by omega)
        have : ¬ (s.nd s.root).length = 1 := fun t => c1 ⟨by have := m.d1; omega, t⟩
        omega

theorem put_new {l : KV} {k : ByteArray} {n : Int} (hn : l.has k = false) : l.put k n = ins l (l.pos k) (k, n) := by
  unfold KV.put ins
  rw [if_neg (by rw [hn]; decide)]
theorem above_pos {l : KV} {k : ByteArray} (h0 : RiseL l) (hn : l.has k = false) {j : Nat} (h : l.pos k ≤ j) (hj : j < l.length) : ltB k (l.key j) = true := by
  have hp : l.pos k < l.length := by omega
  have st := KV.pos_stop k l hp
  have lt : ltB k (l.key (l.pos k)) = true := by
    cases e : ltB k (l.key (l.pos k)) with
    | true => rfl
    | false => rw [(KV.has_iff l k).2 ⟨hp, (ltB_total e st).symm⟩] at hn; cases hn
  by_cases t : j = l.pos k
  · rw [t]; exact lt
  · exact ltB_trans lt (KV.rise_at h0 (by omega) hj)
theorem put_rise {l : KV} {k : ByteArray} {n : Int} (h0 : RiseL l) : RiseL (l.put k n) := by
  by_cases hn : l.has k = true
  · have e : l.put k n = l.set (l.pos k) (k, n) := if_pos hn
    obtain ⟨hp, hk⟩ := (KV.has_iff l k).1 hn
    have em : (l.put k n).map Prod.fst = l.map Prod.fst := by
      rw [e, List.map_set]
      show (l.map Prod.fst).set (l.pos k) k = _
      apply List.ext_getElem (by simp)
      intro i h1 h2
      rw [List.getElem_set]
      by_cases t : l.pos k = i
      · rw [if_pos t]
        have hi : i < l.length := by simpa using h2
        rw [List.getElem_map, KV.getE l i hi]
        show k = l.key i
        rw [← t, hk]
      · rw [if_neg t]
    have h1 : (l.map Prod.fst).Pairwise (fun a b => ltB a b = true) := List.pairwise_map.2 h0
    rw [← em] at h1
    exact List.pairwise_map.1 h1
  · have hn : l.has k = false := by simpa using hn
    rw [put_new hn]
    have pl := KV.pos_le k l
    unfold ins RiseL
    rw [List.pairwise_append, List.pairwise_cons]
    refine ⟨h0.sublist (List.take_sublist _ _), ⟨fun y hy => ?_, h0.sublist (List.drop_sublist _ _)⟩, fun x hx y hy => ?_⟩
    · obtain ⟨i, hi, rfl⟩ := List.getElem_of_mem hy
      rw [List.length_drop] at hi
      rw [List.getElem_drop, KV.getE _ _ (by omega)]
      exact above_pos h0 hn (by omega) (by omega)
    · obtain ⟨i, hi, rfl⟩ := List.getElem_of_mem hx
      rw [List.length_take] at hi
      rw [List.getElem_take, KV.getE _ _ (by omega)]
      have lx := KV.pos_below k l i (by omega)
      rw [List.mem_cons] at hy
      rcases hy with rfl | hy
      · exact lx
      · obtain ⟨j, hj, rfl⟩ := List.getElem_of_mem hy
        rw [List.length_drop] at hj
        rw [List.getElem_drop, KV.getE _ _ (by omega)]
        exact ltB_trans lx (above_pos h0 hn (by omega) (by omega))
theorem del_rise {l : KV} {k : ByteArray} (h0 : RiseL l) : RiseL (l.del k) := by
  unfold KV.del
  split
  · have sb : (l.take (l.pos k) ++ l.drop (l.pos k + 1)).Sublist l := by
      have k1 : (l.drop (l.pos k + 1)).Sublist (l.drop (l.pos k)) := by rw [← List.drop_drop]; exact List.drop_sublist _ _
      have := (List.Sublist.refl (l.take (l.pos k))).append k1
      rwa [List.take_append_drop] at this
    exact h0.sublist sb
  · exact h0
end

section
variable {s : Tab} {L : Nat → List Nat} {l : KV}
/-- the way, and the leaf at its end -/
theorem Whole.way (m : Whole s L l) (h0 : RiseL l) (k : ByteArray) : ∃ e P a A B, s.depth = e + 1 ∧ s.Walks k s.depth s.root ∧ Path s L k e s.root (s.down k s.depth s.root) ∧ (s.down k s.depth s.root).getD e (0, 0) = (P, a) ∧ a = (s.nd P).pos k ∧ Found s L l k P A B ∧ P < s.nds.length ∧ 1 ≤ (s.nd P).length ∧ (s.nd P).length ≤ 4 ∧ (e ≠ 0 → 2 ≤ (s.nd P).length) := by
  obtain ⟨e, he⟩ : ∃ e, s.depth = e + 1 := ⟨s.depth - 1, by have := m.d1; omega⟩
  have hr := Here.root m k
  rw [he, Nat.add_sub_cancel] at hr
  obtain ⟨w, p⟩ := m.path h0 k e s.root (by omega) hr
  rw [← he] at w p
  obtain ⟨A, B, f⟩ := p.here.found m h0
  have pm : ((s.down k s.depth s.root).getD e (0, 0)).1 ∈ L 0 := by rw [f.cut]; simp
  have sz := m.pos m.d1 pm
  refine ⟨e, _, _, A, B, he, w, p, rfl, p.last, f, m.lt 0 _ m.d1 pm, sz.1, sz.2, fun h => ?_⟩
  have := m.size 0 _ m.d1 pm (fun t => by have := t.1; omega)
  rw [if_neg (by omega)] at this
  exact this.1
theorem Found.put {k : ByteArray} {P : Nat} {A B : List Nat} (f : Found s L l k P A B) (n : Int) (hn : l.has k = false) : l.put k n = A.flatMap s.nd ++ ins (s.nd P) ((s.nd P).pos k) (k, n) ++ B.flatMap s.nd := by
  have pl := KV.pos_le k (s.nd P)
  rw [put_new hn, f.pos]
  obtain ⟨U, hU⟩ : ∃ U, U = A.flatMap s.nd := ⟨_, rfl⟩
  have fa := f.all
  rw [← hU] at fa ⊢
  rw [fa]
  unfold ins
  rw [List.append_assoc, List.take_length_add_append, List.drop_length_add_append, List.take_append_of_le_length pl, List.drop_append_of_le_length pl]
  simp
theorem Found.put_old {k : ByteArray} {P : Nat} {A B : List Nat} (f : Found s L l k P A B) (n : Int) (hn : l.has k = true) : l.put k n = A.flatMap s.nd ++ (s.nd P).set ((s.nd P).pos k) (k, n) ++ B.flatMap s.nd := by
  have hp : (s.nd P).pos k < (s.nd P).length := ((KV.has_iff _ _).1 (f.has ▸ hn)).1
  have e : l.put k n = l.set (l.pos k) (k, n) := if_pos hn
  rw [e, f.pos]
  obtain ⟨U, hU⟩ : ∃ U, U = A.flatMap s.nd := ⟨_, rfl⟩
  have fa := f.all
  rw [← hU] at fa ⊢
  rw [fa, List.append_assoc, List.set_append_right _ _ (by omega), Nat.add_sub_cancel_left, List.set_append_left _ _ hp, List.append_assoc]
theorem Found.del {k : ByteArray} {P : Nat} {A B : List Nat} (f : Found s L l k P A B) (hn : l.has k = true) : l.del k = A.flatMap s.nd ++ ((s.nd P).take ((s.nd P).pos k) ++ (s.nd P).drop ((s.nd P).pos k + 1)) ++ B.flatMap s.nd := by
  have hp : (s.nd P).pos k < (s.nd P).length := ((KV.has_iff _ _).1 (f.has ▸ hn)).1
  have e : l.del k = l.take (l.pos k) ++ l.drop (l.pos k + 1) := if_pos hn
  rw [e, f.pos]
  obtain ⟨U, hU⟩ : ∃ U, U = A.flatMap s.nd := ⟨_, rfl⟩
  have fa := f.all
  rw [← hU] at fa ⊢
  rw [fa, List.append_assoc, List.take_length_add_append, Nat.add_assoc, List.drop_length_add_append, List.take_append_of_le_length (by omega), List.drop_append_of_le_length (by omega)]
  simp
end

end Go.Proofs.Ytdcjckdhjfnnhaa
