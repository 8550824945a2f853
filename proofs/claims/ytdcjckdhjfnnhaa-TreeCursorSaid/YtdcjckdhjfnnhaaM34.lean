/- Proved parts: T8h. Conditions: each theorem's own. -/
import Derived.Test.YtdcjckdhjfnnhaaM32
namespace Go.Proofs.Ytdcjckdhjfnnhaa
open Go.RowKit

/-- where the way to the last key below k is -/
def Bef (s : Tab) (L : Nat → List Nat) (k : ByteArray) (j p : Nat) : Prop := ∃ A B, L j = A ++ [p] ++ B ∧ (∀ x, x ∈ B.flatMap s.nd → ltB x.1 k = false) ∧ ltB ((s.nd p).key 0) k = true
theorem pos_pos {z : KV} {k : ByteArray} (h : ltB (z.key 0) k = true) (hl : 0 < z.length) : 0 < z.pos k := by
  cases z with
  | nil => simp at hl
  | cons x z =>
    have e : KV.pos k (x :: z) = if ltB x.1 k then KV.pos k z + 1 else 0 := rfl
    have h : ltB x.1 k = true := h
    rw [e, if_pos h]; omega
theorem not_below {z : KV} {k : ByteArray} (hz : RiseL z) {i : Nat} (hi : z.pos k ≤ i) (hl : i < z.length) : ltB (z.key i) k = false := by
  have st := KV.pos_stop k z (by omega)
  by_cases c : i = z.pos k
  · rw [c]; exact st
  · have r := KV.rise_at hz (show z.pos k < i by omega) hl
    cases e : ltB (z.key i) k with
    | false => rfl
    | true => rw [ltB_trans r e] at st; cases st
section
variable {s : Tab} {L : Nat → List Nat} {l : KV} {k : ByteArray}
theorem Whole.rise_nd (m : Whole s L l) (h0 : RiseL l) {j p : Nat} (hj : j < s.depth) (hp : p ∈ L j) : RiseL (s.nd p) := by
  have := m.rise h0 j hj
  unfold RiseL at this
  rw [List.pairwise_flatMap] at this
  exact this.1 p hp
theorem Bef.root (m : Whole s L l) (h : ltB ((s.nd s.root).key 0) k = true) : Bef s L k (s.depth - 1) s.root := ⟨[], [], by rw [m.top]; rfl, fun x hx => (by cases hx), h⟩
theorem Bef.mem {j p : Nat} (h : Bef s L k j p) : p ∈ L j := by obtain ⟨A, B, e, _⟩ := h; rw [e]; simp
theorem Bef.down (m : Whole s L l) (h0 : RiseL l) {j p : Nat} (hj : j + 1 < s.depth) (hh : Bef s L k (j + 1) p) :
    0 < (s.nd p).pos k ∧ ∃ q : Nat, (s.nd p).num ((s.nd p).pos k - 1) = q ∧ q < s.nds.length ∧ Bef s L k j q := by
  have pm := hh.mem
  obtain ⟨A, B, e, hB, hA⟩ := hh
  have sz := m.pos hj pm
  have p0 := pos_pos hA (by omega)
  have pl := KV.pos_le k (s.nd p)
  refine ⟨p0, ?_⟩
  obtain ⟨a, ha⟩ : ∃ a, a = (s.nd p).pos k - 1 := ⟨_, rfl⟩
  rw [← ha]
  obtain ⟨M, hl, _, hm, hk⟩ := (m.at j 0).kids hj pm
  have al : a < (s.nd p).length := by omega
  have hq := (hk a (by omega)).1
  refine ⟨_, hq, m.lt j _ (by omega) (hm _ (List.getElem_mem _)), ?_⟩
  obtain ⟨q, hqe⟩ : ∃ q, q = M[a]'(by omega) := ⟨_, rfl⟩
  rw [← hqe] at hq ⊢
  obtain ⟨A', B', X, Y, e1, e2, e3, e4⟩ := (m.at j 0).seg1 hj pm al hq
  have nx := nodup_mid (by rw [← e]; exact m.nodup (j + 1) hj)
  have cut : A' = A ∧ B' = B := by
    have e5 : A ++ p :: B = A' ++ p :: B' := by
      have := e.symm.trans e1
      simpa using this
    have pA : p ∉ A := (nx.2.1 p (by simp)).1
    have nx' := nodup_mid (by rw [← e1]; exact m.nodup (j + 1) hj)
    have pA' : p ∉ A' := (nx'.2.1 p (by simp)).1
    rcases List.append_eq_append_iff.1 e5 with ⟨C, h1, h2⟩ | ⟨C, h1, h2⟩
    · cases C with
      | nil => simp at h1 h2; exact ⟨h1, h2.symm⟩
      | cons c C => simp at h2; exact absurd (by rw [h1, ← h2.1]; simp) pA'
    · cases C with
      | nil => simp at h1 h2; exact ⟨h1.symm, h2⟩
      | cons c C => simp at h2; exact absurd (by rw [h1, ← h2.1]; simp) pA
  obtain ⟨rfl, rfl⟩ := cut
  have lkf : ∀ W : List Nat, W.map (s.lk true 0 ((s.nd 0).key 0)) = W.map (fun r => ((s.nd r).key 0, (r : Int))) := fun W => List.map_congr_left fun r _ => lk_self _ _ _
  rw [lkf] at e3 e4
  have rp := m.rise_nd h0 hj pm
  have kq : (s.nd q).key 0 = (s.nd p).key a := by
    have k1 := (hk a (by omega)).2
    rw [← hqe] at k1
    rw [k1]
    by_cases c : q = 0
    · rw [if_pos c, c]
    · rw [if_neg c]
  refine ⟨X, Y, e2, fun x hx => ?_, by rw [kq]; exact KV.pos_below k _ a (by omega)⟩
  rw [List.mem_flatMap] at hx
  obtain ⟨r, hr, hx⟩ := hx
  have rl : r ∈ L j := by rw [e2]; simp [hr]
  have up : ltB ((s.nd r).key 0) k = false := by
    have im : ((s.nd r).key 0, (r : Int)) ∈ Y.map (fun r => ((s.nd r).key 0, (r : Int))) := List.mem_map.2 ⟨r, hr, rfl⟩
    rw [← e4, List.mem_append] at im
    rcases im with im | im
    · obtain ⟨i, hi, he⟩ := List.getElem_of_mem im
      rw [List.length_drop] at hi
      rw [List.getElem_drop, KV.getE _ _ (by omega)] at he
      injection he with he _
      rw [← he]
      exact not_below rp (by omega) (by omega)
    · exact hB (_, (r : Int)) im
  obtain ⟨i, hi, rfl⟩ := List.getElem_of_mem hx
  rw [KV.getE _ _ hi]
  have rr := m.rise_nd h0 (by omega) rl
  cases c : ltB ((s.nd r).key i) k with
  | false => rfl
  | true =>
    by_cases z : i = 0
    · rw [z, up] at c; cases c
    · have := ltB_trans (KV.rise_at rr (show 0 < i by omega) hi) c
      rw [up] at this; cases this
theorem Bef.found (m : Whole s L l) (h0 : RiseL l) {P : Nat} (hh : Bef s L k 0 P) : 0 < (s.nd P).pos k ∧ 0 < l.pos k ∧ l.key (l.pos k - 1) = (s.nd P).key ((s.nd P).pos k - 1) ∧ l.num (l.pos k - 1) = (s.nd P).num ((s.nd P).pos k - 1) := by
  have pm := hh.mem
  obtain ⟨A, B, e, hB, hA⟩ := hh
  have sz := m.pos m.d1 pm
  have p0 := pos_pos hA (by omega)
  have pl := KV.pos_le k (s.nd P)
  have al : l = A.flatMap s.nd ++ s.nd P ++ B.flatMap s.nd := by rw [← m.leaf, e]; simp
  have rl := h0
  rw [al] at rl
  unfold RiseL at rl
  rw [List.pairwise_append, List.pairwise_append] at rl
  obtain ⟨n0, k0⟩ := KV.key_mem (s.nd P) (i := 0) (by omega)
  have hU : ∀ x, x ∈ A.flatMap s.nd → ltB x.1 k = true := fun x hx => ltB_trans (rl.1.2.2 x hx _ k0) hA
  have ps : l.pos k = (A.flatMap s.nd).length + (s.nd P).pos k := by rw [al, List.append_assoc, KV.pos_app hU, KV.pos_app_r hB]
  have e1 : l.pos k - 1 = (A.flatMap s.nd).length + ((s.nd P).pos k - 1) := by omega
  refine ⟨p0, by omega, ?_, ?_⟩
  · rw [e1]
    obtain ⟨U, hU'⟩ : ∃ U, U = A.flatMap s.nd := ⟨_, rfl⟩
    rw [← hU'] at al ⊢
    rw [al, List.append_assoc, KV.key_app_r, KV.key_app_l (by omega)]
  · rw [e1]
    obtain ⟨U, hU'⟩ : ∃ U, U = A.flatMap s.nd := ⟨_, rfl⟩
    rw [← hU'] at al ⊢
    rw [al, List.append_assoc]
    unfold KV.num
    rw [List.getD_eq_getElem?_getD, List.getD_eq_getElem?_getD, List.getElem?_append_right (by omega), Nat.add_sub_cancel_left, List.getElem?_append_left (by omega)]
theorem Whole.none_below (m : Whole s L l) (h : ltB ((s.nd s.root).key 0) k = false) : l.pos k = 0 := by
  have rm : s.root ∈ L (s.depth - 1) := by rw [m.top]; simp
  have := m.sub_head (s.depth - 1) s.root (by have := m.d1; omega) rm
  rw [m.sub_root] at this
  exact pos_zero (by rw [this.2]; exact h)
end

end Go.Proofs.Ytdcjckdhjfnnhaa
