/- fill in plain words. -/
import Derived.Test.YtdcjckdhjfnnhaaT9n
namespace Go.Proofs.Ytdcjckdhjfnnhaa
open Go.RowKit

def Tab.cutK (s : Tab) (q i : Nat) : Tab := s.put q ((s.nd q).take i ++ (s.nd q).drop (i + 1))
def Tab.kid (s : Tab) (q j : Nat) : Nat := ((s.nd q).num j).toNat
/-- a node takes the items of the one behind -/
def Tab.melt (s : Tab) (p o : Nat) : Tab := (s.put p (s.nd p ++ s.nd o)).off o
def Tab.fix (s : Tab) (x : Nat × Nat) (p : Nat) : Tab := if 4 < (s.nd p).length then s.split x p else s
def Tab.join (s : Tab) (q f p o : Nat) : Tab := ((s.melt p o).tell (q, f) p).cutK q (f + 1)
def Tab.fill (s : Tab) (x : Nat × Nat) : Tab :=
  if 2 ≤ (s.nd (s.kid x.1 x.2)).length then s.tell x (s.kid x.1 x.2)
  else (s.join x.1 (x.2 - 1) (s.kid x.1 (x.2 - 1)) (s.kid x.1 (x.2 - 1 + 1))).fix (x.1, x.2 - 1) (s.kid x.1 (x.2 - 1))
structure FineFill (s : Tab) (x : Nat × Nat) : Prop where
  iq : x.1 < s.nds.length
  ia : x.2 < (s.nd x.1).length
  two : 2 ≤ (s.nd x.1).length
  lq : (s.nd x.1).length ≤ 1000
  kid : ∀ j, j < (s.nd x.1).length → ∃ c : Nat, (s.nd x.1).num j = c ∧ c < s.nds.length ∧ c ≠ x.1 ∧ 0 < (s.nd c).length ∧ (s.nd c).length ≤ 1000
  ap : ∀ i j, i < (s.nd x.1).length → j < (s.nd x.1).length → (s.nd x.1).num i = (s.nd x.1).num j → i = j
  free : ∀ f, f ∈ s.free → f < s.nds.length ∧ f ≠ x.1
  ln : s.nds.length ≤ 50000
  lf : s.free.length ≤ 50000
theorem Tab.off_nd {s : Tab} {o : Nat} (ho : o < s.nds.length) (j : Nat) : (s.off o).nd j = if j = o then [] else s.nd j := Tab.put_nd ho j
theorem Tab.off_len (s : Tab) (o : Nat) : (s.off o).nds.length = s.nds.length := Tab.put_len _ _ _
/-- two nodes of one above, side by side -/
structure Pair (s : Tab) (q f p o : Nat) : Prop where
  iq : q < s.nds.length
  ip : p < s.nds.length
  io : o < s.nds.length
  pq : p ≠ q
  oq : o ≠ q
  po : p ≠ o
  lf1 : f + 1 < (s.nd q).length
namespace Pair
variable {s : Tab} {q f p o : Nat}
theorem nd1 (h : Pair s q f p o) (j : Nat) : (s.put p (s.nd p ++ s.nd o)).nd j = if j = p then s.nd p ++ s.nd o else s.nd j := Tab.put_nd h.ip j
theorem len1 (_h : Pair s q f p o) : (s.put p (s.nd p ++ s.nd o)).nds.length = s.nds.length := Tab.put_len _ _ _
theorem nd2 (h : Pair s q f p o) (j : Nat) : (s.melt p o).nd j = if j = o then [] else if j = p then s.nd p ++ s.nd o else s.nd j := by
  unfold Tab.melt
  rw [Tab.off_nd (by rw [h.len1]; exact h.io), h.nd1]
theorem len2 (h : Pair s q f p o) : (s.melt p o).nds.length = s.nds.length := by unfold Tab.melt; rw [Tab.off_len, h.len1]
theorem nd2p (h : Pair s q f p o) : (s.melt p o).nd p = s.nd p ++ s.nd o := by rw [h.nd2, if_neg h.po, if_pos rfl]
theorem nd2q (h : Pair s q f p o) : (s.melt p o).nd q = s.nd q := by rw [h.nd2, if_neg (Ne.symm h.oq), if_neg (Ne.symm h.pq)]
theorem len3 (h : Pair s q f p o) : ((s.melt p o).tell (q, f) p).nds.length = s.nds.length := by unfold Tab.tell; rw [Tab.put_len, h.len2]
theorem nd3 (h : Pair s q f p o) (j : Nat) : ((s.melt p o).tell (q, f) p).nd j = if j = q then (s.nd q).set f ((s.nd p ++ s.nd o).key 0, (s.nd q).num f) else (s.melt p o).nd j := by
  unfold Tab.tell
  rw [Tab.put_nd (by rw [h.len2]; exact h.iq), h.nd2p, h.nd2q]
theorem len4 (h : Pair s q f p o) : (s.join q f p o).nds.length = s.nds.length := by unfold Tab.join Tab.cutK; rw [Tab.put_len, h.len3]
theorem nd4 (h : Pair s q f p o) (j : Nat) : (s.join q f p o).nd j = if j = q then ((s.nd q).set f ((s.nd p ++ s.nd o).key 0, (s.nd q).num f)).take (f + 1) ++ ((s.nd q).set f ((s.nd p ++ s.nd o).key 0, (s.nd q).num f)).drop (f + 1 + 1) else (s.melt p o).nd j := by
  unfold Tab.join Tab.cutK
  rw [Tab.put_nd (by rw [h.len3]; exact h.iq), h.nd3, h.nd3, if_pos rfl]
  by_cases e : j = q
  · rw [if_pos e, if_pos e]
  · rw [if_neg e, if_neg e, if_neg e]
theorem nd4p (h : Pair s q f p o) : (s.join q f p o).nd p = s.nd p ++ s.nd o := by rw [h.nd4, if_neg h.pq, h.nd2p]
theorem len4q (h : Pair s q f p o) : ((s.join q f p o).nd q).length = (s.nd q).length - 1 := by
  have := h.lf1
  rw [h.nd4, if_pos rfl]; simp; omega
theorem free4 (_h : Pair s q f p o) : (s.join q f p o).free = s.free ++ [o] := rfl
end Pair
theorem FineFill.pair {s : Tab} {x : Nat × Nat} (h : FineFill s x) : Pair s x.1 (x.2 - 1) (s.kid x.1 (x.2 - 1)) (s.kid x.1 (x.2 - 1 + 1)) := by
  have ia := h.ia
  have two := h.two
  have e : x.2 - 1 + 1 < (s.nd x.1).length := by omega
  obtain ⟨c, hc, c1, c2, _⟩ := h.kid (x.2 - 1) (by omega)
  obtain ⟨d, hd, d1, d2, _⟩ := h.kid (x.2 - 1 + 1) e
  have e1 : s.kid x.1 (x.2 - 1) = c := by unfold Tab.kid; rw [hc]; rfl
  have e2 : s.kid x.1 (x.2 - 1 + 1) = d := by unfold Tab.kid; rw [hd]; rfl
  refine ⟨h.iq, by rw [e1]; exact c1, by rw [e2]; exact d1, by rw [e1]; exact c2, by rw [e2]; exact d2, fun t => ?_, e⟩
  rw [e1, e2] at t
  have := h.ap (x.2 - 1) (x.2 - 1 + 1) (by omega) e (by rw [hc, hd, t])
  omega
/-- a node is parted: what is laid into the one above finds it as it was -/
theorem Tab.split_lay {s : Tab} {q p : Nat} {a b : KV} (iq : q < s.nds.length) (ip : p < s.nds.length) (ne : p ≠ q) (free : ∀ f, f ∈ s.free → f < s.nds.length ∧ f ≠ q) : ((s.put p a).take b).nd q = s.nd q ∧ s.nds.length ≤ ((s.put p a).take b).nds.length := by
  have e : (s.put p a).nds.length = s.nds.length := Tab.put_len _ _ _
  refine ⟨?_, by have := (Tab.take_len (s := s.put p a) (zs := b)).1; omega⟩
  rw [Tab.take_nd (s := s.put p a) (fun f hf => by rw [e]; exact (free f hf).1) _ (by rw [e]; exact iq) (fun hf => (free _ hf).2 rfl), Tab.put_nd ip, if_neg (Ne.symm ne)]

end Go.Proofs.Ytdcjckdhjfnnhaa
