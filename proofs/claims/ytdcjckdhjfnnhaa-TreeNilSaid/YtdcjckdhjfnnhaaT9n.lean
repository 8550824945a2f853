/- insert in plain words: a step up. -/
import Derived.Test.YtdcjckdhjfnnhaaT9v
namespace Go.Proofs.Ytdcjckdhjfnnhaa
open Go.RowKit

theorem Tab.put_len (s : Tab) (i : Nat) (zs : KV) : (s.put i zs).nds.length = s.nds.length := List.length_set
theorem Tab.put_place (s : Tab) (i : Nat) (zs : KV) : (s.put i zs).place = s.place := by
  have e : (s.put i zs).nds.length = s.nds.length := List.length_set
  unfold Tab.place
  rw [e]; rfl
theorem Tab.take_nd {s : Tab} {zs : KV} (hf : ∀ f, f ∈ s.free → f < s.nds.length) (i : Nat) (hi : i < s.nds.length) (hn : i ∉ s.free) : (s.take zs).nd i = s.nd i := by
  unfold Tab.take Tab.nd
  cases e : s.free.getLast? with
  | none => simp only [List.getD_eq_getElem?_getD, List.getElem?_append_left hi]
  | some p =>
    have hp : p ∈ s.free := List.mem_of_getLast? e
    have := hf p hp
    simp only
    rw [Tab.nd_set this, if_neg (fun q => hn (by rw [q]; exact hp))]
theorem Tab.take_len {s : Tab} {zs : KV} : s.nds.length ≤ (s.take zs).nds.length ∧ (s.take zs).nds.length ≤ s.nds.length + 1 ∧ s.place < (s.take zs).nds.length + (if s.free = [] then 0 else s.place + 1) ∧ (s.free = [] → (s.take zs).nds.length = s.nds.length + 1 ∧ s.place = s.nds.length) ∧ (s.free ≠ [] → (s.take zs).nds.length = s.nds.length) := by
  unfold Tab.take Tab.place
  cases e : s.free.getLast? with
  | none =>
    have q : s.free = [] := List.getLast?_eq_none_iff.1 e
    refine ⟨by simp, by simp, by simp [q], fun _ => ⟨by simp, by simp⟩, fun h => absurd q h⟩
  | some p =>
    have q : s.free ≠ [] := fun t => by rw [t] at e; cases e
    refine ⟨by simp, by simp, by simp [q]; omega, fun h => absurd h q, fun _ => by simp⟩
theorem Tab.take_free {s : Tab} {zs : KV} : (s.take zs).free = s.free.dropLast := by
  unfold Tab.take
  cases e : s.free.getLast? with
  | none => rw [List.getLast?_eq_none_iff.1 e]; rfl
  | some p => rfl

/-- a step of insert, upwards: the key of p's item is set right, and p is parted if it is too great -/
def Tab.split (s : Tab) (x : Nat × Nat) (p : Nat) : Tab :=
  ((s.put p ((s.nd p).take 3)).take ((s.nd p).drop 3)).put x.1 (ins (((s.put p ((s.nd p).take 3)).take ((s.nd p).drop 3)).nd x.1) (x.2 + 1) ((s.nd p).key 3, s.place))
def Tab.tell (s : Tab) (x : Nat × Nat) (p : Nat) : Tab := s.put x.1 ((s.nd x.1).set x.2 ((s.nd p).key 0, (s.nd x.1).num x.2))
def Tab.up (s : Tab) (x : Nat × Nat) (p : Nat) : Tab := if 4 < (s.nd p).length then (s.tell x p).split x p else s.tell x p
/-- nothing is amiss with it -/
structure FineUp (s : Tab) (x : Nat × Nat) (p : Nat) : Prop where
  iq : x.1 < s.nds.length
  ia : x.2 < (s.nd x.1).length
  ip : p < s.nds.length
  ne : p ≠ x.1
  l0 : 0 < (s.nd p).length
  lp : (s.nd p).length ≤ 10000
  lq : (s.nd x.1).length ≤ 10000
  free : ∀ f, f ∈ s.free → f < s.nds.length ∧ f ≠ x.1
  ln : s.nds.length ≤ 50000
  lf : s.free.length ≤ 50000
namespace FineUp
variable {s : Tab} {x : Nat × Nat} {p : Nat}
theorem nd (h : FineUp s x p) : (s.tell x p).nd p = s.nd p := by unfold Tab.tell; rw [Tab.put_nd h.iq, if_neg h.ne]
theorem ndq (h : FineUp s x p) : (s.tell x p).nd x.1 = (s.nd x.1).set x.2 ((s.nd p).key 0, (s.nd x.1).num x.2) := by unfold Tab.tell; rw [Tab.put_nd h.iq, if_pos rfl]
theorem tlen (_h : FineUp s x p) : (s.tell x p).nds.length = s.nds.length := Tab.put_len _ _ _
/-- the state that lay finds -/
theorem lay (h : FineUp s x p) : (((s.tell x p).put p ((s.nd p).take 3)).take ((s.nd p).drop 3)).nd x.1 = (s.tell x p).nd x.1 := by
  have e : ((s.tell x p).put p ((s.nd p).take 3)).nds.length = s.nds.length := by rw [Tab.put_len, h.tlen]
  rw [Tab.take_nd (s := (s.tell x p).put p ((s.nd p).take 3)) (fun f hf => by rw [e]; exact (h.free f hf).1) _ (by rw [e]; exact h.iq) (fun hf => (h.free _ hf).2 rfl), Tab.put_nd (by rw [h.tlen]; exact h.ip), if_neg (Ne.symm h.ne)]
theorem laylen (h : FineUp s x p) : s.nds.length ≤ (((s.tell x p).put p ((s.nd p).take 3)).take ((s.nd p).drop 3)).nds.length := by
  have e : ((s.tell x p).put p ((s.nd p).take 3)).nds.length = s.nds.length := by rw [Tab.put_len, h.tlen]
  have := (Tab.take_len (s := (s.tell x p).put p ((s.nd p).take 3)) (zs := (s.nd p).drop 3)).1
  omega
end FineUp
/-- all steps up, from step i on -/
def Tab.ups (ws : List (Nat × Nat)) : Nat → Tab → Tab
  | 0, s => s
  | i + 1, s => Tab.ups ws i (s.up (ws.getD i (0, 0)) (ws.getD (i + 1) (0, 0)).1)
def FineUps (ws : List (Nat × Nat)) : Nat → Tab → Prop
  | 0, _ => True
  | i + 1, s => FineUp s (ws.getD i (0, 0)) (ws.getD (i + 1) (0, 0)).1 ∧ FineUps ws i (s.up (ws.getD i (0, 0)) (ws.getD (i + 1) (0, 0)).1)

end Go.Proofs.Ytdcjckdhjfnnhaa
