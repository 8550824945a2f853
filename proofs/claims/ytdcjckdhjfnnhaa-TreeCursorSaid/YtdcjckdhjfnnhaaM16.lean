/- Proved parts: T9n T9f T8l. Conditions: each theorem's own. -/
import Derived.Test.YtdcjckdhjfnnhaaM15
namespace Go.Proofs.Ytdcjckdhjfnnhaa
open Go.RowKit

theorem Tab.put_len (s : Tab) (i : Nat) (zs : KV) : (s.put i zs).nds.length = s.nds.length := List.length_set
theorem Tab.put_place (s : Tab) (i : Nat) (zs : KV) : (s.put i zs).place = s.place := by
  have e : (s.put i zs).nds.length = s.nds.length := List.length_set
  unfold Tab.place
  rw [e]; rfl
theorem Tab.take_nd {s : Tab} {zs : KV} (hf : ∀ f, f ∈ s.free → f < s.nds.length) (i : Nat) (hi : i < s.nds.length) (hn : i ∉ s.free) : (s.take zs).nd i = s.nd i := by
  unfold Tab.take Tab.nd
  cases e : s.free.getLast? with
  | none => simp only [List.getD_eq_getElem?_getD, List.getElem?_append_left hi]
  | some p =>
    have hp : p ∈ s.free := List.mem_of_getLast? e
    have := hf p hp
    simp only
    rw [Tab.nd_set this, if_neg (fun q => hn (by rw [q]; exact hp))]
theorem Tab.take_len {s : Tab} {zs : KV} : s.nds.length ≤ (s.take zs).nds.length ∧ (s.take zs).nds.length ≤ s.nds.length + 1 ∧ s.place < (s.take zs).nds.length + (if s.free = [] then 0 else s.place + 1) ∧ (s.free = [] → (s.take zs).nds.length = s.nds.length + 1 ∧ s.place = s.nds.length) ∧ (s.free ≠ [] → (s.take zs).nds.length = s.nds.length) := by
  unfold Tab.take Tab.place
  cases e : s.free.getLast? with
  | none =>
    have q : s.free = [] := List.getLast?_eq_none_iff.1 e
    refine ⟨by simp, by simp, by simp [q], fun _ => ⟨by simp, by simp⟩, fun h => absurd q h⟩
  | some p =>
    have q : s.free ≠ [] := fun t => by rw [t] at e; cases e
    refine ⟨by simp, by simp, by simp [q]; omega, fun h => absurd h q, fun _ => by simp⟩
theorem Tab.take_free {s : Tab} {zs : KV} : (s.take zs).free = s.free.dropLast := by
  unfold Tab.take
  cases e : s.free.getLast? with
  | none => rw [List.getLast?_eq_none_iff.1 e]; rfl
  | some p => rfl

/-- a step of insert, upwards: the key of p's item is set right, and p is parted if it is too great -/
def Tab.split (s : Tab) (x : Nat × Nat) (p : Nat) : Tab :=
  ((s.put p ((s.nd p).take 3)).take ((s.nd p).drop 3)).put x.1 (ins (((s.put p ((s.nd p).take 3)).take ((s.nd p).drop 3)).nd x.1) (x.2 + 1) ((s.nd p).key 3, s.place))
def Tab.tell (s : Tab) (x : Nat × Nat) (p : Nat) : Tab := s.put x.1 ((s.nd x.1).set x.2 ((s.nd p).key 0, (s.nd x.1).num x.2))
def Tab.up (s : Tab) (x : Nat × Nat) (p : Nat) : Tab := if 4 < (s.nd p).length then (s.tell x p).split x p else s.tell x p
/-- nothing is amiss with it -/
structure FineUp (s : Tab) (x : Nat × Nat) (p : Nat) : Prop where
  iq : x.1 < s.nds.length
  ia : x.2 < (s.nd x.1).length
  ip : p < s.nds.length
  ne : p ≠ x.1
  l0 : 0 < (s.nd p).length
  lp : (s.nd p).length ≤ 10000
  lq : (s.nd x.1).length ≤ 10000
  free : ∀ f, f ∈ s.free → f < s.nds.length ∧ f ≠ x.1
  ln : s.nds.length ≤ 50000
  lf : s.free.length ≤ 50000
namespace FineUp
variable {s : Tab} {x : Nat × Nat} {p : Nat}
theorem nd (h : FineUp s x p) : (s.tell x p).nd p = s.nd p := by unfold Tab.tell; rw [Tab.put_nd h.iq, if_neg h.ne]
theorem ndq (h : FineUp s x p) : (s.tell x p).nd x.1 = (s.nd x.1).set x.2 ((s.nd p).key 0, (s.nd x.1).num x.2) := by unfold Tab.tell; rw [Tab.put_nd h.iq, if_pos rfl]
theorem tlen (_h : FineUp s x p) : (s.tell x p).nds.length = s.nds.length := Tab.put_len _ _ _
/-- the state that lay finds -/
theorem lay (h : FineUp s x p) : (((s.tell x p).put p ((s.nd p).take 3)).take ((s.nd p).drop 3)).nd x.1 = (s.tell x p).nd x.1 := by
  have e : ((s.tell x p).put p ((s.nd p).take 3)).nds.length = s.nds.length := by rw [Tab.put_len, h.tlen]
  rw [Tab.take_nd (s := (s.tell x p).put p ((s.nd p).take 3)) (fun f hf => by rw [e]; exact (h.free f hf).1) _ (by rw [e]; exact h.iq) (fun hf => (h.free _ hf).2 rfl), Tab.put_nd (by rw [h.tlen]; exact h.ip), if_neg (Ne.symm h.ne)]
theorem laylen (h : FineUp s x p) : s.nds.length ≤ (((s.tell x p).put p ((s.nd p).take 3)).take ((s.nd p).drop 3)).nds.length := by
  have e : ((s.tell x p).put p ((s.nd p).take 3)).nds.length = s.nds.length := by rw [Tab.put_len, h.tlen]
  have := (Tab.take_len (s := (s.tell x p).put p ((s.nd p).take 3)) (zs := (s.nd p).drop 3)).1
  omega
end FineUp
/-- all steps up, from step i on -/
def Tab.ups (ws : List (Nat × Nat)) : Nat → Tab → Tab
  | 0, s => s
  | i + 1, s => Tab.ups ws i (s.up (ws.getD i (0, 0)) (ws.getD (i + 1) (0, 0)).1)
def FineUps (ws : List (Nat × Nat)) : Nat → Tab → Prop
  | 0, _ => True
  | i + 1, s => FineUp s (ws.getD i (0, 0)) (ws.getD (i + 1) (0, 0)).1 ∧ FineUps ws i (s.up (ws.getD i (0, 0)) (ws.getD (i + 1) (0, 0)).1)

end Go.Proofs.Ytdcjckdhjfnnhaa

namespace Go.Proofs.Ytdcjckdhjfnnhaa
open Go.RowKit

def Tab.cutK (s : Tab) (q i : Nat) : Tab := s.put q ((s.nd q).take i ++ (s.nd q).drop (i + 1))
def Tab.kid (s : Tab) (q j : Nat) : Nat := ((s.nd q).num j).toNat
/-- a node takes the items of the one behind -/
def Tab.melt (s : Tab) (p o : Nat) : Tab := (s.put p (s.nd p ++ s.nd o)).off o
def Tab.fix (s : Tab) (x : Nat × Nat) (p : Nat) : Tab := if 4 < (s.nd p).length then s.split x p else s
def Tab.join (s : Tab) (q f p o : Nat) : Tab := ((s.melt p o).tell (q, f) p).cutK q (f + 1)
def Tab.fill (s : Tab) (x : Nat × Nat) : Tab :=
  if 2 ≤ (s.nd (s.kid x.1 x.2)).length then s.tell x (s.kid x.1 x.2)
  else (s.join x.1 (x.2 - 1) (s.kid x.1 (x.2 - 1)) (s.kid x.1 (x.2 - 1 + 1))).fix (x.1, x.2 - 1) (s.kid x.1 (x.2 - 1))
structure FineFill (s : Tab) (x : Nat × Nat) : Prop where
  iq : x.1 < s.nds.length
  ia : x.2 < (s.nd x.1).length
  two : 2 ≤ (s.nd x.1).length
  lq : (s.nd x.1).length ≤ 1000
  kid : ∀ j, j < (s.nd x.1).length → ∃ c : Nat, (s.nd x.1).num j = c ∧ c < s.nds.length ∧ c ≠ x.1 ∧ 0 < (s.nd c).length ∧ (s.nd c).length ≤ 1000
  ap : ∀ i j, i < (s.nd x.1).length → j < (s.nd x.1).length → (s.nd x.1).num i = (s.nd x.1).num j → i = j
  free : ∀ f, f ∈ s.free → f < s.nds.length ∧ f ≠ x.1
  ln : s.nds.length ≤ 50000
  lf : s.free.length ≤ 50000
theorem Tab.off_nd {s : Tab} {o : Nat} (ho : o < s.nds.length) (j : Nat) : (s.off o).nd j = if j = o then [] else s.nd j := Tab.put_nd ho j
theorem Tab.off_len (s : Tab) (o : Nat) : (s.off o).nds.length = s.nds.length := Tab.put_len _ _ _
/-- two nodes of one above, side by side -/
structure Pair (s : Tab) (q f p o : Nat) : Prop where
  iq : q < s.nds.length
  ip : p < s.nds.length
  io : o < s.nds.length
  pq : p ≠ q
  oq : o ≠ q
  po : p ≠ o
  lf1 : f + 1 < (s.nd q).length
namespace Pair
variable {s : Tab} {q f p o : Nat}
theorem nd1 (h : Pair s q f p o) (j : Nat) : (s.put p (s.nd p ++ s.nd o)).nd j = if j = p then s.nd p ++ s.nd o else s.nd j := Tab.put_nd h.ip j
theorem len1 (_h : Pair s q f p o) : (s.put p (s.nd p ++ s.nd o)).nds.length = s.nds.length := Tab.put_len _ _ _
theorem nd2 (h : Pair s q f p o) (j : Nat) : (s.melt p o).nd j = if j = o then [] else if j = p then s.nd p ++ s.nd o else s.nd j := by
  unfold Tab.melt
  rw [Tab.off_nd (by rw [h.len1]; exact h.io), h.nd1]
theorem len2 (h : Pair s q f p o) : (s.melt p o).nds.length = s.nds.length := by unfold Tab.melt; rw [Tab.off_len, h.len1]
theorem nd2p (h : Pair s q f p o) : (s.melt p o).nd p = s.nd p ++ s.nd o := by rw [h.nd2, if_neg h.po, if_pos rfl]
theorem nd2q (h : Pair s q f p o) : (s.melt p o).nd q = s.nd q := by rw [h.nd2, if_neg (Ne.symm h.oq), if_neg (Ne.symm h.pq)]
theorem len3 (h : Pair s q f p o) : ((s.melt p o).tell (q, f) p).nds.length = s.nds.length := by unfold Tab.tell; rw [Tab.put_len, h.len2]
theorem nd3 (h : Pair s q f p o) (j : Nat) : ((s.melt p o).tell (q, f) p).nd j = if j = q then (s.nd q).set f ((s.nd p ++ s.nd o).key 0, (s.nd q).num f) else (s.melt p o).nd j := by
  unfold Tab.tell
  rw [Tab.put_nd (by rw [h.len2]; exact h.iq), h.nd2p, h.nd2q]
theorem len4 (h : Pair s q f p o) : (s.join q f p o).nds.length = s.nds.length := by unfold Tab.join Tab.cutK; rw [Tab.put_len, h.len3]
theorem nd4 (h : Pair s q f p o) (j : Nat) : (s.join q f p o).nd j = if j = q then ((s.nd q).set f ((s.nd p ++ s.nd o).key 0, (s.nd q).num f)).take (f + 1) ++ ((s.nd q).set f ((s.nd p ++ s.nd o).key 0, (s.nd q).num f)).drop (f + 1 + 1) else (s.melt p o).nd j := by
  unfold Tab.join Tab.cutK
  rw [Tab.put_nd (by rw [h.len3]; exact h.iq), h.nd3, h.nd3, if_pos rfl]
  by_cases e : j = q
  · rw [if_pos e, if_pos e]
  · rw [if_neg e, if_neg e, if_neg e]
theorem nd4p (h : Pair s q f p o) : (s.join q f p o).nd p = s.nd p ++ s.nd o := by rw [h.nd4, if_neg h.pq, h.nd2p]
theorem len4q (h : Pair s q f p o) : ((s.join q f p o).nd q).length = (s.nd q).length - 1 := by
  have := h.lf1
  rw [h.nd4, if_pos rfl]; simp; omega
theorem free4 (_h : Pair s q f p o) : (s.join q f p o).free = s.free ++ [o] := rfl
end Pair
theorem FineFill.pair {s : Tab} {x : Nat × Nat} (h : FineFill s x) : Pair s x.1 (x.2 - 1) (s.kid x.1 (x.2 - 1)) (s.kid x.1 (x.2 - 1 + 1)) := by
  have ia := h.ia
  have two := h.two
  have e : x.2 - 1 + 1 < (s.nd x.1).length := by omega
  obtain ⟨c, hc, c1, c2, _⟩ := h.kid (x.2 - 1) (by omega)
  obtain ⟨d, hd, d1, d2, _⟩ := h.kid (x.2 - 1 + 1) e
  have e1 : s.kid x.1 (x.2 - 1) = c := by unfold Tab.kid; rw [hc]; rfl
  have e2 : s.kid x.1 (x.2 - 1 + 1) = d := by unfold Tab.kid; rw [hd]; rfl
  refine ⟨h.iq, by rw [e1]; exact c1, by rw [e2]; exact d1, by rw [e1]; exact c2, by rw [e2]; exact d2, fun t => ?_, e⟩
  rw [e1, e2] at t
  have := h.ap (x.2 - 1) (x.2 - 1 + 1) (by omega) e (by rw [hc, hd, t])
  omega
/-- a node is parted: what is laid into the one above finds it as it was -/
theorem Tab.split_lay {s : Tab} {q p : Nat} {a b : KV} (iq : q < s.nds.length) (ip : p < s.nds.length) (ne : p ≠ q) (free : ∀ f, f ∈ s.free → f < s.nds.length ∧ f ≠ q) : ((s.put p a).take b).nd q = s.nd q ∧ s.nds.length ≤ ((s.put p a).take b).nds.length := by
  have e : (s.put p a).nds.length = s.nds.length := Tab.put_len _ _ _
  refine ⟨?_, by have := (Tab.take_len (s := s.put p a) (zs := b)).1; omega⟩
  rw [Tab.take_nd (s := s.put p a) (fun f hf => by rw [e]; exact (free f hf).1) _ (by rw [e]; exact iq) (fun hf => (free _ hf).2 rfl), Tab.put_nd ip, if_neg (Ne.symm ne)]

end Go.Proofs.Ytdcjckdhjfnnhaa

namespace Go.Proofs.Ytdcjckdhjfnnhaa
open Go.RowKit

/-- a node as the one above tells it; the key of node p may be another one -/
def Tab.lk (s : Tab) (b : Bool) (p : Nat) (K : ByteArray) (r : Nat) : ByteArray × Int := (if b = true ∧ r = p then K else (s.nd r).key 0, (r : Int))
/-- the places of the levels, from the leaves up; node p of level h has what size it likes, and the one above may tell another key of it -/
structure Mid (s : Tab) (L : Nat → List Nat) (l : KV) (h p : Nat) (K : ByteArray) : Prop where
  d1 : 0 < s.depth
  top : L (s.depth - 1) = [s.root]
  nodup : ∀ j, j < s.depth → (L j).Nodup
  lev : ∀ i j r, i < s.depth → j < s.depth → r ∈ L i → r ∈ L j → i = j
  lt : ∀ j r, j < s.depth → r ∈ L j → r < s.nds.length
  fnd : s.free.Nodup
  free : ∀ f, f ∈ s.free → f < s.nds.length ∧ ∀ j, j < s.depth → f ∉ L j
  size : ∀ j r, j < s.depth → r ∈ L j → ¬ (j = h ∧ r = p) → (if s.depth = 1 then 1 else 2) ≤ (s.nd r).length ∧ (s.nd r).length ≤ 4
  link : ∀ j, j + 1 < s.depth → (L (j + 1)).flatMap s.nd = (L j).map (s.lk (decide (j = h)) p K)
  leaf : (L 0).flatMap s.nd = l

theorem fm_congr {X : List Nat} {f g : Nat → KV} (h : ∀ r, r ∈ X → f r = g r) : X.flatMap f = X.flatMap g := by
  induction X with
  | nil => rfl
  | cons x X ih => rw [List.flatMap_cons, List.flatMap_cons, h x (by simp), ih fun r hr => h r (by simp [hr])]
theorem nodup_mid {A B : List Nat} {M : List Nat} (h : (A ++ M ++ B).Nodup) : (∀ r, r ∈ A → r ∉ M ∧ r ∉ B) ∧ (∀ r, r ∈ M → r ∉ A ∧ r ∉ B) ∧ (∀ r, r ∈ B → r ∉ A ∧ r ∉ M) ∧ A.Nodup ∧ M.Nodup ∧ B.Nodup := by
  rw [List.nodup_append] at h
  obtain ⟨h1, h2, h3⟩ := h
  rw [List.nodup_append] at h1
  obtain ⟨h4, h5, h6⟩ := h1
  refine ⟨fun r hr => ⟨fun q => h6 r hr r q rfl, fun q => h3 r (by simp [hr]) r q rfl⟩, fun r hr => ⟨fun q => h6 r q r hr rfl, fun q => h3 r (by simp [hr]) r q rfl⟩, fun r hr => ⟨fun q => h3 r (by simp [q]) r hr rfl, fun q => h3 r (by simp [q]) r hr rfl⟩, h4, h5, h2⟩

section
variable {s s' : Tab} {L : Nat → List Nat} {l : KV} {h p : Nat} {K : ByteArray}
/-- a stretch of a level comes anew, and the node above tells so -/
theorem Mid.relink (m : Mid s L l h p K) (hd : h + 1 < s.depth) {A B X M M' Y : List Nat} {Z1 Z2 : KV} {q : Nat}
    (hA : L (h + 1) = A ++ [q] ++ B) (hX : L h = X ++ M ++ Y) (e1 : A.flatMap s.nd ++ Z1 = X.map (s.lk true p K)) (e2 : Z2 ++ B.flatMap s.nd = Y.map (s.lk true p K)) (hp : p ∈ M)
    (sd : s'.depth = s.depth) (sr : s'.root = s.root)
    (nq : s'.nd q = Z1 ++ M'.map (fun r => ((s'.nd r).key 0, (r : Int))) ++ Z2)
    (ot : ∀ j r, j < s.depth → r ∈ L j → r ≠ q → r ∉ M → s'.nd r = s.nd r)
    (fm : M'.flatMap s'.nd = M.flatMap s.nd) (mnd : M'.Nodup)
    (mf : ∀ r, r ∈ M' → r < s'.nds.length ∧ (r ∈ M ∨ ∀ j, j < s.depth → r ∉ L j))
    (len : s.nds.length ≤ s'.nds.length) (fnd : s'.free.Nodup) (fr : ∀ f, f ∈ s'.free → f < s'.nds.length ∧ f ∉ M' ∧ (f ∈ M ∨ ∀ j, j < s.depth → f ∉ L j))
    (sz : ∀ r, r ∈ M' → 2 ≤ (s'.nd r).length ∧ (s'.nd r).length ≤ 4) :
    Mid s' (fun j => if j = h then X ++ M' ++ Y else L j) l (h + 1) q ((s.nd q).key 0) := by
  have qL : q ∈ L (h + 1) := by rw [hA]; simp
  have nx := nodup_mid (by rw [← hX]; exact m.nodup h (by omega))
  have na := nodup_mid (by rw [← hA]; exact m.nodup (h + 1) hd)
  have lh : ∀ r, r ∈ L h → r ≠ q := fun r hr e => by
    have := m.lev h (h + 1) r (by omega) hd hr (by rw [e]; exact qL); omega
  have Ml : ∀ r, r ∈ M → r ∈ L h := fun r hr => by rw [hX]; simp [hr]
  have XY : ∀ r, r ∈ X ∨ r ∈ Y → r ∈ L h ∧ r ∉ M ∧ s'.nd r = s.nd r := fun r hr => by
    have hl : r ∈ L h := by rw [hX]; rcases hr with e | e <;> simp [e]
    have hm : r ∉ M := by
      rcases hr with e | e
      · exact (nx.1 r e).1
      · exact (nx.2.2.1 r e).2
    exact ⟨hl, hm, ot h r (by omega) hl (lh r hl) hm⟩
  have notM : ∀ j r, j < s.depth → j ≠ h → r ∈ L j → r ∉ M := fun j r hj hn hr hm => hn (m.lev j h r hj (by omega) hr (Ml r hm))
  have other : ∀ j r, j < s.depth → j ≠ h → r ∈ L j → r ≠ q → s'.nd r = s.nd r := fun j r hj hn hr hq => ot j r hj hr hq (notM j r hj hn hr)
  -- places of the new levels
  have mem : ∀ j r, r ∈ (if j = h then X ++ M' ++ Y else L j) → j < s.depth → (r ∈ L j ∧ (j = h → r ∈ X ∨ r ∈ M' ∨ r ∈ Y)) ∨ (j = h ∧ r ∈ M' ∧ ∀ i, i < s.depth → r ∉ L i) := fun j r hr hj => by
    by_cases e : j = h
    · rw [if_pos e] at hr
      subst e
      rw [List.mem_append, List.mem_append] at hr
      rcases hr with (hr | hr) | hr
      · exact .inl ⟨(XY r (.inl hr)).1, fun _ => .inl hr⟩
      · rcases (mf r hr).2 with k | k
        · exact .inl ⟨Ml r k, fun _ => .inr (.inl hr)⟩
        · exact .inr ⟨rfl, hr, k⟩
      · exact .inl ⟨(XY r (.inr hr)).1, fun _ => .inr (.inr hr)⟩
    · rw [if_neg e] at hr
      exact .inl ⟨hr, fun t => absurd t e⟩
  refine ⟨by rw [sd]; exact m.d1, ?_, fun j hj => ?_, fun i j r hi hj h1 h2 => ?_, fun j r hj hr => ?_, fnd, fun f hf => ⟨(fr f hf).1, fun j hj hm => ?_⟩, fun j r hj hr hn => ?_, fun j hj => ?_, ?_⟩
  · rw [sd, sr, if_neg (by omega)]; exact m.top
  · rw [sd] at hj
    show (if j = h then X ++ M' ++ Y else L j).Nodup
    by_cases e : j = h
    · rw [if_pos e]
      rw [List.nodup_append, List.nodup_append]
      have dis : ∀ r, r ∈ M' → r ∉ X ∧ r ∉ Y := fun r hr => by
        rcases (mf r hr).2 with k | k
        · exact nx.2.1 r k
        · exact ⟨fun t => k h (by omega) (XY r (.inl t)).1, fun t => k h (by omega) (XY r (.inr t)).1⟩
      refine ⟨⟨nx.2.2.2.1, mnd, fun a ha b hb e => (dis b hb).1 (e ▸ ha)⟩, nx.2.2.2.2.2, fun a ha b hb e => ?_⟩
      rw [List.mem_append] at ha
      rcases ha with ha | ha
      · exact (nx.1 a ha).2 (e ▸ hb)
      · exact (dis a ha).2 (e ▸ hb)
    · rw [if_neg e]; exact m.nodup j hj
  · rw [sd] at hi hj
    rcases mem i r h1 hi with ⟨a1, _⟩ | ⟨a1, _, a2⟩
    · rcases mem j r h2 hj with ⟨b1, _⟩ | ⟨_, _, b2⟩
      · exact m.lev i j r hi hj a1 b1
      · exact absurd a1 (b2 i hi)
    · rcases mem j r h2 hj with ⟨b1, _⟩ | ⟨b1, _, _⟩
      · exact absurd b1 (a2 j hj)
      · omega
  · rw [sd] at hj
    rcases mem j r hr hj with ⟨a1, _⟩ | ⟨_, a1, _⟩
    · exact Nat.lt_of_lt_of_le (m.lt j r hj a1) len
    · exact (mf r a1).1
  · rw [sd] at hj
    obtain ⟨_, f2, f3⟩ := fr f hf
    rcases mem j f hm hj with ⟨a1, a2⟩ | ⟨_, a1, _⟩
    · rcases f3 with k | k
      · have e : j = h := m.lev j h f hj (by omega) a1 (Ml f k)
        rcases a2 e with t | t | t
        · exact (nx.1 f t).1 k
        · exact f2 t
        · exact (nx.2.2.1 f t).2 k
      · exact k j hj a1
    · exact f2 a1
  · rw [sd] at hj ⊢
    rw [if_neg (show ¬ s.depth = 1 by omega)]
    by_cases e : j = h
    · subst e
      rw [if_pos rfl, List.mem_append, List.mem_append] at hr
      have key : r ∈ X ∨ r ∈ Y → 2 ≤ (s'.nd r).length ∧ (s'.nd r).length ≤ 4 := fun t => by
        obtain ⟨k1, k2, k3⟩ := XY r t
        have := m.size j r hj k1 (fun e => k2 (by rw [e.2]; exact hp))
        rw [if_neg (show ¬ s.depth = 1 by omega)] at this
        rw [k3]; exact this
      rcases hr with (hr | hr) | hr
      · exact key (.inl hr)
      · exact sz r hr
      · exact key (.inr hr)
    · rw [if_neg e] at hr
      have rq : r ≠ q := fun t => hn ⟨m.lev j (h + 1) r hj hd hr (by rw [t]; exact qL), t⟩
      rw [other j r hj e hr rq]
      have := m.size j r hj hr (fun t => e t.1)
      rw [if_neg (show ¬ s.depth = 1 by omega)] at this
      exact this
  · rw [sd] at hj
    by_cases e : j = h
    · subst e
      rw [if_neg (by omega), if_pos rfl, hA, List.flatMap_append, List.flatMap_append, List.map_append, List.map_append]
      have a1 : A.flatMap s'.nd = A.flatMap s.nd := fm_congr fun r hr => other (j + 1) r hd (by omega) (by rw [hA]; simp [hr]) (fun t => (na.1 r hr).1 (by simp [t]))
      have a2 : B.flatMap s'.nd = B.flatMap s.nd := fm_congr fun r hr => other (j + 1) r hd (by omega) (by rw [hA]; simp [hr]) (fun t => (na.2.2.1 r hr).2 (by simp [t]))
      have lkX : ∀ W : List Nat, (∀ r, r ∈ W → r ∈ X ∨ r ∈ Y) → W.map (s'.lk (decide (j = j + 1)) q ((s.nd q).key 0)) = W.map (s.lk true p K) := fun W hW => by
        apply List.map_congr_left
        intro r hr
        obtain ⟨k1, k2, k3⟩ := XY r (hW r hr)
        unfold Tab.lk
        rw [if_neg (fun t => by have := t.1; simp at this), if_neg (fun t => k2 (by rw [t.2]; exact hp)), k3]
      rw [lkX X (fun r hr => .inl hr), lkX Y (fun r hr => .inr hr), ← e1, ← e2, a1, a2]
      have mm : M'.map (s'.lk (decide (j = j + 1)) q ((s.nd q).key 0)) = M'.map (fun r => ((s'.nd r).key 0, (r : Int))) := by
        apply List.map_congr_left
        intro r _
        unfold Tab.lk
        rw [if_neg (fun t => by have := t.1; simp at this)]
      rw [mm]
      simp only [List.flatMap_cons, List.flatMap_nil, List.append_nil]
      rw [nq]
      simp only [List.append_assoc]
    · by_cases e' : j + 1 = h
      · -- the level above is h: its items stand as they stood
        rw [if_pos e', if_neg e]
        have e3 : (X ++ M' ++ Y).flatMap s'.nd = (L h).flatMap s.nd := by
          rw [hX]
          simp only [List.flatMap_append]
          rw [fm, fm_congr (X := X) (f := s'.nd) (g := s.nd) (fun r hr => (XY r (.inl hr)).2.2), fm_congr (X := Y) (f := s'.nd) (g := s.nd) (fun r hr => (XY r (.inr hr)).2.2)]
        rw [e3, ← e', m.link j (by omega)]
        apply List.map_congr_left
        intro r hr
        have rq : r ≠ q := fun t => by have := m.lev j (h + 1) r (by omega) hd hr (by rw [t]; exact qL); omega
        unfold Tab.lk
        rw [if_neg (fun t => by have := t.1; simp at this; omega), if_neg (fun t => by have := t.1; simp at this; omega), other j r (by omega) e hr rq]
      · rw [if_neg e', if_neg e]
        by_cases e2' : j = h + 1
        · subst e2'
          rw [fm_congr (X := L (h + 1 + 1)) (f := s'.nd) (g := s.nd) (fun r hr => other _ r hj (by omega) hr (fun t => by have := m.lev _ (h + 1) r hj hd hr (by rw [t]; exact qL); omega)), m.link _ hj]
          apply List.map_congr_left
          intro r hr
          unfold Tab.lk
          rw [if_neg (fun t => by have := t.1; simp at this)]
          by_cases rq : r = q
          · rw [if_pos ⟨by simp, rq⟩, rq]
          · rw [if_neg (fun t => rq t.2), other _ r hd (by omega) hr rq]
        · rw [fm_congr (X := L (j + 1)) (f := s'.nd) (g := s.nd) (fun r hr => other _ r hj e' hr (fun t => by have := m.lev _ (h + 1) r hj hd hr (by rw [t]; exact qL); omega)), m.link _ hj]
          apply List.map_congr_left
          intro r hr
          unfold Tab.lk
          rw [if_neg (fun t => by have := t.1; simp at this; omega), if_neg (fun t => by have := t.1; simp at this; omega), other _ r (by omega) e hr (fun t => by have := m.lev _ (h + 1) r (by omega) hd hr (by rw [t]; exact qL); omega)]
  · by_cases e : h = 0
    · subst e
      rw [if_pos rfl, ← m.leaf, hX]
      simp only [List.flatMap_append]
      rw [fm, fm_congr (X := X) (f := s'.nd) (g := s.nd) (fun r hr => (XY r (.inl hr)).2.2), fm_congr (X := Y) (f := s'.nd) (g := s.nd) (fun r hr => (XY r (.inr hr)).2.2)]
    · rw [if_neg (Ne.symm e), ← m.leaf]
      exact fm_congr fun r hr => other 0 r (by omega) (Ne.symm e) hr (fun t => by have := m.lev 0 (h + 1) r (by omega) hd hr (by rw [t]; exact qL); omega)
end

end Go.Proofs.Ytdcjckdhjfnnhaa
