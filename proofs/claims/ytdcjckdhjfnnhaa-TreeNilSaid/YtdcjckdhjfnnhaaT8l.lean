/- The tree's levels, in plain words. -/
import Derived.Test.YtdcjckdhjfnnhaaT9f
namespace Go.Proofs.Ytdcjckdhjfnnhaa
open Go.RowKit

/-- a node as the one above tells it; the key of node p may be another one -/
def Tab.lk (s : Tab) (b : Bool) (p : Nat) (K : ByteArray) (r : Nat) : ByteArray × Int := (if b = true ∧ r = p then K else (s.nd r).key 0, (r : Int))
/-- the places of the levels, from the leaves up; node p of level h has what size it likes, and the one above may tell another key of it -/
structure Mid (s : Tab) (L : Nat → List Nat) (l : KV) (h p : Nat) (K : ByteArray) : Prop where
  d1 : 0 < s.depth
  top : L (s.depth - 1) = [s.root]
  nodup : ∀ j, j < s.depth → (L j).Nodup
  lev : ∀ i j r, i < s.depth → j < s.depth → r ∈ L i → r ∈ L j → i = j
  lt : ∀ j r, j < s.depth → r ∈ L j → r < s.nds.length
  fnd : s.free.Nodup
  free : ∀ f, f ∈ s.free → f < s.nds.length ∧ ∀ j, j < s.depth → f ∉ L j
  size : ∀ j r, j < s.depth → r ∈ L j → ¬ (j = h ∧ r = p) → (if s.depth = 1 then 1 else 2) ≤ (s.nd r).length ∧ (s.nd r).length ≤ 4
  link : ∀ j, j + 1 < s.depth → (L (j + 1)).flatMap s.nd = (L j).map (s.lk (decide (j = h)) p K)
  leaf : (L 0).flatMap s.nd = l

theorem fm_congr {X : List Nat} {f g : Nat → KV} (h : ∀ r, r ∈ X → f r = g r) : X.flatMap f = X.flatMap g := by
  induction X with
  | nil => rfl
  | cons x X ih => rw [List.flatMap_cons, List.flatMap_cons, h x (by simp), ih fun r hr => h r (by simp [hr])]
theorem nodup_mid {A B : List Nat} {M : List Nat} (h : (A ++ M ++ B).Nodup) : (∀ r, r ∈ A → r ∉ M ∧ r ∉ B) ∧ (∀ r, r ∈ M → r ∉ A ∧ r ∉ B) ∧ (∀ r, r ∈ B → r ∉ A ∧ r ∉ M) ∧ A.Nodup ∧ M.Nodup ∧ B.Nodup := by
  rw [List.nodup_append] at h
  obtain ⟨h1, h2, h3⟩ := h
  rw [List.nodup_append] at h1
  obtain ⟨h4, h5, h6⟩ := h1
  refine ⟨fun r hr => ⟨fun q => h6 r hr r q rfl, fun q => h3 r (by simp [hr]) r q rfl⟩, fun r hr => ⟨fun q => h6 r q r hr rfl, fun q => h3 r (by simp [hr]) r q rfl⟩, fun r hr => ⟨fun q => h3 r (by simp [q]) r hr rfl, fun q => h3 r (by simp [q]) r hr rfl⟩, h4, h5, h2⟩

section
variable {s s' : Tab} {L : Nat → List Nat} {l : KV} {h p : Nat} {K : ByteArray}
/-- a stretch of a level comes anew, and the node above tells so -/
theorem Mid.relink (m : Mid s L l h p K) (hd : h + 1 < s.depth) {A B X M M' Y : List Nat} {Z1 Z2 : KV} {q : Nat}
    (hA : L (h + 1) = A ++ [q] ++ B) (hX : L h = X ++ M ++ Y) (e1 : A.flatMap s.nd ++ Z1 = X.map (s.lk true p K)) (e2 : Z2 ++ B.flatMap s.nd = Y.map (s.lk true p K)) (hp : p ∈ M)
    (sd : s'.depth = s.depth) (sr : s'.root = s.root)
    (nq : s'.nd q = Z1 ++ M'.map (fun r => ((s'.nd r).key 0, (r : Int))) ++ Z2)
    (ot : ∀ j r, j < s.depth → r ∈ L j → r ≠ q → r ∉ M → s'.nd r = s.nd r)
    (fm : M'.flatMap s'.nd = M.flatMap s.nd) (mnd : M'.Nodup)
    (mf : ∀ r, r ∈ M' → r < s'.nds.length ∧ (r ∈ M ∨ ∀ j, j < s.depth → r ∉ L j))
    (len : s.nds.length ≤ s'.nds.length) (fnd : s'.free.Nodup) (fr : ∀ f, f ∈ s'.free → f < s'.nds.length ∧ f ∉ M' ∧ (f ∈ M ∨ ∀ j, j < s.depth → f ∉ L j))
    (sz : ∀ r, r ∈ M' → 2 ≤ (s'.nd r).length ∧ (s'.nd r).length ≤ 4) :
    Mid s' (fun j => if j = h then X ++ M' ++ Y else L j) l (h + 1) q ((s.nd q).key 0) := by
  have qL : q ∈ L (h + 1) := by rw [hA]; simp
  have nx := nodup_mid (by rw [← hX]; exact m.nodup h (by omega))
  have na := nodup_mid (by rw [← hA]; exact m.nodup (h + 1) hd)
  have lh : ∀ r, r ∈ L h → r ≠ q := fun r hr e => by
    have := m.lev h (h + 1) r (by omega) hd hr (by rw [e]; exact qL); omega
  have Ml : ∀ r, r ∈ M → r ∈ L h := fun r hr => by rw [hX]; simp [hr]
  have XY : ∀ r, r ∈ X ∨ r ∈ Y → r ∈ L h ∧ r ∉ M ∧ s'.nd r = s.nd r := fun r hr => by
    have hl : r ∈ L h := by rw [hX]; rcases hr with e | e <;> simp [e]
    have hm : r ∉ M := by
      rcases hr with e | e
      · exact (nx.1 r e).1
      · exact (nx.2.2.1 r e).2
    exact ⟨hl, hm, ot h r (by omega) hl (lh r hl) hm⟩
  have notM : ∀ j r, j < s.depth → j ≠ h → r ∈ L j → r ∉ M := fun j r hj hn hr hm => hn (m.lev j h r hj (by omega) hr (Ml r hm))
  have other : ∀ j r, j < s.depth → j ≠ h → r ∈ L j → r ≠ q → s'.nd r = s.nd r := fun j r hj hn hr hq => ot j r hj hr hq (notM j r hj hn hr)
  -- places of the new levels
  have mem : ∀ j r, r ∈ (if j = h then X ++ M' ++ Y else L j) → j < s.depth → (r ∈ L j ∧ (j = h → r ∈ X ∨ r ∈ M' ∨ r ∈ Y)) ∨ (j = h ∧ r ∈ M' ∧ ∀ i, i < s.depth → r ∉ L i) := fun j r hr hj => by
    by_cases e : j = h
    · rw [if_pos e] at hr
      subst e
      rw [List.mem_append, List.mem_append] at hr
      rcases hr with (hr | hr) | hr
      · exact .inl ⟨(XY r (.inl hr)).1, fun _ => .inl hr⟩
      · rcases (mf r hr).2 with k | k
        · exact .inl ⟨Ml r k, fun _ => .inr (.inl hr)⟩
        · exact .inr ⟨rfl, hr, k⟩
      · exact .inl ⟨(XY r (.inr hr)).1, fun _ => .inr (.inr hr)⟩
    · rw [if_neg e] at hr
      exact .inl ⟨hr, fun t => absurd t e⟩
  refine ⟨by rw [sd]; exact m.d1, ?_, fun j hj => ?_, fun i j r hi hj h1 h2 => ?_, fun j r hj hr => ?_, fnd, fun f hf => ⟨(fr f hf).1, fun j hj hm => ?_⟩, fun j r hj hr hn => ?_, fun j hj => ?_, ?_⟩
  · rw [sd, sr, if_neg (by omega)]; exact m.top
  · rw [sd] at hj
    show (if j = h then X ++ M' ++ Y else L j).Nodup
    by_cases e : j = h
    · rw [if_pos e]
      rw [List.nodup_append, List.nodup_append]
      have dis : ∀ r, r ∈ M' → r ∉ X ∧ r ∉ Y := fun r hr => by
        rcases (mf r hr).2 with k | k
        · exact nx.2.1 r k
        · exact ⟨fun t => k h (by omega) (XY r (.inl t)).1, fun t => k h (by omega) (XY r (.inr t)).1⟩
      refine ⟨⟨nx.2.2.2.1, mnd, fun a ha b hb e => (dis b hb).1 (e ▸ ha)⟩, nx.2.2.2.2.2, fun a ha b hb e => ?_⟩
      rw [List.mem_append] at ha
      rcases ha with ha | ha
      · exact (nx.1 a ha).2 (e ▸ hb)
      · exact (dis a ha).2 (e ▸ hb)
    · rw [if_neg e]; exact m.nodup j hj
  · rw [sd] at hi hj
    rcases mem i r h1 hi with ⟨a1, _⟩ | ⟨a1, _, a2⟩
    · rcases mem j r h2 hj with ⟨b1, _⟩ | ⟨_, _, b2⟩
      · exact m.lev i j r hi hj a1 b1
      · exact absurd a1 (b2 i hi)
    · rcases mem j r h2 hj with ⟨b1, _⟩ | ⟨b1, _, _⟩
      · exact absurd b1 (a2 j hj)
      · omega
  · rw [sd] at hj
    rcases mem j r hr hj with ⟨a1, _⟩ | ⟨_, a1, _⟩
    · exact Nat.lt_of_lt_of_le (m.lt j r hj a1) len
    · exact (mf r a1).1
  · rw [sd] at hj
    obtain ⟨_, f2, f3⟩ := fr f hf
    rcases mem j f hm hj with ⟨a1, a2⟩ | ⟨_, a1, _⟩
    · rcases f3 with k | k
      · have e : j = h := m.lev j h f hj (by omega) a1 (Ml f k)
        rcases a2 e with t | t | t
        · exact (nx.1 f t).1 k
        · exact f2 t
        · exact (nx.2.2.1 f t).2 k
      · exact k j hj a1
    · exact f2 a1
  · rw [sd] at hj ⊢
    rw [if_neg (show ¬ s.depth = 1 by omega)]
    by_cases e : j = h
    · subst e
      rw [if_pos rfl, List.mem_append, List.mem_append] at hr
      have key : r ∈ X ∨ r ∈ Y → 2 ≤ (s'.nd r).length ∧ (s'.nd r).length ≤ 4 := fun t => by
        obtain ⟨k1, k2, k3⟩ := XY r t
        have := m.size j r hj k1 (fun e => k2 (by rw [e.2]; exact hp))
        rw [if_neg (show ¬ s.depth = 1 by omega)] at this
        rw [k3]; exact this
      rcases hr with (hr | hr) | hr
      · exact key (.inl hr)
      · exact sz r hr
      · exact key (.inr hr)
    · rw [if_neg e] at hr
      have rq : r ≠ q := fun t => hn ⟨m.lev j (h + 1) r hj hd hr (by rw [t]; exact qL), t⟩
      rw [other j r hj e hr rq]
      have := m.size j r hj hr (fun t => e t.1)
      rw [if_neg (show ¬ s.depth = 1 by omega)] at this
      exact this
  · rw [sd] at hj
    by_cases e : j = h
    · subst e
      rw [if_neg (by omega), if_pos rfl, hA, List.flatMap_append, List.flatMap_append, List.map_append, List.map_append]
      have a1 : A.flatMap s'.nd = A.flatMap s.nd := fm_congr fun r hr => other (j + 1) r hd (by omega) (by rw [hA]; simp [hr]) (fun t => (na.1 r hr).1 (by simp [t]))
      have a2 : B.flatMap s'.nd = B.flatMap s.nd := fm_congr fun r hr => other (j + 1) r hd (by omega) (by rw [hA]; simp [hr]) (fun t => (na.2.2.1 r hr).2 (by simp [t]))
      have lkX : ∀ W : List Nat, (∀ r, r ∈ W → r ∈ X ∨ r ∈ Y) → W.map (s'.lk (decide (j = j + 1)) q ((s.nd q).key 0)) = W.map (s.lk true p K) := fun W hW => by
        apply List.map_congr_left
        intro r hr
        obtain ⟨k1, k2, k3⟩ := XY r (hW r hr)
        unfold Tab.lk
        rw [if_neg (fun t => by have := t.1; simp at this), if_neg (fun t => k2 (by rw [t.2]; exact hp)), k3]
      rw [lkX X (fun r hr => .inl hr), lkX Y (fun r hr => .inr hr), ← e1, ← e2, a1, a2]
      have mm : M'.map (s'.lk (decide (j = j + 1)) q ((s.nd q).key 0)) = M'.map (fun r => ((s'.nd r).key 0, (r : Int))) := by
        apply List.map_congr_left
        intro r _
        unfold Tab.lk
        rw [if_neg (fun t => by have := t.1; simp at this)]
      rw [mm]
      simp only [List.flatMap_cons, List.flatMap_nil, List.append_nil]
      rw [nq]
      simp only [List.append_assoc]
    · by_cases e' : j + 1 = h
      · -- the level above is h: its items stand as they stood
        rw [if_pos e', if_neg e]
        have e3 : (X ++ M' ++ Y).flatMap s'.nd = (L h).flatMap s.nd := by
          rw [hX]
          simp only [List.flatMap_append]
          rw [fm, fm_congr (X := X) (f := s'.nd) (g := s.nd) (fun r hr => (XY r (.inl hr)).2.2), fm_congr (X := Y) (f := s'.nd) (g := s.nd) (fun r hr => (XY r (.inr hr)).2.2)]
        rw [e3, ← e', m.link j (by omega)]
        apply List.map_congr_left
        intro r hr
        have rq : r ≠ q := fun t => by have := m.lev j (h + 1) r (by omega) hd hr (by rw [t]; exact qL); omega
        unfold Tab.lk
        rw [if_neg (fun t => by have := t.1; simp at this; omega), if_neg (fun t => by have := t.1; simp at this; omega), other j r (by omega) e hr rq]
      · rw [if_neg e', if_neg e]
        by_cases e2' : j = h + 1
        · subst e2'
          rw [fm_congr (X := L (h + 1 + 1)) (f := s'.nd) (g := s.nd) (fun r hr => other _ r hj (by omega) hr (fun t => by have := m.lev _ (h + 1) r hj hd hr (by rw [t]; exact qL); omega)), m.link _ hj]
          apply List.map_congr_left
          intro r hr
          unfold Tab.lk
          rw [if_neg (fun t => by have := t.1; simp at this)]
          by_cases rq : r = q
          · rw [if_pos ⟨by simp, rq⟩, rq]
          · rw [if_neg (fun t => rq t.2), other _ r hd (by omega) hr rq]
        · rw [fm_congr (X := L (j + 1)) (f := s'.nd) (g := s.nd) (fun r hr => other _ r hj e' hr (fun t => by have := m.lev _ (h + 1) r hj hd hr (by rw [t]; exact qL); omega)), m.link _ hj]
          apply List.map_congr_left
          intro r hr
          unfold Tab.lk
          rw [if_neg (fun t => by have := t.1; simp at this; omega), if_neg (fun t => by have := t.1; simp at this; omega), other _ r (by omega) e hr (fun t => by have := m.lev _ (h + 1) r (by omega) hd hr (by rw [t]; exact qL); omega)]
  · by_cases e : h = 0
    · subst e
      rw [if_pos rfl, ← m.leaf, hX]
      simp only [List.flatMap_append]
      rw [fm, fm_congr (X := X) (f := s'.nd) (g := s.nd) (fun r hr => (XY r (.inl hr)).2.2), fm_congr (X := Y) (f := s'.nd) (g := s.nd) (fun r hr => (XY r (.inr hr)).2.2)]
    · rw [if_neg (Ne.symm e), ← m.leaf]
      exact fm_congr fun r hr => other 0 r (by omega) (Ne.symm e) hr (fun t => by have := m.lev 0 (h + 1) r (by omega) hd hr (by rw [t]; exact qL); omega)
end

end Go.Proofs.Ytdcjckdhjfnnhaa
