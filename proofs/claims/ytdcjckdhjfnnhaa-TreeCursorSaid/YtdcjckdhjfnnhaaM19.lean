/- Proved parts: T8s. Conditions: each theorem's own. -/
import Derived.Test.YtdcjckdhjfnnhaaM18
namespace Go.Proofs.Ytdcjckdhjfnnhaa
open Go.RowKit

/-- a tree whose levels are whole -/
abbrev Whole (s : Tab) (L : Nat → List Nat) (l : KV) : Prop := Mid s L l s.depth 0 ⟨#[]⟩
theorem Mid.clean {s : Tab} {L : Nat → List Nat} {l : KV} {h p : Nat} {K : ByteArray} (m : Mid s L l h p K) (sz : h < s.depth → p ∈ L h → (if s.depth = 1 then 1 else 2) ≤ (s.nd p).length ∧ (s.nd p).length ≤ 4) (hk : h + 1 < s.depth → K = (s.nd p).key 0) : Whole s L l := by
  refine ⟨m.d1, m.top, m.nodup, m.lev, m.lt, m.fnd, m.free, fun j r hj hr _ => ?_, fun j hj => ?_, m.leaf⟩
  · by_cases e : j = h ∧ r = p
    · obtain ⟨rfl, rfl⟩ := e; exact sz hj hr
    · exact m.size j r hj hr e
  · rw [m.link j hj]
    apply List.map_congr_left
    intro r _
    unfold Tab.lk
    rw [if_neg (show ¬ (decide (j = s.depth) = true ∧ r = 0) from fun t => by have := t.1; simp at this; omega)]
    by_cases e : j = h
    · subst e
      by_cases c : r = p
      · rw [if_pos ⟨by simp, c⟩, c, hk hj]
      · rw [if_neg (fun t => c t.2)]
    · rw [if_neg (fun t => e (by have := t.1; simpa using this))]
section
variable {s : Tab} {L : Nat → List Nat} {l : KV}
theorem Whole.linkW (m : Whole s L l) {j : Nat} (hj : j + 1 < s.depth) : (L (j + 1)).flatMap s.nd = (L j).map (fun r => ((s.nd r).key 0, (r : Int))) := by
  rw [m.link j hj]
  apply List.map_congr_left
  intro r _
  unfold Tab.lk
  rw [if_neg (fun t => by have := t.1; simp at this; omega)]
theorem lk_self (b : Bool) (p r : Nat) : s.lk b p ((s.nd p).key 0) r = ((s.nd r).key 0, (r : Int)) := by
  unfold Tab.lk
  by_cases c : b = true ∧ r = p
  · rw [if_pos c, c.2]
  · rw [if_neg c]
theorem Whole.at (m : Whole s L l) (j p : Nat) : Mid s L l j p ((s.nd p).key 0) := by
  refine ⟨m.d1, m.top, m.nodup, m.lev, m.lt, m.fnd, m.free, fun i r hi hr _ => m.size i r hi hr (fun t => by omega), fun i hi => ?_, m.leaf⟩
  rw [m.linkW hi]
  apply List.map_congr_left
  intro r _
  rw [lk_self]
theorem Whole.pos (m : Whole s L l) {j r : Nat} (hj : j < s.depth) (hr : r ∈ L j) : 1 ≤ (s.nd r).length ∧ (s.nd r).length ≤ 4 := by
  have := m.size j r hj hr (fun t => by omega)
  by_cases c : s.depth = 1
  · rw [if_pos c] at this; exact this
  · rw [if_neg c] at this; omega
abbrev RiseL (z : KV) : Prop := z.Pairwise fun x y => ltB x.1 y.1 = true
theorem KV.key_mem (z : KV) {i : Nat} (hi : i < z.length) : ∃ n, (z.key i, n) ∈ z := ⟨z.num i, by rw [← KV.getE z i hi]; exact List.getElem_mem hi⟩
theorem KV.rise_at {z : KV} (h : RiseL z) {i j : Nat} (hi : i < j) (hj : j < z.length) : ltB (z.key i) (z.key j) = true := by
  unfold RiseL at h
  rw [List.pairwise_iff_getElem] at h
  have := h i j (by omega) hj hi
  rw [KV.getE z i (by omega), KV.getE z j hj] at this
  exact this
theorem Whole.rise (m : Whole s L l) (h0 : RiseL l) : ∀ j, j < s.depth → RiseL ((L j).flatMap s.nd)
  | 0, _ => by rw [m.leaf]; exact h0
  | j + 1, hj => by
    have ih := Whole.rise m h0 j (by omega)
    rw [m.linkW hj]
    unfold RiseL at ih ⊢
    rw [List.pairwise_flatMap] at ih
    rw [List.pairwise_map]
    refine List.Pairwise.imp_of_mem ?_ ih.2
    intro a b ha hb hab
    obtain ⟨n1, k1⟩ := KV.key_mem (s.nd a) (i := 0) (by have := m.pos (by omega) ha; omega)
    obtain ⟨n2, k2⟩ := KV.key_mem (s.nd b) (i := 0) (by have := m.pos (by omega) hb; omega)
    exact hab (_, n1) k1 (_, n2) k2

/-- where the way to a key is -/
structure Here (s : Tab) (L : Nat → List Nat) (k : ByteArray) (j p : Nat) : Prop where
  mem : ∃ A B, L j = A ++ [p] ++ B ∧ (∀ x, x ∈ B.flatMap s.nd → ltB k x.1 = true) ∧ (A = [] ∨ ltB k ((s.nd p).key 0) = false)
theorem ltB_le_trans {a b c : ByteArray} (h : ltB a b = true) (k : ltB c b = false) : ltB a c = true := by
  cases e : ltB a c with
  | true => rfl
  | false =>
    -- c is not below b, a is below b, a is not below c
    cases f : ltB c a with
    | true => exact absurd (ltB_trans f h) (by rw [k]; decide)
    | false => rw [ltB_total e f] at h; rw [h] at k; cases k
theorem kid_lt {z : KV} {k : ByteArray} (h : 0 < z.length) : z.kid k < z.length := by
  unfold KV.kid
  have := KV.pos_le k z
  by_cases c : z.has k = true
  · rw [if_pos c]; exact ((KV.has_iff z k).1 c).1
  · rw [if_neg c]; omega
theorem kid_above {z : KV} {k : ByteArray} (hz : RiseL z) {i : Nat} (hi : z.kid k < i) (hl : i < z.length) : ltB k (z.key i) = true := by
  unfold KV.kid at hi
  by_cases c : z.has k = true
  · rw [if_pos c] at hi
    have e := ((KV.has_iff z k).1 c).2
    have := KV.rise_at hz hi hl
    rw [e] at this; exact this
  · rw [if_neg c] at hi
    have hp : z.pos k < z.length := by omega
    have st := KV.pos_stop k z hp
    have lt : ltB k (z.key (z.pos k)) = true := by
      cases e : ltB k (z.key (z.pos k)) with
      | true => rfl
      | false => exact absurd ((KV.has_iff z k).2 ⟨hp, (ltB_total e st).symm⟩) c
    by_cases t : i = z.pos k
    · rw [t]; exact lt
    · exact ltB_trans lt (KV.rise_at hz (by omega) hl)
theorem kid_below {z : KV} {k : ByteArray} (h : z.kid k ≠ 0 ∨ ltB k (z.key 0) = false) : ltB k (z.key (z.kid k)) = false := by
  by_cases z0 : z.kid k = 0
  · rw [z0]
    exact h.resolve_left (fun t => t z0)
  · unfold KV.kid at z0 ⊢
    by_cases c : z.has k = true
    · rw [if_pos c, ((KV.has_iff z k).1 c).2]; exact ltB_irr k
    · rw [if_neg c] at z0 ⊢
      exact ltB_asym (KV.pos_below k z _ (by omega))
theorem Here.root (m : Whole s L l) (k : ByteArray) : Here s L k (s.depth - 1) s.root := ⟨[], [], by rw [m.top]; rfl, fun x hx => (by cases hx), .inl rfl⟩
theorem Here.down (m : Whole s L l) (h0 : RiseL l) {k : ByteArray} {j p : Nat} (hj : j + 1 < s.depth) (hh : Here s L k (j + 1) p) :
    (s.nd p).kid k < (s.nd p).length ∧ ∃ q : Nat, (s.nd p).num ((s.nd p).kid k) = q ∧ Here s L k j q := by
  obtain ⟨A, B, e, hB, hA⟩ := hh.mem
  have pm : p ∈ L (j + 1) := by rw [e]; simp
  have sz := m.pos hj pm
  have kl := kid_lt (z := s.nd p) (k := k) (by omega)
  refine ⟨kl, ?_⟩
  obtain ⟨M, hl, _, _, hk⟩ := (m.at j 0).kids hj pm
  have hq := (hk _ (by rw [hl]; exact kl)).1
  refine ⟨_, hq, ?_⟩
  obtain ⟨q, hqe⟩ : ∃ q, q = M[(s.nd p).kid k]'(by rw [hl]; exact kl) := ⟨_, rfl⟩
  rw [← hqe] at hq ⊢
  obtain ⟨A', B', X, Y, e1, e2, e3, e4⟩ := (m.at j 0).seg1 hj pm kl hq
  have nx := nodup_mid (by rw [← e]; exact m.nodup (j + 1) hj)
  -- the same cut
  have cut : A' = A ∧ B' = B := by
    have e5 : A ++ p :: B = A' ++ p :: B' := by
      have := e.symm.trans e1
      simpa using this
    have pA : p ∉ A := (nx.2.1 p (by simp)).1
    have nx' := nodup_mid (by rw [← e1]; exact m.nodup (j + 1) hj)
    have pA' : p ∉ A' := (nx'.2.1 p (by simp)).1
    rcases List.append_eq_append_iff.1 e5 with ⟨C, h1, h2⟩ | ⟨C, h1, h2⟩
    · cases C with
      | nil => simp at h1 h2; exact ⟨h1, h2.symm⟩
      | cons c C => simp at h2; exact absurd (by rw [h1, ← h2.1]; simp) pA'
    · cases C with
      | nil => simp at h1 h2; exact ⟨h1.symm, h2⟩
      | cons c C => simp at h2; exact absurd (by rw [h1, ← h2.1]; simp) pA
  obtain ⟨rfl, rfl⟩ := cut
  have rj := m.rise h0 j (by omega)
  have rj1 := m.rise h0 (j + 1) hj
  have rp : RiseL (s.nd p) := by
    unfold RiseL at rj1
    rw [List.pairwise_flatMap] at rj1
    exact rj1.1 p pm
  have lkf : ∀ W : List Nat, W.map (s.lk true 0 ((s.nd 0).key 0)) = W.map (fun r => ((s.nd r).key 0, (r : Int))) := fun W => List.map_congr_left fun r _ => lk_self _ _ _
  rw [lkf] at e3 e4
  have qm : q ∈ L j := by rw [e2]; simp
  have kq : (s.nd q).key 0 = (s.nd p).key ((s.nd p).kid k) := by
    have k1 := (hk _ (show (s.nd p).kid k < M.length by rw [hl]; exact kl)).2
    rw [← hqe] at k1
    rw [k1]
    by_cases c : q = 0
    · rw [if_pos c, c]
    · rw [if_neg c]
  have head : ∀ r, r ∈ L j → ∀ x, x ∈ s.nd r → ltB x.1 ((s.nd r).key 0) = false := fun r hr x hx => by
    have rr : RiseL (s.nd r) := by
      unfold RiseL at rj
      rw [List.pairwise_flatMap] at rj
      exact rj.1 r hr
    obtain ⟨i, hi, rfl⟩ := List.getElem_of_mem hx
    rw [KV.getE _ _ hi]
    by_cases c : i = 0
    · rw [c]; exact ltB_irr _
    · exact ltB_asym (KV.rise_at rr (by omega) hi)
  refine ⟨X, Y, e2, fun x hx => ?_, ?_⟩
  · rw [List.mem_flatMap] at hx
    obtain ⟨r, hr, hx⟩ := hx
    have rl : r ∈ L j := by rw [e2]; simp [hr]
    have up : ltB k ((s.nd r).key 0) = true := by
      have im : ((s.nd r).key 0, (r : Int)) ∈ Y.map (fun r => ((s.nd r).key 0, (r : Int))) := List.mem_map.2 ⟨r, hr, rfl⟩
      rw [← e4, List.mem_append] at im
      rcases im with im | im
      · obtain ⟨i, hi, he⟩ := List.getElem_of_mem im
        rw [List.getElem_drop, KV.getE _ _ (by rw [List.length_drop] at hi; omega)] at he
        injection he with he _
        rw [← he]
        exact kid_above rp (by omega) (by rw [List.length_drop] at hi; omega)
      · exact hB (_, (r : Int)) im
    exact ltB_le_trans up (head r rl x hx)
  · rw [kq]
    by_cases c : X = []
    · exact .inl c
    · refine .inr (kid_below ?_)
      by_cases z : (s.nd p).kid k = 0
      · rw [z, List.take_zero, List.append_nil] at e3
        refine .inr (hA.resolve_left fun t => c ?_)
        rw [t] at e3
        exact List.map_eq_nil_iff.1 e3.symm
      · exact .inl z
theorem down_succ (s : Tab) (k : ByteArray) (h p : Nat) : s.down k (h + 2) p = (p, (s.nd p).kid k) :: s.down k (h + 1) ((s.nd p).num ((s.nd p).kid k)).toNat := rfl
/-- the way -/
structure Path (s : Tab) (L : Nat → List Nat) (k : ByteArray) (h p : Nat) (ws : List (Nat × Nat)) : Prop where
  len : ws.length = h + 1
  mem : ∀ i, i ≤ h → (ws.getD i (0, 0)).1 ∈ L (h - i)
  top : (ws.getD 0 (0, 0)).1 = p
  next : ∀ i, i < h → (ws.getD i (0, 0)).2 < (s.nd (ws.getD i (0, 0)).1).length ∧ (s.nd (ws.getD i (0, 0)).1).num (ws.getD i (0, 0)).2 = ((ws.getD (i + 1) (0, 0)).1 : Int)
  last : (ws.getD h (0, 0)).2 = (s.nd (ws.getD h (0, 0)).1).pos k
  here : Here s L k 0 (ws.getD h (0, 0)).1
theorem Whole.path (m : Whole s L l) (h0 : RiseL l) (k : ByteArray) : ∀ h p, h < s.depth → Here s L k h p → s.Walks k (h + 1) p ∧ Path s L k h p (s.down k (h + 1) p)
  | 0, p, hd, hh => by
    obtain ⟨A, B, e, _⟩ := hh.mem
    have pm : p ∈ L 0 := by rw [e]; simp
    have := m.pos hd pm
    refine ⟨⟨m.lt 0 p hd pm, by omega⟩, rfl, fun i hi => ?_, rfl, fun i hi => absurd hi (by omega), rfl, hh⟩
    have : i = 0 := by omega
    subst this; exact pm
  | h + 1, p, hd, hh => by
    obtain ⟨kl, q, hq, hd2⟩ := hh.down m h0 hd
    obtain ⟨A, B, e, _⟩ := hh.mem
    have pm : p ∈ L (h + 1) := by rw [e]; simp
    have sz := m.pos hd pm
    obtain ⟨w1, p1⟩ := Whole.path m h0 k h q (by omega) hd2
    have ed : s.down k (h + 2) p = (p, (s.nd p).kid k) :: s.down k (h + 1) q := by rw [down_succ, hq, Int.toNat_natCast]
    refine ⟨⟨m.lt _ p hd pm, by omega, kl, q, hq, w1⟩, ?_⟩
    rw [show h + 1 + 1 = h + 2 from rfl, ed]
    refine ⟨by rw [List.length_cons, p1.len], fun i hi => ?_, rfl, fun i hi => ?_, ?_, ?_⟩
    · cases i with
      | zero => exact pm
      | succ i =>
        rw [show h + 1 - (i + 1) = h - i by omega]
        exact p1.mem i (by omega)
    · cases i with
      | zero => exact ⟨kl, hq.trans (by rw [show ((p, (s.nd p).kid k) :: s.down k (h + 1) q).getD (0 + 1) (0, 0) = (s.down k (h + 1) q).getD 0 (0, 0) from rfl, p1.top])⟩
      | succ i => exact p1.next i (by omega)
    · exact p1.last
    · exact p1.here
end

theorem KV.pos_app {k : ByteArray} : ∀ {U V : KV}, (∀ x, x ∈ U → ltB x.1 k = true) → KV.pos k (U ++ V) = U.length + KV.pos k V
  | [], V, _ => by simp
  | x :: U, V, h => by
    have e : KV.pos k (x :: (U ++ V)) = if ltB x.1 k then KV.pos k (U ++ V) + 1 else 0 := rfl
    rw [List.cons_append, e, if_pos (h x (by simp)), KV.pos_app fun y hy => h y (by simp [hy]), List.length_cons]; omega
theorem KV.pos_app_r {k : ByteArray} : ∀ {V W : KV}, (∀ x, x ∈ W → ltB x.1 k = false) → KV.pos k (V ++ W) = KV.pos k V
  | [], [], _ => rfl
  | [], x :: W, h => by
    have e : KV.pos k (x :: W) = if ltB x.1 k then KV.pos k W + 1 else 0 := rfl
    rw [List.nil_append, e, if_neg (by rw [h x (by simp)]; decide)]; rfl
  | x :: V, W, h => by
    have e : KV.pos k (x :: (V ++ W)) = if ltB x.1 k then KV.pos k (V ++ W) + 1 else 0 := rfl
    have e2 : KV.pos k (x :: V) = if ltB x.1 k then KV.pos k V + 1 else 0 := rfl
    rw [List.cons_append, e, e2, KV.pos_app_r h]
/-- the leaf of a key, among all -/
structure Found (s : Tab) (L : Nat → List Nat) (l : KV) (k : ByteArray) (P : Nat) (A B : List Nat) : Prop where
  cut : L 0 = A ++ [P] ++ B
  all : l = A.flatMap s.nd ++ s.nd P ++ B.flatMap s.nd
  pos : l.pos k = (A.flatMap s.nd).length + (s.nd P).pos k
  has : l.has k = (s.nd P).has k
theorem KV.key_app_r {U V : KV} {i : Nat} : KV.key (U ++ V) (U.length + i) = KV.key V i := by
  unfold KV.key
  rw [List.getD_eq_getElem?_getD, List.getD_eq_getElem?_getD, List.getElem?_append_right (by omega), Nat.add_sub_cancel_left]
theorem KV.key_app_l {U V : KV} {i : Nat} (h : i < U.length) : KV.key (U ++ V) i = KV.key U i := by
  unfold KV.key
  rw [List.getD_eq_getElem?_getD, List.getD_eq_getElem?_getD, List.getElem?_append_left h]
theorem Here.found {s : Tab} {L : Nat → List Nat} {l : KV} {k : ByteArray} {P : Nat} (m : Whole s L l) (h0 : RiseL l) (hh : Here s L k 0 P) : ∃ A B, Found s L l k P A B := by
  obtain ⟨A, B, e, hB, hA⟩ := hh.mem
  have al : l = A.flatMap s.nd ++ s.nd P ++ B.flatMap s.nd := by
    rw [← m.leaf, e]; simp
  have pm : P ∈ L 0 := by rw [e]; simp
  have sz := m.pos m.d1 pm
  have rl := h0
  rw [al] at rl
  unfold RiseL at rl
  rw [List.pairwise_append, List.pairwise_append] at rl
  obtain ⟨n0, k0⟩ := KV.key_mem (s.nd P) (i := 0) (by omega)
  have hU : ∀ x, x ∈ A.flatMap s.nd → ltB x.1 k = true := fun x hx => by
    rcases hA with t | t
    · rw [t] at hx; cases hx
    · exact ltB_le_trans (rl.1.2.2 x hx _ k0) t
  have hW : ∀ x, x ∈ B.flatMap s.nd → ltB x.1 k = false := fun x hx => ltB_asym (hB x hx)
  have ps : l.pos k = (A.flatMap s.nd).length + (s.nd P).pos k := by
    rw [al, List.append_assoc, KV.pos_app hU, KV.pos_app_r hW]
  refine ⟨A, B, e, al, ps, ?_⟩
  have pl := KV.pos_le k (s.nd P)
  rw [Bool.eq_iff_iff, KV.has_iff, KV.has_iff, ps]
  by_cases c : (s.nd P).pos k < (s.nd P).length
  · have e1 : l.key ((A.flatMap s.nd).length + (s.nd P).pos k) = (s.nd P).key ((s.nd P).pos k) := by
      rw [al, List.append_assoc, KV.key_app_r, KV.key_app_l c]
    rw [e1]
    exact ⟨fun t => ⟨c, t.2⟩, fun t => ⟨by rw [al]; simp; omega, t.2⟩⟩
  · refine ⟨fun t => ?_, fun t => absurd t.1 c⟩
    have e2 : (s.nd P).pos k = (s.nd P).length := by omega
    have e1 : l.key ((A.flatMap s.nd).length + (s.nd P).pos k) = KV.key (B.flatMap s.nd) 0 := by
      rw [al, List.append_assoc, KV.key_app_r, e2, show (s.nd P).length = (s.nd P).length + 0 from rfl, KV.key_app_r]
    have hl : 0 < (B.flatMap s.nd).length := by
      have := t.1
      rw [al, e2] at this; simp only [List.length_append] at this; omega
    obtain ⟨n, hn⟩ := KV.key_mem (B.flatMap s.nd) hl
    have := hB _ hn
    rw [← e1, t.2, ltB_irr] at this
    cases this

end Go.Proofs.Ytdcjckdhjfnnhaa
