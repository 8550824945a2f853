/- insert and remove keep the levels, in plain words. -/
import Derived.Test.YtdcjckdhjfnnhaaT8s
import Derived.Test.YtdcjckdhjfnnhaaT9o
import Derived.Test.YtdcjckdhjfnnhaaT9q
namespace Go.Proofs.Ytdcjckdhjfnnhaa
open Go.RowKit

section
variable {s : Tab} {L : Nat → List Nat} {l : KV} {h p : Nat} {K : ByteArray}
theorem Mid.count (m : Mid s L l h p K) (c : Nat) : Mid { s with count := c } L l h p K := ⟨m.d1, m.top, m.nodup, m.lev, m.lt, m.fnd, m.free, m.size, m.link, m.leaf⟩
/-- a leaf has other items -/
theorem Whole.leafset (m : Whole s L l) {A B : List Nat} {P : Nat} (e : L 0 = A ++ [P] ++ B) (zs : KV) : Mid (s.put P zs) L (A.flatMap s.nd ++ zs ++ B.flatMap s.nd) 0 P ((s.nd P).key 0) := by
  have pm : P ∈ L 0 := by rw [e]; simp
  have pl := m.lt 0 P m.d1 pm
  have nx := nodup_mid (by rw [← e]; exact m.nodup 0 m.d1)
  have n1 : ∀ r, (s.put P zs).nd r = if r = P then zs else s.nd r := fun r => Tab.put_nd pl r
  have up : ∀ j r, j < s.depth → j ≠ 0 → r ∈ L j → r ≠ P := fun j r hj hn hr t => hn (m.lev j 0 r hj m.d1 hr (by rw [t]; exact pm))
  refine ⟨m.d1, m.top, m.nodup, m.lev, fun j r hj hr => by rw [Tab.put_len]; exact m.lt j r hj hr, m.fnd, fun f hf => by rw [Tab.put_len]; exact m.free f hf, fun j r hj hr hn => ?_, fun j hj => ?_, ?_⟩
  · have : r ≠ P := fun t => by
      by_cases c : j = 0
      · exact hn ⟨c, t⟩
      · exact up j r hj c hr t
    rw [n1, if_neg this]
    exact m.size j r hj hr (fun t => by have := t.1; have hj : j < s.depth := hj; omega)
  · have hj : j + 1 < s.depth := hj
    rw [fm_congr (g := s.nd) (fun r hr => by rw [n1, if_neg (up (j + 1) r hj (by omega) hr)]), m.linkW hj]
    apply List.map_congr_left
    intro r hr
    unfold Tab.lk
    by_cases c : j = 0
    · by_cases t : r = P
      · rw [if_pos ⟨by simp [c], t⟩, t]
      · rw [if_neg (fun u => t u.2), n1, if_neg t]
    · rw [if_neg (fun u => c (by have := u.1; simpa using this)), n1, if_neg (up j r (by omega) c hr)]
  · rw [e]
    simp only [List.flatMap_append, List.flatMap_cons, List.flatMap_nil, List.append_nil]
    rw [fm_congr (X := A) (g := s.nd) (fun r hr => by rw [n1, if_neg (fun t => (nx.1 r hr).1 (by simp [t]))]), fm_congr (X := B) (g := s.nd) (fun r hr => by rw [n1, if_neg (fun t => (nx.2.2.1 r hr).2 (by simp [t]))]), n1, if_pos rfl]
theorem Whole.wide (m : Whole s L l) : ∀ i, i < s.depth → 2 ^ i ≤ (L (s.depth - 1 - i)).length
  | 0, _ => by rw [Nat.sub_zero, m.top]; simp
  | i + 1, hi => by
    have ih := Whole.wide m i (by omega)
    have k := congrArg List.length (m.linkW (j := s.depth - 1 - (i + 1)) (by omega))
    rw [List.length_map, show s.depth - 1 - (i + 1) + 1 = s.depth - 1 - i by omega] at k
    have two : ∀ X : List Nat, (∀ r, r ∈ X → 2 ≤ (s.nd r).length) → 2 * X.length ≤ (X.flatMap s.nd).length := by
      intro X
      induction X with
      | nil => intro _; simp
      | cons x X ihx =>
        intro hX
        have a := hX x (by simp)
        have b := ihx fun r hr => hX r (by simp [hr])
        rw [List.flatMap_cons, List.length_append, List.length_cons]; omega
    have := two (L (s.depth - 1 - i)) fun r hr => by
      have := m.size _ r (by omega) hr (fun t => by omega)
      rw [if_neg (by omega)] at this
      exact this.1
    rw [Nat.pow_succ]; omega
theorem Whole.depth_le (m : Whole s L l) : 2 ^ (s.depth - 1) ≤ l.length := by
  have w := m.wide (s.depth - 1) (by have := m.d1; omega)
  rw [Nat.sub_self] at w
  have one : ∀ X : List Nat, (∀ r, r ∈ X → 1 ≤ (s.nd r).length) → X.length ≤ (X.flatMap s.nd).length := by
    intro X
    induction X with
    | nil => intro _; simp
    | cons x X ihx =>
      intro hX
      have a := hX x (by simp)
      have b := ihx fun r hr => hX r (by simp [hr])
      rw [List.flatMap_cons, List.length_append, List.length_cons]; omega
  have := one (L 0) fun r hr => (m.pos m.d1 hr).1
  rw [m.leaf] at this
  omega

theorem ups_ok {ws : List (Nat × Nat)} {e : Nat} : ∀ i, i ≤ e → ∀ (s : Tab) (L : Nat → List Nat) (K : ByteArray), Mid s L l (e - i) (ws.getD i (0, 0)).1 K → e + 1 = s.depth →
    (∀ j, j < i → (ws.getD j (0, 0)).1 ∈ L (e - j) ∧ (ws.getD j (0, 0)).2 < (s.nd (ws.getD j (0, 0)).1).length ∧ (s.nd (ws.getD j (0, 0)).1).num (ws.getD j (0, 0)).2 = ((ws.getD (j + 1) (0, 0)).1 : Int)) →
    2 ≤ (s.nd (ws.getD i (0, 0)).1).length → (s.nd (ws.getD i (0, 0)).1).length ≤ 5 → s.nds.length + s.free.length + i ≤ 50000 →
    FineUps ws i s ∧ ∃ L2 K2, Mid (Tab.ups ws i s) L2 l e (ws.getD 0 (0, 0)).1 K2 ∧ 2 ≤ ((Tab.ups ws i s).nd (ws.getD 0 (0, 0)).1).length ∧ ((Tab.ups ws i s).nd (ws.getD 0 (0, 0)).1).length ≤ 5 ∧
      (Tab.ups ws i s).depth = s.depth ∧ (Tab.ups ws i s).root = s.root ∧ (Tab.ups ws i s).count = s.count ∧ (Tab.ups ws i s).nds.length + (Tab.ups ws i s).free.length ≤ s.nds.length + s.free.length + i
  | 0, _, s, L, K, m, _, _, h2, h5, _ => ⟨trivial, L, K, m, h2, h5, rfl, rfl, rfl, Nat.le_refl _⟩
  | i + 1, hi, s, L, K, m, hd, hp, h2, h5, hb => by
    obtain ⟨q1, q2, q3⟩ := hp i (by omega)
    have he : e - i = e - (i + 1) + 1 := by omega
    rw [he] at q1
    have hdd : e - (i + 1) + 1 < s.depth := by omega
    have qs := m.qsize hdd q1
    have ff := m.fineUp hdd q1 q2 q3 (by omega) (by omega) (by omega) (by omega)
    obtain ⟨L', m', l', st0⟩ := m.up hdd q1 q2 q3 h2 (by omega)
    have st : Stepped s (s.up (ws.getD i (0, 0)) (ws.getD (i + 1) (0, 0)).1) L (e - (i + 1)) (ws.getD i (0, 0)).1 (s.nd (ws.getD i (0, 0)).1).length 1 := st0
    clear st0
    rw [← he] at m'
    obtain ⟨k1, L2, K2, k2, k3, k4, k5, k6, k7, k8⟩ := ups_ok i (by omega) (s.up (ws.getD i (0, 0)) (ws.getD (i + 1) (0, 0)).1) L' _ m' (by rw [st.depth]; exact hd) (fun j hj => by
      obtain ⟨j1, j2, j3⟩ := hp j (by omega)
      have jq : (ws.getD j (0, 0)).1 ≠ (ws.getD i (0, 0)).1 := fun t => by
        have := m.lev (e - j) (e - (i + 1) + 1) _ (by omega) hdd j1 (by rw [t]; exact q1); omega
      have jn := st.other (e - j) _ (by omega) (by omega) j1 jq
      rw [l' (e - j) (by omega), jn]
      exact ⟨j1, j2, j3⟩) (by have := st.size; omega) (by have := st.size; omega) (by have := st.sum; omega)
    refine ⟨⟨ff, k1⟩, L2, K2, k2, k3, k4, k5.trans st.depth, k6.trans st.root, k7.trans st.count, ?_⟩
    have := st.sum
    show (Tab.ups ws i (s.up (ws.getD i (0, 0)) (ws.getD (i + 1) (0, 0)).1)).nds.length + (Tab.ups ws i (s.up (ws.getD i (0, 0)) (ws.getD (i + 1) (0, 0)).1)).free.length ≤ _
    omega
theorem fills_ok {ws : List (Nat × Nat)} {e : Nat} : ∀ i, i ≤ e → ∀ (s : Tab) (L : Nat → List Nat) (K : ByteArray), Mid s L l (e - i) (ws.getD i (0, 0)).1 K → e + 1 = s.depth →
    (∀ j, j < i → (ws.getD j (0, 0)).1 ∈ L (e - j) ∧ (ws.getD j (0, 0)).2 < (s.nd (ws.getD j (0, 0)).1).length ∧ (s.nd (ws.getD j (0, 0)).1).num (ws.getD j (0, 0)).2 = ((ws.getD (j + 1) (0, 0)).1 : Int)) →
    (e ≠ 0 → 1 ≤ (s.nd (ws.getD i (0, 0)).1).length) → (s.nd (ws.getD i (0, 0)).1).length ≤ 4 → s.nds.length + s.free.length + 2 * i ≤ 50000 →
    FineFills ws i s ∧ ∃ L2 K2, Mid (Tab.fills ws i s) L2 l e (ws.getD 0 (0, 0)).1 K2 ∧ (e ≠ 0 → 1 ≤ ((Tab.fills ws i s).nd (ws.getD 0 (0, 0)).1).length) ∧ ((Tab.fills ws i s).nd (ws.getD 0 (0, 0)).1).length ≤ 4 ∧
      (Tab.fills ws i s).depth = s.depth ∧ (Tab.fills ws i s).root = s.root ∧ (Tab.fills ws i s).count = s.count ∧ (Tab.fills ws i s).nds.length + (Tab.fills ws i s).free.length ≤ s.nds.length + s.free.length + 2 * i
  | 0, _, s, L, K, m, _, _, h2, h5, _ => ⟨trivial, L, K, m, h2, h5, rfl, rfl, rfl, Nat.le_refl _⟩
  | i + 1, hi, s, L, K, m, hd, hp, h2, h5, hb => by
    obtain ⟨q1, q2, q3⟩ := hp i (by omega)
    have h2' := h2 (by omega)
    have he : e - i = e - (i + 1) + 1 := by omega
    rw [he] at q1
    have hdd : e - (i + 1) + 1 < s.depth := by omega
    have qs := m.qsize hdd q1
    have ff := m.fineFill hdd q1 q2 h2' (by omega) (by omega) (by omega)
    obtain ⟨L', n, m', l', st0, n1, n2, n3⟩ := m.fill hdd q1 q2 q3 h2' h5 (by omega) (by omega)
    have st : Stepped s (s.fill (ws.getD i (0, 0))) L (e - (i + 1)) (ws.getD i (0, 0)).1 n 2 := st0
    clear st0
    rw [← he] at m'
    obtain ⟨k1, L2, K2, k2, k3, k4, k5, k6, k7, k8⟩ := fills_ok i (by omega) (s.fill (ws.getD i (0, 0))) L' _ m' (by rw [st.depth]; exact hd) (fun j hj => by
      obtain ⟨j1, j2, j3⟩ := hp j (by omega)
      have jq : (ws.getD j (0, 0)).1 ≠ (ws.getD i (0, 0)).1 := fun t => by
        have := m.lev (e - j) (e - (i + 1) + 1) _ (by omega) hdd j1 (by rw [t]; exact q1); omega
      have jn := st.other (e - j) _ (by omega) (by omega) j1 jq
      rw [l' (e - j) (by omega), jn]
      exact ⟨j1, j2, j3⟩) (fun _ => by have := st.size; omega) n3 (by have := st.sum; omega)
    refine ⟨⟨ff, k1⟩, L2, K2, k2, k3, k4, k5.trans st.depth, k6.trans st.root, k7.trans st.count, ?_⟩
    have := st.sum
    show (Tab.fills ws i (s.fill (ws.getD i (0, 0)))).nds.length + (Tab.fills ws i (s.fill (ws.getD i (0, 0)))).free.length ≤ _
    omega
end

end Go.Proofs.Ytdcjckdhjfnnhaa
