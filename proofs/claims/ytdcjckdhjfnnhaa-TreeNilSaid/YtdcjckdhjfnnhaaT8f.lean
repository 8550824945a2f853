/- insert's step and remove's fill keep the levels. -/
import Derived.Test.YtdcjckdhjfnnhaaT8v
namespace Go.Proofs.Ytdcjckdhjfnnhaa
open Go.RowKit

theorem nodup_inj {l : List Nat} (h : l.Nodup) {i j : Nat} (hi : i < l.length) (hj : j < l.length) (e : l[i] = l[j]) : i = j := by
  unfold List.Nodup at h
  rw [List.pairwise_iff_getElem] at h
  rcases Nat.lt_trichotomy i j with t | t | t
  · exact absurd e (h i j hi hj t)
  · exact t
  · exact absurd e.symm (h j i hj hi t)
section
variable {s : Tab} {L : Nat → List Nat} {l : KV} {h p : Nat} {K : ByteArray}
theorem Mid.qsize (m : Mid s L l h p K) (hd : h + 1 < s.depth) {q : Nat} (hq : q ∈ L (h + 1)) : 2 ≤ (s.nd q).length ∧ (s.nd q).length ≤ 4 := by
  have := m.size (h + 1) q hd hq (fun t => by omega)
  rw [if_neg (show ¬ s.depth = 1 by omega)] at this
  exact this
/-- the kids of a node -/
theorem Mid.kids (m : Mid s L l h p K) (hd : h + 1 < s.depth) {q : Nat} (hq : q ∈ L (h + 1)) :
    ∃ M : List Nat, M.length = (s.nd q).length ∧ M.Nodup ∧ (∀ r, r ∈ M → r ∈ L h) ∧ ∀ j (hj : j < M.length), (s.nd q).num j = (M[j] : Int) ∧ (s.nd q).key j = if M[j] = p then K else (s.nd M[j]).key 0 := by
  obtain ⟨A, B, X, M, Y, h1, h2, h3, h4, h5⟩ := m.seg hd (a := 0) (n := (s.nd q).length) hq
  rw [List.drop_zero, List.take_length] at h4
  have hl : M.length = (s.nd q).length := by rw [h4, List.length_map]
  have nx := nodup_mid (by rw [← h2]; exact m.nodup h (by omega))
  refine ⟨M, hl, nx.2.2.2.2.1, fun r hr => by rw [h2]; simp [hr], fun j hj => ?_⟩
  have hj2 : j < (s.nd q).length := by omega
  have e : (s.nd q)[j] = s.lk true p K M[j] := by simp only [h4, List.getElem_map]
  rw [KV.getE _ _ hj2] at e
  unfold Tab.lk at e
  injection e with e1 e2
  refine ⟨e2, ?_⟩
  rw [e1]
  by_cases c : M[j] = p
  · rw [if_pos ⟨rfl, c⟩, if_pos c]
  · rw [if_neg (fun t => c t.2), if_neg c]
theorem Mid.kid_mem (m : Mid s L l h p K) (hd : h + 1 < s.depth) {q a r : Nat} (hq : q ∈ L (h + 1)) (ha : a < (s.nd q).length) (hn : (s.nd q).num a = r) : r ∈ L h := by
  obtain ⟨A, B, X, Y, _, h2, _⟩ := m.seg1 hd hq ha hn
  rw [h2]; simp
theorem Mid.fineUp (m : Mid s L l h p K) (hd : h + 1 < s.depth) {q a : Nat} (hq : q ∈ L (h + 1)) (ha : a < (s.nd q).length) (hn : (s.nd q).num a = p) (h1 : 1 ≤ (s.nd p).length) (h7 : (s.nd p).length ≤ 7) (ln : s.nds.length ≤ 50000) (lf : s.free.length ≤ 50000) : FineUp s (q, a) p := by
  have hp := m.kid_mem hd hq ha hn
  have qs := m.qsize hd hq
  refine ⟨m.lt _ _ hd hq, ha, m.lt _ _ (by omega) hp, fun e => ?_, h1, by omega, by show (s.nd q).length ≤ _; omega, fun f hf => ⟨(m.free f hf).1, fun e => (m.free f hf).2 _ hd (by rw [e]; exact hq)⟩, ln, lf⟩
  have := m.lev h (h + 1) p (by omega) hd hp (by rw [e]; exact hq); omega
theorem Mid.up (m : Mid s L l h p K) (hd : h + 1 < s.depth) {q a : Nat} (hq : q ∈ L (h + 1)) (ha : a < (s.nd q).length) (hn : (s.nd q).num a = p) (h2 : 2 ≤ (s.nd p).length) (h7 : (s.nd p).length ≤ 7) :
    ∃ L', Mid (s.up (q, a) p) L' l (h + 1) q ((s.nd q).key 0) ∧ (∀ j, j ≠ h → L' j = L j) ∧ Stepped s (s.up (q, a) p) L h q (s.nd q).length 1 := by
  obtain ⟨A, B, X, Y, e1, e2, e3, e4⟩ := m.seg1 hd hq ha hn
  have hp := m.kid_mem hd hq ha hn
  have ql := m.lt _ _ hd hq
  have pq : p ≠ q := fun e => by have := m.lev h (h + 1) p (by omega) hd hp (by rw [e]; exact hq); omega
  have tn : ∀ r, (s.tell (q, a) p).nd r = if r = q then (s.nd q).set a ((s.nd p).key 0, (s.nd q).num a) else s.nd r := fun r => Tab.put_nd ql r
  have ln : ((s.nd q).take a).length = a := by rw [List.length_take]; omega
  have eu : s.up (q, a) p = (s.tell (q, a) p).fix (q, ((s.nd q).take a).length) p := by
    unfold Tab.up Tab.fix
    rw [tn p, if_neg pq, ln]
  obtain ⟨M', h3, h4⟩ := m.fixed (t := s.tell (q, a) p) (P := p) (k := 0) hd e1 e2 e3 e4 (by simp) (by simp) rfl rfl rfl
    (by rw [tn, if_pos rfl, kv_cut _ _ ha, tn p, if_neg pq, hn]) (by rw [tn, if_neg pq]; simp) (fun j r _ _ h3 _ => by rw [tn, if_neg h3]) (Tab.put_len _ _ _) m.fnd
    (fun f hf => ⟨(m.free f hf).1, fun e => (m.free f hf).2 h (by omega) (by rw [e]; exact hp), .inr (m.free f hf).2⟩) (by show (s.put _ _).nds.length + s.free.length ≤ _; rw [Tab.put_len]; exact Nat.le_refl _) (by rw [tn, if_neg pq]; exact h2) (by rw [tn, if_neg pq]; exact h7)
  rw [eu]
  refine ⟨_, h3, fun j hj => if_neg hj, ?_⟩
  have e : ((s.nd q).take a).length + 1 + ((s.nd q).drop (a + 1)).length = (s.nd q).length := by rw [ln, List.length_drop]; omega
  rw [e] at h4
  exact h4
theorem Mid.fineFill (m : Mid s L l h p K) (hd : h + 1 < s.depth) {q a : Nat} (hq : q ∈ L (h + 1)) (ha : a < (s.nd q).length) (h1 : 1 ≤ (s.nd p).length) (h7 : (s.nd p).length ≤ 7) (ln : s.nds.length ≤ 50000) (lf : s.free.length ≤ 50000) : FineFill s (q, a) := by
  obtain ⟨M, hl, nd, hm, hk⟩ := m.kids hd hq
  have qs := m.qsize hd hq
  refine ⟨m.lt _ _ hd hq, ha, qs.1, by show (s.nd q).length ≤ _; omega, fun j hj => ?_, fun i j hi hj e => ?_, fun f hf => ⟨(m.free f hf).1, fun e => (m.free f hf).2 _ hd (by rw [e]; exact hq)⟩, ln, lf⟩
  · have hj' : j < M.length := by rw [hl]; exact hj
    have c := hm _ (List.getElem_mem hj')
    refine ⟨M[j], (hk j hj').1, m.lt _ _ (by omega) c, fun e => ?_, ?_⟩
    · have := m.lev h (h + 1) _ (by omega) hd c (by rw [e]; exact hq); omega
    · by_cases t : M[j] = p
      · rw [t]; omega
      · have := m.size h _ (by omega) c (fun e => t e.2)
        rw [if_neg (show ¬ s.depth = 1 by omega)] at this
        omega
  · have hi' : i < M.length := by rw [hl]; exact hi
    have hj' : j < M.length := by rw [hl]; exact hj
    have e : (s.nd q).num i = (s.nd q).num j := e
    rw [(hk i hi').1, (hk j hj').1] at e
    exact nodup_inj nd hi' hj' (Int.ofNat.inj e)
theorem Mid.fill (m : Mid s L l h p K) (hd : h + 1 < s.depth) {q a : Nat} (hq : q ∈ L (h + 1)) (ha : a < (s.nd q).length) (hn : (s.nd q).num a = p) (h1 : 1 ≤ (s.nd p).length) (h4 : (s.nd p).length ≤ 4) (ln : s.nds.length ≤ 50000) (lf : s.free.length ≤ 50000) :
    ∃ L' n, Mid (s.fill (q, a)) L' l (h + 1) q ((s.nd q).key 0) ∧ (∀ j, j ≠ h → L' j = L j) ∧ Stepped s (s.fill (q, a)) L h q n 2 ∧ n ≤ (s.nd q).length ∧ (s.nd q).length ≤ n + 1 ∧ ((s.fill (q, a)).nd q).length ≤ 4 := by
  have hp := m.kid_mem hd hq ha hn
  have ql := m.lt _ _ hd hq
  have qs := m.qsize hd hq
  have pq : p ≠ q := fun e => by have := m.lev h (h + 1) p (by omega) hd hp (by rw [e]; exact hq); omega
  have kp : s.kid q a = p := by unfold Tab.kid; rw [hn]; rfl
  by_cases c : 2 ≤ (s.nd p).length
  · have tn : ∀ r, (s.tell (q, a) p).nd r = if r = q then (s.nd q).set a ((s.nd p).key 0, (s.nd q).num a) else s.nd r := fun r => Tab.put_nd ql r
    have ef : s.fill (q, a) = s.up (q, a) p := by
      unfold Tab.fill Tab.up
      simp only
      rw [kp, if_pos c, if_neg (by omega)]
    obtain ⟨L', a1, a2, a3⟩ := m.up hd hq ha hn c (by omega)
    rw [ef]
    refine ⟨L', (s.nd q).length, a1, a2, ⟨a3.depth, a3.root, a3.count, a3.other, a3.size, by have := a3.sum; omega⟩, Nat.le_refl _, by omega, ?_⟩
    have : s.up (q, a) p = s.tell (q, a) p := if_neg (by omega)
    rw [this, tn, if_pos rfl, List.length_set]; exact qs.2
  · have pr : Pair s q (a - 1) (s.kid q (a - 1)) (s.kid q (a - 1 + 1)) := (m.fineFill hd hq ha h1 (by omega) ln lf).pair
    obtain ⟨f, hf⟩ : ∃ f, f = a - 1 := ⟨_, rfl⟩
    rw [← hf] at pr
    obtain ⟨M0, hl, nd, hm, hk⟩ := m.kids hd hq
    have f1 : f + 1 < M0.length := by rw [hl]; exact pr.lf1
    obtain ⟨P, hP⟩ : ∃ P, P = s.kid q f := ⟨_, rfl⟩
    obtain ⟨O, hO⟩ : ∃ O, O = s.kid q (f + 1) := ⟨_, rfl⟩
    rw [← hP, ← hO] at pr
    have eP : (s.nd q).num f = (P : Int) := by rw [hP]; unfold Tab.kid; rw [(hk f (by omega)).1]; rfl
    have eO : (s.nd q).num (f + 1) = (O : Int) := by rw [hO]; unfold Tab.kid; rw [(hk (f + 1) f1).1]; rfl
    have pin : p = P ∨ p = O := by
      by_cases t : a = 0
      · have : f = a := by omega
        rw [this, hn] at eP
        exact .inl (Int.ofNat.inj eP)
      · have : f + 1 = a := by omega
        rw [this, hn] at eO
        exact .inr (Int.ofNat.inj eO)
    obtain ⟨A, B, X, Y, e1, e2, e3, e4⟩ := m.seg2 hd hq pr.lf1 eP eO
    have PL : P ∈ L h := by rw [e2]; simp
    have OL : O ∈ L h := by rw [e2]; simp
    have szr : ∀ r, r ∈ L h → r ≠ p → 2 ≤ (s.nd r).length ∧ (s.nd r).length ≤ 4 := fun r hr t => by
      have := m.size h r (by omega) hr (fun e => t e.2)
      rw [if_neg (show ¬ s.depth = 1 by omega)] at this
      exact this
    have tot : 3 ≤ (s.nd P).length + (s.nd O).length ∧ (s.nd P).length + (s.nd O).length ≤ 5 := by
      rcases pin with t | t
      · have := szr O OL (fun e => pr.po (by rw [← t, e]))
        rw [t] at c h1
        omega
      · have := szr P PL (fun e => pr.po (by rw [← t, e]))
        rw [t] at c h1
        omega
    have ef : s.fill (q, a) = (s.join q f P O).fix (q, ((s.nd q).take f).length) P := by
      have ln : ((s.nd q).take f).length = f := by rw [List.length_take]; have := pr.lf1; omega
      unfold Tab.fill
      simp only
      rw [kp, if_neg c, ← hf, ← hP, ← hO, ln]
    have tp := pr.nd4p
    obtain ⟨M', h5, h6⟩ := m.fixed (t := s.join q f P O) (P := P) (k := 1) hd e1 e2 e3 e4 (by rcases pin with t | t <;> simp [t]) (by simp) rfl rfl rfl
      (by
        rw [tp, pr.nd4, if_pos rfl, kv_cut _ _ (by have := pr.lf1; omega), eP]
        have ln : ((s.nd q).take f).length = f := by rw [List.length_take]; have := pr.lf1; omega
        have l1 : ((s.nd q).take f ++ [((s.nd P ++ s.nd O).key 0, (P : Int))]).length = f + 1 := by rw [List.length_append, ln]; rfl
        rw [List.take_append_of_le_length (by omega), List.take_of_length_le (by omega), List.drop_append, List.drop_of_length_le (by omega), l1, show f + 1 + 1 - (f + 1) = 1 by omega, List.drop_drop]
        simp)
      (by rw [tp]; simp) (fun j r hj hr h3 hm => by
        simp at hm
        rw [pr.nd4, if_neg h3, pr.nd2, if_neg hm.2, if_neg hm.1]) pr.len4 (by
        rw [pr.free4, List.nodup_append]
        exact ⟨m.fnd, by simp, fun x hx y hy e => by simp at hy; exact (m.free x hx).2 h (by omega) (by rw [e, hy]; exact OL)⟩) (fun x hx => by
        rw [pr.free4, List.mem_append] at hx
        rcases hx with hx | hx
        · exact ⟨(m.free x hx).1, fun e => (m.free x hx).2 h (by omega) (by rw [e]; exact PL), .inr (m.free x hx).2⟩
        · simp at hx
          rw [hx]; exact ⟨pr.io, Ne.symm pr.po, .inl (by simp)⟩) (by rw [pr.len4, pr.free4]; simp; omega) (by rw [tp, List.length_append]; omega) (by rw [tp, List.length_append]; omega)
    rw [ef]
    have e : ((s.nd q).take f).length + 1 + ((s.nd q).drop (f + 1 + 1)).length = (s.nd q).length - 1 := by rw [List.length_take, List.length_drop]; have := pr.lf1; omega
    rw [e] at h6
    have sz := h6.size
    exact ⟨_, (s.nd q).length - 1, h5, fun j hj => if_neg hj, h6, by omega, by omega, by omega⟩
end

end Go.Proofs.Ytdcjckdhjfnnhaa
