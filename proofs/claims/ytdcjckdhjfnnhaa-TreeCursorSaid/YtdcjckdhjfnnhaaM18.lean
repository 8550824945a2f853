/- Proved parts: T8f T8eb. Conditions: each theorem's own. -/
import Derived.Test.YtdcjckdhjfnnhaaM17
import Derived.Test.YtdcjckdhjfnnhaaM8
namespace Go.Proofs.Ytdcjckdhjfnnhaa
open Go.RowKit

theorem nodup_inj {l : List Nat} (h : l.Nodup) {i j : Nat} (hi : i < l.length) (hj : j < l.length) (e : l[i] = l[j]) : i = j := by
  unfold List.Nodup at h
  rw [List.pairwise_iff_getElem] at h
  rcases Nat.lt_trichotomy i j with t | t | t
  · exact absurd e (h i j hi hj t)
  · exact t
  · exact absurd e.symm (h j i hj hi t)
section
variable {s : Tab} {L : Nat → List Nat} {l : KV} {h p : Nat} {K : ByteArray}
theorem Mid.qsize (m : Mid s L l h p K) (hd : h + 1 < s.depth) {q : Nat} (hq : q ∈ L (h + 1)) : 2 ≤ (s.nd q).length ∧ (s.nd q).length ≤ 4 := by
  have := m.size (h + 1) q hd hq (fun t => by omega)
  rw [if_neg (show ¬ s.depth = 1 by omega)] at this
  exact this
/-- the kids of a node -/
theorem Mid.kids (m : Mid s L l h p K) (hd : h + 1 < s.depth) {q : Nat} (hq : q ∈ L (h + 1)) :
    ∃ M : List Nat, M.length = (s.nd q).length ∧ M.Nodup ∧ (∀ r, r ∈ M → r ∈ L h) ∧ ∀ j (hj : j < M.length), (s.nd q).num j = (M[j] : Int) ∧ (s.nd q).key j = if M[j] = p then K else (s.nd M[j]).key 0 := by
  obtain ⟨A, B, X, M, Y, h1, h2, h3, h4, h5⟩ := m.seg hd (a := 0) (n := (s.nd q).length) hq
  rw [List.drop_zero, List.take_length] at h4
  have hl : M.length = (s.nd q).length := by rw [h4, List.length_map]
  have nx := nodup_mid (by rw [← h2]; exact m.nodup h (by omega))
  refine ⟨M, hl, nx.2.2.2.2.1, fun r hr => by rw [h2]; simp [hr], fun j hj => ?_⟩
  have hj2 : j < (s.nd q).length := by omega
  have e : (s.nd q)[j] = s.lk true p K M[j] := by simp only [h4, List.getElem_map]
  rw [KV.getE _ _ hj2] at e
  unfold Tab.lk at e
  injection e with e1 e2
  refine ⟨e2, ?_⟩
  rw [e1]
  by_cases c : M[j] = p
  · rw [if_pos ⟨rfl, c⟩, if_pos c]
  · rw [if_neg (fun t => c t.2), if_neg c]
theorem Mid.kid_mem (m : Mid s L l h p K) (hd : h + 1 < s.depth) {q a r : Nat} (hq : q ∈ L (h + 1)) (ha : a < (s.nd q).length) (hn : (s.nd q).num a = r) : r ∈ L h := by
  obtain ⟨A, B, X, Y, _, h2, _⟩ := m.seg1 hd hq ha hn
  rw [h2]; simp
theorem Mid.fineUp (m : Mid s L l h p K) (hd : h + 1 < s.depth) {q a : Nat} (hq : q ∈ L (h + 1)) (ha : a < (s.nd q).length) (hn : (s.nd q).num a = p) (h1 : 1 ≤ (s.nd p).length) (h7 : (s.nd p).length ≤ 7) (ln : s.nds.length ≤ 50000) (lf : s.free.length ≤ 50000) : FineUp s (q, a) p := by
  have hp := m.kid_mem hd hq ha hn
  have qs := m.qsize hd hq
  refine ⟨m.lt _ _ hd hq, ha, m.lt _ _ (by omega) hp, fun e => ?_, h1, by omega, by show (s.nd q).length ≤ _; omega, fun f hf => ⟨(m.free f hf).1, fun e => (m.free f hf).2 _ hd (by rw [e]; exact hq)⟩, ln, lf⟩
  have := m.lev h (h + 1) p (by omega) hd hp (by rw [e]; exact hq); omega
theorem Mid.up (m : Mid s L l h p K) (hd : h + 1 < s.depth) {q a : Nat} (hq : q ∈ L (h + 1)) (ha : a < (s.nd q).length) (hn : (s.nd q).num a = p) (h2 : 2 ≤ (s.nd p).length) (h7 : (s.nd p).length ≤ 7) :
    ∃ L', Mid (s.up (q, a) p) L' l (h + 1) q ((s.nd q).key 0) ∧ (∀ j, j ≠ h → L' j = L j) ∧ Stepped s (s.up (q, a) p) L h q (s.nd q).length 1 := by
  obtain ⟨A, B, X, Y, e1, e2, e3, e4⟩ := m.seg1 hd hq ha hn
  have hp := m.kid_mem hd hq ha hn
  have ql := m.lt _ _ hd hq
  have pq : p ≠ q := fun e => by have := m.lev h (h + 1) p (by omega) hd hp (by rw [e]; exact hq); omega
  have tn : ∀ r, (s.tell (q, a) p).nd r = if r = q then (s.nd q).set a ((s.nd p).key 0, (s.nd q).num a) else s.nd r := fun r => Tab.put_nd ql r
  have ln : ((s.nd q).take a).length = a := by rw [List.length_take]; omega
  have eu : s.up (q, a) p = (s.tell (q, a) p).fix (q, ((s.nd q).take a).length) p := by
    unfold Tab.up Tab.fix
    rw [tn p, if_neg pq, ln]
  obtain ⟨M', h3, h4⟩ := m.fixed (t := s.tell (q, a) p) (P := p) (k := 0) hd e1 e2 e3 e4 (by simp) (by simp) rfl rfl rfl
    (by rw [tn, if_pos rfl, kv_cut _ _ ha, tn p, if_neg pq, hn]) (by rw [tn, if_neg pq]; simp) (fun j r _ _ h3 _ => by rw [tn, if_neg h3]) (Tab.put_len _ _ _) m.fnd
    (fun f hf => ⟨(m.free f hf).1, fun e => (m.free f hf).2 h (by omega) (by rw [e]; exact hp), .inr (m.free f hf).2⟩) (by show (s.put _ _).nds.length + s.free.length ≤ _; rw [Tab.put_len]; exact Nat.le_refl _) (by rw [tn, if_neg pq]; exact h2) (by rw [tn, if_neg pq]; exact h7)
  rw [eu]
  refine ⟨_, h3, fun j hj => if_neg hj, ?_⟩
  have e : ((s.nd q).take a).length + 1 + ((s.nd q).drop (a + 1)).length = (s.nd q).length := by rw [ln, List.length_drop]; omega
  rw [e] at h4
  exact h4
theorem Mid.fineFill (m : Mid s L l h p K) (hd : h + 1 < s.depth) {q a : Nat} (hq : q ∈ L (h + 1)) (ha : a < (s.nd q).length) (h1 : 1 ≤ (s.nd p).length) (h7 : (s.nd p).length ≤ 7) (ln : s.nds.length ≤ 50000) (lf : s.free.length ≤ 50000) : FineFill s (q, a) := by
  obtain ⟨M, hl, nd, hm, hk⟩ := m.kids hd hq
  have qs := m.qsize hd hq
  refine ⟨m.lt _ _ hd hq, ha, qs.1, by show (s.nd q).length ≤ _; omega, fun j hj => ?_, fun i j hi hj e => ?_, fun f hf => ⟨(m.free f hf).1, fun e => (m.free f hf).2 _ hd (by rw [e]; exact hq)⟩, ln, lf⟩
  · have hj' : j < M.length := by rw [hl]; exact hj
    have c := hm _ (List.getElem_mem hj')
    refine ⟨M[j], (hk j hj').1, m.lt _ _ (by omega) c, fun e => ?_, ?_⟩
    · have := m.lev h (h + 1) _ (by omega) hd c (by rw [e]; exact hq); omega
    · by_cases t : M[j] = p
      · rw [t]; omega
      · have := m.size h _ (by omega) c (fun e => t e.2)
        rw [if_neg (show ¬ s.depth = 1 by omega)] at this
        omega
  · have hi' : i < M.length := by rw [hl]; exact hi
    have hj' : j < M.length := by rw [hl]; exact hj
    have e : (s.nd q).num i = (s.nd q).num j := e
    rw [(hk i hi').1, (hk j hj').1] at e
    exact nodup_inj nd hi' hj' (Int.ofNat.inj e)
theorem Mid.fill (m : Mid s L l h p K) (hd : h + 1 < s.depth) {q a : Nat} (hq : q ∈ L (h + 1)) (ha : a < (s.nd q).length) (hn : (s.nd q).num a = p) (h1 : 1 ≤ (s.nd p).length) (h4 : (s.nd p).length ≤ 4) (ln : s.nds.length ≤ 50000) (lf : s.free.length ≤ 50000) :
    ∃ L' n, Mid (s.fill (q, a)) L' l (h + 1) q ((s.nd q).key 0) ∧ (∀ j, j ≠ h → L' j = L j) ∧ Stepped s (s.fill (q, a)) L h q n 2 ∧ n ≤ (s.nd q).length ∧ (s.nd q).length ≤ n + 1 ∧ ((s.fill (q, a)).nd q).length ≤ 4 := by
  have hp := m.kid_mem hd hq ha hn
  have ql := m.lt _ _ hd hq
  have qs := m.qsize hd hq
  have pq : p ≠ q := fun e => by have := m.lev h (h + 1) p (by omega) hd hp (by rw [e]; exact hq); omega
  have kp : s.kid q a = p := by unfold Tab.kid; rw [hn]; rfl
  by_cases c : 2 ≤ (s.nd p).length
  · have tn : ∀ r, (s.tell (q, a) p).nd r = if r = q then (s.nd q).set a ((s.nd p).key 0, (s.nd q).num a) else s.nd r := fun r => Tab.put_nd ql r
    have ef : s.fill (q, a) = s.up (q, a) p := by
      unfold Tab.fill Tab.up
      simp only
      rw [kp, if_pos c, if_neg (by omega)]
    obtain ⟨L', a1, a2, a3⟩ := m.up hd hq ha hn c (by omega)
    rw [ef]
    refine ⟨L', (s.nd q).length, a1, a2, ⟨a3.depth, a3.root, a3.count, a3.other, a3.size, by have := a3.sum; omega⟩, Nat.le_refl _, by omega, ?_⟩
    have : s.up (q, a) p = s.tell (q, a) p := if_neg (by omega)
    rw [this, tn, if_pos rfl, List.length_set]; exact qs.2
  · have pr : Pair s q (a - 1) (s.kid q (a - 1)) (s.kid q (a - 1 + 1)) := (m.fineFill hd hq ha h1 (by omega) ln lf).pair
    obtain ⟨f, hf⟩ : ∃ f, f = a - 1 := ⟨_, rfl⟩
    rw [← hf] at pr
    obtain ⟨M0, hl, nd, hm, hk⟩ := m.kids hd hq
    have f1 : f + 1 < M0.length := by rw [hl]; exact pr.lf1
    obtain ⟨P, hP⟩ : ∃ P, P = s.kid q f := ⟨_, rfl⟩
    obtain ⟨O, hO⟩ : ∃ O, O = s.kid q (f + 1) := ⟨_, rfl⟩
    rw [← hP, ← hO] at pr
    have eP : (s.nd q).num f = (P : Int) := by rw [hP]; unfold Tab.kid; rw [(hk f (by omega)).1]; rfl
    have eO : (s.nd q).num (f + 1) = (O : Int) := by rw [hO]; unfold Tab.kid; rw [(hk (f + 1) f1).1]; rfl
    have pin : p = P ∨ p = O := by
      by_cases t : a = 0
      · have : f = a := by omega
        rw [this, hn] at eP
        exact .inl (Int.ofNat.inj eP)
      · have : f + 1 = a := by omega
        rw [this, hn] at eO
        exact .inr (Int.ofNat.inj eO)
    obtain ⟨A, B, X, Y, e1, e2, e3, e4⟩ := m.seg2 hd hq pr.lf1 eP eO
    have PL : P ∈ L h := by rw [e2]; simp
    have OL : O ∈ L h := by rw [e2]; simp
    have szr : ∀ r, r ∈ L h → r ≠ p → 2 ≤ (s.nd r).length ∧ (s.nd r).length ≤ 4 := fun r hr t => by
      have := m.size h r (by omega) hr (fun e => t e.2)
      rw [if_neg (show ¬ s.depth = 1 by omega)] at this
      exact this
    have tot : 3 ≤ (s.nd P).length + (s.nd O).length ∧ (s.nd P).length + (s.nd O).length ≤ 5 := by
      rcases pin with t | t
      · have := szr O OL (fun e => pr.po (by rw [← t, e]))
        rw [t] at c h1
        omega
      · have := szr P PL (fun e => pr.po (by rw [← t, e]))
        rw [t] at c h1
        omega
    have ef : s.fill (q, a) = (s.join q f P O).fix (q, ((s.nd q).take f).length) P := by
      have ln : ((s.nd q).take f).length = f := by rw [List.length_take]; have := pr.lf1; omega
      unfold Tab.fill
      simp only
      rw [kp, if_neg c, ← hf, ← hP, ← hO, ln]
    have tp := pr.nd4p
    obtain ⟨M', h5, h6⟩ := m.fixed (t := s.join q f P O) (P := P) (k := 1) hd e1 e2 e3 e4 (by rcases pin with t | t <;> simp [t]) (by simp) rfl rfl rfl
      (by
        rw [tp, pr.nd4, if_pos rfl, kv_cut _ _ (by have := pr.lf1; omega), eP]
        have ln : ((s.nd q).take f).length = f := by rw [List.length_take]; have := pr.lf1; omega
        have l1 : ((s.nd q).take f ++ [((s.nd P ++ s.nd O).key 0, (P : Int))]).length = f + 1 := by rw [List.length_append, ln]; rfl
        rw [List.take_append_of_le_length (by omega), List.take_of_length_le (by omega), List.drop_append, List.drop_of_length_le (by omega), l1, show f + 1 + 1 - (f + 1) = 1 by omega, List.drop_drop]
        simp)
      (by rw [tp]; simp) (fun j r hj hr h3 hm => by
        simp at hm
        rw [pr.nd4, if_neg h3, pr.nd2, if_neg hm.2, if_neg hm.1]) pr.len4 (by
        rw [pr.free4, List.nodup_append]
        exact ⟨m.fnd, by simp, fun x hx y hy e => by simp at hy; exact (m.free x hx).2 h (by omega) (by rw [e, hy]; exact OL)⟩) (fun x hx => by
        rw [pr.free4, List.mem_append] at hx
        rcases hx with hx | hx
        · exact ⟨(m.free x hx).1, fun e => (m.free x hx).2 h (by omega) (by rw [e]; exact PL), .inr (m.free x hx).2⟩
        · simp at hx
          rw [hx]; exact ⟨pr.io, Ne.symm pr.po, .inl (by simp)⟩) (by rw [pr.len4, pr.free4]; simp; omega) (by rw [tp, List.length_append]; omega) (by rw [tp, List.length_append]; omega)
    rw [ef]
    have e : ((s.nd q).take f).length + 1 + ((s.nd q).drop (f + 1 + 1)).length = (s.nd q).length - 1 := by rw [List.length_take, List.length_drop]; have := pr.lf1; omega
    rw [e] at h6
    have sz := h6.size
    exact ⟨_, (s.nd q).length - 1, h5, fun j hj => if_neg hj, h6, by omega, by omega, by omega⟩
end

end Go.Proofs.Ytdcjckdhjfnnhaa

namespace Go.Proofs.Ytdcjckdhjfnnhaa
open Go.RowKit

set_option maxRecDepth 100000 in
set_option maxHeartbeats 4000000 in
/-- Put of a key that isn't there, into a tree of one key at least -/
theorem rPutNS (p g2 c2 : Nat) (G : Nat → Prop) (k : ByteArray) (y : Int) (w : World) (h : RefT w G p []) (hr : RowAt w p [.slice none 0 0, .slice (some ⟨g2, 0, none⟩) 0 c2] 30) :
    Calls Try.prog 9 #[.pointer (some ⟨p, 0, none⟩), .string k, .int .i64 y] w fun x w' => x = .returned (.tuple #[.int .i64 0, .bool false]) ∧ LeftT w G p [(k, y)] w' := by
  have AT := Lib.hid (show Calls Try.prog 14 #[.pointer (some ⟨p, 0, none⟩), .string k] w fun x w' => x = .returned (.tuple #[.int .i64 0, .bool false]) ∧ ∃ n, w' = w.drewN n from rAt p G [] k w h (by simp))
  have Gp : G p := by obtain ⟨_, _, _, _, _, h4, _⟩ := h; exact h4
  have R1 := Lib.hid hr
  have DK' := Lib.hid (show KV.ks [(k, y)] = [] ++ [k] ++ [] from rfl)
  have DN' := Lib.hid (show KV.ns [(k, y)] = [] ++ [y] ++ [] from rfl)
  have LT := Lib.hid (show p < w.heap.size from hr.lt)
  have GP := Lib.hid Gp
  clear h hr Gp
  go_enter Try.func9, Try.ntmps9
  go_wp2_with fail
  refine AT.out.mono ?_
  rintro x w1 ⟨rfl, m1, hw1⟩
  have B1 := Lib.hid (show Below w.heap.size w w1 by rw [hw1]; exact ⟨rfl, rfl, rfl, Nat.le_refl _, fun _ _ => rfl⟩)
  have Z1 := Lib.hid (show w1.heap.size = w.heap.size by rw [hw1]; rfl)
  have R2 := Lib.hid (R1.out.below B1.out)
  have d0 := R2.out.cell 0
  have d1 := R2.out.cell 1
  simp only [List.getElem?_cons_succ, List.getElem?_cons_zero] at d0 d1
  clear hw1
  have pl : p < w1.heap.size := by rw [Z1.out]; exact LT.out
  have PL := Lib.hid pl
  obtain ⟨B, hB⟩ : ∃ B, B = w1.heap.size := ⟨_, rfl⟩
  have OM := Lib.hid (show OwnS (w1.alloc (.cells #[] 9)) B (.slice (some ⟨w1.heap.size, 0, none⟩) 0 0) [] from OwnS.made w1 (by omega))
  have HB := Lib.hid hB
  clear hB
  have LB := Lib.hid (show p < B by rw [HB.out]; exact PL.out)
  go_wp2_with fail
  obtain ⟨w2, hw2⟩ : ∃ w2, w2 = w1.alloc (.cells #[] 9) := ⟨_, rfl⟩
  obtain ⟨w3, hw3⟩ : ∃ w3, w3 = w2.alloc (.cells #[] 3) := ⟨_, rfl⟩
  have z2 : w2.heap.size = w1.heap.size + 1 := by rw [hw2, World.size_alloc]
  rw [← hw2, ← hw3]
  obtain ⟨v1, hv1⟩ : ∃ v1, v1 = Value.slice (some ⟨w1.heap.size, 0, none⟩) 0 0 := ⟨_, rfl⟩
  obtain ⟨v2, hv2⟩ : ∃ v2, v2 = Value.slice (some ⟨w1.heap.size + 1, 0, none⟩) 0 0 := ⟨_, rfl⟩
  rw [← hv1, ← hv2]
  have o2 : OwnS w2 B v1 [] := by rw [hv1, hw2]; exact OM.out
  have o3 : OwnJ w3 w2.heap.size v2 [] := by rw [hv2, ← z2, hw3]; exact OwnJ.made w2 _ (Nat.le_refl _)
  have B2 := Lib.hid (show Below B w1 w2 by rw [hw2]; exact (Below.refl B w1).alloc (by rw [HB.out]; exact Nat.le_refl _) _)
  have bb : Below w2.heap.size w2 w3 := by rw [hw3]; exact (Below.refl _ w2).alloc (Nat.le_refl _) _
  have B3 := Lib.hid bb
  have O3 := Lib.hid o3
  have O2' := Lib.hid (o2.below bb)
  have R3 := Lib.hid (show RowAt w2 p _ _ from (B2.out.block p LB.out).trans R2.out)
  have R4 := Lib.hid (R3.out.below bb)
  have SB := Lib.hid (show B ≤ w2.heap.size by rw [HB.out]; exact B2.out.size)
  have SC := Lib.hid (show B ≤ w3.heap.size from Nat.le_trans SB.out bb.size)
  have pl := R4.out.lt
  have d0 := R4.out.cell 0
  have d1 := R4.out.cell 1
  have f0 := R4.out.frozen 0
  simp only [List.getElem?_cons_succ, List.getElem?_cons_zero] at d0 d1
  clear o2 o3 hw2 hw3 z2 hv1 hv2 bb
  go_region_law (first
      | (refine step_appS rfl (.tmp 52) (.tmp 54) rfl B v1 [] [k] rfl (World.ownsRow.alloc (w := w3) O2'.out _) _ _ rfl (slS_one _ k _) (by simp) (by show B ≤ (w3.alloc _).heap.size; rw [World.size_alloc]; exact Nat.le_succ_of_le SC.out) ?_
         intro v3 w4 ho hg hb
         have bb : Below B w3 w4 := ((Below.refl B w3).alloc (by exact SC.out) _).drew.trans hb
         have oa := Lib.hid (show OwnJ (w3.alloc (.cells #[.string k] 9)).drew w2.heap.size v2 [] from World.ownsRow.alloc (w := w3) O3.out _)
         have ob := Lib.hid (show OwnS (w3.alloc (.cells #[.string k] 9)).drew B v1 [] from World.ownsRow.alloc (w := w3) O2'.out _)
         have O3s := Lib.hid (oa.out.keepB (w' := w4) fun j hj => hg.block j (oa.out.ltB j hj).2 (fun e => ownSJ_ne ob.out oa.out e.symm hj))
         have O4w := Lib.hid ho
         have B4 := Lib.hid bb
         have R5 := Lib.hid (show RowAt w4 p _ _ from (bb.block p LB.out).trans R4.out)
         have SD := Lib.hid (show B ≤ w4.heap.size from Nat.le_trans SC.out bb.size)
         have SX := Lib.hid (show w3.heap.size ≤ w4.heap.size from bb.size)
         have pl := R5.out.lt
         have d0 := R5.out.cell 0
         have d1 := R5.out.cell 1
         simp only [List.getElem?_cons_succ, List.getElem?_cons_zero] at d0 d1
         clear ho hg hb bb oa ob)
      | (refine step_appSm rfl (.tmp 55) (.tmp 61) rfl B v3 ([] ++ [k]) [] rfl O4w.out _ _ _ (by first | rfl | simp) rfl (fun hn => absurd hn (by simp)) (by simp) SD.out ?_
         intro v4 w5 ho hg hb
         obtain ⟨A4, c4, ev, _⟩ := ho.sl
         obtain ⟨N4, hN4⟩ : ∃ N4, N4 = ([] ++ [k] ++ []).length := ⟨_, rfl⟩
         have O3t := Lib.hid ((O3s.out.keepB (w' := w5) fun j hj => hg.block j (O3s.out.ltB j hj).2 (fun e => ownSJ_ne O4w.out O3s.out e.symm hj)).setCell (p := ⟨p, 0, none⟩) (Nat.lt_of_lt_of_le LB.out SB.out) v4)
         have O5 := Lib.hid (ho.setCell (p := ⟨p, 0, none⟩) LB.out v4)
         have B5 := Lib.hid hb
         have R6 := Lib.hid (show RowAt w5 p _ _ from (hb.block p LB.out).trans R5.out)
         have R7 := Lib.hid (R6.out.set 0 v4)
         have SE := Lib.hid (show w2.heap.size ≤ (w5.setCell ⟨p, 0, none⟩ v4).heap.size by rw [World.size_setCell]; exact Nat.le_trans B3.out.size (Nat.le_trans SX.out hb.size))
         have pl := R6.out.lt
         have d0 := R6.out.cell 0
         have d1 := R6.out.cell 1
         have f0 := R6.out.frozen 0
         have e0 := R7.out.cell 0
         have e1 := R7.out.cell 1
         have el := R7.out.lt
         simp only [List.getElem?_cons_succ, List.getElem?_cons_zero, List.set_cons_zero] at d0 d1 e0 e1
         rw [← hN4] at ev
         subst ev
         have HN := Lib.hid hN4
         clear ho hg hb hN4))
  all_goals (
    have C6 := Lib.hid (show Chg G w (w5.setCell ⟨p, 0, none⟩ (.slice A4 N4 c4)) from
      (((((Chg.of_below B1.out).belowB (by rw [HB.out, Z1.out]; exact Nat.le_refl _) B2.out).belowB (Nat.le_trans (by rw [HB.out, Z1.out]; exact Nat.le_refl _) SB.out) B3.out).belowB (by rw [HB.out, Z1.out]; exact Nat.le_refl _) B4.out).belowB (by rw [HB.out, Z1.out]; exact Nat.le_refl _) B5.out).setCell (.inl GP.out) _)
    obtain ⟨w6, hw6⟩ : ∃ w6, w6 = w5.setCell ⟨p, 0, none⟩ (.slice A4 N4 c4) := ⟨_, rfl⟩
    rw [← hw6] at O3t O5 R7 SE e0 e1 el C6 ⊢
    have PB := Lib.hid (show p < w2.heap.size from Nat.lt_of_lt_of_le LB.out SB.out)
    clear hw6 d0 d1 f0 pl
    have pl := el
    go_wp2_with fail)
  all_goals (
    go_region_law (first
      | (refine step_appJ rfl (.tmp 66) (.tmp 68) rfl w2.heap.size v2 [] [y] rfl (World.ownsRow.alloc (w := w6) O3t.out _) _ _ rfl (slJ_one _ y _) (by simp) (by show w2.heap.size ≤ (w6.alloc _).heap.size; rw [World.size_alloc]; exact Nat.le_succ_of_le SE.out) ?_
         intro v5 w7 ho hg hb
         have bb : Below w2.heap.size w6 w7 := ((Below.refl _ w6).alloc SE.out _).drew.trans hb
         have oa := Lib.hid (show OwnJ (w6.alloc (.cells #[.int .i64 y] 3)).drew w2.heap.size v2 [] from World.ownsRow.alloc (w := w6) O3t.out _)
         have ob := Lib.hid (show OwnS (w6.alloc (.cells #[.int .i64 y] 3)).drew B (.slice A4 N4 c4) ([] ++ [k] ++ []) from World.ownsRow.alloc (w := w6) O5.out _)
         have O5s := Lib.hid (ob.out.keepV (w' := w7) fun j hj => hg.block j (World.ownsRow.lt ob.out j hj).2 (fun e => ownSJ_ne ob.out oa.out hj e.symm))
         have O6w := Lib.hid ho
         have B7 := Lib.hid bb
         have R8 := Lib.hid (show RowAt w7 p _ _ from (bb.block p PB.out).trans R7.out)
         have SF := Lib.hid (show w2.heap.size ≤ w7.heap.size from Nat.le_trans SE.out bb.size)
         have pl := R8.out.lt
         have d0 := R8.out.cell 0
         have d1 := R8.out.cell 1
         simp only [List.getElem?_cons_succ, List.getElem?_cons_zero, List.set_cons_zero] at d0 d1
         clear ho hg hb bb oa ob)
      | (refine step_appJm rfl (.tmp 69) (.tmp 75) rfl w2.heap.size v5 ([] ++ [y]) [] rfl O6w.out _ _ _ (by first | rfl | simp) rfl (fun hn => absurd hn (by simp)) (by simp) SF.out ?_
         intro v6 w8 ho hg hb
         obtain ⟨A6, c6, ev, _⟩ := ho.form
         obtain ⟨N6, hN6⟩ : ∃ N6, N6 = ([] ++ [y] ++ []).length := ⟨_, rfl⟩
         have O7 := Lib.hid (ho.setCell (p := ⟨p, 1, none⟩) PB.out v6)
         have O5t := Lib.hid ((O5s.out.keepV (w' := w8) fun j hj => hg.block j (World.ownsRow.lt O5s.out j hj).2 (fun e => ownSJ_ne O5s.out O6w.out hj e.symm)).setCell (p := ⟨p, 1, none⟩) LB.out v6)
         have B8 := Lib.hid hb
         have R9 := Lib.hid (show RowAt w8 p _ _ from (hb.block p PB.out).trans R8.out)
         have R10 := Lib.hid (R9.out.set 1 v6)
         have pl := R9.out.lt
         have d0 := R9.out.cell 0
         have d1 := R9.out.cell 1
         have f1 := R9.out.frozen 1
         simp only [List.getElem?_cons_succ, List.getElem?_cons_zero, List.set_cons_zero] at d0 d1
         rw [← hN6] at ev
         subst ev
         have HM := Lib.hid hN6
         clear ho hg hb hN6)))
  all_goals go_wp2_with fail
  all_goals go_ret2
  all_goals exact ⟨rfl, LeftT.of (B := B) (C := w2.heap.size) (by rw [HB.out, Z1.out]; exact Nat.le_refl _) LB.out GP.out O5t.out O7.out SB.out DK'.out DN'.out R10.out
      (((C6.out.belowB (Nat.le_trans (by rw [HB.out, Z1.out]; exact Nat.le_refl _) SB.out) B7.out).belowB (Nat.le_trans (by rw [HB.out, Z1.out]; exact Nat.le_refl _) SB.out) B8.out).setCell (.inl GP.out) _)⟩

end Go.Proofs.Ytdcjckdhjfnnhaa
