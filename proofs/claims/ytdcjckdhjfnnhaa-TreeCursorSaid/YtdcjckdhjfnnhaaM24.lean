/- Proved parts: T8y T8z. Conditions: each theorem's own. -/
import Derived.Test.YtdcjckdhjfnnhaaM23
namespace Go.Proofs.Ytdcjckdhjfnnhaa
open Go.RowKit

section
variable {s : Tab} {L : Nat → List Nat} {l : KV} {e : Nat} {K : ByteArray}
theorem Mid.shut_ok (m : Mid s L l e s.root K) (he : e + 1 = s.depth) (h1 : e ≠ 0 → 1 ≤ (s.nd s.root).length) (h4 : (s.nd s.root).length ≤ 4) (hc : s.count = l.length) (hb : s.nds.length + s.free.length ≤ 50000) (hd : s.depth ≤ 50000) :
    FineShut s ∧ ((l = [] ∧ s.shut = Tab.bare) ∨ ∃ L', Whole s.shut L' l ∧ s.shut.count = l.length ∧ s.shut.nds.length + s.shut.free.length ≤ s.nds.length + s.free.length + 1) := by
  have rL : s.root ∈ L e := by rw [show e = s.depth - 1 by omega, m.top]; simp
  have Le : L e = [s.root] := by rw [show e = s.depth - 1 by omega, m.top]
  have rl := m.lt e s.root (by omega) rL
  -- a lone kid
  have lone : (s.nd s.root).length = 1 → 1 < s.depth → ∃ c : Nat, L (e - 1) = [c] ∧ (s.nd s.root).num 0 = c := fun a b => by
    have k := m.link (e - 1) (by omega)
    rw [show e - 1 + 1 = e by omega, Le] at k
    simp only [List.flatMap_cons, List.flatMap_nil, List.append_nil] at k
    have kl := congrArg List.length k
    rw [List.length_map, a] at kl
    match hL : L (e - 1), kl with
    | [c], _ =>
      rw [hL] at k
      exact ⟨c, rfl, by rw [k]; rfl⟩
    | [], kl => simp at kl
    | _ :: _ :: _, kl => simp at kl
  refine ⟨⟨rl, by omega, hd, by omega, fun a b => by obtain ⟨c, _, h⟩ := lone a b; exact ⟨c, h⟩⟩, ?_⟩
  by_cases c0 : s.count = 0
  · refine .inl ⟨List.eq_nil_of_length_eq_zero (by omega), if_pos c0⟩
  · refine .inr ?_
    by_cases c1 : 1 < s.depth ∧ (s.nd s.root).length = 1
    · obtain ⟨c, hcl, hcn⟩ := lone c1.2 c1.1
      have ef : s.shut = ({ s with root := c, depth := s.depth - 1 } : Tab).off s.root := by
        unfold Tab.shut
        rw [if_neg c0, if_pos c1, hcn]; rfl
      have nd' : ∀ r, s.shut.nd r = if r = s.root then [] else s.nd r := fun r => by
        rw [ef]; exact Tab.off_nd (s := { s with root := c, depth := s.depth - 1 }) rl r
      have dT : s.shut.depth = e := by rw [ef]; show s.depth - 1 = e; omega
      have fT : s.shut.free = s.free ++ [s.root] := by rw [ef]; rfl
      have lT : s.shut.nds.length = s.nds.length := by rw [ef]; exact Tab.off_len _ _
      have rn : ∀ j r, j < e → r ∈ L j → r ≠ s.root := fun j r hj hr t => by
        have := m.lev j e r (by omega) (by omega) hr (by rw [t]; exact rL); omega
      have nO : ∀ j r, j < e → r ∈ L j → s.shut.nd r = s.nd r := fun j r hj hr => by rw [nd', if_neg (rn j r hj hr)]
      refine ⟨L, ⟨by omega, ?_, fun j hj => m.nodup j (by omega), fun i j r hi hj => m.lev i j r (by omega) (by omega), fun j r hj hr => by rw [lT]; exact m.lt j r (by omega) hr, ?_, fun f hf => ?_, fun j r hj hr _ => ?_, fun j hj => ?_, ?_⟩, by rw [ef]; exact hc, by rw [lT, fT]; simp; omega⟩
      · rw [dT, hcl, ef]; rfl
      · rw [fT, List.nodup_append]
        exact ⟨m.fnd, by simp, fun x hx y hy t => by simp at hy; exact (m.free x hx).2 e (by omega) (by rw [t, hy]; exact rL)⟩
      · rw [fT, List.mem_append] at hf
        rw [lT, dT]
        rcases hf with hf | hf
        · exact ⟨(m.free f hf).1, fun j hj => (m.free f hf).2 j (by omega)⟩
        · simp at hf
          rw [hf]; exact ⟨rl, fun j hj hm => rn j s.root hj hm rfl⟩
      · rw [dT] at hj ⊢
        have := m.size j r (by omega) hr (fun t => by omega)
        rw [if_neg (show ¬ s.depth = 1 by omega)] at this
        rw [nO j r hj hr]
        by_cases t : e = 1
        · rw [if_pos t]; omega
        · rw [if_neg t]; exact this
      · rw [dT] at hj
        rw [fm_congr (g := s.nd) (fun r hr => nO (j + 1) r hj hr), m.link j (by omega)]
        apply List.map_congr_left
        intro r hr
        unfold Tab.lk
        rw [if_neg (fun t => by have := t.1; simp at this; omega), if_neg (fun t => by have := t.1; simp at this; omega), nO j r (by omega) hr]
      · rw [← m.leaf]
        exact fm_congr fun r hr => nO 0 r (by omega) hr
    · have ef : s.shut = s := by
        unfold Tab.shut
        rw [if_neg c0, if_neg c1]
      rw [ef]
      refine ⟨L, m.clean (fun _ _ => ⟨?_, h4⟩) (fun h => by omega), hc, by omega⟩
      by_cases d : s.depth = 1
      · rw [if_pos d]
        have e0 : e = 0 := by omega
        have k := m.leaf
        rw [← e0, Le] at k
        simp only [List.flatMap_cons, List.flatMap_nil, List.append_nil] at k
        rw [k]; omega
      · rw [if_neg d]
        have := h1 (by omega)
        have : ¬ (s.nd s.root).length = 1 := fun t => c1 ⟨by have := m.d1; omega, t⟩
        omega

theorem put_new {l : KV} {k : ByteArray} {n : Int} (hn : l.has k = false) : l.put k n = ins l (l.pos k) (k, n) := by
  unfold KV.put ins
  rw [if_neg (by rw [hn]; decide)]
theorem above_pos {l : KV} {k : ByteArray} (h0 : RiseL l) (hn : l.has k = false) {j : Nat} (h : l.pos k ≤ j) (hj : j < l.length) : ltB k (l.key j) = true := by
  have hp : l.pos k < l.length := by omega
  have st := KV.pos_stop k l hp
  have lt : ltB k (l.key (l.pos k)) = true := by
    cases e : ltB k (l.key (l.pos k)) with
    | true => rfl
    | false => rw [(KV.has_iff l k).2 ⟨hp, (ltB_total e st).symm⟩] at hn; cases hn
  by_cases t : j = l.pos k
  · rw [t]; exact lt
  · exact ltB_trans lt (KV.rise_at h0 (by omega) hj)
theorem put_rise {l : KV} {k : ByteArray} {n : Int} (h0 : RiseL l) : RiseL (l.put k n) := by
  by_cases hn : l.has k = true
  · have e : l.put k n = l.set (l.pos k) (k, n) := if_pos hn
    obtain ⟨hp, hk⟩ := (KV.has_iff l k).1 hn
    have em : (l.put k n).map Prod.fst = l.map Prod.fst := by
      rw [e, List.map_set]
      show (l.map Prod.fst).set (l.pos k) k = _
      apply List.ext_getElem (by simp)
      intro i h1 h2
      rw [List.getElem_set]
      by_cases t : l.pos k = i
      · rw [if_pos t]
        have hi : i < l.length := by simpa using h2
        rw [List.getElem_map, KV.getE l i hi]
        show k = l.key i
        rw [← t, hk]
      · rw [if_neg t]
    have h1 : (l.map Prod.fst).Pairwise (fun a b => ltB a b = true) := List.pairwise_map.2 h0
    rw [← em] at h1
    exact List.pairwise_map.1 h1
  · have hn : l.has k = false := by simpa using hn
    rw [put_new hn]
    have pl := KV.pos_le k l
    unfold ins RiseL
    rw [List.pairwise_append, List.pairwise_cons]
    refine ⟨h0.sublist (List.take_sublist _ _), ⟨fun y hy => ?_, h0.sublist (List.drop_sublist _ _)⟩, fun x hx y hy => ?_⟩
    · obtain ⟨i, hi, rfl⟩ := List.getElem_of_mem hy
      rw [List.length_drop] at hi
      rw [List.getElem_drop, KV.getE _ _ (by omega)]
      exact above_pos h0 hn (by omega) (by omega)
    · obtain ⟨i, hi, rfl⟩ := List.getElem_of_mem hx
      rw [List.length_take] at hi
      rw [List.getElem_take, KV.getE _ _ (by omega)]
      have lx := KV.pos_below k l i (by omega)
      rw [List.mem_cons] at hy
      rcases hy with rfl | hy
      · exact lx
      · obtain ⟨j, hj, rfl⟩ := List.getElem_of_mem hy
        rw [List.length_drop] at hj
        rw [List.getElem_drop, KV.getE _ _ (by omega)]
        exact ltB_trans lx (above_pos h0 hn (by omega) (by omega))
theorem del_rise {l : KV} {k : ByteArray} (h0 : RiseL l) : RiseL (l.del k) := by
  unfold KV.del
  split
  · have sb : (l.take (l.pos k) ++ l.drop (l.pos k + 1)).Sublist l := by
      have k1 : (l.drop (l.pos k + 1)).Sublist (l.drop (l.pos k)) := by rw [← List.drop_drop]; exact List.drop_sublist _ _
      have := (List.Sublist.refl (l.take (l.pos k))).append k1
      rwa [List.take_append_drop] at this
    exact h0.sublist sb
  · exact h0
end

section
variable {s : Tab} {L : Nat → List Nat} {l : KV}
/-- the way, and the leaf at its end -/
theorem Whole.way (m : Whole s L l) (h0 : RiseL l) (k : ByteArray) : ∃ e P a A B, s.depth = e + 1 ∧ s.Walks k s.depth s.root ∧ Path s L k e s.root (s.down k s.depth s.root) ∧ (s.down k s.depth s.root).getD e (0, 0) = (P, a) ∧ a = (s.nd P).pos k ∧ Found s L l k P A B ∧ P < s.nds.length ∧ 1 ≤ (s.nd P).length ∧ (s.nd P).length ≤ 4 ∧ (e ≠ 0 → 2 ≤ (s.nd P).length) := by
  obtain ⟨e, he⟩ : ∃ e, s.depth = e + 1 := ⟨s.depth - 1, by have := m.d1; omega⟩
  have hr := Here.root m k
  rw [he, Nat.add_sub_cancel] at hr
  obtain ⟨w, p⟩ := m.path h0 k e s.root (by omega) hr
  rw [← he] at w p
  obtain ⟨A, B, f⟩ := p.here.found m h0
  have pm : ((s.down k s.depth s.root).getD e (0, 0)).1 ∈ L 0 := by rw [f.cut]; simp
  have sz := m.pos m.d1 pm
  refine ⟨e, _, _, A, B, he, w, p, rfl, p.last, f, m.lt 0 _ m.d1 pm, sz.1, sz.2, fun h => ?_⟩
  have := m.size 0 _ m.d1 pm (fun t => by have := t.1; omega)
  rw [if_neg (by omega)] at this
  exact this.1
theorem Found.put {k : ByteArray} {P : Nat} {A B : List Nat} (f : Found s L l k P A B) (n : Int) (hn : l.has k = false) : l.put k n = A.flatMap s.nd ++ ins (s.nd P) ((s.nd P).pos k) (k, n) ++ B.flatMap s.nd := by
  have pl := KV.pos_le k (s.nd P)
  rw [put_new hn, f.pos]
  obtain ⟨U, hU⟩ : ∃ U, U = A.flatMap s.nd := ⟨_, rfl⟩
  have fa := f.all
  rw [← hU] at fa ⊢
  rw [fa]
  unfold ins
  rw [List.append_assoc, List.take_length_add_append, List.drop_length_add_append, List.take_append_of_le_length pl, List.drop_append_of_le_length pl]
  simp
theorem Found.put_old {k : ByteArray} {P : Nat} {A B : List Nat} (f : Found s L l k P A B) (n : Int) (hn : l.has k = true) : l.put k n = A.flatMap s.nd ++ (s.nd P).set ((s.nd P).pos k) (k, n) ++ B.flatMap s.nd := by
  have hp : (s.nd P).pos k < (s.nd P).length := ((KV.has_iff _ _).1 (f.has ▸ hn)).1
  have e : l.put k n = l.set (l.pos k) (k, n) := if_pos hn
  rw [e, f.pos]
  obtain ⟨U, hU⟩ : ∃ U, U = A.flatMap s.nd := ⟨_, rfl⟩
  have fa := f.all
  rw [← hU] at fa ⊢
  rw [fa, List.append_assoc, List.set_append_right _ _ (by omega), Nat.add_sub_cancel_left, List.set_append_left _ _ hp, List.append_assoc]
theorem Found.del {k : ByteArray} {P : Nat} {A B : List Nat} (f : Found s L l k P A B) (hn : l.has k = true) : l.del k = A.flatMap s.nd ++ ((s.nd P).take ((s.nd P).pos k) ++ (s.nd P).drop ((s.nd P).pos k + 1)) ++ B.flatMap s.nd := by
  have hp : (s.nd P).pos k < (s.nd P).length := ((KV.has_iff _ _).1 (f.has ▸ hn)).1
  have e : l.del k = l.take (l.pos k) ++ l.drop (l.pos k + 1) := if_pos hn
  rw [e, f.pos]
  obtain ⟨U, hU⟩ : ∃ U, U = A.flatMap s.nd := ⟨_, rfl⟩
  have fa := f.all
  rw [← hU] at fa ⊢
  rw [fa, List.append_assoc, List.take_length_add_append, Nat.add_assoc, List.drop_length_add_append, List.take_append_of_le_length (by omega), List.drop_append_of_le_length (by omega)]
  simp
end

end Go.Proofs.Ytdcjckdhjfnnhaa

namespace Go.Proofs.Ytdcjckdhjfnnhaa
open Go.RowKit

section
variable {s : Tab} {L : Nat → List Nat} {l : KV}
theorem Path.root {s : Tab} {L : Nat → List Nat} {k : ByteArray} {h p : Nat} {ws : List (Nat × Nat)} (h1 : Path s L k h p ws) : (ws.getD 0 (0, 0)).1 = p := h1.top
theorem Whole.putNew (m : Whole s L l) (h0 : RiseL l) (k : ByteArray) (n : Int) (hn : l.has k = false) (hb : s.nds.length + s.free.length + s.depth + 4 ≤ 50000) :
    ∃ e P a, s.depth = e + 1 ∧ s.Walks k s.depth s.root ∧ (s.down k s.depth s.root).length = e + 1 ∧ (s.down k s.depth s.root).getD e (0, 0) = (P, a) ∧ P < s.nds.length ∧ a ≤ (s.nd P).length ∧ 0 < (s.nd P).length ∧ (s.nd P).length ≤ 4 ∧ a = (s.nd P).pos k ∧ (s.nd P).has k = false ∧
      FineUps (s.down k s.depth s.root) e (s.put P (ins (s.nd P) a (k, n))) ∧ FineTop (Tab.ups (s.down k s.depth s.root) e (s.put P (ins (s.nd P) a (k, n)))) ∧
      ∃ L', Whole (Tab.ups (s.down k s.depth s.root) e (s.put P (ins (s.nd P) a (k, n)))).top L' (l.put k n) ∧ (Tab.ups (s.down k s.depth s.root) e (s.put P (ins (s.nd P) a (k, n)))).top.count = s.count ∧
        (Tab.ups (s.down k s.depth s.root) e (s.put P (ins (s.nd P) a (k, n)))).top.nds.length + (Tab.ups (s.down k s.depth s.root) e (s.put P (ins (s.nd P) a (k, n)))).top.free.length ≤ s.nds.length + s.free.length + s.depth + 2 := by
  obtain ⟨e, P, a, A, B, he, w, p, hl, ha, f, hP, h1, h4, h2⟩ := m.way h0 k
  have ap : a ≤ (s.nd P).length := by rw [ha]; exact KV.pos_le k _
  have m1 := m.leafset f.cut (ins (s.nd P) a (k, n))
  rw [ha, ← f.put n hn, ← ha] at m1
  have n1 : ∀ r, (s.put P (ins (s.nd P) a (k, n))).nd r = if r = P then ins (s.nd P) a (k, n) else s.nd r := fun r => Tab.put_nd hP r
  have pm : P ∈ L 0 := by rw [f.cut]; simp
  have il := ins_len (s.nd P) a (k, n) ap
  have lw : ((s.down k s.depth s.root).getD e (0, 0)).1 = P := by rw [hl]
  obtain ⟨u1, L2, K2, u2, u3, u4, u5, u6, u7, u8⟩ := ups_ok (ws := s.down k s.depth s.root) (e := e) (l := l.put k n) e (Nat.le_refl _) (s.put P (ins (s.nd P) a (k, n))) L ((s.nd P).key 0) (by rw [Nat.sub_self, lw]; exact m1) (by show e + 1 = s.depth; omega) (fun j hj => by
    obtain ⟨j1, j2⟩ := p.next j hj
    have jm := p.mem j (by omega)
    have jn : ((s.down k s.depth s.root).getD j (0, 0)).1 ≠ P := fun t => by
      have := m.lev (e - j) 0 _ (by omega) m.d1 jm (by rw [t]; exact pm); omega
    rw [n1, if_neg jn]
    exact ⟨jm, j1, j2⟩) (by rw [lw, n1, if_pos rfl]; omega) (by rw [lw, n1, if_pos rfl]; omega) (by rw [Tab.put_len]; show s.nds.length + s.free.length + e ≤ _; omega)
  have sd : (s.put P (ins (s.nd P) a (k, n))).depth = s.depth := rfl
  have sc : (s.put P (ins (s.nd P) a (k, n))).count = s.count := rfl
  have sl : (s.put P (ins (s.nd P) a (k, n))).nds.length + (s.put P (ins (s.nd P) a (k, n))).free.length = s.nds.length + s.free.length := by rw [Tab.put_len]; rfl
  have e0 : ((s.down k s.depth s.root).getD 0 (0, 0)).1 = (Tab.ups (s.down k s.depth s.root) e (s.put P (ins (s.nd P) a (k, n)))).root := by rw [p.root, u6]; rfl
  rw [e0] at u2 u3 u4
  have hd : e + 1 = (Tab.ups (s.down k s.depth s.root) e (s.put P (ins (s.nd P) a (k, n)))).depth := by rw [u5, sd, he]
  have ft := u2.fineTop hd (by omega) u4 (by omega) (by omega)
  obtain ⟨L', t1, t2, t3, _⟩ := u2.top_ok hd u3 u4
  exact ⟨e, P, a, he, w, p.len, hl, hP, ap, h1, h4, ha, by rw [← f.has]; exact hn, u1, ft, L', t1, by rw [t2, u7, sc], by omega⟩
theorem Whole.putOld (m : Whole s L l) (h0 : RiseL l) (k : ByteArray) (n : Int) (hn : l.has k = true) :
    ∃ e P a, s.depth = e + 1 ∧ s.Walks k s.depth s.root ∧ (s.down k s.depth s.root).length = e + 1 ∧ (s.down k s.depth s.root).getD e (0, 0) = (P, a) ∧ P < s.nds.length ∧ a < (s.nd P).length ∧ (s.nd P).key a = k ∧ (s.nd P).num a = l.num (l.pos k) ∧
      ∃ L', Whole (s.put P ((s.nd P).set a (k, n))) L' (l.put k n) := by
  obtain ⟨e, P, a, A, B, he, w, p, hl, ha, f, hP, h1, h4, h2⟩ := m.way h0 k
  have hs : (s.nd P).has k = true := by rw [← f.has]; exact hn
  obtain ⟨ap, ak⟩ := (KV.has_iff _ _).1 hs
  rw [← ha] at ap ak
  have m1 := m.leafset f.cut ((s.nd P).set a (k, n))
  rw [ha, ← f.put_old n hn, ← ha] at m1
  refine ⟨e, P, a, he, w, p.len, hl, hP, ap, ak, ?_, L, ?_⟩
  · rw [f.pos, ← ha]
    obtain ⟨U, hU⟩ : ∃ U, U = A.flatMap s.nd := ⟨_, rfl⟩
    have fa := f.all
    rw [← hU] at fa ⊢
    rw [fa]
    unfold KV.num
    rw [List.getD_eq_getElem?_getD, List.getD_eq_getElem?_getD, List.append_assoc, List.getElem?_append_right (by omega), Nat.add_sub_cancel_left, List.getElem?_append_left ap]
  · refine m1.clean (fun _ _ => ?_) (fun _ => ?_)
    · rw [Tab.put_nd hP, if_pos rfl, List.length_set]
      have pm : P ∈ L 0 := by rw [f.cut]; simp
      exact m.size 0 P m.d1 pm (fun t => by have := t.1; have := m.d1; omega)
    · rw [Tab.put_nd hP, if_pos rfl]
      by_cases c : a = 0
      · subst c
        unfold KV.key at ak ⊢
        rw [List.getD_eq_getElem?_getD] at ak ⊢
        rw [List.getD_eq_getElem?_getD, List.getElem?_set, if_pos rfl, if_pos ap, ak]; rfl
      · unfold KV.key
        rw [List.getD_eq_getElem?_getD, List.getD_eq_getElem?_getD, List.getElem?_set, if_neg (fun t => c t)]
theorem Whole.get (m : Whole s L l) (h0 : RiseL l) (k : ByteArray) :
    ∃ e P a, s.depth = e + 1 ∧ s.Walks k s.depth s.root ∧ (s.down k s.depth s.root).length = e + 1 ∧ (s.down k s.depth s.root).getD e (0, 0) = (P, a) ∧ P < s.nds.length ∧ (s.nd P).length ≤ 4 ∧ (l.has k = true → a < (s.nd P).length ∧ (s.nd P).key a = k ∧ (s.nd P).num a = l.num (l.pos k)) ∧ (l.has k = false → ¬ (a < (s.nd P).length ∧ (s.nd P).key a = k)) := by
  obtain ⟨e, P, a, A, B, he, w, p, hl, ha, f, hP, h1, h4, h2⟩ := m.way h0 k
  refine ⟨e, P, a, he, w, p.len, hl, hP, h4, fun h => ?_, fun h t => ?_⟩
  · obtain ⟨e', P', a', he', _, _, hl', _, b1, b2, b3, _⟩ := m.putOld h0 k 0 h
    have : e = e' := by omega
    subst this
    rw [hl] at hl'
    injection hl' with q1 q2
    subst q1; subst q2
    exact ⟨b1, b2, b3⟩
  · rw [f.has] at h
    have := (KV.has_iff (s.nd P) k).2 (by rw [← ha]; exact t)
    rw [h] at this; cases this
theorem Whole.del (m : Whole s L l) (h0 : RiseL l) (k : ByteArray) (c : Nat) (hc : c = (l.del k).length) (hn : l.has k = true) (hb : s.nds.length + s.free.length + 2 * s.depth + 4 ≤ 50000) :
    ∃ e P a, s.depth = e + 1 ∧ s.Walks k s.depth s.root ∧ (s.down k s.depth s.root).length = e + 1 ∧ (s.down k s.depth s.root).getD e (0, 0) = (P, a) ∧ P < s.nds.length ∧ a < (s.nd P).length ∧ (s.nd P).length ≤ 4 ∧ (s.nd P).key a = k ∧ (s.nd P).num a = l.num (l.pos k) ∧
      FineFills (s.down k s.depth s.root) e (({ s with count := c } : Tab).cutK P a) ∧ FineShut (Tab.fills (s.down k s.depth s.root) e (({ s with count := c } : Tab).cutK P a)) ∧
      ((l.del k = [] ∧ (Tab.fills (s.down k s.depth s.root) e (({ s with count := c } : Tab).cutK P a)).shut = Tab.bare) ∨ ∃ L', Whole (Tab.fills (s.down k s.depth s.root) e (({ s with count := c } : Tab).cutK P a)).shut L' (l.del k) ∧ (Tab.fills (s.down k s.depth s.root) e (({ s with count := c } : Tab).cutK P a)).shut.count = (l.del k).length ∧
        (Tab.fills (s.down k s.depth s.root) e (({ s with count := c } : Tab).cutK P a)).shut.nds.length + (Tab.fills (s.down k s.depth s.root) e (({ s with count := c } : Tab).cutK P a)).shut.free.length ≤ s.nds.length + s.free.length + 2 * s.depth + 1) := by
  obtain ⟨e, P, a, A, B, he, w, p, hl, ha, f, hP, h1, h4, h2⟩ := m.way h0 k
  obtain ⟨e', P', a', he', _, _, hl', _, b1, b2, b3, _⟩ := m.putOld h0 k 0 hn
  have : e = e' := by omega
  subst this
  have hl2 := hl'
  rw [hl] at hl2
  injection hl2 with q1 q2
  subst q1; subst q2
  obtain ⟨S, hS⟩ : ∃ S, S = (({ s with count := c } : Tab).cutK P a) := ⟨_, rfl⟩
  have m1 := (m.leafset f.cut ((s.nd P).take a ++ (s.nd P).drop (a + 1))).count c
  rw [ha, ← f.del hn, ← ha] at m1
  have es : S = { s.put P ((s.nd P).take a ++ (s.nd P).drop (a + 1)) with count := c } := by rw [hS]; rfl
  rw [← es] at m1
  have n1 : ∀ r, S.nd r = if r = P then (s.nd P).take a ++ (s.nd P).drop (a + 1) else s.nd r := fun r => by rw [es]; exact Tab.put_nd hP r
  have pm : P ∈ L 0 := by rw [f.cut]; simp
  have lw : ((s.down k s.depth s.root).getD e (0, 0)).1 = P := by rw [hl]
  have ll : ((s.nd P).take a ++ (s.nd P).drop (a + 1)).length = (s.nd P).length - 1 := by simp; omega
  have sd : S.depth = s.depth := by rw [es]; rfl
  have sr : S.root = s.root := by rw [es]; rfl
  have sc : S.count = c := by rw [es]
  have sl : S.nds.length + S.free.length = s.nds.length + s.free.length := by rw [es]; show (s.put _ _).nds.length + s.free.length = _; rw [Tab.put_len]
  obtain ⟨u1, L2, K2, u2, u3, u4, u5, u6, u7, u8⟩ := fills_ok (ws := s.down k s.depth s.root) (e := e) (l := l.del k) e (Nat.le_refl _) S L ((s.nd P).key 0) (by rw [Nat.sub_self, lw]; exact m1) (by rw [sd]; omega) (fun j hj => by
    obtain ⟨j1, j2⟩ := p.next j hj
    have jm := p.mem j (by omega)
    have jn : ((s.down k s.depth s.root).getD j (0, 0)).1 ≠ P := fun t => by
      have := m.lev (e - j) 0 _ (by omega) m.d1 jm (by rw [t]; exact pm); omega
    rw [n1, if_neg jn]
    exact ⟨jm, j1, j2⟩) (fun h => by rw [lw, n1, if_pos rfl, ll]; have := h2 h; omega) (by rw [lw, n1, if_pos rfl, ll]; omega) (by omega)
  have e0 : ((s.down k s.depth s.root).getD 0 (0, 0)).1 = (Tab.fills (s.down k s.depth s.root) e S).root := by rw [p.root, u6, sr]
  rw [e0] at u2 u3 u4
  have hd : e + 1 = (Tab.fills (s.down k s.depth s.root) e S).depth := by rw [u5, sd, he]
  obtain ⟨t1, t2⟩ := u2.shut_ok hd u3 u4 (by rw [u7, sc, hc]) (by omega) (by omega)
  refine ⟨e, P, a, he, w, p.len, hl, hP, b1, h4, b2, b3, ?_⟩
  rw [← hS]
  refine ⟨u1, t1, ?_⟩
  rcases t2 with t2 | ⟨L', t2, t3, t4⟩
  · exact .inl t2
  · exact .inr ⟨L', t2, t3, by omega⟩
end

end Go.Proofs.Ytdcjckdhjfnnhaa
