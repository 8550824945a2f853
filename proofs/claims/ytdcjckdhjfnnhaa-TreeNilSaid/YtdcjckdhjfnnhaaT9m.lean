/- The program's Get, Put, Del, Len, New: walked. -/
import Derived.Test.YtdcjckdhjfnnhaaT8z
import Derived.Test.YtdcjckdhjfnnhaaCo
namespace Go.Proofs.Ytdcjckdhjfnnhaa
open Go.RowKit

/-- the table tells the keys l -/
def OkT (s : Tab) (l : KV) : Prop := (l = [] ∧ s = Tab.bare) ∨ ∃ L, Whole s L l ∧ RiseL l ∧ s.count = l.length
def Rep (w : World) (T : Nat) (E : Nat → Prop) (l : KV) (b : Nat) : Prop := ∃ s, TabG w T E s ∧ OkT s l ∧ s.nds.length + s.free.length ≤ b
def RepP (w : World) (T : Nat) (E : Nat → Prop) (l : KV) (b : Nat) (w' : World) : Prop := ∃ E' : Nat → Prop, Rep w' T E' l b ∧ (∀ k, E' k → E k ∨ w.heap.size ≤ k) ∧ Chg E w w'
theorem Rep.below {w w' : World} {T : Nat} {E : Nat → Prop} {l : KV} {b : Nat} (h : Rep w T E l b) (hb : Below w.heap.size w w') : Rep w' T E l b := by
  obtain ⟨s, h1, h2⟩ := h
  exact ⟨s, h1.below hb, h2⟩
theorem OkT.deep {s : Tab} {l : KV} (h : OkT s l) (hl : l.length ≤ 1000) : s.depth ≤ 10 := by
  rcases h with ⟨_, rfl⟩ | ⟨L, m, _, _⟩
  · exact Nat.zero_le _
  · have := m.depth_le
    by_cases c : s.depth ≤ 10
    · exact c
    · have : 2 ^ 10 ≤ 2 ^ (s.depth - 1) := Nat.pow_le_pow_right (by decide) (by omega)
      omega
theorem OkT.rise {s : Tab} {l : KV} (h : OkT s l) : RiseL l := by
  rcases h with ⟨rfl, _⟩ | ⟨_, _, h, _⟩
  · exact List.Pairwise.nil
  · exact h
theorem OkT.len {s : Tab} {l : KV} (h : OkT s l) : s.count = l.length := by
  rcases h with ⟨rfl, rfl⟩ | ⟨_, _, _, h⟩
  · rfl
  · exact h
theorem OkT.walks {s : Tab} {l : KV} (h : OkT s l) (k : ByteArray) : s.Walks k s.depth s.root := by
  rcases h with ⟨_, rfl⟩ | ⟨L, m, h0, _⟩
  · trivial
  · obtain ⟨_, _, _, _, w, _⟩ := m.get h0 k
    exact w
theorem has_nil (k : ByteArray) : KV.has k [] = false := rfl
theorem split_last {ws : List (Nat × Nat)} {e : Nat} {x : Nat × Nat} (h : ws.length = e + 1) (hx : ws.getD e (0, 0) = x) : ws = ws.take e ++ [x] := by
  have hl : e < ws.length := by omega
  have e1 : ws[e] = x := by rw [← hx, List.getD_eq_getElem?_getD, List.getElem?_eq_getElem hl]; rfl
  have e2 : ws = ws.take e ++ ws.drop e := (List.take_append_drop e ws).symm
  rw [List.drop_eq_getElem_cons hl, List.drop_of_length_le (by omega), e1] at e2
  exact e2
/-- find, along the whole way -/
theorem xFind (w : World) (T : Nat) (E : Nat → Prop) (s : Tab) (rv fv : Value) (vs : List Value) (v : Value) (k : ByteArray) (l : KV) (h : TabV w T E s rv fv vs) (ok : OkT s l) (hv : SlW w v (s.down k s.depth s.root)) (hl : l.length ≤ 1000) :
    Calls Try.prog 23 #[Ptr T, v, .string k] w fun x w' => ∃ r, x = .returned r ∧ Below w.heap.size w w' ∧ (l.has k = false → r = .pointer none) ∧
      (l.has k = true → ∃ P a b o c, r = .pointer (some ⟨b, o + a * 2, none⟩) ∧ P < vs.length ∧ nv vs P = .slice (some ⟨b, o, none⟩) (s.nd P).length c ∧ a < (s.nd P).length ∧ (s.nd P).key a = k ∧ (s.nd P).num a = l.num (l.pos k) ∧ (s.down k s.depth s.root).getD (s.depth - 1) (0, 0) = (P, a)) := by
  have dp := ok.deep hl
  rcases ok with ⟨rfl, rfl⟩ | ⟨L, m, h0, _⟩
  · exact (xFind0 w T v k hv).mono fun x w' ⟨h1, h2⟩ => ⟨_, h1, by rw [h2]; exact Below.refl _ _, fun _ => rfl, fun t => by rw [has_nil] at t; cases t⟩
  · obtain ⟨e, P, a, he, _, hw, hx, hP, h4, hy, hn⟩ := m.get h0 k
    have es := split_last hw hx
    rw [es] at hv
    have pl : P < vs.length := by rw [h.len]; exact hP
    refine (xFind1 w T E s rv fv vs v _ P a k h pl hv (by rw [List.length_take]; omega)).mono fun x w' ⟨r, h1, h2, h3⟩ => ⟨r, h1, h3, fun t => ?_, fun t => ?_⟩
    · unfold FindR at h2
      rw [List.getLast?_concat] at h2
      simp only at h2
      rw [if_neg (hn t)] at h2
      exact h2
    · obtain ⟨y1, y2, y3⟩ := hy t
      unfold FindR at h2
      rw [List.getLast?_concat] at h2
      simp only at h2
      rw [if_pos ⟨y1, y2⟩] at h2
      obtain ⟨b, o, c, q1, q2⟩ := h2
      exact ⟨P, a, b, o, c, q2, pl, q1, y1, y2, y3, by rw [show s.depth - 1 = e by omega]; exact hx⟩

set_option maxHeartbeats 1000000 in
set_option maxRecDepth 100000 in
/-- Get -/
theorem xGet (w : World) (T : Nat) (E : Nat → Prop) (l : KV) (b : Nat) (k : ByteArray) (h : Rep w T E l b) (hl : l.length ≤ 1000) :
    Calls Try.prog 17 #[Ptr T, .string k] w fun x w' => x = .returned (.tuple #[.int .i64 (if l.has k then l.num (l.pos k) else 0), .bool (l.has k)]) ∧ Below w.heap.size w w' := by
  obtain ⟨s, ⟨rv, fv, vs, h⟩, ok, _⟩ := h
  have WC := Lib.hid (xWay w T E s k ⟨rv, fv, vs, h⟩ (ok.walks k) (by have := ok.deep hl; omega))
  have FC := Lib.hid (show ∀ w1 v, OwnW w1 w.heap.size v (s.down k s.depth s.root) → Below w.heap.size w w1 → Calls Try.prog 23 #[Ptr T, v, .string k] w1 fun x w' => ∃ r, x = .returned r ∧ Below w.heap.size w w' ∧ (l.has k = false → r = .pointer none) ∧ (l.has k = true → ∃ b o, r = .pointer (some ⟨b, o, none⟩) ∧ w'.cell? ⟨b, o + 1, none⟩ = some (.int .i64 (l.num (l.pos k)))) from fun w1 v ho hb => by
    refine (xFind w1 T E s rv fv vs v k l (h.below hb) ok ho.sl hl).mono fun x w' ⟨r, h1, h2, h3, h4⟩ => ?_
    have hb2 : Below w.heap.size w w' := ⟨h2.os.trans hb.os, h2.tape.trans hb.tape, h2.output.trans hb.output, Nat.le_trans hb.size h2.size, fun i hi => (h2.block i (Nat.lt_of_lt_of_le hi hb.size)).trans (hb.block i hi)⟩
    refine ⟨r, h1, hb2, h3, fun t => ?_⟩
    obtain ⟨P, a, b, o, c, q1, q2, q3, q4, q5, q6, _⟩ := h4 t
    obtain ⟨b', o', c', e, W⟩ := (h.below hb2).win q2 (by omega)
    rw [q3] at e
    injection e with e1 _ e3
    injection e1 with e1
    injection e1 with e1 e4 _
    subst e1; subst e4; subst e3
    exact ⟨b, _, q1, by rw [← q6]; exact (W.cells a q4).2⟩)
  clear h ok
  cases hk : l.has k with
  | false =>
    have HK := Lib.hid hk
    clear hk
    go_enter Try.func17, Try.ntmps17
    go_wp2_with (first | (go_at_call 22; refine WC.out.mono ?_; rintro x w1 ⟨v, rfl, ho, hb⟩; have FC1 := Lib.hid (FC.out w1 v ho hb); clear ho hb) | (go_at_call 23; refine FC1.out.mono ?_; rintro x w2 ⟨r, rfl, hb, h3, _⟩; obtain rfl := h3 HK.out; have HB := Lib.hid hb; clear hb h3))
    go_ret2
    exact ⟨rfl, HB.out⟩
  | true =>
    have HK := Lib.hid hk
    clear hk
    go_enter Try.func17, Try.ntmps17
    go_wp2_with (first | (go_at_call 22; refine WC.out.mono ?_; rintro x w1 ⟨v, rfl, ho, hb⟩; have FC1 := Lib.hid (FC.out w1 v ho hb); clear ho hb) | (go_at_call 23; refine FC1.out.mono ?_; rintro x w2 ⟨r, rfl, hb, _, h4⟩; obtain ⟨b2, o2, rfl, c2⟩ := h4 HK.out; have HB := Lib.hid hb; clear hb h4))
    go_ret2
    exact ⟨rfl, HB.out⟩

end Go.Proofs.Ytdcjckdhjfnnhaa
