/- Proved parts: T9m T8ed T8q. Conditions: each theorem's own. -/
import Derived.Test.YtdcjckdhjfnnhaaM24
import Derived.Test.YtdcjckdhjfnnhaaM25
import Derived.Test.YtdcjckdhjfnnhaaM8
import Derived.Test.YtdcjckdhjfnnhaaM11
import Derived.Test.YtdcjckdhjfnnhaaM13
import Derived.Test.YtdcjckdhjfnnhaaM18
import Derived.Test.YtdcjckdhjfnnhaaM23
namespace Go.Proofs.Ytdcjckdhjfnnhaa
open Go.RowKit

/-- the table tells the keys l -/
def OkT (s : Tab) (l : KV) : Prop := (l = [] ∧ s = Tab.bare) ∨ ∃ L, Whole s L l ∧ RiseL l ∧ s.count = l.length
def Rep (w : World) (T : Nat) (E : Nat → Prop) (l : KV) (b : Nat) : Prop := ∃ s, TabG w T E s ∧ OkT s l ∧ s.nds.length + s.free.length ≤ b
def RepP (w : World) (T : Nat) (E : Nat → Prop) (l : KV) (b : Nat) (w' : World) : Prop := ∃ E' : Nat → Prop, Rep w' T E' l b ∧ (∀ k, E' k → E k ∨ w.heap.size ≤ k) ∧ Chg E w w'
theorem Rep.below {w w' : World} {T : Nat} {E : Nat → Prop} {l : KV} {b : Nat} (h : Rep w T E l b) (hb : Below w.heap.size w w') : Rep w' T E l b := by
  obtain ⟨s, h1, h2⟩ := h
  exact ⟨s, h1.below hb, h2⟩
theorem OkT.deep {s : Tab} {l : KV} (h : OkT s l) (hl : l.length ≤ 1000) : s.depth ≤ 10 := by
  rcases h with ⟨_, rfl⟩ | ⟨L, m, _, _⟩
  · exact Nat.zero_le _
  · have := m.depth_le
    by_cases c : s.depth ≤ 10
    · exact c
    · have : 2 ^ 10 ≤ 2 ^ (s.depth - 1) := Nat.pow_le_pow_right (by decide) (by omega)
      omega
theorem OkT.rise {s : Tab} {l : KV} (h : OkT s l) : RiseL l := by
  rcases h with ⟨rfl, _⟩ | ⟨_, _, h, _⟩
  · exact List.Pairwise.nil
  · exact h
theorem OkT.len {s : Tab} {l : KV} (h : OkT s l) : s.count = l.length := by
  rcases h with ⟨rfl, rfl⟩ | ⟨_, _, _, h⟩
  · rfl
  · exact h
theorem OkT.walks {s : Tab} {l : KV} (h : OkT s l) (k : ByteArray) : s.Walks k s.depth s.root := by
  rcases h with ⟨_, rfl⟩ | ⟨L, m, h0, _⟩
  · trivial
  · obtain ⟨_, _, _, _, w, _⟩ := m.get h0 k
    exact w
theorem has_nil (k : ByteArray) : KV.has k [] = false := rfl
theorem split_last {ws : List (Nat × Nat)} {e : Nat} {x : Nat × Nat} (h : ws.length = e + 1) (hx : ws.getD e (0, 0) = x) : ws = ws.take e ++ [x] := by
  have hl : e < ws.length := by omega
  have e1 : ws[e] = x := by rw [← hx, List.getD_eq_getElem?_getD, List.getElem?_eq_getElem hl]; rfl
  have e2 : ws = ws.take e ++ ws.drop e := (List.take_append_drop e ws).symm
  rw [List.drop_eq_getElem_cons hl, List.drop_of_length_le (by omega), e1] at e2
  exact e2
/-- find, along the whole way -/
theorem xFind (w : World) (T : Nat) (E : Nat → Prop) (s : Tab) (rv fv : Value) (vs : List Value) (v : Value) (k : ByteArray) (l : KV) (h : TabV w T E s rv fv vs) (ok : OkT s l) (hv : SlW w v (s.down k s.depth s.root)) (hl : l.length ≤ 1000) :
    Calls Try.prog 23 #[Ptr T, v, .string k] w fun x w' => ∃ r, x = .returned r ∧ Below w.heap.size w w' ∧ (l.has k = false → r = .pointer none) ∧
      (l.has k = true → ∃ P a b o c, r = .pointer (some ⟨b, o + a * 2, none⟩) ∧ P < vs.length ∧ nv vs P = .slice (some ⟨b, o, none⟩) (s.nd P).length c ∧ a < (s.nd P).length ∧ (s.nd P).key a = k ∧ (s.nd P).num a = l.num (l.pos k) ∧ (s.down k s.depth s.root).getD (s.depth - 1) (0, 0) = (P, a)) := by
  have dp := ok.deep hl
  rcases ok with ⟨rfl, rfl⟩ | ⟨L, m, h0, _⟩
  · exact (xFind0 w T v k hv).mono fun x w' ⟨h1, h2⟩ => ⟨_, h1, by rw [h2]; exact Below.refl _ _, fun _ => rfl, fun t => by rw [has_nil] at t; cases t⟩
  · obtain ⟨e, P, a, he, _, hw, hx, hP, h4, hy, hn⟩ := m.get h0 k
    have es := split_last hw hx
    rw [es] at hv
    have pl : P < vs.length := by rw [h.len]; exact hP
    refine (xFind1 w T E s rv fv vs v _ P a k h pl hv (by rw [List.length_take]; omega)).mono fun x w' ⟨r, h1, h2, h3⟩ => ⟨r, h1, h3, fun t => ?_, fun t => ?_⟩
    · unfold FindR at h2
      rw [List.getLast?_concat] at h2
      simp only at h2
      rw [if_neg (hn t)] at h2
      exact h2
    · obtain ⟨y1, y2, y3⟩ := hy t
      unfold FindR at h2
      rw [List.getLast?_concat] at h2
      simp only at h2
      rw [if_pos ⟨y1, y2⟩] at h2
      obtain ⟨b, o, c, q1, q2⟩ := h2
      exact ⟨P, a, b, o, c, q2, pl, q1, y1, y2, y3, by rw [show s.depth - 1 = e by omega]; exact hx⟩

set_option maxHeartbeats 1000000 in
set_option maxRecDepth 100000 in
/-- Get -/
theorem xGet (w : World) (T : Nat) (E : Nat → Prop) (l : KV) (b : Nat) (k : ByteArray) (h : Rep w T E l b) (hl : l.length ≤ 1000) :
    Calls Try.prog 17 #[Ptr T, .string k] w fun x w' => x = .returned (.tuple #[.int .i64 (if l.has k then l.num (l.pos k) else 0), .bool (l.has k)]) ∧ Below w.heap.size w w' := by
  obtain ⟨s, ⟨rv, fv, vs, h⟩, ok, _⟩ := h
  have WC := Lib.hid (xWay w T E s k ⟨rv, fv, vs, h⟩ (ok.walks k) (by have := ok.deep hl; omega))
  have FC := Lib.hid (show ∀ w1 v, OwnW w1 w.heap.size v (s.down k s.depth s.root) → Below w.heap.size w w1 → Calls Try.prog 23 #[Ptr T, v, .string k] w1 fun x w' => ∃ r, x = .returned r ∧ Below w.heap.size w w' ∧ (l.has k = false → r = .pointer none) ∧ (l.has k = true → ∃ b o, r = .pointer (some ⟨b, o, none⟩) ∧ w'.cell? ⟨b, o + 1, none⟩ = some (.int .i64 (l.num (l.pos k)))) from fun w1 v ho hb => by
    refine (xFind w1 T E s rv fv vs v k l (h.below hb) ok ho.sl hl).mono fun x w' ⟨r, h1, h2, h3, h4⟩ => ?_
    have hb2 : Below w.heap.size w w' := ⟨h2.os.trans hb.os, h2.tape.trans hb.tape, h2.output.trans hb.output, Nat.le_trans hb.size h2.size, fun i hi => (h2.block i (Nat.lt_of_lt_of_le hi hb.size)).trans (hb.block i hi)⟩
    refine ⟨r, h1, hb2, h3, fun t => ?_⟩
    obtain ⟨P, a, b, o, c, q1, q2, q3, q4, q5, q6, _⟩ := h4 t
    obtain ⟨b', o', c', e, W⟩ := (h.below hb2).win q2 (by omega)
    rw [q3] at e
    injection e with e1 _ e3
    injection e1 with e1
    injection e1 with e1 e4 _
    subst e1; subst e4; subst e3
    exact ⟨b, _, q1, by rw [← q6]; exact (W.cells a q4).2⟩)
  clear h ok
  cases hk : l.has k with
  | false =>
    have HK := Lib.hid hk
    clear hk
    go_enter Try.func17, Try.ntmps17
    go_wp2_with (first | (go_at_call 22; refine WC.out.mono ?_; rintro x w1 ⟨v, rfl, ho, hb⟩; have FC1 := Lib.hid (FC.out w1 v ho hb); clear ho hb) | (go_at_call 23; refine FC1.out.mono ?_; rintro x w2 ⟨r, rfl, hb, h3, _⟩; obtain rfl := h3 HK.out; have HB := Lib.hid hb; clear hb h3))
    go_ret2
    exact ⟨rfl, HB.out⟩
  | true =>
    have HK := Lib.hid hk
    clear hk
    go_enter Try.func17, Try.ntmps17
    go_wp2_with (first | (go_at_call 22; refine WC.out.mono ?_; rintro x w1 ⟨v, rfl, ho, hb⟩; have FC1 := Lib.hid (FC.out w1 v ho hb); clear ho hb) | (go_at_call 23; refine FC1.out.mono ?_; rintro x w2 ⟨r, rfl, hb, _, h4⟩; obtain ⟨b2, o2, rfl, c2⟩ := h4 HK.out; have HB := Lib.hid hb; clear hb h4))
    go_ret2
    exact ⟨rfl, HB.out⟩

end Go.Proofs.Ytdcjckdhjfnnhaa

namespace Go.Proofs.Ytdcjckdhjfnnhaa
open Go.RowKit

set_option maxRecDepth 100000 in
set_option maxHeartbeats 4000000 in
/-- Put of a key that isn't there, into a tree of one key at least -/
theorem rPutSS (p g c g2 c2 : Nat) (G : Nat → Prop) (k : ByteArray) (y : Int) (w : World) (h : RefT w G p []) (hr : RowAt w p [.slice (some ⟨g, 0, none⟩) 0 c, .slice (some ⟨g2, 0, none⟩) 0 c2] 30) :
    Calls Try.prog 9 #[.pointer (some ⟨p, 0, none⟩), .string k, .int .i64 y] w fun x w' => x = .returned (.tuple #[.int .i64 0, .bool false]) ∧ LeftT w G p [(k, y)] w' := by
  have AT := Lib.hid (show Calls Try.prog 14 #[.pointer (some ⟨p, 0, none⟩), .string k] w fun x w' => x = .returned (.tuple #[.int .i64 0, .bool false]) ∧ ∃ n, w' = w.drewN n from rAt p G [] k w h (by simp))
  have Gp : G p := by obtain ⟨_, _, _, _, _, h4, _⟩ := h; exact h4
  have R1 := Lib.hid hr
  have DK' := Lib.hid (show KV.ks [(k, y)] = [] ++ [k] ++ [] from rfl)
  have DN' := Lib.hid (show KV.ns [(k, y)] = [] ++ [y] ++ [] from rfl)
  have LT := Lib.hid (show p < w.heap.size from hr.lt)
  have GP := Lib.hid Gp
  clear h hr Gp
  go_enter Try.func9, Try.ntmps9
  go_wp2_with fail
  refine AT.out.mono ?_
  rintro x w1 ⟨rfl, m1, hw1⟩
  have B1 := Lib.hid (show Below w.heap.size w w1 by rw [hw1]; exact ⟨rfl, rfl, rfl, Nat.le_refl _, fun _ _ => rfl⟩)
  have Z1 := Lib.hid (show w1.heap.size = w.heap.size by rw [hw1]; rfl)
  have R2 := Lib.hid (R1.out.below B1.out)
  have d0 := R2.out.cell 0
  have d1 := R2.out.cell 1
  simp only [List.getElem?_cons_succ, List.getElem?_cons_zero] at d0 d1
  clear hw1
  have pl : p < w1.heap.size := by rw [Z1.out]; exact LT.out
  have PL := Lib.hid pl
  obtain ⟨B, hB⟩ : ∃ B, B = w1.heap.size := ⟨_, rfl⟩
  have OM := Lib.hid (show OwnS (w1.alloc (.cells #[] 9)) B (.slice (some ⟨w1.heap.size, 0, none⟩) 0 0) [] from OwnS.made w1 (by omega))
  have HB := Lib.hid hB
  clear hB
  have LB := Lib.hid (show p < B by rw [HB.out]; exact PL.out)
  go_wp2_with fail
  obtain ⟨w2, hw2⟩ : ∃ w2, w2 = w1.alloc (.cells #[] 9) := ⟨_, rfl⟩
  obtain ⟨w3, hw3⟩ : ∃ w3, w3 = w2.alloc (.cells #[] 3) := ⟨_, rfl⟩
  have z2 : w2.heap.size = w1.heap.size + 1 := by rw [hw2, World.size_alloc]
  rw [← hw2, ← hw3]
  obtain ⟨v1, hv1⟩ : ∃ v1, v1 = Value.slice (some ⟨w1.heap.size, 0, none⟩) 0 0 := ⟨_, rfl⟩
  obtain ⟨v2, hv2⟩ : ∃ v2, v2 = Value.slice (some ⟨w1.heap.size + 1, 0, none⟩) 0 0 := ⟨_, rfl⟩
  rw [← hv1, ← hv2]
  have o2 : OwnS w2 B v1 [] := by rw [hv1, hw2]; exact OM.out
  have o3 : OwnJ w3 w2.heap.size v2 [] := by rw [hv2, ← z2, hw3]; exact OwnJ.made w2 _ (Nat.le_refl _)
  have B2 := Lib.hid (show Below B w1 w2 by rw [hw2]; exact (Below.refl B w1).alloc (by rw [HB.out]; exact Nat.le_refl _) _)
  have bb : Below w2.heap.size w2 w3 := by rw [hw3]; exact (Below.refl _ w2).alloc (Nat.le_refl _) _
  have B3 := Lib.hid bb
  have O3 := Lib.hid o3
  have O2' := Lib.hid (o2.below bb)
  have R3 := Lib.hid (show RowAt w2 p _ _ from (B2.out.block p LB.out).trans R2.out)
  have R4 := Lib.hid (R3.out.below bb)
  have SB := Lib.hid (show B ≤ w2.heap.size by rw [HB.out]; exact B2.out.size)
  have SC := Lib.hid (show B ≤ w3.heap.size from Nat.le_trans SB.out bb.size)
  have pl := R4.out.lt
  have d0 := R4.out.cell 0
  have d1 := R4.out.cell 1
  have f0 := R4.out.frozen 0
  simp only [List.getElem?_cons_succ, List.getElem?_cons_zero] at d0 d1
  clear o2 o3 hw2 hw3 z2 hv1 hv2 bb
  go_region_law (first
      | (refine step_appS rfl (.tmp 52) (.tmp 54) rfl B v1 [] [k] rfl (World.ownsRow.alloc (w := w3) O2'.out _) _ _ rfl (slS_one _ k _) (by simp) (by show B ≤ (w3.alloc _).heap.size; rw [World.size_alloc]; exact Nat.le_succ_of_le SC.out) ?_
         intro v3 w4 ho hg hb
         have bb : Below B w3 w4 := ((Below.refl B w3).alloc (by exact SC.out) _).drew.trans hb
         have oa := Lib.hid (show OwnJ (w3.alloc (.cells #[.string k] 9)).drew w2.heap.size v2 [] from World.ownsRow.alloc (w := w3) O3.out _)
         have ob := Lib.hid (show OwnS (w3.alloc (.cells #[.string k] 9)).drew B v1 [] from World.ownsRow.alloc (w := w3) O2'.out _)
         have O3s := Lib.hid (oa.out.keepB (w' := w4) fun j hj => hg.block j (oa.out.ltB j hj).2 (fun e => ownSJ_ne ob.out oa.out e.symm hj))
         have O4w := Lib.hid ho
         have B4 := Lib.hid bb
         have R5 := Lib.hid (show RowAt w4 p _ _ from (bb.block p LB.out).trans R4.out)
         have SD := Lib.hid (show B ≤ w4.heap.size from Nat.le_trans SC.out bb.size)
         have SX := Lib.hid (show w3.heap.size ≤ w4.heap.size from bb.size)
         have pl := R5.out.lt
         have d0 := R5.out.cell 0
         have d1 := R5.out.cell 1
         simp only [List.getElem?_cons_succ, List.getElem?_cons_zero] at d0 d1
         clear ho hg hb bb oa ob)
      | (refine step_appSm rfl (.tmp 55) (.tmp 61) rfl B v3 ([] ++ [k]) [] rfl O4w.out _ _ _ (by first | rfl | simp) rfl (fun hn => absurd hn (by simp)) (by simp) SD.out ?_
         intro v4 w5 ho hg hb
         obtain ⟨A4, c4, ev, _⟩ := ho.sl
         obtain ⟨N4, hN4⟩ : ∃ N4, N4 = ([] ++ [k] ++ []).length := ⟨_, rfl⟩
         have O3t := Lib.hid ((O3s.out.keepB (w' := w5) fun j hj => hg.block j (O3s.out.ltB j hj).2 (fun e => ownSJ_ne O4w.out O3s.out e.symm hj)).setCell (p := ⟨p, 0, none⟩) (Nat.lt_of_lt_of_le LB.out SB.out) v4)
         have O5 := Lib.hid (ho.setCell (p := ⟨p, 0, none⟩) LB.out v4)
         have B5 := Lib.hid hb
         have R6 := Lib.hid (show RowAt w5 p _ _ from (hb.block p LB.out).trans R5.out)
         have R7 := Lib.hid (R6.out.set 0 v4)
         have SE := Lib.hid (show w2.heap.size ≤ (w5.setCell ⟨p, 0, none⟩ v4).heap.size by rw [World.size_setCell]; exact Nat.le_trans B3.out.size (Nat.le_trans SX.out hb.size))
         have pl := R6.out.lt
         have d0 := R6.out.cell 0
         have d1 := R6.out.cell 1
         have f0 := R6.out.frozen 0
         have e0 := R7.out.cell 0
         have e1 := R7.out.cell 1
         have el := R7.out.lt
         simp only [List.getElem?_cons_succ, List.getElem?_cons_zero, List.set_cons_zero] at d0 d1 e0 e1
         rw [← hN4] at ev
         subst ev
         have HN := Lib.hid hN4
         clear ho hg hb hN4))
  all_goals (
    have C6 := Lib.hid (show Chg G w (w5.setCell ⟨p, 0, none⟩ (.slice A4 N4 c4)) from
      (((((Chg.of_below B1.out).belowB (by rw [HB.out, Z1.out]; exact Nat.le_refl _) B2.out).belowB (Nat.le_trans (by rw [HB.out, Z1.out]; exact Nat.le_refl _) SB.out) B3.out).belowB (by rw [HB.out, Z1.out]; exact Nat.le_refl _) B4.out).belowB (by rw [HB.out, Z1.out]; exact Nat.le_refl _) B5.out).setCell (.inl GP.out) _)
    obtain ⟨w6, hw6⟩ : ∃ w6, w6 = w5.setCell ⟨p, 0, none⟩ (.slice A4 N4 c4) := ⟨_, rfl⟩
    rw [← hw6] at O3t O5 R7 SE e0 e1 el C6 ⊢
    have PB := Lib.hid (show p < w2.heap.size from Nat.lt_of_lt_of_le LB.out SB.out)
    clear hw6 d0 d1 f0 pl
    have pl := el
    go_wp2_with fail)
  all_goals (
    go_region_law (first
      | (refine step_appJ rfl (.tmp 66) (.tmp 68) rfl w2.heap.size v2 [] [y] rfl (World.ownsRow.alloc (w := w6) O3t.out _) _ _ rfl (slJ_one _ y _) (by simp) (by show w2.heap.size ≤ (w6.alloc _).heap.size; rw [World.size_alloc]; exact Nat.le_succ_of_le SE.out) ?_
         intro v5 w7 ho hg hb
         have bb : Below w2.heap.size w6 w7 := ((Below.refl _ w6).alloc SE.out _).drew.trans hb
         have oa := Lib.hid (show OwnJ (w6.alloc (.cells #[.int .i64 y] 3)).drew w2.heap.size v2 [] from World.ownsRow.alloc (w := w6) O3t.out _)
         have ob := Lib.hid (show OwnS (w6.alloc (.cells #[.int .i64 y] 3)).drew B (.slice A4 N4 c4) ([] ++ [k] ++ []) from World.ownsRow.alloc (w := w6) O5.out _)
         have O5s := Lib.hid (ob.out.keepV (w' := w7) fun j hj => hg.block j (World.ownsRow.lt ob.out j hj).2 (fun e => ownSJ_ne ob.out oa.out hj e.symm))
         have O6w := Lib.hid ho
         have B7 := Lib.hid bb
         have R8 := Lib.hid (show RowAt w7 p _ _ from (bb.block p PB.out).trans R7.out)
         have SF := Lib.hid (show w2.heap.size ≤ w7.heap.size from Nat.le_trans SE.out bb.size)
         have pl := R8.out.lt
         have d0 := R8.out.cell 0
         have d1 := R8.out.cell 1
         simp only [List.getElem?_cons_succ, List.getElem?_cons_zero, List.set_cons_zero] at d0 d1
         clear ho hg hb bb oa ob)
      | (refine step_appJm rfl (.tmp 69) (.tmp 75) rfl w2.heap.size v5 ([] ++ [y]) [] rfl O6w.out _ _ _ (by first | rfl | simp) rfl (fun hn => absurd hn (by simp)) (by simp) SF.out ?_
         intro v6 w8 ho hg hb
         obtain ⟨A6, c6, ev, _⟩ := ho.form
         obtain ⟨N6, hN6⟩ : ∃ N6, N6 = ([] ++ [y] ++ []).length := ⟨_, rfl⟩
         have O7 := Lib.hid (ho.setCell (p := ⟨p, 1, none⟩) PB.out v6)
         have O5t := Lib.hid ((O5s.out.keepV (w' := w8) fun j hj => hg.block j (World.ownsRow.lt O5s.out j hj).2 (fun e => ownSJ_ne O5s.out O6w.out hj e.symm)).setCell (p := ⟨p, 1, none⟩) LB.out v6)
         have B8 := Lib.hid hb
         have R9 := Lib.hid (show RowAt w8 p _ _ from (hb.block p PB.out).trans R8.out)
         have R10 := Lib.hid (R9.out.set 1 v6)
         have pl := R9.out.lt
         have d0 := R9.out.cell 0
         have d1 := R9.out.cell 1
         have f1 := R9.out.frozen 1
         simp only [List.getElem?_cons_succ, List.getElem?_cons_zero, List.set_cons_zero] at d0 d1
         rw [← hN6] at ev
         subst ev
         have HM := Lib.hid hN6
         clear ho hg hb hN6)))
  all_goals go_wp2_with fail
  all_goals go_ret2
  all_goals exact ⟨rfl, LeftT.of (B := B) (C := w2.heap.size) (by rw [HB.out, Z1.out]; exact Nat.le_refl _) LB.out GP.out O5t.out O7.out SB.out DK'.out DN'.out R10.out
      (((C6.out.belowB (Nat.le_trans (by rw [HB.out, Z1.out]; exact Nat.le_refl _) SB.out) B7.out).belowB (Nat.le_trans (by rw [HB.out, Z1.out]; exact Nat.le_refl _) SB.out) B8.out).setCell (.inl GP.out) _)⟩

end Go.Proofs.Ytdcjckdhjfnnhaa

namespace Go.Proofs.Ytdcjckdhjfnnhaa
open Go.RowKit

/-- Put -/
theorem rPut (p : Nat) (G : Nat → Prop) (l : KV) (k : ByteArray) (y : Int) (w : World) (h : RefT w G p l) (hl : l.length ≤ 100000) :
    Calls Try.prog 9 #[.pointer (some ⟨p, 0, none⟩), .string k, .int .i64 y] w fun x w' => x = .returned (.tuple #[.int .i64 (if l.has k then l.num (l.pos k) else 0), .bool (l.has k)]) ∧ LeftT w G p (l.put k y) w' := by
  cases hh : l.has k with
  | true =>
    rw [if_pos rfl]
    exact rPutOld p G l k y w h hl hh
  | false =>
    rw [if_neg (by decide)]
    cases l with
    | cons a l => exact rPutNew p G (a :: l) k y w h hl (by simp) hh
    | nil =>
      have e : KV.put [] k y = [(k, y)] := rfl
      rw [e]
      have h' := h
      obtain ⟨vk, vn, h1, h2, h3, _⟩ := h'
      rcases h2.2 with ⟨rfl, _⟩ | ⟨g, c, cur, rfl, _⟩
      · rcases h3.2 with ⟨rfl, _⟩ | ⟨g2, c2, cur2, rfl, _⟩
        · exact rPutNN p G k y w h h1
        · exact rPutNS p g2 c2 G k y w h h1
      · rcases h3.2 with ⟨rfl, _⟩ | ⟨g2, c2, cur2, rfl, _⟩
        · exact rPutSN p g c G k y w h h1
        · exact rPutSS p g c g2 c2 G k y w h h1

end Go.Proofs.Ytdcjckdhjfnnhaa
