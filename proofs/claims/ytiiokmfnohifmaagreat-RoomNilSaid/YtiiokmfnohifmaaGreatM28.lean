/- Proved parts: T9s T9v T9n T9f T8l T9q. Conditions: each theorem's own. -/
import Derived.Test.YtiiokmfnohifmaaGreatM27
import Derived.BigQuiet
namespace Go.Proofs.YtiiokmfnohifmaaGreat
open Go.RowKit

section
variable {w w' : World} {T : Nat} {E : Nat → Prop} {s : Tab} {rv fv : Value} {vs : List Value}
/-- an item of a node turns -/
theorem TabV.item {p i j b o c : Nat} {u : Value} (y : ByteArray × Int) (h : TabV w T E s rv fv vs) (hp : p < vs.length) (ev : tnv vs p = .slice (some ⟨b, o, none⟩) (s.nd p).length c) (hi : i < (s.nd p).length) (hj : j < 2) (hy : (it2 (s.nd p)[i]).set j u = it2 y) :
    TabV (w.setCell ⟨b, o + (i * 2 + j), none⟩ u) T E (s.put p ((s.nd p).set i y)) rv fv vs := by
  have hw : WinAt w b o c (s.nd p) := by
    obtain ⟨b', o', c', e, k⟩ := h.win hp (by omega)
    rw [ev] at e
    injection e with e1 _ e3
    injection e1 with e1
    injection e1 with e1 e4 _
    subst e1; subst e4; subst e3; exact k
  have hfit := hw.fit
  have iw : InWin (tnv vs p) b (o + (i * 2 + j)) := by rw [ev]; exact ⟨o, _, c, rfl, by omega, by omega⟩
  have hW := h.eW p b _ hp iw
  have t : Turn (fun k m => k = b ∧ m = o + (i * 2 + j)) w (w.setCell ⟨b, o + (i * 2 + j), none⟩ u) := (Turn.setCells w b (o + (i * 2 + j)) [u]).mono fun k m ⟨h1, h2, h3⟩ => ⟨h1, by simp at h3; omega⟩
  have kb : ∀ k, k ≠ b → (w.setCell ⟨b, o + (i * 2 + j), none⟩ u).heap[k]? = w.heap[k]? := fun k q => Below.heap_setCell _ _ _ _ q
  have hwn : WinAt (w.setCell ⟨b, o + (i * 2 + j), none⟩ u) b o c ((s.nd p).set i y) := by
    refine ⟨by rw [List.length_set]; exact hfit, hw.cap, hw.pos, ?_, fun m hm => t.there _ _ hw.plain.lt (hw.there m hm), hw.plain.setCell _ _⟩
    have e : itc ((s.nd p).set i y) = (itc (s.nd p)).set (i * 2 + j) u := (flat_set (f := it2) (n := 2) (fun _ => rfl) (s.nd p) i j u y hi hj hy).symm
    rw [e]
    intro m v hm
    rw [List.getElem?_set] at hm
    by_cases q : i * 2 + j = m
    · subst q
      rw [if_pos rfl] at hm
      split at hm
      · injection hm with hm
        subst hm
        exact World.cell?_setCell_same' _ _ _ (hw.there _ (by omega))
      · cases hm
    · rw [if_neg q] at hm
      rw [t.cell b (o + m) hw.plain.lt (fun ⟨_, e⟩ => q (by omega))]
      exact hw.row m v hm
  refine ⟨(kb T (Ne.symm hW.2.1)).trans h.row, own_keep h.nodes fun k e => kb k (fun t => hW.2.2.1 (by rw [← t]; exact e)), own_keep h.free fun k e => kb k (fun t => hW.2.2.2 (by rw [← t]; exact e)), by rw [h.len]; show _ = (s.nds.set p _).length; rw [List.length_set], fun l hl => ?_, h.apart, h.eT, h.eN, h.eF, h.eW, fun k e => ?_⟩
  · rw [Tab.put_nd (by rw [← h.len]; exact hp)]
    by_cases q : l = p
    · rw [if_pos q, q, ev]
      exact .inr ⟨b, o, c, by rw [List.length_set], hwn⟩
    · rw [if_neg q]
      exact (h.node l hl).turn t fun k m f ⟨e1, e2⟩ => by
        subst e1; subst e2
        exact q (h.apart l p _ _ hl hp f iw)
  · have : (w.setCell ⟨b, o + (i * 2 + j), none⟩ u).heap.size = w.heap.size := by simp [World.setCell]
    rw [this]; exact h.lt k e
end
theorem KV.getE (l : KV) (i : Nat) (hi : i < l.length) : l[i] = (l.key i, l.num i) := by
  unfold KV.key KV.num
  rw [List.getD_eq_getElem?_getD, List.getElem?_eq_getElem hi]; rfl

/-- a step's two cells -/
def st2 (x : Nat × Nat) : List Value := [.int .i64 x.1, .int .i64 x.2]
def stc (l : List (Nat × Nat)) : List Value := l.flatMap st2
theorem infoSt : (Tryz.prog.info? 190).map (fun i => (i.zero, i.size, i.bytes)) = some (some (.agg #[.int .i64 0, .int .i64 0]), 2, 16) := by kernel_rfl
/-- the slice v holds the steps -/
def SlW (w : World) (v : Value) (ws : List (Nat × Nat)) : Prop := ∃ A c, v = .slice A ws.length c ∧ ∀ j, j < ws.length → ∃ g, A = some ⟨g, 0, none⟩ ∧ w.cell? ⟨g, j * 2, none⟩ = some (.int .i64 (ws.getD j (0, 0)).1) ∧ w.cell? ⟨g, j * 2 + 1, none⟩ = some (.int .i64 (ws.getD j (0, 0)).2)
def OwnW (w : World) (B : Nat) (v : Value) (ws : List (Nat × Nat)) : Prop := w.ownsRow B 190 2 v ws.length (stc ws)
theorem OwnW.sl {w : World} {B : Nat} {v : Value} {ws : List (Nat × Nat)} (h : OwnW w B v ws) : SlW w v ws := by
  have h1 := h
  rcases h.2 with ⟨rfl, h0⟩ | ⟨g, cap, cur, rfl, hB, hg, _⟩
  · exact ⟨none, 0, by rw [h0], fun j hj => by omega⟩
  · refine ⟨_, cap, rfl, fun j hj => ⟨g, rfl, ?_, ?_⟩⟩
    · have := flat_at (f := st2) (n := 2) (fun _ => rfl) ws j 0 hj (by decide)
      unfold OwnW at h1
      rw [show j * 2 = j * 2 + 0 from rfl, h1.cellAt (j * 2 + 0) (by omega), List.getD_eq_getElem?_getD, List.getElem?_eq_getElem hj]
      exact this
    · have := flat_at (f := st2) (n := 2) (fun _ => rfl) ws j 1 hj (by decide)
      unfold OwnW at h1
      rw [h1.cellAt (j * 2 + 1) (by omega), List.getD_eq_getElem?_getD, List.getElem?_eq_getElem hj]
      exact this
set_option maxRecDepth 100000 in
/-- append(way, step) -/
theorem wp_putW {w : World} {B : Nat} {ops : Array Oper} {rest : List Oper} {o : Oper} {a : Act} {Q : Exit → Act → World → Prop} (hgd : o.guard = none) (s x : Operand)
    (ho : o.op = .call { callee := .builtin .append, args := #[s, x], argTypes := #[167, 167] })
    (v : Value) (zs : List (Nat × Nat)) (hs : a.eval s = v) (hown : OwnW w B v zs) (hB : B ≤ w.heap.size) (g : Nat) (y : Nat × Nat) (hx : a.eval x = .slice (some ⟨g, 0, none⟩) 1 1)
    (hc : w.cell? ⟨g, 0, none⟩ = some (.int .i64 y.1)) (hc1 : w.cell? ⟨g, 1, none⟩ = some (.int .i64 y.2)) (hl : zs.length ≤ 1000000)
    (h : ∀ A' c' w', OwnW w' B (.slice A' (zs.length + 1) c') (zs ++ [y]) → w.grownBy w' v.ownBlock → wpList Tryz.prog ops Q rest (a.put o.dst (.slice A' (zs.length + 1) c')) w') : wpList Tryz.prog ops Q (o :: rest) a w := by
  obtain ⟨i0, hi, hz0, hz1, hz2⟩ := info_parts infoSt
  refine wpList_append_own_at w hgd s x 167 ho B 190 i0 _ 2 16 Tryz.underlying167 hi hz0 hz1 hz2 rfl (by decide) v zs.length _ hs hown ⟨g, 0, none⟩ 1 1 (st2 y) hx rfl ?_ ?_
    (by unfold maxLen; omega) (by omega) hB ?_
  · intro j u hj
    match j, hj with
    | 0, hj => injection hj with hj; subst hj; exact hc
    | 1, hj => injection hj with hj; subst hj; exact hc1
  · intro u hu
    unfold st2 at hu
    simp at hu
    rcases hu with rfl | rfl <;> rfl
  · intro v' w' h1 h2 _ _
    have e : stc zs ++ st2 y = stc (zs ++ [y]) := by unfold stc; simp
    rw [e] at h1
    have e2 : zs.length + 1 = (zs ++ [y]).length := by simp
    rcases h1.2 with ⟨_, q⟩ | ⟨g', cap, cur, rfl, _⟩
    · omega
    · exact h _ cap w' (by unfold OwnW; rw [← e2]; exact h1) h2
/-- the steps from a node down -/
def Tab.down (s : Tab) (k : ByteArray) : Nat → Nat → List (Nat × Nat)
  | 0, _ => []
  | 1, p => [(p, (s.nd p).pos k)]
  | d + 2, p => (p, (s.nd p).kid k) :: s.down k (d + 1) ((s.nd p).num ((s.nd p).kid k)).toNat
/-- nothing is amiss on the way -/
def Tab.Walks (s : Tab) (k : ByteArray) : Nat → Nat → Prop
  | 0, _ => True
  | 1, p => p < s.nds.length ∧ (s.nd p).length ≤ 100000
  | d + 2, p => p < s.nds.length ∧ (s.nd p).length ≤ 100000 ∧ (s.nd p).kid k < (s.nd p).length ∧ ∃ q : Nat, (s.nd p).num ((s.nd p).kid k) = q ∧ s.Walks k (d + 1) q

end Go.Proofs.YtiiokmfnohifmaaGreat

namespace Go.Proofs.YtiiokmfnohifmaaGreat
open Go.RowKit

theorem below_grown {B : Nat} {w w1 w2 : World} {r : Option Nat} (h : Below B w w1) (g : w1.grownBy w2 r) (hr : ∀ k, r = some k → B ≤ k) (hs : B ≤ w1.heap.size) : Below B w w2 :=
  ⟨g.os.trans h.os, g.tape.trans h.tape, g.output.trans h.output, Nat.le_trans h.size g.size, fun k hk => (g.block k (by omega) (fun e => by have := hr k e.symm; omega)).trans (h.block k hk)⟩
def slLen : Value → Nat
  | .slice _ n _ => n
  | _ => 0
/-- what find tells: the item's place in memory -/
def FindR (vs : List Value) (s : Tab) (ws : List (Nat × Nat)) (k : ByteArray) (r : Value) : Prop :=
  match ws.getLast? with
  | none => r = .pointer none
  | some x => if x.2 < (s.nd x.1).length ∧ (s.nd x.1).key x.2 = k then ∃ b o c, tnv vs x.1 = .slice (some ⟨b, o, none⟩) (s.nd x.1).length c ∧ r = .pointer (some ⟨b, o + x.2 * 2, none⟩) else r = .pointer none

set_option maxRecDepth 100000 in
/-- find, of no way -/
theorem xFind0 (w : World) (T : Nat) (v : Value) (k : ByteArray) (hv : SlW w v []) :
    Calls Tryz.prog 126 #[Ptr T, v, .string k] w fun x w' => x = .returned (.pointer none) ∧ w' = w := by
  obtain ⟨A, c, rfl, _⟩ := hv
  go_enter Tryz.func126, Tryz.ntmps126
  go_wp2_with fail
  go_ret
  exact ⟨rfl, rfl⟩

set_option maxHeartbeats 1000000 in
set_option maxRecDepth 100000 in
/-- find, of some way -/
theorem xFind1 (w : World) (T : Nat) (E : Nat → Prop) (s : Tab) (rv fv : Value) (vs : List Value) (v : Value) (ws0 : List (Nat × Nat)) (p a : Nat) (k : ByteArray) (h : TabV w T E s rv fv vs) (hp : p < vs.length) (hv : SlW w v (ws0 ++ [(p, a)])) (hw : ws0.length ≤ 100000) :
    Calls Tryz.prog 126 #[Ptr T, v, .string k] w fun x w' => ∃ r, x = .returned r ∧ FindR vs s (ws0 ++ [(p, a)]) k r ∧ Below w.heap.size w w' := by
  have HF : ∀ r, FindR vs s (ws0 ++ [(p, a)]) k r ↔ (if a < (s.nd p).length ∧ (s.nd p).key a = k then ∃ b o c, tnv vs p = .slice (some ⟨b, o, none⟩) (s.nd p).length c ∧ r = .pointer (some ⟨b, o + a * 2, none⟩) else r = .pointer none) := fun r => by
    unfold FindR
    rw [List.getLast?_concat]
  obtain ⟨g, c, rfl, _, _, hc⟩ := h.rowAt (by omega)
  have c0 := h.row.cell 0
  simp only [List.getElem?_cons_zero] at c0
  have c1 := (hc p hp).1
  obtain ⟨A, cp, e, hi⟩ := (h.node p hp).form
  rw [e] at c1
  obtain ⟨Aw, cw, rfl, hs⟩ := hv
  obtain ⟨gw, rfl, cw1, cw2⟩ := hs ws0.length (by simp)
  have eg : (ws0 ++ [(p, a)]).getD ws0.length (0, 0) = (p, a) := by rw [List.getD_eq_getElem?_getD, List.getElem?_concat_length]; rfl
  rw [eg] at cw1 cw2
  simp only at cw1 cw2
  obtain ⟨m, hm⟩ : ∃ m, m = ws0.length := ⟨_, rfl⟩
  have el : (ws0 ++ [(p, a)]).length = m + 1 := by simp [hm]
  rw [el]
  rw [← hm] at cw1 cw2 hw
  obtain ⟨n, hn⟩ : ∃ n, n = vs.length := ⟨_, rfl⟩
  obtain ⟨z, hz⟩ : ∃ z, z = (s.nd p).length := ⟨_, rfl⟩
  obtain ⟨K, hK⟩ : ∃ K, K = (s.nd p).key a := ⟨_, rfl⟩
  have HI : a < z → ∃ b o, A = some ⟨b, o, none⟩ ∧ w.cell? ⟨b, o + a * 2, none⟩ = some (.string K) := fun q => by
    obtain ⟨b, o, e1, e2, _⟩ := hi a (by omega)
    exact ⟨b, o, e1, by rw [hK]; exact e2⟩
  rw [← hn] at c0 hp
  rw [← hz] at c1 e
  rw [← hz, ← hK] at HF
  have HF' := Lib.hid HF
  have EV := Lib.hid e
  have mi : (m : Int) + 1 - 1 = (m : Int) := by omega
  have m0 : ¬ ((m : Int) + 1 = 0) := by omega
  have bw : Below w.heap.size w ((w.alloc (.cells #[.int .i64 p, .int .i64 a] 190))) := (Below.refl _ _).alloc (Nat.le_refl _) _
  obtain ⟨q7, hq7⟩ : ∃ q7, q7 = w.heap.size := ⟨_, rfl⟩
  obtain ⟨w1, hw1⟩ : ∃ w1, w1 = w.alloc (.cells #[.int .i64 p, .int .i64 a] 190) := ⟨_, rfl⟩
  rw [← hw1] at bw
  have r1 : RowAt w1 q7 [.int .i64 p, .int .i64 a] 190 := by rw [hw1, hq7]; exact RowAt.new w _ _
  have C1 := Lib.hid (show ∀ nq, (w1.drewN nq).cell? ⟨T, 0, none⟩ = some (.slice (some ⟨g, 0, none⟩) n c) ∧ (w1.drewN nq).cell? ⟨g, p, none⟩ = some (.slice A z cp) ∧ (w1.drewN nq).cell? ⟨q7, 0, none⟩ = some (.int .i64 p) ∧ (w1.drewN nq).cell? ⟨q7, 1, none⟩ = some (.int .i64 a) from fun nq =>
    ⟨(bw.cell (p := ⟨T, 0, none⟩) (block_lt_of_cell c0)).trans c0, (bw.cell (p := ⟨g, p, none⟩) (block_lt_of_cell c1)).trans c1, r1.cell 0, r1.cell 1⟩)
  have HI1 := Lib.hid (show a < z → ∃ b o, A = some ⟨b, o, none⟩ ∧ ∀ nq, (w1.drewN nq).cell? ⟨b, o + a * 2, none⟩ = some (.string K) from fun q => by
    obtain ⟨b, o, e1, e2⟩ := HI q
    exact ⟨b, o, e1, fun nq => (bw.cell (p := ⟨b, o + a * 2, none⟩) (block_lt_of_cell e2)).trans e2⟩)
  have BW := Lib.hid bw
  have HW1 := Lib.hid hw1
  have HQ7 := Lib.hid hq7
  clear hi hc h hs eg el hn hm hz hK HF e bw HI hw1 hq7 r1
  go_enter Tryz.func126, Tryz.ntmps126
  go_wp2_with fail
  rw [← HW1.out, ← HQ7.out]
  obtain ⟨d0, d1, d2, d3⟩ := C1.out 0
  simp only [World.cell?_drewN] at d0 d1 d2 d3
  clear c0 c1 cw1 cw2
  go_quiet (fail)
  obtain ⟨W, hW⟩ : ∃ W, W = w1.drewN nq := ⟨_, rfl⟩
  obtain ⟨e0, e1, e2, e3⟩ := C1.out nq
  rw [← hW] at e0 e1 e2 e3 ⊢
  have BW2 := Lib.hid (show Below w.heap.size w W by rw [hW]; exact below_drewN BW.out nq)
  have HIW := Lib.hid (show a < z → ∃ b o, A = some ⟨b, o, none⟩ ∧ W.cell? ⟨b, o + a * 2, none⟩ = some (.string K) from fun q => by
    obtain ⟨b, o, e1, e2⟩ := HI1.out q
    exact ⟨b, o, e1, by rw [hW]; exact e2 nq⟩)
  clear hW d0 d1 d2 d3
  by_cases q : a < z
  · obtain ⟨b, o, rfl, cb⟩ := HIW.out q
    by_cases e : K = k
    · have ek : (K.toList == k.toList) = true := str_eq e
      have F := Lib.hid ((HF'.out (.pointer (some ⟨b, o + a * 2, none⟩))).2 (by rw [if_pos ⟨q, e⟩]; exact ⟨b, o, cp, EV.out, rfl⟩))
      clear e
      go_wp2_with fail
      go_ret
      exact ⟨_, rfl, F.out, BW2.out⟩
    · have ek : (K.toList == k.toList) = false := str_ne e
      have F := Lib.hid ((HF'.out (.pointer none)).2 (by rw [if_neg (fun t => e t.2)]))
      clear e
      go_wp2_with fail
      go_ret
      exact ⟨_, rfl, F.out, BW2.out⟩
  · have F := Lib.hid ((HF'.out (.pointer none)).2 (by rw [if_neg (fun t => q t.1)]))
    go_wp2_with fail
    go_ret
    exact ⟨_, rfl, F.out, BW2.out⟩

theorem OwnW.form {w : World} {B : Nat} {v : Value} {ws : List (Nat × Nat)} (h : OwnW w B v ws) : ∃ A c, v = .slice A ws.length c := by obtain ⟨A, c, e, _⟩ := h.sl; exact ⟨A, c, e⟩
theorem OwnW.block {w : World} {B : Nat} {v : Value} {ws : List (Nat × Nat)} (h : OwnW w B v ws) : ∀ k, v.ownBlock = some k → B ≤ k := fun k e => (World.ownsRow.lt h k e).1
set_option maxHeartbeats 1000000 in
set_option maxRecDepth 100000 in
/-- way -/
theorem xWay (w : World) (T : Nat) (E : Nat → Prop) (s : Tab) (k : ByteArray) (h : TabG w T E s) (hk : s.Walks k s.depth s.root) (hd : s.depth ≤ 100000) :
    Calls Tryz.prog 125 #[Ptr T, .string k] w fun x w' => ∃ v, x = .returned v ∧ OwnW w' w.heap.size v (s.down k s.depth s.root) ∧ Below w.heap.size w w' := by
  obtain ⟨rv, fv, vs, h⟩ := h
  obtain ⟨D, hD⟩ : ∃ D, D = s.depth := ⟨_, rfl⟩
  obtain ⟨R, hR⟩ : ∃ R, R = s.root := ⟨_, rfl⟩
  obtain ⟨B, hB⟩ : ∃ B, B = w.heap.size := ⟨_, rfl⟩
  have H := Lib.hid h
  have C := Lib.hid (show ∀ w', Below w.heap.size w w' → w'.cell? ⟨T, 3, none⟩ = some (.int .i64 D) ∧ w'.cell? ⟨T, 2, none⟩ = some (.int .i64 R) from fun w' hb => by
    have q := (h.below hb).row
    rw [hD, hR]; exact ⟨q.cell 3, q.cell 2⟩)
  have NC := Lib.hid (show ∀ p, p < s.nds.length → ∃ N g c A cp, p < N ∧ ∀ w', Below w.heap.size w w' → w'.cell? ⟨T, 0, none⟩ = some (.slice (some ⟨g, 0, none⟩) N c) ∧ w'.cell? ⟨g, p, none⟩ = some (.slice A (s.nd p).length cp) ∧ NodeAt w' (.slice A (s.nd p).length cp) (s.nd p) ∧ ∀ j, j < (s.nd p).length → ∃ b o, A = some ⟨b, o, none⟩ ∧ w'.cell? ⟨b, o + j * 2 + 1, none⟩ = some (.int .i64 ((s.nd p).num j)) from fun p hp => by
    have hp' : p < vs.length := by rw [h.len]; exact hp
    obtain ⟨g, c, hrv, _, _, hc⟩ := h.rowAt (by omega)
    obtain ⟨A, cp, e, hi⟩ := (h.node p hp').form
    refine ⟨vs.length, g, c, A, cp, hp', fun w' hb => ?_⟩
    have h' := h.below hb
    refine ⟨?_, ?_, ?_, fun j hj => ?_⟩
    · have := h'.row.cell 0
      simp only [List.getElem?_cons_zero] at this
      rw [hrv] at this; exact this
    · obtain ⟨g', c', e', _, _, hc'⟩ := h'.rowAt (by omega)
      rw [hrv] at e'
      injection e' with e1 _ _
      injection e1 with e1
      injection e1 with e1 _ _
      subst e1
      rw [← e]; exact (hc' p hp').1
    · rw [← e]; exact h'.node p hp'
    · obtain ⟨b, o, e1, _, e2⟩ := hi j hj
      exact ⟨b, o, e1, (hb.cell (p := ⟨b, o + j * 2 + 1, none⟩) (block_lt_of_cell e2)).trans e2⟩)
  have HK := Lib.hid hk
  have B0 := Lib.hid (Below.refl w.heap.size w)
  have c3 := (C.out w B0.out).1
  have c2 := (C.out w B0.out).2
  rw [← hD, ← hR] at HK
  rw [← hD] at hd
  rw [← hD, ← hR, ← hB]
  rw [← hB] at C NC B0
  obtain ⟨WS, hWS⟩ : ∃ WS, WS = s.down k D R := ⟨_, rfl⟩
  have HWS := Lib.hid hWS
  rw [← hWS]
  have HB := Lib.hid hB
  clear h hk hD hR hB hWS
  go_enter Tryz.func125, Tryz.ntmps125
  go_wp2_with fail
  go_loopw [5, 6] (fun vw vp wr => ∃ (ws : List (Nat × Nat)) (p n : Nat) (A : Option Addr) (c : Nat), vp = .int .i64 p ∧ vw = .slice A n c ∧ Hid (n = ws.length) ∧ Hid (OwnW wr B (.slice A n c) ws) ∧ Hid (Below B w wr) ∧ Hid (ws ++ s.down k (D - n) p = WS) ∧ Hid (s.Walks k (D - n) p) ∧ n ≤ D ∧ (n + 1 ≤ D ∨ D = 0)) (fun vw _ _ => D - slLen vw)
  case atStart => exact ⟨[], R, 0, none, 0, rfl, rfl, Lib.hid rfl, Lib.hid (World.ownsRow_nil _ _ _ _), B0, HWS.symm, HK, by omega, by omega⟩
  case round =>
    obtain ⟨ws, p, n, A, c, rfl, rfl, HN, HO, HW, HS, HG, hnD, hn1⟩ := hrel
    have c3' := (C.out wr HW.out).1
    by_cases q : n + 1 < D
    · obtain ⟨d, hd2⟩ : ∃ d, D - n = d + 2 := ⟨D - n - 2, by omega⟩
      have hg := HG.out
      rw [hd2] at hg
      obtain ⟨hp, hl, hkid, r, hr, hgo⟩ := hg
      obtain ⟨N, g, cg, A2, cp, hpN, hcc⟩ := NC.out p hp
      obtain ⟨e0, e1, e2, e3⟩ := hcc wr HW.out
      have KC := Lib.hid (xKid wr _ _ k e2 (by omega))
      obtain ⟨b, o, rfl, _⟩ := e3 _ hkid
      obtain ⟨K, hK⟩ : ∃ K, K = (s.nd p).kid k := ⟨_, rfl⟩
      obtain ⟨Z, hZ⟩ : ∃ Z, Z = (s.nd p).length := ⟨_, rfl⟩
      have HCC := Lib.hid (show ∀ w', Below B w w' → w'.cell? ⟨T, 0, none⟩ = some (.slice (some ⟨g, 0, none⟩) N cg) ∧ w'.cell? ⟨g, p, none⟩ = some (.slice (some ⟨b, o, none⟩) Z cp) ∧ w'.cell? ⟨b, o + K * 2 + 1, none⟩ = some (.int .i64 r) from fun w' hb => by
        obtain ⟨q0, q1, _, q3⟩ := hcc w' hb
        obtain ⟨b', o', e', q4⟩ := q3 _ hkid
        injection e' with e'
        injection e' with e1 e2 _
        subst e1; subst e2
        exact ⟨q0, by rw [hZ]; exact q1, by rw [hK, ← hr]; exact q4⟩)
      have KZ : K < Z := by rw [hK, hZ]; exact hkid
      have DN := Lib.hid (show (ws ++ [(p, K)]) ++ s.down k (d + 1) r = WS by
        rw [← HS.out, hd2]
        have e : s.down k (d + 2) p = (p, (s.nd p).kid k) :: s.down k (d + 1) ((s.nd p).num ((s.nd p).kid k)).toNat := rfl
        rw [e, hr, Int.toNat_natCast, List.append_assoc, hK]; rfl)
      have HGO := Lib.hid hgo
      rw [← hK] at KC
      rw [← hZ] at KC e1
      have HD2 := Lib.hid hd2
      have OA := Lib.hid (show OwnW (wr.alloc (.cells #[.int .i64 p, .int .i64 K] 190)) B (.slice A n c) ws from World.ownsRow.alloc HO.out _)
      have RA := Lib.hid (RowAt.new wr [.int .i64 p, .int .i64 K] 190)
      have BA := Lib.hid (show Below B w (wr.alloc (.cells #[.int .i64 p, .int .i64 K] 190)) from HW.out.alloc (by rw [HB.out]; exact HW.out.size) _)
      have SA := Lib.hid (show B ≤ (wr.alloc (.cells #[.int .i64 p, .int .i64 K] 190)).heap.size by rw [HB.out]; exact BA.out.size)
      have zn : ws.length = n := HN.out.symm
      have ZN := Lib.hid zn
      clear hr hgo hkid hcc hK hZ hl e2 e3 hd2 hp zn
      go_wp2_with (first | (go_at_call 136; refine KC.out.mono ?_; rintro x w1 ⟨rfl, rfl⟩) | (at_builtin; refine wp_putW rfl (.tmp 29) (.tmp 33) rfl (.slice A n c) ws rfl OA.out SA.out _ (p, K) rfl (RA.out.cell 0) (RA.out.cell 1) (by rw [ZN.out]; omega) ?_; intro A' c' w3 ho hgr; rw [ZN.out]; have B3 := Lib.hid (below_grown BA.out hgr HO.out.block SA.out); have HO3 := Lib.hid ho; obtain ⟨e30, e31, e32⟩ := HCC.out w3 B3.out; clear ho hgr))
      go_roundw
      case rel => exact ⟨ws ++ [(p, K)], r, n + 1, A', c', rfl, by first | rfl | (rw [ZN.out]), Lib.hid (by rw [List.length_append, ZN.out]; rfl), Lib.hid (by have := HO3.out; rw [ZN.out] at this; exact this), B3, Lib.hid (by rw [show D - (n + 1) = d + 1 by have := HD2.out; omega]; exact DN.out), Lib.hid (by rw [show D - (n + 1) = d + 1 by have := HD2.out; omega]; exact HGO.out), by omega, by omega⟩
      case measure => simp [slLen]; omega
    · by_cases d0 : D = 0
      · have n0 : n = 0 := by omega
        have e : ws = WS := by have := HS.out; rw [show D - n = 0 by omega] at this; rw [← this]; exact (List.append_nil _).symm
        subst d0; subst n0
        have E := Lib.hid e
        clear e
        go_wp2_with fail
        go_ret
        exact ⟨_, rfl, by rw [← E.out]; exact HO.out, HW.out⟩
      · have d1 : D - n = 1 := by omega
        have hg := HG.out
        rw [d1] at hg
        obtain ⟨hp, hl⟩ := hg
        obtain ⟨N, g, cg, A2, cp, hpN, hcc⟩ := NC.out p hp
        obtain ⟨e0, e1, e2, _⟩ := hcc wr HW.out
        have KC := Lib.hid (xBelow wr _ _ k e2 (by omega))
        obtain ⟨K, hK⟩ : ∃ K, K = (s.nd p).pos k := ⟨_, rfl⟩
        obtain ⟨Z, hZ⟩ : ∃ Z, Z = (s.nd p).length := ⟨_, rfl⟩
        have DN := Lib.hid (show ws ++ [(p, K)] = WS by
          rw [← HS.out, d1, hK]; rfl)
        rw [← hK] at KC
        rw [← hZ] at KC e1
        have OA := Lib.hid (show OwnW (wr.alloc (.cells #[.int .i64 p, .int .i64 K] 190)) B (.slice A n c) ws from World.ownsRow.alloc HO.out _)
        have RA := Lib.hid (RowAt.new wr [.int .i64 p, .int .i64 K] 190)
        have BA := Lib.hid (show Below B w (wr.alloc (.cells #[.int .i64 p, .int .i64 K] 190)) from HW.out.alloc (by rw [HB.out]; exact HW.out.size) _)
        have SA := Lib.hid (show B ≤ (wr.alloc (.cells #[.int .i64 p, .int .i64 K] 190)).heap.size by rw [HB.out]; exact BA.out.size)
        have zn : ws.length = n := HN.out.symm
        have ZN := Lib.hid zn
        have dp : 0 < D := by omega
        have dq : (0 : Int) < (D : Int) := by omega
        clear hcc hK hZ hl e2 hp zn d1
        go_wp2_with (first | (go_at_call 137; refine KC.out.mono ?_; rintro x w1 ⟨rfl, rfl⟩) | (at_builtin; refine wp_putW rfl (.tmp 51) (.tmp 63) rfl (.slice A n c) ws rfl OA.out SA.out _ (p, K) rfl (RA.out.cell 0) (RA.out.cell 1) (by rw [ZN.out]; omega) ?_; intro A' c' w3 ho hgr; rw [ZN.out]; have B3 := Lib.hid (below_grown BA.out hgr HO.out.block SA.out); have HO3 := Lib.hid ho; clear ho hgr))
        go_ret
        exact ⟨_, rfl, by have := HO3.out; rw [ZN.out, DN.out] at this; exact this, B3.out⟩

end Go.Proofs.YtiiokmfnohifmaaGreat

namespace Go.Proofs.YtiiokmfnohifmaaGreat
open Go.RowKit

theorem Tab.put_len (s : Tab) (i : Nat) (zs : KV) : (s.put i zs).nds.length = s.nds.length := List.length_set
theorem Tab.put_place (s : Tab) (i : Nat) (zs : KV) : (s.put i zs).place = s.place := by
  have e : (s.put i zs).nds.length = s.nds.length := List.length_set
  unfold Tab.place
  rw [e]; rfl
theorem Tab.take_nd {s : Tab} {zs : KV} (hf : ∀ f, f ∈ s.free → f < s.nds.length) (i : Nat) (hi : i < s.nds.length) (hn : i ∉ s.free) : (s.take zs).nd i = s.nd i := by
  unfold Tab.take Tab.nd
  cases e : s.free.getLast? with
  | none => simp only [List.getD_eq_getElem?_getD, List.getElem?_append_left hi]
  | some p =>
    have hp : p ∈ s.free := List.mem_of_getLast? e
    have := hf p hp
    simp only
    rw [Tab.nd_set this, if_neg (fun q => hn (by rw [q]; exact hp))]
theorem Tab.take_len {s : Tab} {zs : KV} : s.nds.length ≤ (s.take zs).nds.length ∧ (s.take zs).nds.length ≤ s.nds.length + 1 ∧ s.place < (s.take zs).nds.length + (if s.free = [] then 0 else s.place + 1) ∧ (s.free = [] → (s.take zs).nds.length = s.nds.length + 1 ∧ s.place = s.nds.length) ∧ (s.free ≠ [] → (s.take zs).nds.length = s.nds.length) := by
  unfold Tab.take Tab.place
  cases e : s.free.getLast? with
  | none =>
    have q : s.free = [] := List.getLast?_eq_none_iff.1 e
    refine ⟨by simp, by simp, by simp [q], fun _ => ⟨by simp, by simp⟩, fun h => absurd q h⟩
  | some p =>
    have q : s.free ≠ [] := fun t => by rw [t] at e; cases e
    refine ⟨by simp, by simp, by simp [q]; omega, fun h => absurd h q, fun _ => by simp⟩
theorem Tab.take_free {s : Tab} {zs : KV} : (s.take zs).free = s.free.dropLast := by
  unfold Tab.take
  cases e : s.free.getLast? with
  | none => rw [List.getLast?_eq_none_iff.1 e]; rfl
  | some p => rfl

/-- a step of insert, upwards: the key of p's item is set right, and p is parted if it is too great -/
def Tab.split (s : Tab) (x : Nat × Nat) (p : Nat) : Tab :=
  ((s.put p ((s.nd p).take 3)).take ((s.nd p).drop 3)).put x.1 (ins (((s.put p ((s.nd p).take 3)).take ((s.nd p).drop 3)).nd x.1) (x.2 + 1) ((s.nd p).key 3, s.place))
def Tab.tell (s : Tab) (x : Nat × Nat) (p : Nat) : Tab := s.put x.1 ((s.nd x.1).set x.2 ((s.nd p).key 0, (s.nd x.1).num x.2))
def Tab.up (s : Tab) (x : Nat × Nat) (p : Nat) : Tab := if 4 < (s.nd p).length then (s.tell x p).split x p else s.tell x p
/-- nothing is amiss with it -/
structure FineUp (s : Tab) (x : Nat × Nat) (p : Nat) : Prop where
  iq : x.1 < s.nds.length
  ia : x.2 < (s.nd x.1).length
  ip : p < s.nds.length
  ne : p ≠ x.1
  l0 : 0 < (s.nd p).length
  lp : (s.nd p).length ≤ 10000
  lq : (s.nd x.1).length ≤ 10000
  free : ∀ f, f ∈ s.free → f < s.nds.length ∧ f ≠ x.1
  ln : s.nds.length ≤ 850000
  lf : s.free.length ≤ 850000
namespace FineUp
variable {s : Tab} {x : Nat × Nat} {p : Nat}
theorem nd (h : FineUp s x p) : (s.tell x p).nd p = s.nd p := by unfold Tab.tell; rw [Tab.put_nd h.iq, if_neg h.ne]
theorem ndq (h : FineUp s x p) : (s.tell x p).nd x.1 = (s.nd x.1).set x.2 ((s.nd p).key 0, (s.nd x.1).num x.2) := by unfold Tab.tell; rw [Tab.put_nd h.iq, if_pos rfl]
theorem tlen (_h : FineUp s x p) : (s.tell x p).nds.length = s.nds.length := Tab.put_len _ _ _
/-- the state that lay finds -/
theorem lay (h : FineUp s x p) : (((s.tell x p).put p ((s.nd p).take 3)).take ((s.nd p).drop 3)).nd x.1 = (s.tell x p).nd x.1 := by
  have e : ((s.tell x p).put p ((s.nd p).take 3)).nds.length = s.nds.length := by rw [Tab.put_len, h.tlen]
  rw [Tab.take_nd (s := (s.tell x p).put p ((s.nd p).take 3)) (fun f hf => by rw [e]; exact (h.free f hf).1) _ (by rw [e]; exact h.iq) (fun hf => (h.free _ hf).2 rfl), Tab.put_nd (by rw [h.tlen]; exact h.ip), if_neg (Ne.symm h.ne)]
theorem laylen (h : FineUp s x p) : s.nds.length ≤ (((s.tell x p).put p ((s.nd p).take 3)).take ((s.nd p).drop 3)).nds.length := by
  have e : ((s.tell x p).put p ((s.nd p).take 3)).nds.length = s.nds.length := by rw [Tab.put_len, h.tlen]
  have := (Tab.take_len (s := (s.tell x p).put p ((s.nd p).take 3)) (zs := (s.nd p).drop 3)).1
  omega
end FineUp
/-- all steps up, from step i on -/
def Tab.ups (ws : List (Nat × Nat)) : Nat → Tab → Tab
  | 0, s => s
  | i + 1, s => Tab.ups ws i (s.up (ws.getD i (0, 0)) (ws.getD (i + 1) (0, 0)).1)
def FineUps (ws : List (Nat × Nat)) : Nat → Tab → Prop
  | 0, _ => True
  | i + 1, s => FineUp s (ws.getD i (0, 0)) (ws.getD (i + 1) (0, 0)).1 ∧ FineUps ws i (s.up (ws.getD i (0, 0)) (ws.getD (i + 1) (0, 0)).1)

end Go.Proofs.YtiiokmfnohifmaaGreat

namespace Go.Proofs.YtiiokmfnohifmaaGreat
open Go.RowKit

def Tab.kid (s : Tab) (q j : Nat) : Nat := ((s.nd q).num j).toNat
/-- a node takes the items of the one behind -/
def Tab.melt (s : Tab) (p o : Nat) : Tab := (s.put p (s.nd p ++ s.nd o)).off o
def Tab.fix (s : Tab) (x : Nat × Nat) (p : Nat) : Tab := if 4 < (s.nd p).length then s.split x p else s
theorem Tab.off_len (s : Tab) (o : Nat) : (s.off o).nds.length = s.nds.length := Tab.put_len _ _ _
/-- two nodes of one above, side by side -/
structure Pair (s : Tab) (q f p o : Nat) : Prop where
  iq : q < s.nds.length
  ip : p < s.nds.length
  io : o < s.nds.length
  pq : p ≠ q
  oq : o ≠ q
  po : p ≠ o
  lf1 : f + 1 < (s.nd q).length
namespace Pair
variable {s : Tab} {q f p o : Nat}
theorem len1 (_h : Pair s q f p o) : (s.put p (s.nd p ++ s.nd o)).nds.length = s.nds.length := Tab.put_len _ _ _
theorem len2 (h : Pair s q f p o) : (s.melt p o).nds.length = s.nds.length := by unfold Tab.melt; rw [Tab.off_len, h.len1]
end Pair
end Go.Proofs.YtiiokmfnohifmaaGreat

namespace Go.Proofs.YtiiokmfnohifmaaGreat
open Go.RowKit

/-- a node as the one above tells it; the key of node p may be another one -/
def Tab.lk (s : Tab) (b : Bool) (p : Nat) (K : ByteArray) (r : Nat) : ByteArray × Int := (if b = true ∧ r = p then K else (s.nd r).key 0, (r : Int))
/-- the places of the levels, from the leaves up; node p of level h has what size it likes, and the one above may tell another key of it -/
structure Mid (s : Tab) (L : Nat → List Nat) (l : KV) (h p : Nat) (K : ByteArray) : Prop where
  d1 : 0 < s.depth
  top : L (s.depth - 1) = [s.root]
  nodup : ∀ j, j < s.depth → (L j).Nodup
  lev : ∀ i j r, i < s.depth → j < s.depth → r ∈ L i → r ∈ L j → i = j
  lt : ∀ j r, j < s.depth → r ∈ L j → r < s.nds.length
  fnd : s.free.Nodup
  free : ∀ f, f ∈ s.free → f < s.nds.length ∧ ∀ j, j < s.depth → f ∉ L j
  size : ∀ j r, j < s.depth → r ∈ L j → ¬ (j = h ∧ r = p) → (if s.depth = 1 then 1 else 2) ≤ (s.nd r).length ∧ (s.nd r).length ≤ 4
  link : ∀ j, j + 1 < s.depth → (L (j + 1)).flatMap s.nd = (L j).map (s.lk (decide (j = h)) p K)
  leaf : (L 0).flatMap s.nd = l

theorem fm_congr {X : List Nat} {f g : Nat → KV} (h : ∀ r, r ∈ X → f r = g r) : X.flatMap f = X.flatMap g := by
  induction X with
  | nil => rfl
  | cons x X ih => rw [List.flatMap_cons, List.flatMap_cons, h x (by simp), ih fun r hr => h r (by simp [hr])]
theorem nodup_mid {A B : List Nat} {M : List Nat} (h : (A ++ M ++ B).Nodup) : (∀ r, r ∈ A → r ∉ M ∧ r ∉ B) ∧ (∀ r, r ∈ M → r ∉ A ∧ r ∉ B) ∧ (∀ r, r ∈ B → r ∉ A ∧ r ∉ M) ∧ A.Nodup ∧ M.Nodup ∧ B.Nodup := by
  rw [List.nodup_append] at h
  obtain ⟨h1, h2, h3⟩ := h
  rw [List.nodup_append] at h1
  obtain ⟨h4, h5, h6⟩ := h1
  refine ⟨fun r hr => ⟨fun q => h6 r hr r q rfl, fun q => h3 r (by simp [hr]) r q rfl⟩, fun r hr => ⟨fun q => h6 r q r hr rfl, fun q => h3 r (by simp [hr]) r q rfl⟩, fun r hr => ⟨fun q => h3 r (by simp [q]) r hr rfl, fun q => h3 r (by simp [q]) r hr rfl⟩, h4, h5, h2⟩

section
variable {s s' : Tab} {L : Nat → List Nat} {l : KV} {h p : Nat} {K : ByteArray}
/-- a stretch of a level comes anew, and the node above tells so -/
theorem Mid.relink (m : Mid s L l h p K) (hd : h + 1 < s.depth) {A B X M M' Y : List Nat} {Z1 Z2 : KV} {q : Nat}
    (hA : L (h + 1) = A ++ [q] ++ B) (hX : L h = X ++ M ++ Y) (e1 : A.flatMap s.nd ++ Z1 = X.map (s.lk true p K)) (e2 : Z2 ++ B.flatMap s.nd = Y.map (s.lk true p K)) (hp : p ∈ M)
    (sd : s'.depth = s.depth) (sr : s'.root = s.root)
    (nq : s'.nd q = Z1 ++ M'.map (fun r => ((s'.nd r).key 0, (r : Int))) ++ Z2)
    (ot : ∀ j r, j < s.depth → r ∈ L j → r ≠ q → r ∉ M → s'.nd r = s.nd r)
    (fm : M'.flatMap s'.nd = M.flatMap s.nd) (mnd : M'.Nodup)
    (mf : ∀ r, r ∈ M' → r < s'.nds.length ∧ (r ∈ M ∨ ∀ j, j < s.depth → r ∉ L j))
    (len : s.nds.length ≤ s'.nds.length) (fnd : s'.free.Nodup) (fr : ∀ f, f ∈ s'.free → f < s'.nds.length ∧ f ∉ M' ∧ (f ∈ M ∨ ∀ j, j < s.depth → f ∉ L j))
    (sz : ∀ r, r ∈ M' → 2 ≤ (s'.nd r).length ∧ (s'.nd r).length ≤ 4) :
    Mid s' (fun j => if j = h then X ++ M' ++ Y else L j) l (h + 1) q ((s.nd q).key 0) := by
  have qL : q ∈ L (h + 1) := by rw [hA]; simp
  have nx := nodup_mid (by rw [← hX]; exact m.nodup h (by omega))
  have na := nodup_mid (by rw [← hA]; exact m.nodup (h + 1) hd)
  have lh : ∀ r, r ∈ L h → r ≠ q := fun r hr e => by
    have := m.lev h (h + 1) r (by omega) hd hr (by rw [e]; exact qL); omega
  have Ml : ∀ r, r ∈ M → r ∈ L h := fun r hr => by rw [hX]; simp [hr]
  have XY : ∀ r, r ∈ X ∨ r ∈ Y → r ∈ L h ∧ r ∉ M ∧ s'.nd r = s.nd r := fun r hr => by
    have hl : r ∈ L h := by rw [hX]; rcases hr with e | e <;> simp [e]
    have hm : r ∉ M := by
      rcases hr with e | e
      · exact (nx.1 r e).1
      · exact (nx.2.2.1 r e).2
    exact ⟨hl, hm, ot h r (by omega) hl (lh r hl) hm⟩
  have notM : ∀ j r, j < s.depth → j ≠ h → r ∈ L j → r ∉ M := fun j r hj hn hr hm => hn (m.lev j h r hj (by omega) hr (Ml r hm))
  have other : ∀ j r, j < s.depth → j ≠ h → r ∈ L j → r ≠ q → s'.nd r = s.nd r := fun j r hj hn hr hq => ot j r hj hr hq (notM j r hj hn hr)
  -- places of the new levels
  have mem : ∀ j r, r ∈ (if j = h then X ++ M' ++ Y else L j) → j < s.depth → (r ∈ L j ∧ (j = h → r ∈ X ∨ r ∈ M' ∨ r ∈ Y)) ∨ (j = h ∧ r ∈ M' ∧ ∀ i, i < s.depth → r ∉ L i) := fun j r hr hj => by
    by_cases e : j = h
    · rw [if_pos e] at hr
      subst e
      rw [List.mem_append, List.mem_append] at hr
      rcases hr with (hr | hr) | hr
      · exact .inl ⟨(XY r (.inl hr)).1, fun _ => .inl hr⟩
      · rcases (mf r hr).2 with k | k
        · exact .inl ⟨Ml r k, fun _ => .inr (.inl hr)⟩
        · exact .inr ⟨rfl, hr, k⟩
      · exact .inl ⟨(XY r (.inr hr)).1, fun _ => .inr (.inr hr)⟩
    · rw [if_neg e] at hr
      exact .inl ⟨hr, fun t => absurd t e⟩
  refine ⟨by rw [sd]; exact m.d1, ?_, fun j hj => ?_, fun i j r hi hj h1 h2 => ?_, fun j r hj hr => ?_, fnd, fun f hf => ⟨(fr f hf).1, fun j hj hm => ?_⟩, fun j r hj hr hn => ?_, fun j hj => ?_, ?_⟩
  · rw [sd, sr, if_neg (by omega)]; exact m.top
  · rw [sd] at hj
    show (if j = h then X ++ M' ++ Y else L j).Nodup
    by_cases e : j = h
    · rw [if_pos e]
      rw [List.nodup_append, List.nodup_append]
      have dis : ∀ r, r ∈ M' → r ∉ X ∧ r ∉ Y := fun r hr => by
        rcases (mf r hr).2 with k | k
        · exact nx.2.1 r k
        · exact ⟨fun t => k h (by omega) (XY r (.inl t)).1, fun t => k h (by omega) (XY r (.inr t)).1⟩
      refine ⟨⟨nx.2.2.2.1, mnd, fun a ha b hb e => (dis b hb).1 (e ▸ ha)⟩, nx.2.2.2.2.2, fun a ha b hb e => ?_⟩
      rw [List.mem_append] at ha
      rcases ha with ha | ha
      · exact (nx.1 a ha).2 (e ▸ hb)
      · exact (dis a ha).2 (e ▸ hb)
    · rw [if_neg e]; exact m.nodup j hj
  · rw [sd] at hi hj
    rcases mem i r h1 hi with ⟨a1, _⟩ | ⟨a1, _, a2⟩
    · rcases mem j r h2 hj with ⟨b1, _⟩ | ⟨_, _, b2⟩
      · exact m.lev i j r hi hj a1 b1
      · exact absurd a1 (b2 i hi)
    · rcases mem j r h2 hj with ⟨b1, _⟩ | ⟨b1, _, _⟩
      · exact absurd b1 (a2 j hj)
      · omega
  · rw [sd] at hj
    rcases mem j r hr hj with ⟨a1, _⟩ | ⟨_, a1, _⟩
    · exact Nat.lt_of_lt_of_le (m.lt j r hj a1) len
    · exact (mf r a1).1
  · rw [sd] at hj
    obtain ⟨_, f2, f3⟩ := fr f hf
    rcases mem j f hm hj with ⟨a1, a2⟩ | ⟨_, a1, _⟩
    · rcases f3 with k | k
      · have e : j = h := m.lev j h f hj (by omega) a1 (Ml f k)
        rcases a2 e with t | t | t
        · exact (nx.1 f t).1 k
        · exact f2 t
        · exact (nx.2.2.1 f t).2 k
      · exact k j hj a1
    · exact f2 a1
  · rw [sd] at hj ⊢
    rw [if_neg (show ¬ s.depth = 1 by omega)]
    by_cases e : j = h
    · subst e
      rw [if_pos rfl, List.mem_append, List.mem_append] at hr
      have key : r ∈ X ∨ r ∈ Y → 2 ≤ (s'.nd r).length ∧ (s'.nd r).length ≤ 4 := fun t => by
        obtain ⟨k1, k2, k3⟩ := XY r t
        have := m.size j r hj k1 (fun e => k2 (by rw [e.2]; exact hp))
        rw [if_neg (show ¬ s.depth = 1 by omega)] at this
        rw [k3]; exact this
      rcases hr with (hr | hr) | hr
      · exact key (.inl hr)
      · exact sz r hr
      · exact key (.inr hr)
    · rw [if_neg e] at hr
      have rq : r ≠ q := fun t => hn ⟨m.lev j (h + 1) r hj hd hr (by rw [t]; exact qL), t⟩
      rw [other j r hj e hr rq]
      have := m.size j r hj hr (fun t => e t.1)
      rw [if_neg (show ¬ s.depth = 1 by omega)] at this
      exact this
  · rw [sd] at hj
    by_cases e : j = h
    · subst e
      rw [if_neg (by omega), if_pos rfl, hA, List.flatMap_append, List.flatMap_append, List.map_append, List.map_append]
      have a1 : A.flatMap s'.nd = A.flatMap s.nd := fm_congr fun r hr => other (j + 1) r hd (by omega) (by rw [hA]; simp [hr]) (fun t => (na.1 r hr).1 (by simp [t]))
      have a2 : B.flatMap s'.nd = B.flatMap s.nd := fm_congr fun r hr => other (j + 1) r hd (by omega) (by rw [hA]; simp [hr]) (fun t => (na.2.2.1 r hr).2 (by simp [t]))
      have lkX : ∀ W : List Nat, (∀ r, r ∈ W → r ∈ X ∨ r ∈ Y) → W.map (s'.lk (decide (j = j + 1)) q ((s.nd q).key 0)) = W.map (s.lk true p K) := fun W hW => by
        apply List.map_congr_left
        intro r hr
        obtain ⟨k1, k2, k3⟩ := XY r (hW r hr)
        unfold Tab.lk
        rw [if_neg (fun t => by have := t.1; simp at this), if_neg (fun t => k2 (by rw [t.2]; exact hp)), k3]
      rw [lkX X (fun r hr => .inl hr), lkX Y (fun r hr => .inr hr), ← e1, ← e2, a1, a2]
      have mm : M'.map (s'.lk (decide (j = j + 1)) q ((s.nd q).key 0)) = M'.map (fun r => ((s'.nd r).key 0, (r : Int))) := by
        apply List.map_congr_left
        intro r _
        unfold Tab.lk
        rw [if_neg (fun t => by have := t.1; simp at this)]
      rw [mm]
      simp only [List.flatMap_cons, List.flatMap_nil, List.append_nil]
      rw [nq]
      simp only [List.append_assoc]
    · by_cases e' : j + 1 = h
      · -- the level above is h: its items stand as they stood
        rw [if_pos e', if_neg e]
        have e3 : (X ++ M' ++ Y).flatMap s'.nd = (L h).flatMap s.nd := by
          rw [hX]
          simp only [List.flatMap_append]
          rw [fm, fm_congr (X := X) (f := s'.nd) (g := s.nd) (fun r hr => (XY r (.inl hr)).2.2), fm_congr (X := Y) (f := s'.nd) (g := s.nd) (fun r hr => (XY r (.inr hr)).2.2)]
        rw [e3, ← e', m.link j (by omega)]
        apply List.map_congr_left
        intro r hr
        have rq : r ≠ q := fun t => by have := m.lev j (h + 1) r (by omega) hd hr (by rw [t]; exact qL); omega
        unfold Tab.lk
        rw [if_neg (fun t => by have := t.1; simp at this; omega), if_neg (fun t => by have := t.1; simp at this; omega), other j r (by omega) e hr rq]
      · rw [if_neg e', if_neg e]
        by_cases e2' : j = h + 1
        · subst e2'
          rw [fm_congr (X := L (h + 1 + 1)) (f := s'.nd) (g := s.nd) (fun r hr => other _ r hj (by omega) hr (fun t => by have := m.lev _ (h + 1) r hj hd hr (by rw [t]; exact qL); omega)), m.link _ hj]
          apply List.map_congr_left
          intro r hr
          unfold Tab.lk
          rw [if_neg (fun t => by have := t.1; simp at this)]
          by_cases rq : r = q
          · rw [if_pos ⟨by simp, rq⟩, rq]
          · rw [if_neg (fun t => rq t.2), other _ r hd (by omega) hr rq]
        · rw [fm_congr (X := L (j + 1)) (f := s'.nd) (g := s.nd) (fun r hr => other _ r hj e' hr (fun t => by have := m.lev _ (h + 1) r hj hd hr (by rw [t]; exact qL); omega)), m.link _ hj]
          apply List.map_congr_left
          intro r hr
          unfold Tab.lk
          rw [if_neg (fun t => by have := t.1; simp at this; omega), if_neg (fun t => by have := t.1; simp at this; omega), other _ r (by omega) e hr (fun t => by have := m.lev _ (h + 1) r (by omega) hd hr (by rw [t]; exact qL); omega)]
  · by_cases e : h = 0
    · subst e
      rw [if_pos rfl, ← m.leaf, hX]
      simp only [List.flatMap_append]
      rw [fm, fm_congr (X := X) (f := s'.nd) (g := s.nd) (fun r hr => (XY r (.inl hr)).2.2), fm_congr (X := Y) (f := s'.nd) (g := s.nd) (fun r hr => (XY r (.inr hr)).2.2)]
    · rw [if_neg (Ne.symm e), ← m.leaf]
      exact fm_congr fun r hr => other 0 r (by omega) (Ne.symm e) hr (fun t => by have := m.lev 0 (h + 1) r (by omega) hd hr (by rw [t]; exact qL); omega)
end

end Go.Proofs.YtiiokmfnohifmaaGreat

namespace Go.Proofs.YtiiokmfnohifmaaGreat
open Go.RowKit

def Tab.bare : Tab := ⟨[], [], 0, 0, 0⟩
end Go.Proofs.YtiiokmfnohifmaaGreat
