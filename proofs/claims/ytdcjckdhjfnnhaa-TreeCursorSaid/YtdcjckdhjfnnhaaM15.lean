/- Proved parts: T9s T9v. Conditions: each theorem's own. -/
import Derived.Test.YtdcjckdhjfnnhaaM14
import Derived.BigQuiet
namespace Go.Proofs.Ytdcjckdhjfnnhaa
open Go.RowKit

section
variable {w w' : World} {T : Nat} {E : Nat → Prop} {s : Tab} {rv fv : Value} {vs : List Value}
/-- an item of a node turns -/
theorem TabV.item {p i j b o c : Nat} {u : Value} (y : ByteArray × Int) (h : TabV w T E s rv fv vs) (hp : p < vs.length) (ev : nv vs p = .slice (some ⟨b, o, none⟩) (s.nd p).length c) (hi : i < (s.nd p).length) (hj : j < 2) (hy : (it2 (s.nd p)[i]).set j u = it2 y) :
    TabV (w.setCell ⟨b, o + (i * 2 + j), none⟩ u) T E (s.put p ((s.nd p).set i y)) rv fv vs := by
  have hw : WinAt w b o c (s.nd p) := by
    obtain ⟨b', o', c', e, k⟩ := h.win hp (by omega)
    rw [ev] at e
    injection e with e1 _ e3
    injection e1 with e1
    injection e1 with e1 e4 _
    subst e1; subst e4; subst e3; exact k
  have hfit := hw.fit
  have iw : InWin (nv vs p) b (o + (i * 2 + j)) := by rw [ev]; exact ⟨o, _, c, rfl, by omega, by omega⟩
  have hW := h.eW p b _ hp iw
  have t : Turn (fun k m => k = b ∧ m = o + (i * 2 + j)) w (w.setCell ⟨b, o + (i * 2 + j), none⟩ u) := (Turn.setCells w b (o + (i * 2 + j)) [u]).mono fun k m ⟨h1, h2, h3⟩ => ⟨h1, by simp at h3; omega⟩
  have kb : ∀ k, k ≠ b → (w.setCell ⟨b, o + (i * 2 + j), none⟩ u).heap[k]? = w.heap[k]? := fun k q => Below.heap_setCell _ _ _ _ q
  have hwn : WinAt (w.setCell ⟨b, o + (i * 2 + j), none⟩ u) b o c ((s.nd p).set i y) := by
    refine ⟨by rw [List.length_set]; exact hfit, hw.cap, hw.pos, ?_, fun m hm => t.there _ _ hw.plain.lt (hw.there m hm), hw.plain.setCell _ _⟩
    have e : itc ((s.nd p).set i y) = (itc (s.nd p)).set (i * 2 + j) u := (flat_set (f := it2) (n := 2) (fun _ => rfl) (s.nd p) i j u y hi hj hy).symm
    rw [e]
    intro m v hm
    rw [List.getElem?_set] at hm
    by_cases q : i * 2 + j = m
    · subst q
      rw [if_pos rfl] at hm
      split at hm
      · injection hm with hm
        subst hm
        exact World.cell?_setCell_same' _ _ _ (hw.there _ (by omega))
      · cases hm
    · rw [if_neg q] at hm
      rw [t.cell b (o + m) hw.plain.lt (fun ⟨_, e⟩ => q (by omega))]
      exact hw.row m v hm
  refine ⟨(kb T (Ne.symm hW.2.1)).trans h.row, own_keep h.nodes fun k e => kb k (fun t => hW.2.2.1 (by rw [← t]; exact e)), own_keep h.free fun k e => kb k (fun t => hW.2.2.2 (by rw [← t]; exact e)), by rw [h.len]; show _ = (s.nds.set p _).length; rw [List.length_set], fun l hl => ?_, h.apart, h.eT, h.eN, h.eF, h.eW, fun k e => ?_⟩
  · rw [Tab.put_nd (by rw [← h.len]; exact hp)]
    by_cases q : l = p
    · rw [if_pos q, q, ev]
      exact .inr ⟨b, o, c, by rw [List.length_set], hwn⟩
    · rw [if_neg q]
      exact (h.node l hl).turn t fun k m f ⟨e1, e2⟩ => by
        subst e1; subst e2
        exact q (h.apart l p _ _ hl hp f iw)
  · have : (w.setCell ⟨b, o + (i * 2 + j), none⟩ u).heap.size = w.heap.size := by simp [World.setCell]
    rw [this]; exact h.lt k e
end
theorem KV.getE (l : KV) (i : Nat) (hi : i < l.length) : l[i] = (l.key i, l.num i) := by
  unfold KV.key KV.num
  rw [List.getD_eq_getElem?_getD, List.getElem?_eq_getElem hi]; rfl

/-- a step's two cells -/
def st2 (x : Nat × Nat) : List Value := [.int .i64 x.1, .int .i64 x.2]
def stc (l : List (Nat × Nat)) : List Value := l.flatMap st2
theorem stc_len (l : List (Nat × Nat)) : (stc l).length = l.length * 2 := flat_len (f := st2) (n := 2) (fun _ => rfl) l
theorem infoSt : (Try.prog.info? 69).map (fun i => (i.zero, i.size, i.bytes)) = some (some (.agg #[.int .i64 0, .int .i64 0]), 2, 16) := by kernel_rfl
/-- the slice v holds the steps -/
def SlW (w : World) (v : Value) (ws : List (Nat × Nat)) : Prop := ∃ A c, v = .slice A ws.length c ∧ ∀ j, j < ws.length → ∃ g, A = some ⟨g, 0, none⟩ ∧ w.cell? ⟨g, j * 2, none⟩ = some (.int .i64 (ws.getD j (0, 0)).1) ∧ w.cell? ⟨g, j * 2 + 1, none⟩ = some (.int .i64 (ws.getD j (0, 0)).2)
def OwnW (w : World) (B : Nat) (v : Value) (ws : List (Nat × Nat)) : Prop := w.ownsRow B 69 2 v ws.length (stc ws)
theorem OwnW.sl {w : World} {B : Nat} {v : Value} {ws : List (Nat × Nat)} (h : OwnW w B v ws) : SlW w v ws := by
  have h1 := h
  rcases h.2 with ⟨rfl, h0⟩ | ⟨g, cap, cur, rfl, hB, hg, _⟩
  · exact ⟨none, 0, by rw [h0], fun j hj => by omega⟩
  · refine ⟨_, cap, rfl, fun j hj => ⟨g, rfl, ?_, ?_⟩⟩
    · have := flat_at (f := st2) (n := 2) (fun _ => rfl) ws j 0 hj (by decide)
      unfold OwnW at h1
      rw [show j * 2 = j * 2 + 0 from rfl, h1.cellAt (j * 2 + 0) (by omega), List.getD_eq_getElem?_getD, List.getElem?_eq_getElem hj]
      exact this
    · have := flat_at (f := st2) (n := 2) (fun _ => rfl) ws j 1 hj (by decide)
      unfold OwnW at h1
      rw [h1.cellAt (j * 2 + 1) (by omega), List.getD_eq_getElem?_getD, List.getElem?_eq_getElem hj]
      exact this
set_option maxRecDepth 100000 in
/-- append(way, step) -/
theorem wp_putW {w : World} {B : Nat} {ops : Array Oper} {rest : List Oper} {o : Oper} {a : Act} {Q : Exit → Act → World → Prop} (hgd : o.guard = none) (s x : Operand)
    (ho : o.op = .call { callee := .builtin .append, args := #[s, x], argTypes := #[51, 51] })
    (v : Value) (zs : List (Nat × Nat)) (hs : a.eval s = v) (hown : OwnW w B v zs) (hB : B ≤ w.heap.size) (g : Nat) (y : Nat × Nat) (hx : a.eval x = .slice (some ⟨g, 0, none⟩) 1 1)
    (hc : w.cell? ⟨g, 0, none⟩ = some (.int .i64 y.1)) (hc1 : w.cell? ⟨g, 1, none⟩ = some (.int .i64 y.2)) (hl : zs.length ≤ 1000000)
    (h : ∀ A' c' w', OwnW w' B (.slice A' (zs.length + 1) c') (zs ++ [y]) → w.grownBy w' v.ownBlock → wpList Try.prog ops Q rest (a.put o.dst (.slice A' (zs.length + 1) c')) w') : wpList Try.prog ops Q (o :: rest) a w := by
  obtain ⟨i0, hi, hz0, hz1, hz2⟩ := info_parts infoSt
  refine wpList_append_own_at w hgd s x 51 ho B 69 i0 _ 2 16 Try.underlying51 hi hz0 hz1 hz2 rfl (by decide) v zs.length _ hs hown ⟨g, 0, none⟩ 1 1 (st2 y) hx rfl ?_ ?_
    (by unfold maxLen; omega) (by omega) hB ?_
  · intro j u hj
    match j, hj with
    | 0, hj => injection hj with hj; subst hj; exact hc
    | 1, hj => injection hj with hj; subst hj; exact hc1
  · intro u hu
    unfold st2 at hu
    simp at hu
    rcases hu with rfl | rfl <;> rfl
  · intro v' w' h1 h2 _ _
    have e : stc zs ++ st2 y = stc (zs ++ [y]) := by unfold stc; simp
    rw [e] at h1
    have e2 : zs.length + 1 = (zs ++ [y]).length := by simp
    rcases h1.2 with ⟨_, q⟩ | ⟨g', cap, cur, rfl, _⟩
    · omega
    · exact h _ cap w' (by unfold OwnW; rw [← e2]; exact h1) h2
/-- the steps from a node down -/
def Tab.down (s : Tab) (k : ByteArray) : Nat → Nat → List (Nat × Nat)
  | 0, _ => []
  | 1, p => [(p, (s.nd p).pos k)]
  | d + 2, p => (p, (s.nd p).kid k) :: s.down k (d + 1) ((s.nd p).num ((s.nd p).kid k)).toNat
/-- nothing is amiss on the way -/
def Tab.Walks (s : Tab) (k : ByteArray) : Nat → Nat → Prop
  | 0, _ => True
  | 1, p => p < s.nds.length ∧ (s.nd p).length ≤ 100000
  | d + 2, p => p < s.nds.length ∧ (s.nd p).length ≤ 100000 ∧ (s.nd p).kid k < (s.nd p).length ∧ ∃ q : Nat, (s.nd p).num ((s.nd p).kid k) = q ∧ s.Walks k (d + 1) q

end Go.Proofs.Ytdcjckdhjfnnhaa

namespace Go.Proofs.Ytdcjckdhjfnnhaa
open Go.RowKit

theorem below_grown {B : Nat} {w w1 w2 : World} {r : Option Nat} (h : Below B w w1) (g : w1.grownBy w2 r) (hr : ∀ k, r = some k → B ≤ k) (hs : B ≤ w1.heap.size) : Below B w w2 :=
  ⟨g.os.trans h.os, g.tape.trans h.tape, g.output.trans h.output, Nat.le_trans h.size g.size, fun k hk => (g.block k (by omega) (fun e => by have := hr k e.symm; omega)).trans (h.block k hk)⟩
def slLen : Value → Nat
  | .slice _ n _ => n
  | _ => 0
/-- what find tells: the item's place in memory -/
def FindR (vs : List Value) (s : Tab) (ws : List (Nat × Nat)) (k : ByteArray) (r : Value) : Prop :=
  match ws.getLast? with
  | none => r = .pointer none
  | some x => if x.2 < (s.nd x.1).length ∧ (s.nd x.1).key x.2 = k then ∃ b o c, nv vs x.1 = .slice (some ⟨b, o, none⟩) (s.nd x.1).length c ∧ r = .pointer (some ⟨b, o + x.2 * 2, none⟩) else r = .pointer none

set_option maxRecDepth 100000 in
/-- find, of no way -/
theorem xFind0 (w : World) (T : Nat) (v : Value) (k : ByteArray) (hv : SlW w v []) :
    Calls Try.prog 23 #[Ptr T, v, .string k] w fun x w' => x = .returned (.pointer none) ∧ w' = w := by
  obtain ⟨A, c, rfl, _⟩ := hv
  go_enter Try.func23, Try.ntmps23
  go_wp2_with fail
  go_ret
  exact ⟨rfl, rfl⟩

set_option maxHeartbeats 1000000 in
set_option maxRecDepth 100000 in
/-- find, of some way -/
theorem xFind1 (w : World) (T : Nat) (E : Nat → Prop) (s : Tab) (rv fv : Value) (vs : List Value) (v : Value) (ws0 : List (Nat × Nat)) (p a : Nat) (k : ByteArray) (h : TabV w T E s rv fv vs) (hp : p < vs.length) (hv : SlW w v (ws0 ++ [(p, a)])) (hw : ws0.length ≤ 100000) :
    Calls Try.prog 23 #[Ptr T, v, .string k] w fun x w' => ∃ r, x = .returned r ∧ FindR vs s (ws0 ++ [(p, a)]) k r ∧ Below w.heap.size w w' := by
  have HF : ∀ r, FindR vs s (ws0 ++ [(p, a)]) k r ↔ (if a < (s.nd p).length ∧ (s.nd p).key a = k then ∃ b o c, nv vs p = .slice (some ⟨b, o, none⟩) (s.nd p).length c ∧ r = .pointer (some ⟨b, o + a * 2, none⟩) else r = .pointer none) := fun r => by
    unfold FindR
    rw [List.getLast?_concat]
  obtain ⟨g, c, rfl, _, _, hc⟩ := h.rowAt (by omega)
  have c0 := h.row.cell 0
  simp only [List.getElem?_cons_zero] at c0
  have c1 := (hc p hp).1
  obtain ⟨A, cp, e, hi⟩ := (h.node p hp).form
  rw [e] at c1
  obtain ⟨Aw, cw, rfl, hs⟩ := hv
  obtain ⟨gw, rfl, cw1, cw2⟩ := hs ws0.length (by simp)
  have eg : (ws0 ++ [(p, a)]).getD ws0.length (0, 0) = (p, a) := by rw [List.getD_eq_getElem?_getD, List.getElem?_concat_length]; rfl
  rw [eg] at cw1 cw2
  simp only at cw1 cw2
  obtain ⟨m, hm⟩ : ∃ m, m = ws0.length := ⟨_, rfl⟩
  have el : (ws0 ++ [(p, a)]).length = m + 1 := by simp [hm]
  rw [el]
  rw [← hm] at cw1 cw2 hw
  obtain ⟨n, hn⟩ : ∃ n, n = vs.length := ⟨_, rfl⟩
  obtain ⟨z, hz⟩ : ∃ z, z = (s.nd p).length := ⟨_, rfl⟩
  obtain ⟨K, hK⟩ : ∃ K, K = (s.nd p).key a := ⟨_, rfl⟩
  have HI : a < z → ∃ b o, A = some ⟨b, o, none⟩ ∧ w.cell? ⟨b, o + a * 2, none⟩ = some (.string K) := fun q => by
    obtain ⟨b, o, e1, e2, _⟩ := hi a (by omega)
    exact ⟨b, o, e1, by rw [hK]; exact e2⟩
  rw [← hn] at c0 hp
  rw [← hz] at c1 e
  rw [← hz, ← hK] at HF
  have HF' := Lib.hid HF
  have EV := Lib.hid e
  have mi : (m : Int) + 1 - 1 = (m : Int) := by omega
  have m0 : ¬ ((m : Int) + 1 = 0) := by omega
  have bw : Below w.heap.size w ((w.alloc (.cells #[.int .i64 p, .int .i64 a] 69))) := (Below.refl _ _).alloc (Nat.le_refl _) _
  obtain ⟨q7, hq7⟩ : ∃ q7, q7 = w.heap.size := ⟨_, rfl⟩
  obtain ⟨w1, hw1⟩ : ∃ w1, w1 = w.alloc (.cells #[.int .i64 p, .int .i64 a] 69) := ⟨_, rfl⟩
  rw [← hw1] at bw
  have r1 : RowAt w1 q7 [.int .i64 p, .int .i64 a] 69 := by rw [hw1, hq7]; exact RowAt.new w _ _
  have C1 := Lib.hid (show ∀ nq, (w1.drewN nq).cell? ⟨T, 0, none⟩ = some (.slice (some ⟨g, 0, none⟩) n c) ∧ (w1.drewN nq).cell? ⟨g, p, none⟩ = some (.slice A z cp) ∧ (w1.drewN nq).cell? ⟨q7, 0, none⟩ = some (.int .i64 p) ∧ (w1.drewN nq).cell? ⟨q7, 1, none⟩ = some (.int .i64 a) from fun nq =>
    ⟨(bw.cell (p := ⟨T, 0, none⟩) (block_lt_of_cell c0)).trans c0, (bw.cell (p := ⟨g, p, none⟩) (block_lt_of_cell c1)).trans c1, r1.cell 0, r1.cell 1⟩)
  have HI1 := Lib.hid (show a < z → ∃ b o, A = some ⟨b, o, none⟩ ∧ ∀ nq, (w1.drewN nq).cell? ⟨b, o + a * 2, none⟩ = some (.string K) from fun q => by
    obtain ⟨b, o, e1, e2⟩ := HI q
    exact ⟨b, o, e1, fun nq => (bw.cell (p := ⟨b, o + a * 2, none⟩) (block_lt_of_cell e2)).trans e2⟩)
  have BW := Lib.hid bw
  have HW1 := Lib.hid hw1
  have HQ7 := Lib.hid hq7
  clear hi hc h hs eg el hn hm hz hK HF e bw HI hw1 hq7 r1
  go_enter Try.func23, Try.ntmps23
  go_wp2_with fail
  rw [← HW1.out, ← HQ7.out]
  obtain ⟨d0, d1, d2, d3⟩ := C1.out 0
  simp only [World.cell?_drewN] at d0 d1 d2 d3
  clear c0 c1 cw1 cw2
  go_quiet (fail)
  obtain ⟨W, hW⟩ : ∃ W, W = w1.drewN nq := ⟨_, rfl⟩
  obtain ⟨e0, e1, e2, e3⟩ := C1.out nq
  rw [← hW] at e0 e1 e2 e3 ⊢
  have BW2 := Lib.hid (show Below w.heap.size w W by rw [hW]; exact below_drewN BW.out nq)
  have HIW := Lib.hid (show a < z → ∃ b o, A = some ⟨b, o, none⟩ ∧ W.cell? ⟨b, o + a * 2, none⟩ = some (.string K) from fun q => by
    obtain ⟨b, o, e1, e2⟩ := HI1.out q
    exact ⟨b, o, e1, by rw [hW]; exact e2 nq⟩)
  clear hW d0 d1 d2 d3
  by_cases q : a < z
  · obtain ⟨b, o, rfl, cb⟩ := HIW.out q
    by_cases e : K = k
    · have ek : (K.toList == k.toList) = true := str_eq e
      have F := Lib.hid ((HF'.out (.pointer (some ⟨b, o + a * 2, none⟩))).2 (by rw [if_pos ⟨q, e⟩]; exact ⟨b, o, cp, EV.out, rfl⟩))
      clear e
      go_wp2_with fail
      go_ret
      exact ⟨_, rfl, F.out, BW2.out⟩
    · have ek : (K.toList == k.toList) = false := str_ne e
      have F := Lib.hid ((HF'.out (.pointer none)).2 (by rw [if_neg (fun t => e t.2)]))
      clear e
      go_wp2_with fail
      go_ret
      exact ⟨_, rfl, F.out, BW2.out⟩
  · have F := Lib.hid ((HF'.out (.pointer none)).2 (by rw [if_neg (fun t => q t.1)]))
    go_wp2_with fail
    go_ret
    exact ⟨_, rfl, F.out, BW2.out⟩

theorem OwnW.form {w : World} {B : Nat} {v : Value} {ws : List (Nat × Nat)} (h : OwnW w B v ws) : ∃ A c, v = .slice A ws.length c := by obtain ⟨A, c, e, _⟩ := h.sl; exact ⟨A, c, e⟩
theorem OwnW.block {w : World} {B : Nat} {v : Value} {ws : List (Nat × Nat)} (h : OwnW w B v ws) : ∀ k, v.ownBlock = some k → B ≤ k := fun k e => (World.ownsRow.lt h k e).1
set_option maxHeartbeats 1000000 in
set_option maxRecDepth 100000 in
/-- way -/
theorem xWay (w : World) (T : Nat) (E : Nat → Prop) (s : Tab) (k : ByteArray) (h : TabG w T E s) (hk : s.Walks k s.depth s.root) (hd : s.depth ≤ 100000) :
    Calls Try.prog 22 #[Ptr T, .string k] w fun x w' => ∃ v, x = .returned v ∧ OwnW w' w.heap.size v (s.down k s.depth s.root) ∧ Below w.heap.size w w' := by
  obtain ⟨rv, fv, vs, h⟩ := h
  obtain ⟨D, hD⟩ : ∃ D, D = s.depth := ⟨_, rfl⟩
  obtain ⟨R, hR⟩ : ∃ R, R = s.root := ⟨_, rfl⟩
  obtain ⟨B, hB⟩ : ∃ B, B = w.heap.size := ⟨_, rfl⟩
  have H := Lib.hid h
  have C := Lib.hid (show ∀ w', Below w.heap.size w w' → w'.cell? ⟨T, 3, none⟩ = some (.int .i64 D) ∧ w'.cell? ⟨T, 2, none⟩ = some (.int .i64 R) from fun w' hb => by
    have q := (h.below hb).row
    rw [hD, hR]; exact ⟨q.cell 3, q.cell 2⟩)
  have NC := Lib.hid (show ∀ p, p < s.nds.length → ∃ N g c A cp, p < N ∧ ∀ w', Below w.heap.size w w' → w'.cell? ⟨T, 0, none⟩ = some (.slice (some ⟨g, 0, none⟩) N c) ∧ w'.cell? ⟨g, p, none⟩ = some (.slice A (s.nd p).length cp) ∧ NodeAt w' (.slice A (s.nd p).length cp) (s.nd p) ∧ ∀ j, j < (s.nd p).length → ∃ b o, A = some ⟨b, o, none⟩ ∧ w'.cell? ⟨b, o + j * 2 + 1, none⟩ = some (.int .i64 ((s.nd p).num j)) from fun p hp => by
    have hp' : p < vs.length := by rw [h.len]; exact hp
    obtain ⟨g, c, hrv, _, _, hc⟩ := h.rowAt (by omega)
    obtain ⟨A, cp, e, hi⟩ := (h.node p hp').form
    refine ⟨vs.length, g, c, A, cp, hp', fun w' hb => ?_⟩
    have h' := h.below hb
    refine ⟨?_, ?_, ?_, fun j hj => ?_⟩
    · have := h'.row.cell 0
      simp only [List.getElem?_cons_zero] at this
      rw [hrv] at this; exact this
    · obtain ⟨g', c', e', _, _, hc'⟩ := h'.rowAt (by omega)
      rw [hrv] at e'
      injection e' with e1 _ _
      injection e1 with e1
      injection e1 with e1 _ _
      subst e1
      rw [← e]; exact (hc' p hp').1
    · rw [← e]; exact h'.node p hp'
    · obtain ⟨b, o, e1, _, e2⟩ := hi j hj
      exact ⟨b, o, e1, (hb.cell (p := ⟨b, o + j * 2 + 1, none⟩) (block_lt_of_cell e2)).trans e2⟩)
  have HK := Lib.hid hk
  have B0 := Lib.hid (Below.refl w.heap.size w)
  have c3 := (C.out w B0.out).1
  have c2 := (C.out w B0.out).2
  rw [← hD, ← hR] at HK
  rw [← hD] at hd
  rw [← hD, ← hR, ← hB]
  rw [← hB] at C NC B0
  obtain ⟨WS, hWS⟩ : ∃ WS, WS = s.down k D R := ⟨_, rfl⟩
  have HWS := Lib.hid hWS
  rw [← hWS]
  have HB := Lib.hid hB
  clear h hk hD hR hB hWS
  go_enter Try.func22, Try.ntmps22
  go_wp2_with fail
  go_loopw [5, 6] (fun vw vp wr => ∃ (ws : List (Nat × Nat)) (p n : Nat) (A : Option Addr) (c : Nat), vp = .int .i64 p ∧ vw = .slice A n c ∧ Hid (n = ws.length) ∧ Hid (OwnW wr B (.slice A n c) ws) ∧ Hid (Below B w wr) ∧ Hid (ws ++ s.down k (D - n) p = WS) ∧ Hid (s.Walks k (D - n) p) ∧ n ≤ D ∧ (n + 1 ≤ D ∨ D = 0)) (fun vw _ _ => D - slLen vw)
  case atStart => exact ⟨[], R, 0, none, 0, rfl, rfl, Lib.hid rfl, Lib.hid (World.ownsRow_nil _ _ _ _), B0, HWS.symm, HK, by omega, by omega⟩
  case round =>
    obtain ⟨ws, p, n, A, c, rfl, rfl, HN, HO, HW, HS, HG, hnD, hn1⟩ := hrel
    have c3' := (C.out wr HW.out).1
    by_cases q : n + 1 < D
    · obtain ⟨d, hd2⟩ : ∃ d, D - n = d + 2 := ⟨D - n - 2, by omega⟩
      have hg := HG.out
      rw [hd2] at hg
      obtain ⟨hp, hl, hkid, r, hr, hgo⟩ := hg
      obtain ⟨N, g, cg, A2, cp, hpN, hcc⟩ := NC.out p hp
      obtain ⟨e0, e1, e2, e3⟩ := hcc wr HW.out
      have KC := Lib.hid (xKid wr _ _ k e2 (by omega))
      obtain ⟨b, o, rfl, _⟩ := e3 _ hkid
      obtain ⟨K, hK⟩ : ∃ K, K = (s.nd p).kid k := ⟨_, rfl⟩
      obtain ⟨Z, hZ⟩ : ∃ Z, Z = (s.nd p).length := ⟨_, rfl⟩
      have HCC := Lib.hid (show ∀ w', Below B w w' → w'.cell? ⟨T, 0, none⟩ = some (.slice (some ⟨g, 0, none⟩) N cg) ∧ w'.cell? ⟨g, p, none⟩ = some (.slice (some ⟨b, o, none⟩) Z cp) ∧ w'.cell? ⟨b, o + K * 2 + 1, none⟩ = some (.int .i64 r) from fun w' hb => by
        obtain ⟨q0, q1, _, q3⟩ := hcc w' hb
        obtain ⟨b', o', e', q4⟩ := q3 _ hkid
        injection e' with e'
        injection e' with e1 e2 _
        subst e1; subst e2
        exact ⟨q0, by rw [hZ]; exact q1, by rw [hK, ← hr]; exact q4⟩)
      have KZ : K < Z := by rw [hK, hZ]; exact hkid
      have DN := Lib.hid (show (ws ++ [(p, K)]) ++ s.down k (d + 1) r = WS by
        rw [← HS.out, hd2]
        have e : s.down k (d + 2) p = (p, (s.nd p).kid k) :: s.down k (d + 1) ((s.nd p).num ((s.nd p).kid k)).toNat := rfl
        rw [e, hr, Int.toNat_natCast, List.append_assoc, hK]; rfl)
      have HGO := Lib.hid hgo
      rw [← hK] at KC
      rw [← hZ] at KC e1
      have HD2 := Lib.hid hd2
      have OA := Lib.hid (show OwnW (wr.alloc (.cells #[.int .i64 p, .int .i64 K] 69)) B (.slice A n c) ws from World.ownsRow.alloc HO.out _)
      have RA := Lib.hid (RowAt.new wr [.int .i64 p, .int .i64 K] 69)
      have BA := Lib.hid (show Below B w (wr.alloc (.cells #[.int .i64 p, .int .i64 K] 69)) from HW.out.alloc (by rw [HB.out]; exact HW.out.size) _)
      have SA := Lib.hid (show B ≤ (wr.alloc (.cells #[.int .i64 p, .int .i64 K] 69)).heap.size by rw [HB.out]; exact BA.out.size)
      have zn : ws.length = n := HN.out.symm
      have ZN := Lib.hid zn
      clear hr hgo hkid hcc hK hZ hl e2 e3 hd2 hp zn
      go_wp2_with (first | (go_at_call 31; refine KC.out.mono ?_; rintro x w1 ⟨rfl, rfl⟩) | (at_builtin; refine wp_putW rfl (.tmp 29) (.tmp 33) rfl (.slice A n c) ws rfl OA.out SA.out _ (p, K) rfl (RA.out.cell 0) (RA.out.cell 1) (by rw [ZN.out]; omega) ?_; intro A' c' w3 ho hgr; rw [ZN.out]; have B3 := Lib.hid (below_grown BA.out hgr HO.out.block SA.out); have HO3 := Lib.hid ho; obtain ⟨e30, e31, e32⟩ := HCC.out w3 B3.out; clear ho hgr))
      go_roundw
      case rel => exact ⟨ws ++ [(p, K)], r, n + 1, A', c', rfl, by first | rfl | (rw [ZN.out]), Lib.hid (by rw [List.length_append, ZN.out]; rfl), Lib.hid (by have := HO3.out; rw [ZN.out] at this; exact this), B3, Lib.hid (by rw [show D - (n + 1) = d + 1 by have := HD2.out; omega]; exact DN.out), Lib.hid (by rw [show D - (n + 1) = d + 1 by have := HD2.out; omega]; exact HGO.out), by omega, by omega⟩
      case measure => simp [slLen]; omega
    · by_cases d0 : D = 0
      · have n0 : n = 0 := by omega
        have e : ws = WS := by have := HS.out; rw [show D - n = 0 by omega] at this; rw [← this]; exact (List.append_nil _).symm
        subst d0; subst n0
        have E := Lib.hid e
        clear e
        go_wp2_with fail
        go_ret
        exact ⟨_, rfl, by rw [← E.out]; exact HO.out, HW.out⟩
      · have d1 : D - n = 1 := by omega
        have hg := HG.out
        rw [d1] at hg
        obtain ⟨hp, hl⟩ := hg
        obtain ⟨N, g, cg, A2, cp, hpN, hcc⟩ := NC.out p hp
        obtain ⟨e0, e1, e2, _⟩ := hcc wr HW.out
        have KC := Lib.hid (xBelow wr _ _ k e2 (by omega))
        obtain ⟨K, hK⟩ : ∃ K, K = (s.nd p).pos k := ⟨_, rfl⟩
        obtain ⟨Z, hZ⟩ : ∃ Z, Z = (s.nd p).length := ⟨_, rfl⟩
        have DN := Lib.hid (show ws ++ [(p, K)] = WS by
          rw [← HS.out, d1, hK]; rfl)
        rw [← hK] at KC
        rw [← hZ] at KC e1
        have OA := Lib.hid (show OwnW (wr.alloc (.cells #[.int .i64 p, .int .i64 K] 69)) B (.slice A n c) ws from World.ownsRow.alloc HO.out _)
        have RA := Lib.hid (RowAt.new wr [.int .i64 p, .int .i64 K] 69)
        have BA := Lib.hid (show Below B w (wr.alloc (.cells #[.int .i64 p, .int .i64 K] 69)) from HW.out.alloc (by rw [HB.out]; exact HW.out.size) _)
        have SA := Lib.hid (show B ≤ (wr.alloc (.cells #[.int .i64 p, .int .i64 K] 69)).heap.size by rw [HB.out]; exact BA.out.size)
        have zn : ws.length = n := HN.out.symm
        have ZN := Lib.hid zn
        have dp : 0 < D := by omega
        have dq : (0 : Int) < (D : Int) := by omega
        clear hcc hK hZ hl e2 hp zn d1
        go_wp2_with (first | (go_at_call 30; refine KC.out.mono ?_; rintro x w1 ⟨rfl, rfl⟩) | (at_builtin; refine wp_putW rfl (.tmp 51) (.tmp 63) rfl (.slice A n c) ws rfl OA.out SA.out _ (p, K) rfl (RA.out.cell 0) (RA.out.cell 1) (by rw [ZN.out]; omega) ?_; intro A' c' w3 ho hgr; rw [ZN.out]; have B3 := Lib.hid (below_grown BA.out hgr HO.out.block SA.out); have HO3 := Lib.hid ho; clear ho hgr))
        go_ret
        exact ⟨_, rfl, by have := HO3.out; rw [ZN.out, DN.out] at this; exact this, B3.out⟩

end Go.Proofs.Ytdcjckdhjfnnhaa
