/- The way to a key: steps in a row of the call's own; an item of a node that turns; way, find: walked. -/
import Derived.Test.YtdcjckdhjfnnhaaT9p
namespace Go.Proofs.Ytdcjckdhjfnnhaa
open Go.RowKit

section
variable {w w' : World} {T : Nat} {E : Nat → Prop} {s : Tab} {rv fv : Value} {vs : List Value}
/-- an item of a node turns -/
theorem TabV.item {p i j b o c : Nat} {u : Value} (y : ByteArray × Int) (h : TabV w T E s rv fv vs) (hp : p < vs.length) (ev : nv vs p = .slice (some ⟨b, o, none⟩) (s.nd p).length c) (hi : i < (s.nd p).length) (hj : j < 2) (hy : (it2 (s.nd p)[i]).set j u = it2 y) :
    TabV (w.setCell ⟨b, o + (i * 2 + j), none⟩ u) T E (s.put p ((s.nd p).set i y)) rv fv vs := by
  have hw : WinAt w b o c (s.nd p) := by
    obtain ⟨b', o', c', e, k⟩ := h.win hp (by omega)
    rw [ev] at e
    injection e with e1 _ e3
    injection e1 with e1
    injection e1 with e1 e4 _
    subst e1; subst e4; subst e3; exact k
  have hfit := hw.fit
  have iw : InWin (nv vs p) b (o + (i * 2 + j)) := by rw [ev]; exact ⟨o, _, c, rfl, by omega, by omega⟩
  have hW := h.eW p b _ hp iw
  have t : Turn (fun k m => k = b ∧ m = o + (i * 2 + j)) w (w.setCell ⟨b, o + (i * 2 + j), none⟩ u) := (Turn.setCells w b (o + (i * 2 + j)) [u]).mono fun k m ⟨h1, h2, h3⟩ => ⟨h1, by simp at h3; omega⟩
  have kb : ∀ k, k ≠ b → (w.setCell ⟨b, o + (i * 2 + j), none⟩ u).heap[k]? = w.heap[k]? := fun k q => Below.heap_setCell _ _ _ _ q
  have hwn : WinAt (w.setCell ⟨b, o + (i * 2 + j), none⟩ u) b o c ((s.nd p).set i y) := by
    refine ⟨by rw [List.length_set]; exact hfit, hw.cap, hw.pos, ?_, fun m hm => t.there _ _ hw.plain.lt (hw.there m hm), hw.plain.setCell _ _⟩
    have e : itc ((s.nd p).set i y) = (itc (s.nd p)).set (i * 2 + j) u := (flat_set (f := it2) (n := 2) (fun _ => rfl) (s.nd p) i j u y hi hj hy).symm
    rw [e]
    intro m v hm
    rw [List.getElem?_set] at hm
    by_cases q : i * 2 + j = m
    · subst q
      rw [if_pos rfl] at hm
      split at hm
      · injection hm with hm
        subst hm
        exact World.cell?_setCell_same' _ _ _ (hw.there _ (by omega))
      · cases hm
    · rw [if_neg q] at hm
      rw [t.cell b (o + m) hw.plain.lt (fun ⟨_, e⟩ => q (by omega))]
      exact hw.row m v hm
  refine ⟨(kb T (Ne.symm hW.2.1)).trans h.row, own_keep h.nodes fun k e => kb k (fun t => hW.2.2.1 (by rw [← t]; exact e)), own_keep h.free fun k e => kb k (fun t => hW.2.2.2 (by rw [← t]; exact e)), by rw [h.len]; show _ = (s.nds.set p _).length; rw [List.length_set], fun l hl => ?_, h.apart, h.eT, h.eN, h.eF, h.eW, fun k e => ?_⟩
  · rw [Tab.put_nd (by rw [← h.len]; exact hp)]
    by_cases q : l = p
    · rw [if_pos q, q, ev]
      exact .inr ⟨b, o, c, by rw [List.length_set], hwn⟩
    · rw [if_neg q]
      exact (h.node l hl).turn t fun k m f ⟨e1, e2⟩ => by
        subst e1; subst e2
        exact q (h.apart l p _ _ hl hp f iw)
  · have : (w.setCell ⟨b, o + (i * 2 + j), none⟩ u).heap.size = w.heap.size := by simp [World.setCell]
    rw [this]; exact h.lt k e
end
theorem KV.getE (l : KV) (i : Nat) (hi : i < l.length) : l[i] = (l.key i, l.num i) := by
  unfold KV.key KV.num
  rw [List.getD_eq_getElem?_getD, List.getElem?_eq_getElem hi]; rfl

/-- a step's two cells -/
def st2 (x : Nat × Nat) : List Value := [.int .i64 x.1, .int .i64 x.2]
def stc (l : List (Nat × Nat)) : List Value := l.flatMap st2
theorem stc_len (l : List (Nat × Nat)) : (stc l).length = l.length * 2 := flat_len (f := st2) (n := 2) (fun _ => rfl) l
theorem infoSt : (Try.prog.info? 69).map (fun i => (i.zero, i.size, i.bytes)) = some (some (.agg #[.int .i64 0, .int .i64 0]), 2, 16) := by kernel_rfl
/-- the slice v holds the steps -/
def SlW (w : World) (v : Value) (ws : List (Nat × Nat)) : Prop := ∃ A c, v = .slice A ws.length c ∧ ∀ j, j < ws.length → ∃ g, A = some ⟨g, 0, none⟩ ∧ w.cell? ⟨g, j * 2, none⟩ = some (.int .i64 (ws.getD j (0, 0)).1) ∧ w.cell? ⟨g, j * 2 + 1, none⟩ = some (.int .i64 (ws.getD j (0, 0)).2)
def OwnW (w : World) (B : Nat) (v : Value) (ws : List (Nat × Nat)) : Prop := w.ownsRow B 69 2 v ws.length (stc ws)
theorem OwnW.sl {w : World} {B : Nat} {v : Value} {ws : List (Nat × Nat)} (h : OwnW w B v ws) : SlW w v ws := by
  have h1 := h
  rcases h.2 with ⟨rfl, h0⟩ | ⟨g, cap, cur, rfl, hB, hg, _⟩
  · exact ⟨none, 0, by rw [h0], fun j hj => by omega⟩
  · refine ⟨_, cap, rfl, fun j hj => ⟨g, rfl, ?_, ?_⟩⟩
    · have := flat_at (f := st2) (n := 2) (fun _ => rfl) ws j 0 hj (by decide)
      unfold OwnW at h1
      rw [show j * 2 = j * 2 + 0 from rfl, h1.cellAt (j * 2 + 0) (by omega), List.getD_eq_getElem?_getD, List.getElem?_eq_getElem hj]
      exact this
    · have := flat_at (f := st2) (n := 2) (fun _ => rfl) ws j 1 hj (by decide)
      unfold OwnW at h1
      rw [h1.cellAt (j * 2 + 1) (by omega), List.getD_eq_getElem?_getD, List.getElem?_eq_getElem hj]
      exact this
set_option maxRecDepth 100000 in
/-- append(way, step) -/
theorem wp_putW {w : World} {B : Nat} {ops : Array Oper} {rest : List Oper} {o : Oper} {a : Act} {Q : Exit → Act → World → Prop} (hgd : o.guard = none) (s x : Operand)
    (ho : o.op = .call { callee := .builtin .append, args := #[s, x], argTypes := #[51, 51] })
    (v : Value) (zs : List (Nat × Nat)) (hs : a.eval s = v) (hown : OwnW w B v zs) (hB : B ≤ w.heap.size) (g : Nat) (y : Nat × Nat) (hx : a.eval x = .slice (some ⟨g, 0, none⟩) 1 1)
    (hc : w.cell? ⟨g, 0, none⟩ = some (.int .i64 y.1)) (hc1 : w.cell? ⟨g, 1, none⟩ = some (.int .i64 y.2)) (hl : zs.length ≤ 1000000)
    (h : ∀ A' c' w', OwnW w' B (.slice A' (zs.length + 1) c') (zs ++ [y]) → w.grownBy w' v.ownBlock → wpList Try.prog ops Q rest (a.put o.dst (.slice A' (zs.length + 1) c')) w') : wpList Try.prog ops Q (o :: rest) a w := by
  obtain ⟨i0, hi, hz0, hz1, hz2⟩ := info_parts infoSt
  refine wpList_append_own_at w hgd s x 51 ho B 69 i0 _ 2 16 Try.underlying51 hi hz0 hz1 hz2 rfl (by decide) v zs.length _ hs hown ⟨g, 0, none⟩ 1 1 (st2 y) hx rfl ?_ ?_
    (by unfold maxLen; omega) (by omega) hB ?_
  · intro j u hj
    match j, hj with
    | 0, hj => injection hj with hj; subst hj; exact hc
    | 1, hj => injection hj with hj; subst hj; exact hc1
  · intro u hu
    unfold st2 at hu
    simp at hu
    rcases hu with rfl | rfl <;> rfl
  · intro v' w' h1 h2 _ _
    have e : stc zs ++ st2 y = stc (zs ++ [y]) := by unfold stc; simp
    rw [e] at h1
    have e2 : zs.length + 1 = (zs ++ [y]).length := by simp
    rcases h1.2 with ⟨_, q⟩ | ⟨g', cap, cur, rfl, _⟩
    · omega
    · exact h _ cap w' (by unfold OwnW; rw [← e2]; exact h1) h2
/-- the steps from a node down -/
def Tab.down (s : Tab) (k : ByteArray) : Nat → Nat → List (Nat × Nat)
  | 0, _ => []
  | 1, p => [(p, (s.nd p).pos k)]
  | d + 2, p => (p, (s.nd p).kid k) :: s.down k (d + 1) ((s.nd p).num ((s.nd p).kid k)).toNat
/-- nothing is amiss on the way -/
def Tab.Walks (s : Tab) (k : ByteArray) : Nat → Nat → Prop
  | 0, _ => True
  | 1, p => p < s.nds.length ∧ (s.nd p).length ≤ 100000
  | d + 2, p => p < s.nds.length ∧ (s.nd p).length ≤ 100000 ∧ (s.nd p).kid k < (s.nd p).length ∧ ∃ q : Nat, (s.nd p).num ((s.nd p).kid k) = q ∧ s.Walks k (d + 1) q

end Go.Proofs.Ytdcjckdhjfnnhaa
