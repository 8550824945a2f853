/- cloisonneref08: append of slices; Del: walked. -/
import Derived.Test.YtdcjckdhjfnnhaaT8r
namespace Go.Proofs.Ytdcjckdhjfnnhaa
open Go.RowKit

theorem SlS.take {w : World} {A : Option Addr} {zs : List ByteArray} (h : SlS w A zs) (i : Nat) : SlS w A (zs.take i) := fun hn => by
  rw [List.length_take] at hn
  obtain ⟨b, o, e, hlt, hc⟩ := h (by omega)
  refine ⟨b, o, e, hlt, fun j hj => ?_⟩
  rw [List.length_take] at hj
  rw [hc j (by omega), List.getD_eq_getElem?_getD, List.getD_eq_getElem?_getD, List.getElem?_take, if_pos (by omega)]
theorem SlS.drop {w : World} {g o : Nat} {zs : List ByteArray} (h : SlS w (some ⟨g, o, none⟩) zs) (i : Nat) : SlS w (some ⟨g, o + i, none⟩) (zs.drop i) := fun hn => by
  rw [List.length_drop] at hn
  obtain ⟨b, o', e, hlt, hc⟩ := h (by omega)
  injection e with e
  injection e with e1 e2 _
  subst e1; subst e2
  refine ⟨g, o + i, rfl, hlt, fun j hj => ?_⟩
  rw [List.length_drop] at hj
  rw [Nat.add_assoc, hc (i + j) (by omega), List.getD_eq_getElem?_getD, List.getD_eq_getElem?_getD, List.getElem?_drop]
theorem SlS.keptB {w w' : World} {B g o : Nat} {zs : List ByteArray} (h : SlS w (some ⟨g, o, none⟩) zs) (hb : Below B w w') (hg : g < B) : SlS w' (some ⟨g, o, none⟩) zs := fun hn => by
  obtain ⟨b, o', e, hlt, hc⟩ := h hn
  injection e with e
  injection e with e1 e2 _
  subst e1; subst e2
  exact ⟨g, o, rfl, Nat.lt_of_lt_of_le hlt hb.size, fun j hj => (hb.cell (p := ⟨g, o + j, none⟩) hg).trans (hc j hj)⟩
theorem SlJ.take {w : World} {A : Option Addr} {zs : List Int} (h : SlJ w A zs) (i : Nat) : SlJ w A (zs.take i) := fun hn => by
  rw [List.length_take] at hn
  obtain ⟨b, o, e, hlt, hc⟩ := h (by omega)
  refine ⟨b, o, e, hlt, fun j hj => ?_⟩
  rw [List.length_take] at hj
  rw [hc j (by omega), List.getD_eq_getElem?_getD, List.getD_eq_getElem?_getD, List.getElem?_take, if_pos (by omega)]
theorem SlJ.drop {w : World} {g o : Nat} {zs : List Int} (h : SlJ w (some ⟨g, o, none⟩) zs) (i : Nat) : SlJ w (some ⟨g, o + i, none⟩) (zs.drop i) := fun hn => by
  rw [List.length_drop] at hn
  obtain ⟨b, o', e, hlt, hc⟩ := h (by omega)
  injection e with e
  injection e with e1 e2 _
  subst e1; subst e2
  refine ⟨g, o + i, rfl, hlt, fun j hj => ?_⟩
  rw [List.length_drop] at hj
  rw [Nat.add_assoc, hc (i + j) (by omega), List.getD_eq_getElem?_getD, List.getD_eq_getElem?_getD, List.getElem?_drop]
theorem SlJ.keptB {w w' : World} {B g o : Nat} {zs : List Int} (h : SlJ w (some ⟨g, o, none⟩) zs) (hb : Below B w w') (hg : g < B) : SlJ w' (some ⟨g, o, none⟩) zs := fun hn => by
  obtain ⟨b, o', e, hlt, hc⟩ := h hn
  injection e with e
  injection e with e1 e2 _
  subst e1; subst e2
  exact ⟨g, o, rfl, Nat.lt_of_lt_of_le hlt hb.size, fun j hj => (hb.cell (p := ⟨g, o + j, none⟩) hg).trans (hc j hj)⟩
theorem SlS.rest {w : World} {g i c : Nat} {zs : List ByteArray} (h : SlS w (some ⟨g, 0, none⟩) zs) (hc : zs.length ≤ c) : SlS w (if c = i then some ⟨g, 0, none⟩ else some ⟨g, i, none⟩) (zs.drop i) := by
  split
  · intro hn
    rw [List.length_drop] at hn
    omega
  · have := h.drop i
    rwa [Nat.zero_add] at this
theorem SlJ.rest {w : World} {g i c : Nat} {zs : List Int} (h : SlJ w (some ⟨g, 0, none⟩) zs) (hc : zs.length ≤ c) : SlJ w (if c = i then some ⟨g, 0, none⟩ else some ⟨g, i, none⟩) (zs.drop i) := by
  split
  · intro hn
    rw [List.length_drop] at hn
    omega
  · have := h.drop i
    rwa [Nat.zero_add] at this
theorem SlJ.alloc {w : World} {A : Option Addr} {zs : List Int} (h : SlJ w A zs) (o : Obj) : SlJ (w.alloc o) A zs := h.below ((Below.refl _ _).alloc (Nat.le_refl _) o)
theorem SlJ.other {w : World} {g o : Nat} {zs : List Int} (h : SlJ w (some ⟨g, o, none⟩) zs) {p : Addr} (hp : g ≠ p.block) (v : Value) : SlJ (w.setCell p v) (some ⟨g, o, none⟩) zs := fun hn => by
  obtain ⟨b, o', e, hlt, hc⟩ := h hn
  injection e with e
  injection e with e1 e2 _
  subst e1; subst e2
  exact ⟨g, o, rfl, by rw [World.size_setCell]; exact hlt, fun j hj => (World.cell?_of_block (w := w) (a := ⟨g, o + j, none⟩) (Below.heap_setCell _ _ _ _ hp)).trans (hc j hj)⟩
/-- a row of strings is none of ints -/
theorem ownSJ_ne {w : World} {B C : Nat} {v u : Value} {zs : List ByteArray} {ys : List Int} (h : OwnS w B v zs) (h' : OwnJ w C u ys) {k : Nat} (e : v.ownBlock = some k) : u.ownBlock ≠ some k := by
  intro e'
  rcases h.2 with ⟨rfl, _⟩ | ⟨g, cap, cur, rfl, _, hg, _⟩
  · cases e
  · rcases h'.2 with ⟨rfl, _⟩ | ⟨g', cap', cur', rfl, _, hg', _⟩
    · cases e'
    · simp only [Value.ownBlock, Option.some.injEq] at e e'
      subst e
      subst e'
      rw [hg] at hg'
      simp only [Option.some.injEq, Obj.cells.injEq] at hg'
      exact absurd hg'.2.1 (by decide)
section
variable {ops : Array Oper} {rest : List Oper} {o : Oper} {a : Act} {w : World} {Q : Exit → Act → World → Prop}
/-- append(v, ys...) -/
theorem wp_appS (hg : o.guard = none) (s x : Operand) (hop : o.op = .call { callee := .builtin .append, args := #[s, x], argTypes := #[27, 27] })
    (B : Nat) (v : Value) (zs ys : List ByteArray) (hs : a.eval s = v) (hown : OwnS w B v zs) (A : Option Addr) (c m : Nat) (hm : m = ys.length) (hx : a.eval x = .slice A m c) (hsl : SlS w A ys)
    (hl : zs.length + ys.length ≤ 1000000) (hB : B ≤ w.heap.size)
    (h : ∀ v' w', OwnS w' B v' (zs ++ ys) → w.grownBy w' v.ownBlock → Below B w w' → wpList Try.prog ops Q rest (a.put o.dst v') w') : wpList Try.prog ops Q (o :: rest) a w := by
  subst hm
  refine wpList_plain hg fun K hK => ?_
  have k := step_appS (ops := ops) (K := K) (Q := Q) (E := True) hg s x hop B v zs ys hs hown A c hx hsl hl hB (fun v' w' h1 h2 h3 => hK _ _ (h v' w' h1 h2 h3))
  rwa [if_pos (by simp [Region.wanted, hg])] at k
theorem wp_appJ (hg : o.guard = none) (s x : Operand) (hop : o.op = .call { callee := .builtin .append, args := #[s, x], argTypes := #[28, 28] })
    (B : Nat) (v : Value) (zs ys : List Int) (hs : a.eval s = v) (hown : OwnJ w B v zs) (A : Option Addr) (c m : Nat) (hm : m = ys.length) (hx : a.eval x = .slice A m c) (hsl : SlJ w A ys)
    (hl : zs.length + ys.length ≤ 1000000) (hB : B ≤ w.heap.size)
    (h : ∀ v' w', OwnJ w' B v' (zs ++ ys) → w.grownBy w' v.ownBlock → Below B w w' → wpList Try.prog ops Q rest (a.put o.dst v') w') : wpList Try.prog ops Q (o :: rest) a w := by
  subst hm
  refine wpList_plain hg fun K hK => ?_
  have k := step_appJ (ops := ops) (K := K) (Q := Q) (E := True) hg s x hop B v zs ys hs hown A c hx hsl hl hB (fun v' w' h1 h2 h3 => hK _ _ (h v' w' h1 h2 h3))
  rwa [if_pos (by simp [Region.wanted, hg])] at k
end
theorem KV.del_ks {l : KV} {k : ByteArray} (h : l.has k = true) : (l.del k).ks = l.ks.take (l.pos k) ++ l.ks.drop (l.pos k + 1) ∧ (l.del k).ns = l.ns.take (l.pos k) ++ l.ns.drop (l.pos k + 1) := by
  unfold KV.del KV.ks KV.ns
  rw [if_pos h]
  simp [List.map_take, List.map_drop]
theorem OwnS.base {w : World} {B : Nat} {v : Value} {zs : List ByteArray} (h : OwnS w B v zs) : OwnS w 0 v zs := h.mono (Nat.zero_le _)
theorem OwnJ.base {w : World} {B : Nat} {v : Value} {zs : List Int} (h : OwnJ w B v zs) : OwnJ w 0 v zs := by
  rcases h with ⟨h1, h2⟩
  refine ⟨h1, ?_⟩
  rcases h2 with q | ⟨g, cap, cur, e, hB, r⟩
  · exact .inl q
  · exact .inr ⟨g, cap, cur, e, Nat.zero_le _, r⟩
theorem OwnJ.ltB {w : World} {B : Nat} {v : Value} {zs : List Int} (h : OwnJ w B v zs) : ∀ k, v.ownBlock = some k → B ≤ k ∧ k < w.heap.size := World.ownsRow.lt h

end Go.Proofs.Ytdcjckdhjfnnhaa
