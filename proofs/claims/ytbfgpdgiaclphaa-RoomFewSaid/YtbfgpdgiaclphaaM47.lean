/- Proved parts: B5tg B5th. Conditions: each theorem's own. -/
import Derived.Test.YtbfgpdgiaclphaaM19
import Derived.Test.YtbfgpdgiaclphaaM46
import Derived.Test.YtbfgpdgiaclphaaM45
import Derived.Maps.OwnIn
import Derived.Test.YtbfgpdgiaclphaaM12
import Derived.RangeFuncNested
import Derived.OwnWalkIn
namespace Go.Proofs.Ytbfgpdgiaclphaa
open Go.RowKit Go.Shelf

theorem OwnEn.put {w : World} {B g : Nat} {v : Value} {l : List En} (h : OwnEn w B v l) (hg : g < B) (o : Obj) : OwnEn (w.putObj g o) B v l := by
  rcases h with ⟨h1, h2⟩
  refine ⟨h1, ?_⟩
  rcases h2 with ⟨rfl, h0⟩ | ⟨k, cap, cur, rfl, hB, hk, r⟩
  · exact .inl ⟨rfl, h0⟩
  · exact .inr ⟨k, cap, cur, rfl, hB, (World.putObj_heap_other (by omega)).trans hk, r⟩
theorem OwnEn.other {w w' : World} {B : Nat} {v : Value} {l : List En} (h : OwnEn w B v l) (hk : ∀ k, B ≤ k → w'.heap[k]? = w.heap[k]?) : OwnEn w' B v l := by
  rcases h with ⟨h1, h2⟩
  refine ⟨h1, ?_⟩
  rcases h2 with ⟨rfl, h0⟩ | ⟨k, cap, cur, rfl, hB, hg, r⟩
  · exact .inl ⟨rfl, h0⟩
  · exact .inr ⟨k, cap, cur, rfl, hB, (hk _ hB).trans hg, r⟩
theorem SlV.put {X : World} {g : Nat} {A : Option Addr} {l : List Ver} (h : SlV X A l) (hp : ∃ o', X.heap[g]? = some o' ∧ o'.isCells = false) (o : Obj) : SlV (X.putObj g o) A l := by
  obtain ⟨o', h1, h2⟩ := hp
  exact h.kept (grownBy_putObj' X g o) (fun r e => by cases e; exact ⟨o', h1, h2⟩)
theorem OkW.put {L0 : Ch} {j0 g : Nat} {pre : List WItm} {x : WItm} {X : World} (h : OkW L0 j0 pre x X) (hp : ∃ o', X.heap[g]? = some o' ∧ o'.isCells = false) (o : Obj) : OkW L0 j0 pre x (X.putObj g o) := by
  obtain ⟨h1, h2, A, c, h3, h4, h5⟩ := h
  exact ⟨h1, h2, A, c, h3, h4, h5.put hp o⟩
attribute [local go_sem] Oper.semAt_some
end Go.Proofs.Ytbfgpdgiaclphaa

namespace Go.Proofs.Ytbfgpdgiaclphaa
open Go.RowKit Go.Shelf

/-- what a sweep has made behind i keys -/
def SwI (b D : Nat) (W0 : World) (F0 : Nat → Prop) (s0 : Sh) (L : Ch) (f : Int) (P i : Nat) (V : World) : Prop :=
  Chg F0 W0 V ∧ ∃ s F, Allf V F (s.os b) ∧ (∀ k, F k → F0 k ∨ D + 2 ≤ k) ∧ Sh.Hd s0 s ∧ s.At (L.swp f i) P
section
variable {b D P i : Nat} {W0 V Y : World} {F0 : Nat → Prop} {s0 : Sh} {L : Ch} {f : Int}
theorem SwI.below (h : SwI b D W0 F0 s0 L f P i V) (hb : Below V.heap.size V Y) : SwI b D W0 F0 s0 L f P i Y := by
  obtain ⟨c, s, F, h1, h2, h3, h4⟩ := h
  exact ⟨c.trans (Chg.of_below (F := fun _ => False) hb) (fun _ e => e.elim), s, F, h1.keep (fun k e => hb.block k (h1.lt e)) hb.size, h2, h3, h4⟩
theorem SwI.put (h : SwI b D W0 F0 s0 L f P i V) (hD : W0.heap.size = D) (h0 : ∀ k, F0 k → k < D) (o : Obj) : SwI b D W0 F0 s0 L f P i (V.putObj (D + 1) o) := by
  obtain ⟨c, s, F, h1, h2, h3, h4⟩ := h
  have e : ∀ k, k ≠ D + 1 → (V.putObj (D + 1) o).heap[k]? = V.heap[k]? := fun k hk => World.putObj_heap_other hk
  have z : (V.putObj (D + 1) o).heap.size = V.heap.size := by simp [World.putObj]
  refine ⟨⟨c.os, c.tape, c.output, by rw [z]; exact c.size, fun k hk hn => (e k (by omega)).trans (c.block k hk hn)⟩, s, F, h1.keep (fun k q => e k fun y => ?_) (by omega), h2, h3, h4⟩
  rcases h2 k q with r | r
  · have := h0 k r; omega
  · omega
/-- a round gives the swept chain -/
theorem SwI.set {w1 : World} {A' : Option Addr} {c' n : Nat} (h : SwI b D W0 F0 s0 L f P i V) (hD : W0.heap.size = D) (h0 : ∀ k, F0 k → k < D) (hV : D + 2 ≤ V.heap.size) (hr : L.Rise) (hi : i < L.length) (hk : (L.key i).size ≤ 1000)
    (hb : Below V.heap.size V w1) (hs : SlV w1 A' (sweepL (L.chn i) f)) (hn : n = (sweepL (L.chn i) f).length) (hc : n ≤ c') (hg : 0 < n → ∃ g, A' = some ⟨g, 0, none⟩ ∧ V.heap.size ≤ g) (gl : GoodL (sweepL (L.chn i) f)) (rl : rightL (sweepL (L.chn i) f) = true) :
    Calls Try.prog 20 #[PtrS b, .string (L.key i), .slice A' n c'] w1 fun e w' => e = .returned (.tuple #[]) ∧ (w'.heap[D]? = V.heap[D]? ∧ w'.heap[D + 1]? = V.heap[D + 1]?) ∧ SwI b D W0 F0 s0 L f P (i + 1) w' := by
  obtain ⟨c, s, F, h1, h2, h3, h4⟩ := h
  obtain ⟨hp, hh⟩ := Ch.swp_pos (f := f) hr hi
  have sd := h1.side.below hb
  have fin : ∀ w' (s' : Sh) (L' : Ch), Side V (fun k => k < V.heap.size ∧ ¬ F k) w' (s'.os b) → Sh.Hd s s' → s'.At L' P → L' = L.swp f (i + 1) → (w'.heap[D]? = V.heap[D]? ∧ w'.heap[D + 1]? = V.heap[D + 1]?) ∧ SwI b D W0 F0 s0 L f P (i + 1) w' := fun w' s' L' q1 q2 q3 q4 => by
    obtain ⟨ch, F', a1, a2⟩ := q1.allf
    have nf : ∀ k, D ≤ k → k ≤ D + 1 → ¬ F k := fun k u1 u2 e => by
      rcases h2 k e with r | r
      · have := h0 k r; omega
      · omega
    refine ⟨⟨ch.block _ (by omega) (nf D (by omega) (by omega)), ch.block _ (by omega) (nf _ (by omega) (by omega))⟩, c.trans ch (fun k e => ?_), s', F', a1, fun k e => ?_, h3.trans q2, q4 ▸ q3⟩
    · rcases h2 k e with r | r
      · exact .inl r
      · exact .inr (by omega)
    · rcases a2 k e with r | r
      · exact h2 k r
      · exact .inr (by omega)
  by_cases z : n = 0
  · subst z
    have ez : sweepL (L.chn i) f = [] := List.length_eq_zero_iff.1 hn.symm
    have sm : Side V (fun k => k < V.heap.size ∧ ¬ F k) w1 (s.os b ++ [oCh A' (sweepL (L.chn i) f)]) := sd.more (Below.refl _ _) (o := oCh A' (sweepL (L.chn i) f)) (F' := fun _ => False) ⟨⟨hs, fun hp => by omega⟩, fun _ e => e.elim⟩ (fun _ e => e.elim)
    exact (xSetDelR sm h4 hn gl rl hk hh).mono fun e w' ⟨e1, s', q1, q2, q3⟩ => ⟨e1, fin w' s' _ q1 q2 q3 (Ch.swp_cut hr hi ez)⟩
  · obtain ⟨g, rfl, hg⟩ := hg (by omega)
    have ez : sweepL (L.chn i) f ≠ [] := fun e => by rw [e] at hn; exact z hn
    have gw : g < w1.heap.size := by
      obtain ⟨b', o', e, hl, _⟩ := hs (by omega)
      injection e with e; injection e with e _ _; rw [e]; exact hl
    have sm : Side V (fun k => k < V.heap.size ∧ ¬ F k) w1 (s.os b ++ [oCh (some ⟨g, 0, none⟩) (sweepL (L.chn i) f)]) :=
      h1.side.more hb (o := oCh (some ⟨g, 0, none⟩) (sweepL (L.chn i) f)) (F' := fun k => k = g) ⟨⟨hs, fun _ => ⟨g, 0, rfl, rfl⟩⟩, fun k e => by rw [e]; exact gw⟩ (fun k e => by omega)
    exact (xSetOldR sm h4 hn hc (by omega) gl rl hk hh).mono fun e w' ⟨e1, s', q1, q2, q3⟩ => ⟨e1, fin w' s' _ q1 q2 q3 (Ch.swp_give hr hi ez)⟩
end

attribute [local go_sem] Oper.semAt_some
end Go.Proofs.Ytbfgpdgiaclphaa
