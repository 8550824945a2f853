/- A block beside a world that no call of the world's turns. -/
import Derived.Test.YtjghpacpeojejaaE5d
namespace Go.Proofs.Ytjghpacpeojejaa
open Go.RowKit

/-- beside the world lies o at block q -/
def WithQ (R : RelE) (q : Nat) (o : Obj) : RelE := fun w b F m => ∃ F0, R w b F0 m ∧ ¬ F0 q ∧ (∀ k, F k ↔ F0 k ∨ k = q) ∧ w.heap[q]? = some o
section
variable {R : RelE} {q : Nat} {o : Obj}
theorem withQ_lt {w : World} (h : w.heap[q]? = some o) : q < w.heap.size := (Array.getElem?_eq_some_iff.1 h).1
theorem withQ_left {b : Nat} {F F0 : Nat → Prop} {w w' : World} {m : Ext} (hq : ¬ F0 q) (hF : ∀ k, F k ↔ F0 k ∨ k = q) (hc : w.heap[q]? = some o) (h : LeftE R b F0 w m w') : LeftE (WithQ R q o) b F w m w' := by
  obtain ⟨h1, F', h2, h3⟩ := h
  have hl := withQ_lt hc
  refine ⟨h1.mono (fun k hk => (hF k).2 (.inl hk)), fun k => F' k ∨ k = q, ⟨F', h2, fun e => ?_, fun _ => Iff.rfl, (h1.block q hl hq).trans hc⟩, fun k hk => ?_⟩
  · rcases h3 q e with p | p
    · exact hq p
    · omega
  · rcases hk with p | p
    · rcases h3 k p with r | r
      · exact .inl ((hF k).2 (.inl r))
      · exact .inr r
    · exact .inl ((hF k).2 (.inr p))
theorem ExtOps.withQ (X : ExtOps R) (q : Nat) (o : Obj) : ExtOps (WithQ R q o) where
  keep := fun ⟨F0, h, hq, hF, hc⟩ hk hs => ⟨F0, X.keep h (fun k e => hk k ((hF k).2 (.inl e))) hs, hq, hF, (hk q ((hF q).2 (.inr rfl))).trans hc⟩
  lt := fun ⟨F0, h, hq, hF, hc⟩ hk => by
    rcases (hF _).1 hk with e | e
    · exact X.lt h e
    · rw [e]; exact withQ_lt hc
  ok := fun ⟨F0, h, _⟩ => X.ok h
  write := fun b F m e a s w ⟨F0, h, hq, hF, hc⟩ h1 h2 h3 => (X.write b F0 m e a s w h h1 h2 h3).mono fun _ _ hh => ⟨hh.1, withQ_left hq hF hc hh.2⟩
  read := fun b F m e a w ⟨F0, h, hq, hF, hc⟩ h1 h2 => (X.read b F0 m e a w h h1 h2).mono fun _ _ hh => ⟨hh.1, withQ_left hq hF hc hh.2⟩
  dry := fun b F m e a w ⟨F0, h, hq, hF, hc⟩ h1 h2 => (X.dry b F0 m e a w h h1 h2).mono fun _ _ hh => ⟨hh.1, withQ_left hq hF hc hh.2⟩
  flush := fun b F m e w ⟨F0, h, hq, hF, hc⟩ h1 => (X.flush b F0 m e w h h1).mono fun _ _ hh => ⟨hh.1, withQ_left hq hF hc hh.2⟩
  crash := fun b F m A c ps w ⟨F0, h, hq, hF, hc⟩ h1 h2 h3 h4 => (X.crash b F0 m A c ps w h h1 (fun hp g o e hg => h2 hp g o e ((hF g).2 (.inl hg))) h3 h4).mono fun _ _ hh => ⟨hh.1, withQ_left hq hF hc hh.2⟩
  start := fun b F m w ⟨F0, h, hq, hF, hc⟩ => (X.start b F0 m w h).mono fun _ _ hh => ⟨hh.1, withQ_left hq hF hc hh.2⟩
  lay := fun b F m e a s w ⟨F0, h, hq, hF, hc⟩ h1 h2 h3 => (X.lay b F0 m e a s w h h1 h2 h3).mono fun _ _ hh => ⟨hh.1, withQ_left hq hF hc hh.2⟩
  on := fun b F m w ⟨F0, h, hq, hF, hc⟩ => (X.on b F0 m w h).mono fun _ _ hh => ⟨hh.1, withQ_left hq hF hc hh.2⟩
  extents := fun b F m w ⟨F0, h, hq, hF, hc⟩ => (X.extents b F0 m w h).mono fun _ _ hh => ⟨hh.1, withQ_left hq hF hc hh.2⟩
  sectors := fun b F m w ⟨F0, h, hq, hF, hc⟩ => (X.sectors b F0 m w h).mono fun _ _ hh => ⟨hh.1, withQ_left hq hF hc hh.2⟩
  wet := fun b F m e w ⟨F0, h, hq, hF, hc⟩ h1 => (X.wet b F0 m e w h h1).mono fun _ _ hh => ⟨hh.1, withQ_left hq hF hc hh.2⟩

section
variable {B b p g : Nat} {m m2 : Ext} {w : World}
/-- a new block beside both worlds -/
theorem Two.beside (X : ExtOps R) (h : Two R B w b p g m m2) (o : Obj) : Two (WithQ R w.heap.size o) B (w.alloc o) b p g m m2 := by
  obtain ⟨F, h⟩ := h
  have h2 := h.alloc X o
  have hp := h.e.a.lt
  have hg := h.e.b.lt
  refine ⟨fun k => F k ∨ k = w.heap.size, ⟨F, h2.r, fun e => absurd (X.lt h.r e) (by omega), fun _ => Iff.rfl, heap_alloc_new w o⟩, fun k hk => ?_, h2.e, h2.p, h2.g, h2.s⟩
  rcases hk with e | e
  · exact h2.f k e
  · subst e; exact ⟨h.s, by omega, by omega⟩
theorem Two.alone (h : Two (WithQ R q o) B w b p g m m2) : Two R B w b p g m m2 ∧ w.heap[q]? = some o := by
  obtain ⟨F, ⟨⟨F0, h0, hq, hF, hc⟩, hf, he, hp, hg, hs⟩⟩ := h
  exact ⟨⟨F0, h0, fun k hk => hf k ((hF k).2 (.inl hk)), he, hp, hg, hs⟩, hc⟩
theorem Two.drew (X : ExtOps R) (h : Two R B w b p g m m2) : Two R B w.drew b p g m m2 := by
  obtain ⟨F, h⟩ := h; exact ⟨F, h.drew X⟩
theorem Two.drewN (X : ExtOps R) (h : Two R B w b p g m m2) (n : Nat) : Two R B (w.drewN n) b p g m m2 := by
  obtain ⟨F, h⟩ := h; exact ⟨F, h.drewN X n⟩
theorem Two.ok (X : ExtOps R) (h : Two R B w b p g m m2) : m.Ok := by
  obtain ⟨F, h⟩ := h; exact X.ok h.r
theorem Two.size (h : Two R B w b p g m m2) : B ≤ w.heap.size := by
  obtain ⟨F, h⟩ := h; exact h.s
end
end

end Go.Proofs.Ytjghpacpeojejaa
