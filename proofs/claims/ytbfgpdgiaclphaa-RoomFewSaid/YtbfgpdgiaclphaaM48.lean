/- Proved parts: B5tg. Conditions: each theorem's own. -/
import Derived.Test.YtbfgpdgiaclphaaM19
import Derived.Test.YtbfgpdgiaclphaaM47
import Derived.Test.YtbfgpdgiaclphaaM45
import Derived.Maps.OwnIn
namespace Go.Proofs.Ytbfgpdgiaclphaa
open Go.RowKit Go.Shelf

theorem Ch.ents_len (L : Ch) (q : Int) : (L.ents q).length ≤ L.length := by
  unfold Ch.ents
  exact List.length_filterMap_le _ _
theorem OwnEn.put {w : World} {B g : Nat} {v : Value} {l : List En} (h : OwnEn w B v l) (hg : g < B) (o : Obj) : OwnEn (w.putObj g o) B v l := by
  rcases h with ⟨h1, h2⟩
  refine ⟨h1, ?_⟩
  rcases h2 with ⟨rfl, h0⟩ | ⟨k, cap, cur, rfl, hB, hk, r⟩
  · exact .inl ⟨rfl, h0⟩
  · exact .inr ⟨k, cap, cur, rfl, hB, (World.putObj_heap_other (by omega)).trans hk, r⟩
theorem OwnEn.other {w w' : World} {B : Nat} {v : Value} {l : List En} (h : OwnEn w B v l) (hk : ∀ k, B ≤ k → w'.heap[k]? = w.heap[k]?) : OwnEn w' B v l := by
  rcases h with ⟨h1, h2⟩
  refine ⟨h1, ?_⟩
  rcases h2 with ⟨rfl, h0⟩ | ⟨k, cap, cur, rfl, hB, hg, r⟩
  · exact .inl ⟨rfl, h0⟩
  · exact .inr ⟨k, cap, cur, rfl, hB, (hk _ hB).trans hg, r⟩
theorem SlV.put {X : World} {g : Nat} {A : Option Addr} {l : List Ver} (h : SlV X A l) (hp : ∃ o', X.heap[g]? = some o' ∧ o'.isCells = false) (o : Obj) : SlV (X.putObj g o) A l := by
  obtain ⟨o', h1, h2⟩ := hp
  exact h.kept (grownBy_putObj' X g o) (fun r e => by cases e; exact ⟨o', h1, h2⟩)
theorem OkW.put {L0 : Ch} {j0 g : Nat} {pre : List WItm} {x : WItm} {X : World} (h : OkW L0 j0 pre x X) (hp : ∃ o', X.heap[g]? = some o' ∧ o'.isCells = false) (o : Obj) : OkW L0 j0 pre x (X.putObj g o) := by
  obtain ⟨h1, h2, A, c, h3, h4, h5⟩ := h
  exact ⟨h1, h2, A, c, h3, h4, h5.put hp o⟩
attribute [local go_sem] Oper.semAt_some
end Go.Proofs.Ytbfgpdgiaclphaa
