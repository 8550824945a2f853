/- Proved parts: B1t. Conditions: each theorem's own. -/
import Derived.Test.YtbfgpdgiaclphaaM13
import Derived.BigQuiet
import Derived.StillTailTactics
namespace Go.Proofs.Ytbfgpdgiaclphaa
open Go.RowKit

/-- the slice at A reads as writes -/
def SlWr (w : World) (A : Option Addr) (l : List Wr) : Prop :=
  0 < l.length → ∃ b o, A = some ⟨b, o, none⟩ ∧ b < w.heap.size ∧ ∀ j, j < l.length →
    w.cell? ⟨b, o + j * 5, none⟩ = some (.string (l.getD j Wr.Z).key) ∧ w.cell? ⟨b, o + j * 5 + 1, none⟩ = some (.bool (l.getD j Wr.Z).gone) ∧ w.cell? ⟨b, o + j * 5 + 2, none⟩ = some (.bool (l.getD j Wr.Z).val.num) ∧
    w.cell? ⟨b, o + j * 5 + 3, none⟩ = some (.string (l.getD j Wr.Z).val.txt) ∧ w.cell? ⟨b, o + j * 5 + 4, none⟩ = some (.int .u64 ((l.getD j Wr.Z).val.bits : Int))
theorem SlWr.below {w w' : World} {A : Option Addr} {l : List Wr} (h : SlWr w A l) (hb : Below w.heap.size w w') : SlWr w' A l := fun hp => by
  obtain ⟨b, o, e, hl, hc⟩ := h hp
  refine ⟨b, o, e, Nat.lt_of_lt_of_le hl hb.size, fun j hj => ?_⟩
  obtain ⟨c0, c1, c2, c3, c4⟩ := hc j hj
  exact ⟨(hb.cell (p := ⟨b, o + j * 5, none⟩) hl).trans c0, (hb.cell (p := ⟨b, o + j * 5 + 1, none⟩) hl).trans c1, (hb.cell (p := ⟨b, o + j * 5 + 2, none⟩) hl).trans c2, (hb.cell (p := ⟨b, o + j * 5 + 3, none⟩) hl).trans c3, (hb.cell (p := ⟨b, o + j * 5 + 4, none⟩) hl).trans c4⟩
theorem SlWr.at {w : World} {A : Option Addr} {l : List Wr} (h : SlWr w A l) {j : Nat} (hj : j < l.length) : ∃ b o, A = some ⟨b, o, none⟩ ∧ b < w.heap.size ∧
    w.cell? ⟨b, o + j * 5, none⟩ = some (.string (l.getD j Wr.Z).key) ∧ w.cell? ⟨b, o + j * 5 + 1, none⟩ = some (.bool (l.getD j Wr.Z).gone) ∧ w.cell? ⟨b, o + j * 5 + 2, none⟩ = some (.bool (l.getD j Wr.Z).val.num) ∧
    w.cell? ⟨b, o + j * 5 + 3, none⟩ = some (.string (l.getD j Wr.Z).val.txt) ∧ w.cell? ⟨b, o + j * 5 + 4, none⟩ = some (.int .u64 ((l.getD j Wr.Z).val.bits : Int)) := by
  obtain ⟨b, o, e, hl, hc⟩ := h (by omega)
  exact ⟨b, o, e, hl, hc j hj⟩
theorem withW_succ (L : Ch) (l : List Wr) (q : Int) {i : Nat} (hi : i < l.length) : L.withW (l.take (i + 1)) q = (L.withW (l.take i) q).put (l.getD i Wr.Z).key ((l.getD i Wr.Z).ver q) := by
  unfold Ch.withW
  rw [List.take_succ_eq_append_getElem hi, List.foldl_append, List.getD_eq_getElem?_getD, List.getElem?_eq_getElem hi]
  rfl

end Go.Proofs.Ytbfgpdgiaclphaa
