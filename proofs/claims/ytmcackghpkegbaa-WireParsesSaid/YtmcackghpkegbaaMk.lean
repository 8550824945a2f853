/- What the functions that make labels out of labels answer, walked: the reference's Put and Of; label.Meet and label.Less. -/
import Derived.Test.YtmcackghpkegbaaLs
import Derived.Test.YtmcackghpkegbaaOw
import Derived.Test.YtmcackghpkegbaaLb
namespace Go.Proofs.Ytmcackghpkegbaa
open Go.RowKit

/-- a new row that holds zs; all that was there is as it was -/
def MkPost (B : Nat) (zs : List Int) (w : World) (e : Ending) (w' : World) : Prop := ∃ v, e = .returned v ∧ Own w' B v zs ∧ Below w.heap.size w w'

theorem cell_new (w : World) (v : Value) (t : TypeId) : (w.alloc (.cells #[v] t)).cell? ⟨w.heap.size, 0, none⟩ = some v := by
  rw [World.cell?_alloc_at _ _ _ _ rfl]; rfl

theorem putGo_at (zs : List Int) (k : Nat) (h : k < zs.length) (t : Int) (p : Bool) :
    La.putGo (zs.drop k) t p = (if !p && decide (t ≤ zs.getD k 0) then [t] else []) ++ ((if zs.getD k 0 == t then [] else [zs.getD k 0]) ++ La.putGo (zs.drop (k + 1)) t (p || decide (t ≤ zs.getD k 0))) := by
  rw [List.drop_eq_getElem_cons h, La.putGo, List.getD, List.getElem?_eq_getElem h]; rfl

theorem fold_at (f : List Int → Int → List Int) (zs acc : List Int) (k : Nat) (h : k < zs.length) : (zs.drop k).foldl f acc = (zs.drop (k + 1)).foldl f (f acc (zs.getD k 0)) := by
  rw [List.drop_eq_getElem_cons h, List.foldl_cons, List.getD, List.getElem?_eq_getElem h]; rfl

theorem below_drop {B : Nat} {a b c : World} (h : Below B a b) (k : Below b.heap.size b c) (hB : B ≤ b.heap.size) : Below B a c := h.trans (k.mono hB)

theorem part_at (a b : List Int) (s : Bool) (k : Nat) (h : k < a.length) : La.parted (a.drop k) b s = (if La.has b (a.getD k 0) == s then [a.getD k 0] else []) ++ La.parted (a.drop (k + 1)) b s := by
  rw [List.drop_eq_getElem_cons h, List.getD, List.getElem?_eq_getElem h]
  unfold La.parted
  rw [List.filter_cons]
  show (if La.has b a[k] == s then _ else _) = (if La.has b a[k] == s then _ else _) ++ _
  split <;> rfl

/-- what label.parted tells -/
def partL (a b : List Int) (s : Bool) : List Int := if La.right a && La.right b then La.parted a b s else []

end Go.Proofs.Ytmcackghpkegbaa
