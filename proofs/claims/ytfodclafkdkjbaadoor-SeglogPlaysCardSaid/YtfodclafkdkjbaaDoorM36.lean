/- Proved parts: Bld. Conditions: each theorem's own. -/
import Derived.Test.YtfodclafkdkjbaaDoorProg
import Derived.Shelf.Strings.Builder1
import Derived.KernelRfl
import Derived.WalkKit
import Derived.WalkLawsBesides
namespace Go.Proofs.YtfodclafkdkjbaaDoor
open Go.RowKit Go.Shelf

def bldRen : Ren := { f := fun k => if k = 166 then 69 else if k = 169 then 70 else if k = 240 then 82 else if k = 276 then 87 else k, t := fun k => if k = 0 then 0 else if k = 3 then 3 else if k = 4 then 4 else if k = 5 then 5 else if k = 9 then 9 else if k = 20 then 20 else if k = 37 then 113 else if k = 70 then 129 else if k = 72 then 131 else if k = 75 then 133 else if k = 80 then 87 else if k = 164 then 151 else if k = 127 then 146 else k, g := fun k => k }
set_option maxRecDepth 100000 in
theorem bldW : Lays.n166 Tryd.prog bldRen where
  mixed := by kernel_rfl
  f166 := by kernel_rfl
  f240 := by kernel_rfl
  f276 := by kernel_rfl
  t0 := by kernel_rfl
  a0 := by intro w; rfl
  z0 := by intro w; rfl
  v0 := by intro w; rfl
  t3 := by kernel_rfl
  a3 := by intro w; rfl
  z3 := by intro w; rfl
  v3 := by intro w; rfl
  t4 := by kernel_rfl
  a4 := by intro w; rfl
  z4 := by intro w; rfl
  v4 := by intro w; rfl
  t9 := by kernel_rfl
  a9 := by intro w; rfl
  z9 := by intro w; rfl
  v9 := by intro w; rfl
  t20 := by kernel_rfl
  a20 := by intro w; rfl
  z20 := by intro w; rfl
  v20 := by intro w; rfl
  t37 := by kernel_rfl
  a37 := by intro w; rfl
  z37 := by intro w; rfl
  v37 := by intro w; rfl
  t70 := by kernel_rfl
  a70 := by intro w; rfl
  z70 := by intro w; rfl
  v70 := by intro w; rfl
  t72 := by kernel_rfl
  a72 := by intro w; rfl
  z72 := by intro w; rfl
  v72 := by intro w; rfl
  t75 := by kernel_rfl
  a75 := by intro w; rfl
  z75 := by intro w; rfl
  v75 := by intro w; rfl
  t164 := by kernel_rfl
  a164 := by intro w; rfl
  z164 := by intro w; rfl
  v164 := by intro w; rfl
set_option maxRecDepth 100000 in
theorem bldS : Lays.n169 Tryd.prog bldRen where
  mixed := by kernel_rfl
  f169 := by kernel_rfl
  t0 := by kernel_rfl
  a0 := by intro w; rfl
  z0 := by intro w; rfl
  v0 := by intro w; rfl
  t3 := by kernel_rfl
  a3 := by intro w; rfl
  z3 := by intro w; rfl
  v3 := by intro w; rfl
  t9 := by kernel_rfl
  a9 := by intro w; rfl
  z9 := by intro w; rfl
  v9 := by intro w; rfl
  t37 := by kernel_rfl
  a37 := by intro w; rfl
  z37 := by intro w; rfl
  v37 := by intro w; rfl
  t70 := by kernel_rfl
  a70 := by intro w; rfl
  z70 := by intro w; rfl
  v70 := by intro w; rfl
  t72 := by kernel_rfl
  a72 := by intro w; rfl
  z72 := by intro w; rfl
  v72 := by intro w; rfl
  t127 := by kernel_rfl
  a127 := by intro w; rfl
  z127 := by intro w; rfl
  v127 := by intro w; rfl
set_option maxRecDepth 100000 in
theorem bldX : Builder.Extra Tryd.prog bldRen where
  sizeBuilder := by kernel_rfl
  liesBuilder := by kernel_rfl
  t5 := by kernel_rfl
  a5 := by intro w; rfl
  z5 := by intro w; rfl
  v5 := by intro w; rfl
  infoByte := by kernel_rfl
  cellsByte := by kernel_rfl
  sizeByte := by kernel_rfl
  neB5 := by decide

/-- at block b, the call's own from B on, lies a builder that holds s -/
def Bld (w : World) (B b : Nat) (s : ByteArray) : Prop := Lib.IsBuilder 131 5 B b (Lib.strCells s) w
theorem strCells_app (s t : ByteArray) : Lib.strCells s ++ Lib.strCells t = Lib.strCells (s ++ t) := by
  unfold Lib.strCells; simp
theorem Bld.new (w : World) : Bld (w.alloc (.cells #[.pointer none, .slice none 0 0] 131)) w.heap.size w.heap.size ⟨#[]⟩ := Lib.fresh_isBuilder _ _ _
theorem ownsRow_below {w w' : World} {B n size : Nat} {e : TypeId} {v : Value} {xs : List Value} (h : w.ownsRow B e size v n xs) (hb : Below w.heap.size w w') : w'.ownsRow B e size v n xs := by
  rcases h with ⟨h1, h2⟩
  refine ⟨h1, ?_⟩
  rcases h2 with ⟨rfl, h0⟩ | ⟨g, cap, cur, rfl, hB, hg, r⟩
  · exact .inl ⟨rfl, h0⟩
  · exact .inr ⟨g, cap, cur, rfl, hB, (hb.block g (Array.getElem?_eq_some_iff.1 hg).1).trans hg, r⟩
theorem Bld.below {w w' : World} {B b : Nat} {s : ByteArray} (h : Bld w B b s) (hb : Below w.heap.size w w') : Bld w' B b s := by
  rcases h with ⟨hB, v, hg, ho, hn⟩ | ⟨hB, v, hg, ho, hn⟩
  · exact .inl ⟨hB, v, (hb.block b (Array.getElem?_eq_some_iff.1 hg).1).trans hg, ownsRow_below ho hb, hn⟩
  · exact .inr ⟨hB, v, (hb.block b (Array.getElem?_eq_some_iff.1 hg).1).trans hg, ownsRow_below ho hb, hn⟩
/-- WriteString -/
theorem bWrite (B b : Nat) (s t : ByteArray) (w : World) (h : Bld w B b s) (hl : s.size + t.size ≤ 140737488355328) (hB : B ≤ w.heap.size) :
    Calls Tryd.prog 69 #[.pointer (some ⟨b, 0, none⟩), .string t] w fun e w' => e = .returned (.tuple #[.int .i64 t.size, .nilIface]) ∧ Bld w' B b (s ++ t) ∧ Below B w w' :=
  (Any.Builder_WriteString bldW bldX B b (Lib.strCells s) t w h (by rw [Lib.strCells_length]; exact hl) hB).mono fun e w' k => ⟨k.1, by rw [Bld, ← strCells_app]; exact .inr k.2.1, k.2.2⟩
/-- String -/
theorem bString (B b : Nat) (s : ByteArray) (w : World) (h : Bld w B b s) (hB : B ≤ w.heap.size) :
    Calls Tryd.prog 70 #[.pointer (some ⟨b, 0, none⟩)] w fun e w' => e = .returned (.string s) ∧ Below B w w' :=
  (Any.Builder_String_any bldS bldX B b s.data.toList w h hB).mono fun e w' k => ⟨by rw [k.1], k.2⟩

end Go.Proofs.YtfodclafkdkjbaaDoor
