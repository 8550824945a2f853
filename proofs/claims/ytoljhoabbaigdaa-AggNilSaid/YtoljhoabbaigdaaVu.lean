/- cloisonneref04: Unpack, Compare: walked. -/
import Derived.Test.YtoljhoabbaigdaaVr
import Derived.Deep.RegionHeld3
import Derived.BigQuiet
namespace Go.Proofs.Ytoljhoabbaigdaa
open Go.RowKit

theorem head_eq (s : ByteArray) (h : 0 < s.size) : s[0] = Val.head s := byte_at s 0 h
theorem byte_is {c : UInt8} (n : Nat) (hn : n < 256) (h : c = UInt8.ofNat n) : ((c.toNat : Int) == (n : Int)) = true := by
  subst h; rw [beq_iff_eq]; simp; omega
theorem byte_isnt {c : UInt8} (n : Nat) (hn : n < 256) (h : c ≠ UInt8.ofNat n) : ((c.toNat : Int) == (n : Int)) = false := by
  rw [beq_eq_false_iff_ne]; intro e; apply h; apply UInt8.toNat_inj.1; simp; omega

/-- at g lies the value in a box -/
structure BoxV (w : World) (g : Nat) (n : Bool) (t : ByteArray) (b : Nat) : Prop where
  c0 : w.cell? ⟨g, 0, none⟩ = some (.bool n)
  c1 : w.cell? ⟨g, 1, none⟩ = some (.string t)
  c2 : w.cell? ⟨g, 2, none⟩ = some (.int .u64 (b : Int))
theorem BoxV.below {w w' : World} {g : Nat} {n : Bool} {t : ByteArray} {b : Nat} (h : BoxV w g n t b) (hb : Below w.heap.size w w') : BoxV w' g n t b :=
  ⟨vbelow_cellOf hb h.c0 (Nat.le_refl _), vbelow_cellOf hb h.c1 (Nat.le_refl _), vbelow_cellOf hb h.c2 (Nat.le_refl _)⟩
theorem BoxV.new (w : World) (n : Bool) (t : ByteArray) (b : Nat) (ty : TypeId) : BoxV (w.alloc (.cells #[.bool n, .string t, .int .u64 (b : Int)] ty)) w.heap.size n t b := by
  refine ⟨?_, ?_, ?_⟩ <;> (rw [World.cell?_alloc_at _ _ _ _ rfl]; rfl)
theorem BoxV.drew {w : World} {g : Nat} {n : Bool} {t : ByteArray} {b : Nat} (h : BoxV w g n t b) : BoxV w.drew g n t b := ⟨h.c0, h.c1, h.c2⟩

end Go.Proofs.Ytoljhoabbaigdaa
