/- cloisonneref06.Unpack: walked. -/
import Derived.Test.YtjhmgkelmllnjaaS6p
import Derived.RegionTactic
namespace Go.Proofs.Ytjhmgkelmllnjaa
open Go.RowKit

/-- the first k bytes from o on, as a number -/
def gk (s : ByteArray) (o : Nat) : Nat → Int
  | 0 => 0
  | k + 1 => gk s o k * 256 + bN s (o + k)
theorem gk_four (s : ByteArray) (o : Nat) : gk s o 4 = num4 s o := by
  simp only [gk, num4, Nat.add_zero]; omega
theorem gk_le (s : ByteArray) (o k : Nat) (hk : k ≤ 4) : 0 ≤ gk s o k ∧ gk s o k ≤ 4294967295 ∧ (k < 4 → gk s o k ≤ 16777215) := by
  have h0 := bN_lt s o; have h1 := bN_lt s (o + 1); have h2 := bN_lt s (o + 2); have h3 := bN_lt s (o + 3)
  rcases (show k = 0 ∨ k = 1 ∨ k = 2 ∨ k = 3 ∨ k = 4 by omega) with rfl | rfl | rfl | rfl | rfl <;> simp only [gk, Nat.add_zero] <;> omega
theorem byte_bN (s : ByteArray) (j : Nat) (h : j < s.size) : ((s[j]'h).toNat : Int) = bN s j := by unfold bN; rw [byte_at s j h]

/-- what it answers -/
def UnPost (s : ByteArray) (w : World) (e : Ending) (w' : World) : Prop :=
  e = .returned (.tuple #[(if isSec s then stp s else Stp.S0).v, .string (if isSec s then dat s else ⟨#[]⟩), .bool (isSec s)]) ∧ Below w.heap.size w w'
theorem UnPost.no {s : ByteArray} {w w' : World} (h : isSec s = false) (hb : Below w.heap.size w w') : UnPost s w (.returned (.tuple #[.agg #[.int .i64 0, .int .i64 0, .int .i64 0, .int .i64 0, .int .i64 0], .string ⟨#[]⟩, .bool false])) w' := by
  refine ⟨?_, hb⟩; rw [h]; rfl

end Go.Proofs.Ytjhmgkelmllnjaa
