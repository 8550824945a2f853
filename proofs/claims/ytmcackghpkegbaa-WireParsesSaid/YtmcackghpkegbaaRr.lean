/- Reading, in plain words: what comes off the front of bytes, by a shape; and that what is printed is read. -/
import Derived.Test.YtmcackghpkegbaaKi
import Derived.Test.YtmcackghpkegbaaWkc
namespace Go.Proofs.Ytmcackghpkegbaa
open Go.RowKit

/-- bytes as a string -/
def BA (l : List UInt8) : ByteArray := ⟨l.toArray⟩
theorem BA_size (l : List UInt8) : (BA l).size = l.length := by simp [BA, ByteArray.size]
theorem BA_list (l : List UInt8) : (BA l).data.toList = l := rfl
theorem BA_of (s : ByteArray) : BA s.data.toList = s := by cases s; rfl

/-- what is read: an error, or what it was and what is left -/
abbrev Rd (α : Type) := Except Int (α × List UInt8)

def rdTake (n : Nat) (l : List UInt8) : Rd (List UInt8) := if l.length < n then .error 3 else .ok (l.take n, l.drop n)
def rdNext : List UInt8 → Rd UInt8
  | [] => .error 3
  | c :: r => .ok (c, r)
/-- a number's groups from group g on, n so far -/
def rdNum : Nat → Nat → List UInt8 → Rd Nat
  | _, _, [] => .error 3
  | g, n, c :: r => if 9 < g ∨ (g = 9 ∧ 1 < c.toNat % 128) then .error 4
    else if c.toNat < 128 then (if c.toNat = 0 ∧ 0 < g then .error 4 else .ok (n + c.toNat * 128 ^ g, r))
    else rdNum (g + 1) (n + c.toNat % 128 * 128 ^ g) r
def rdSize (most : Nat) (l : List UInt8) : Rd Nat := match rdNum 0 0 l with
  | .error c => .error c
  | .ok (n, r) => if most < n then .error 5 else .ok (n, r)
def rdText (l : List UInt8) : Rd (List UInt8) := match rdSize 200 l with
  | .error c => .error c
  | .ok (n, r) => rdTake n r
def rdFloat (l : List UInt8) : Rd Nat := match rdTake 8 l with
  | .error c => .error c
  | .ok (k, r) => if unOk (BA k) then .ok (Fl.bitsOf (unB (BA k)), r) else .error 4

end Go.Proofs.Ytmcackghpkegbaa
