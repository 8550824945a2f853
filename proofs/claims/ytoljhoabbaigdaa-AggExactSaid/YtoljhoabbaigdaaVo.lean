/- What every row of layer 4 needs: a value that came in, opened; what the program's functions do, in the document's way. -/
import Derived.Test.YtoljhoabbaigdaaFr
import Derived.Test.YtoljhoabbaigdaaVa
import Derived.Lib.SmallJoins
namespace Go.Proofs.Ytoljhoabbaigdaa
open Go.Joins Go.ChangeShapes Go.WideShapes Go.ChangeAt Go.RowKit

set_option maxRecDepth 100000 in
/-- a value that came in -/
theorem open_val {H : Type} {enc : TypeId × Value → H} {W : World} {base : Nat} {v : Value} {d : DataW H} {p : List MemPlace} (hval : Value.okWide Try.prog W .any base 40 v)
    (h : DataW.Trod enc Try.prog W 0 (fun _ => true) true 40 v d p) : ∃ x : Val, v = x.v ∧ x.Fits ∧ p = [] := by
  obtain ⟨v0, v1, v2, y0, y1, y2, n, rfl, _, hp, h0, h1, h2⟩ := open_agg3 Try.underlying40 (by kernel_rfl) (by kernel_rfl) hval h
  obtain ⟨b, e0, q0⟩ := DataW.trod_bool Try.underlying4 h0
  obtain ⟨s, e1, q1, w1⟩ := DataW.trod_string Try.underlying9 h1
  obtain ⟨k, e2, q2, w2⟩ := DataW.trod_int Try.underlying26 h2
  simp at e0 e1 e2
  subst e0; subst e1; subst e2
  have hb := bounds_u64 w2
  refine ⟨⟨b, s, k.toNat⟩, ?_, ⟨by show k.toNat < _; omega, w1⟩, ?_⟩
  · show _ = Value.agg #[.bool b, .string s, .int .u64 ((k.toNat : Nat) : Int)]
    rw [Int.toNat_of_nonneg hb.1]
  · rw [hp, q0, q1, q2]; rfl

end Go.Proofs.Ytoljhoabbaigdaa
