/- What every row of layer 4 needs: a value that came in, opened; what the program's functions do, in the document's way. -/
import Derived.Test.YtblmebgpjanekaaFr
import Derived.Test.YtblmebgpjanekaaVa
import Derived.Lib.SmallJoins
namespace Go.Proofs.Ytblmebgpjanekaa
open Go.Joins Go.ChangeShapes Go.WideShapes Go.ChangeAt Go.RowKit

/-- a value that came in -/
theorem open_val {H : Type} {enc : TypeId × Value → H} {W : World} {base : Nat} {v : Value} {d : DataW H} {p : List MemPlace} (hval : Value.okWide Try.prog W .any base 24 v)
    (h : DataW.Trod enc Try.prog W 0 (fun _ => true) true 24 v d p) : ∃ x : Val, v = x.v ∧ x.Fits ∧ p = [] := by
  obtain ⟨v0, v1, v2, y0, y1, y2, n, rfl, _, hp, h0, h1, h2⟩ := open_agg3 Try.underlying24 (by kernel_rfl) (by kernel_rfl) hval h
  obtain ⟨b, e0, q0⟩ := DataW.trod_bool Try.underlying4 h0
  obtain ⟨s, e1, q1, w1⟩ := DataW.trod_string Try.underlying9 h1
  obtain ⟨k, e2, q2, w2⟩ := DataW.trod_int Try.underlying22 h2
  simp at e0 e1 e2
  subst e0; subst e1; subst e2
  have hb := bounds_u64 w2
  refine ⟨⟨b, s, k.toNat⟩, ?_, ⟨by show k.toNat < _; omega, w1⟩, ?_⟩
  · show _ = Value.agg #[.bool b, .string s, .int .u64 ((k.toNat : Nat) : Int)]
    rw [Int.toNat_of_nonneg hb.1]
  · rw [hp, q0, q1, q2]; rfl

/-- what the program's value does -/
structure ValueAt : Prop where
  right : ∀ (x : Val) (w : World), x.Fits → Calls Try.prog 9 #[x.v] w fun e w' => e = .returned (.bool x.ok) ∧ Below w.heap.size w w'
  pack : ∀ (x : Val) (w : World), x.Fits → x.txt.size ≤ 1000 → Calls Try.prog 8 #[x.v] w fun e w' => e = .returned (.tuple #[.string (if x.ok then x.pack else ⟨#[]⟩), .int .i64 (if x.ok then 0 else 1)]) ∧ Below w.heap.size w w'
  unpack : ∀ (s : ByteArray) (w : World), s.size ≤ 1000 → Calls Try.prog 12 #[.string s] w fun e w' => e = .returned (.tuple #[(Val.un s).2.v, .int .i64 (Val.un s).1]) ∧ Below w.heap.size w w'
  weight : ∀ (x : Val) (w : World), x.Fits → x.txt.size ≤ 1000 → Calls Try.prog 11 #[x.v] w fun e w' => e = .returned (.int .i64 (if x.ok then (x.pack.size : Int) else 0)) ∧ Below w.heap.size w w'
  number : ∀ (b : Nat) (w : World), b < 18446744073709551616 → Calls Try.prog 16 #[.float .f64 b] w fun e w' => e = .returned (Val.number b).v ∧ Below w.heap.size w w'
  float : ∀ (x : Val) (w : World), x.Fits → Calls Try.prog 17 #[x.v] w fun e w' => e = .returned (.tuple #[.float .f64 (if x.num && x.ok then x.bits else 0), .int .i64 (if x.num && x.ok then 0 else 1)]) ∧ Below w.heap.size w w'
  bytes : ∀ (s : ByteArray) (w : World), s.size ≤ 1000 → Calls Try.prog 18 #[.string s] w fun e w' => e = .returned (.tuple #[(if s.size ≤ 64 then Val.text s else Val.V0).v, .int .i64 (if s.size ≤ 64 then 0 else 5)]) ∧ Below w.heap.size w w'
  compare : ∀ (x y : Val) (w : World), x.Fits → y.Fits → x.txt.size ≤ 1000 → y.txt.size ≤ 1000 → Calls Try.prog 21 #[x.v, y.v] w fun e w' => e = .returned (.int .i64 (if x.ok && y.ok then Val.cmp x y else 0)) ∧ Below w.heap.size w w'

/-- cloisonnelaw04.awake -/
theorem awake4 (hv : ValueAt) (w : World) : Calls Try.prog 7 #[] w fun e w' => e = .returned (.bool true) ∧ Below w.heap.size w w' := by
  have N := Lib.hid (hv.number 4607182418800017408)
  have W := Lib.hid hv.weight
  have e1 : Val.number 4607182418800017408 = ⟨true, ⟨#[]⟩, 4607182418800017408⟩ := by
    unfold Val.number; rw [show Fl.bitsOf 4607182418800017408 = 4607182418800017408 by decide]
  have e2 := Lib.hid (show (Val.number 4607182418800017408).v = .agg #[.bool true, .string ⟨#[]⟩, .int .u64 4607182418800017408] by rw [e1]; rfl)
  have o1 : (Val.number 4607182418800017408).ok = true := by rw [Val.ok_number]; decide
  have z1 : (Val.number 4607182418800017408).pack.size = 9 := by rw [Val.pack_number, Val.one_size, keyOf_size]
  have f1 : (Val.number 4607182418800017408).Fits := by rw [e1]; exact ⟨by decide, by decide⟩
  have W1 := Lib.hid (show ∀ w, Calls Try.prog 11 #[.agg #[.bool true, .string ⟨#[]⟩, .int .u64 4607182418800017408]] w fun e w' => e = .returned (.int .i64 9) ∧ Below w.heap.size w w' from fun w => by
    have h := hv.weight (Val.number 4607182418800017408) w f1 (by rw [e1]; decide)
    rw [e2.out, o1, z1] at h; exact h)
  have W2 := Lib.hid (show ∀ w, Calls Try.prog 11 #[.agg #[.bool false, .string ⟨#[]⟩, .int .u64 0]] w fun e w' => e = .returned (.int .i64 1) ∧ Below w.heap.size w w' from fun w => by
    have h := hv.weight Val.V0 w ⟨by decide, by decide⟩ (by decide)
    have o : Val.V0.ok = true := by decide
    rw [o] at h; exact h)
  clear hv W e1 o1 z1 f1
  go_enter Try.func7, Try.ntmps7
  go_wp2_with fail
  refine (N.out _ (by decide)).mono ?_
  rintro e w1 ⟨rfl, hb1⟩
  rw [e2.out]
  have B1 := Lib.hid hb1
  clear hb1
  go_wp2_with fail
  refine (W1.out _).mono ?_
  rintro e w2 ⟨rfl, hb2⟩
  have B2 := Lib.hid (below_then B1.out hb2)
  clear hb2
  go_wp2_with fail
  refine (W2.out _).mono ?_
  rintro e w3 ⟨rfl, hb3⟩
  have B3 := Lib.hid (below_then B2.out hb3)
  clear hb3
  go_wp2_with fail
  go_ret
  exact ⟨rfl, B3.out⟩

end Go.Proofs.Ytblmebgpjanekaa
