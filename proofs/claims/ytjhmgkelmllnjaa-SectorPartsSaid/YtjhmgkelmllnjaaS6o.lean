/- What the program's sector does, in the document's way; cloisonnelaw06.awake: walked, given that; stamps as arguments. -/
import Derived.Test.YtjhmgkelmllnjaaS6u
import Derived.Test.YtjhmgkelmllnjaaFr
import Derived.Test.YtjhmgkelmllnjaaAg5
namespace Go.Proofs.Ytjhmgkelmllnjaa
open Go.RowKit

def Stp.Fits (x : Stp) : Prop := (-9223372036854775808 ≤ x.gen ∧ x.gen ≤ 9223372036854775807) ∧ (-9223372036854775808 ≤ x.index ∧ x.index ≤ 9223372036854775807) ∧ (-9223372036854775808 ≤ x.life ∧ x.life ≤ 9223372036854775807) ∧ (-9223372036854775808 ≤ x.part ∧ x.part ≤ 9223372036854775807) ∧ (-9223372036854775808 ≤ x.parts ∧ x.parts ≤ 9223372036854775807)
theorem Stp.fits_ok {x : Stp} (h : x.ok = true) : x.Fits := by
  have := (Stp.ok_iff x).1 h
  unfold Stp.Fits; omega
set_option maxRecDepth 100000 in
/-- cloisonnelaw06.awake -/
theorem awake6p (HP : ∀ (x : Stp) (d : ByteArray) (w : World), x.Fits → d.size ≤ 1000 → Calls Try.prog 8 #[x.v, .string d] w fun e w' => e = .returned (.tuple #[.string (if x.ok && decide (d.size ≤ 50) then pack6 x d else ⟨#[]⟩), .int .i64 (if x.ok then (if d.size ≤ 50 then 0 else 5) else 1)]) ∧ Below w.heap.size w w')
    (HC : ∀ (n : Int) (w : World), -9223372036854775808 ≤ n → n ≤ 9223372036854775807 → Calls Try.prog 7 #[.int .i64 n] w fun e w' => e = .returned (.int .i64 (cnt n)) ∧ Below w.heap.size w w') (w : World) : Calls Try.prog 4 #[] w fun e w' => e = .returned (.bool true) ∧ Below w.heap.size w w' := by
  obtain ⟨k, hk⟩ : ∃ k, k = pack6 ⟨1, 0, 1, 0, 1⟩ ⟨#[120]⟩ := ⟨_, rfl⟩
  have k64 : k.size = 64 := by rw [hk, pack6_size]
  have P := Lib.hid (show ∀ w, Calls Try.prog 8 #[.agg #[.int .i64 1, .int .i64 0, .int .i64 1, .int .i64 0, .int .i64 1], .string ⟨#[120]⟩] w fun e w' => e = .returned (.tuple #[.string k, .int .i64 0]) ∧ Below w.heap.size w w' from fun w => by
    have h := HP ⟨1, 0, 1, 0, 1⟩ ⟨#[120]⟩ w (by unfold Stp.Fits; decide) (by decide)
    rw [show (Stp.ok ⟨1, 0, 1, 0, 1⟩) = true by decide, if_pos (by decide), if_pos rfl, if_pos (by decide), ← hk] at h
    exact h)
  have C1 := Lib.hid (show ∀ w, Calls Try.prog 7 #[.int .i64 51] w fun e w' => e = .returned (.int .i64 2) ∧ Below w.heap.size w w' from fun w => HC 51 w (by decide) (by decide))
  have C2 := Lib.hid (show ∀ w, Calls Try.prog 7 #[.int .i64 0] w fun e w' => e = .returned (.int .i64 1) ∧ Below w.heap.size w w' from fun w => HC 0 w (by decide) (by decide))
  clear HP HC hk
  have T : ((k.size : Int) == 64) = true := by rw [beq_iff_eq]; omega
  clear k64
  go_enter Try.func4, Try.ntmps4
  go_wp2_with fail
  refine (P.out _).mono ?_
  rintro e w1 ⟨rfl, hb1⟩
  have B1 := Lib.hid hb1
  clear hb1
  go_wp2_with fail
  refine (C1.out _).mono ?_
  rintro e w2 ⟨rfl, hb2⟩
  have B2 := Lib.hid (below_then B1.out hb2)
  clear hb2
  go_wp2_with fail
  refine (C2.out _).mono ?_
  rintro e w3 ⟨rfl, hb3⟩
  have B3 := Lib.hid (below_then B2.out hb3)
  clear hb3
  go_wp2_with fail
  go_ret
  exact ⟨rfl, B3.out⟩
section
open Go.Joins Go.ChangeShapes Go.WideShapes Go.ChangeAt
/-- a stamp that came in -/
theorem open_stamp {H : Type} {enc : TypeId × Value → H} {W : World} {base : Nat} {v : Value} {d : DataW H} {p : List MemPlace} (hval : Value.okWide Try.prog W .any base 31 v)
    (h : DataW.Trod enc Try.prog W 0 (fun _ => true) true 31 v d p) : ∃ x : Stp, v = x.v ∧ x.Fits ∧ p = [] := by
  obtain ⟨v0, v1, v2, v3, v4, y0, y1, y2, y3, y4, n, rfl, hp, f0, f1, f2, f3, f4⟩ := agg5v Try.underlying31 (by kernel_rfl) (by kernel_rfl) hval h
  obtain ⟨n0, e0, q0, w0⟩ := DataW.trod_int Try.underlying3 f0
  obtain ⟨n1, e1, q1, w1⟩ := DataW.trod_int Try.underlying3 f1
  obtain ⟨n2, e2, q2, w2⟩ := DataW.trod_int Try.underlying3 f2
  obtain ⟨n3, e3, q3, w3⟩ := DataW.trod_int Try.underlying3 f3
  obtain ⟨n4, e4, q4, w4⟩ := DataW.trod_int Try.underlying3 f4
  simp at e0 e1 e2 e3 e4
  subst e0; subst e1; subst e2; subst e3; subst e4
  refine ⟨⟨n0, n1, n2, n3, n4⟩, rfl, ⟨bounds_i64 w0, bounds_i64 w1, bounds_i64 w2, bounds_i64 w3, bounds_i64 w4⟩, ?_⟩
  rw [hp, q0, q1, q2, q3, q4]; rfl
end

end Go.Proofs.Ytjhmgkelmllnjaa
