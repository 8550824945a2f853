/- What the program's ring does, in the document's way; both rings side by side. -/
import Derived.Test.YtagodofcjnlnbaaA0s
namespace Go.Proofs.Ytagodofcjnlnbaa
open Go.RowKit

/-- a relation: at block b lies a ring, in the blocks of F, that is r -/
abbrev RelR := World → Nat → (Nat → Prop) → Rg → Prop
/-- what a call leaves -/
def LeftR (R : RelR) (b : Nat) (F : Nat → Prop) (w : World) (r : Rg) (w' : World) : Prop := Chg F w w' ∧ ∃ F', R w' b F' r ∧ ∀ k, F' k → F k ∨ w.heap.size ≤ k
abbrev PtrR (b : Nat) : Value := .pointer (some ⟨b, 0, none⟩)
structure RingAt (R : RelR) : Prop where
  keep : ∀ {w w' : World} {b : Nat} {F : Nat → Prop} {r : Rg}, R w b F r → (∀ k, F k → w'.heap[k]? = w.heap[k]?) → w.heap.size ≤ w'.heap.size → R w' b F r
  lt : ∀ {w : World} {b : Nat} {F : Nat → Prop} {r : Rg} {k : Nat}, R w b F r → F k → k < w.heap.size
  ok : ∀ {w : World} {b : Nat} {F : Nat → Prop} {r : Rg}, R w b F r → r.Ok
  new : ∀ (s q : Int) (w : World), Calls Try.prog 8 #[.int .i64 s, .int .i64 q] w fun e w' => Below w.heap.size w w' ∧
    ((Rg.fits s q = true ∧ ∃ b F, e = .returned (.tuple #[PtrR b, .int .i64 0]) ∧ R w' b F (Rg.new s q) ∧ ∀ k, F k → w.heap.size ≤ k) ∨
      (Rg.fits s q = false ∧ e = .returned (.tuple #[.pointer none, .int .i64 1])))
  push : ∀ (b : Nat) (F : Nat → Prop) (r : Rg) (x : Int) (w : World), R w b F r → 0 ≤ x → x ≤ 18446744073709551615 → r.l.length ≤ 1000 →
    Calls Try.prog 11 #[PtrR b, .int .u64 x] w fun e w' => e = .returned (.tuple #[.int .i64 (r.told x : Nat), .int .i64 (r.no x)]) ∧ LeftR R b F w (r.push x) w'
  seq : ∀ (b : Nat) (F : Nat → Prop) (r : Rg) (w : World), R w b F r →
    Calls Try.prog 13 #[PtrR b] w fun e w' => e = .returned (.int .i64 (r.seq : Nat)) ∧ LeftR R b F w r w'
  size : ∀ (b : Nat) (F : Nat → Prop) (r : Rg) (w : World), R w b F r →
    Calls Try.prog 14 #[PtrR b] w fun e w' => e = .returned (.int .i64 (r.size : Nat)) ∧ LeftR R b F w r w'
  floor : ∀ (b : Nat) (F : Nat → Prop) (r : Rg) (w : World), R w b F r →
    Calls Try.prog 17 #[PtrR b] w fun e w' => e = .returned (.int .i64 (r.floor : Nat)) ∧ LeftR R b F w r w'
  asOf : ∀ (b : Nat) (F : Nat → Prop) (r : Rg) (x : Int) (w : World), R w b F r → 0 ≤ x → x ≤ 18446744073709551615 → r.l.length ≤ 1000 →
    Calls Try.prog 15 #[PtrR b, .int .u64 x] w fun e w' => e = .returned (.tuple #[.int .i64 (r.asOf x : Nat), .int .i64 (r.asNo x)]) ∧ LeftR R b F w r w'
  clone : ∀ (b : Nat) (F : Nat → Prop) (r : Rg) (w : World), R w b F r → r.l.length ≤ 1000 →
    Calls Try.prog 9 #[PtrR b] w fun e w' => (∃ c F2, e = .returned (PtrR c) ∧ R w' c F2 r ∧ ∀ k, F2 k → w.heap.size ≤ k) ∧ Below w.heap.size w w'
  nPush : ∀ (x : Int) (w : World), Calls Try.prog 11 #[.pointer none, .int .u64 x] w fun e w' => e = .returned (.tuple #[.int .i64 0, .int .i64 2]) ∧ Below w.heap.size w w'
  nAsOf : ∀ (x : Int) (w : World), Calls Try.prog 15 #[.pointer none, .int .u64 x] w fun e w' => e = .returned (.tuple #[.int .i64 0, .int .i64 2]) ∧ Below w.heap.size w w'
  nSeq : ∀ (w : World), Calls Try.prog 13 #[.pointer none] w fun e w' => e = .returned (.int .i64 0) ∧ Below w.heap.size w w'
  nSize : ∀ (w : World), Calls Try.prog 14 #[.pointer none] w fun e w' => e = .returned (.int .i64 0) ∧ Below w.heap.size w w'
  nFloor : ∀ (w : World), Calls Try.prog 17 #[.pointer none] w fun e w' => e = .returned (.int .i64 0) ∧ Below w.heap.size w w'
  nClone : ∀ (w : World), Calls Try.prog 9 #[.pointer none] w fun e w' => e = .returned (.pointer none) ∧ Below w.heap.size w w'

/-- the ring r at b, in none of N's blocks, which are as they were in w0 -/
def OneR (R : RelR) (w0 : World) (N : Nat → Prop) (w : World) (b : Nat) (r : Rg) : Prop := ∃ F, R w b F r ∧ (∀ k, F k → ¬ N k) ∧ (∀ k, N k → k < w0.heap.size) ∧ Chg (fun k => ¬ N k) w0 w
section
variable {R : RelR} (X : RingAt R) {w0 w w' : World} {N : Nat → Prop} {b : Nat} {r : Rg}
theorem OneR.chg (h : OneR R w0 N w b r) : Chg (fun k => ¬ N k) w0 w := by obtain ⟨_, _, _, _, c⟩ := h; exact c
theorem OneR.base {B : Nat} (h : OneR R w0 N w b r) (hB : B ≤ w0.heap.size) (hN : ∀ k, k < B → N k) : Below B w0 w := by
  have c := h.chg
  exact ⟨c.os, c.tape, c.output, c.size, fun k hk => c.block k (by omega) fun f => f (hN k hk)⟩
theorem OneR.left (h : OneR R w0 N w b r) {F : Nat → Prop} {r' : Rg} (hF : ∀ k, F k → ¬ N k) (hl : LeftR R b F w r' w') : OneR R w0 N w' b r' := by
  obtain ⟨_, _, _, hN, c⟩ := h
  obtain ⟨c2, F', hr, hk⟩ := hl
  refine ⟨F', hr, fun k e f => ?_, hN, c.trans c2 fun k e => .inl (hF k e)⟩
  rcases hk k e with q | q
  · exact hF k q f
  · have := hN k f; have := c.size; omega
include X
theorem OneR.ok (h : OneR R w0 N w b r) : r.Ok := by obtain ⟨_, q, _⟩ := h; exact X.ok q
theorem oPush (x : Int) (h : OneR R w0 N w b r) (h0 : 0 ≤ x) (h1 : x ≤ 18446744073709551615) (hl : r.l.length ≤ 1000) :
    Calls Try.prog 11 #[PtrR b, .int .u64 x] w fun e w' => e = .returned (.tuple #[.int .i64 (r.told x : Nat), .int .i64 (r.no x)]) ∧ OneR R w0 N w' b (r.push x) := by
  have h' := h
  obtain ⟨F, q, hF, _⟩ := h
  exact (X.push b F r x w q h0 h1 hl).mono fun e w' ⟨he, hh⟩ => ⟨he, h'.left hF hh⟩
theorem oSeq (h : OneR R w0 N w b r) : Calls Try.prog 13 #[PtrR b] w fun e w' => e = .returned (.int .i64 (r.seq : Nat)) ∧ OneR R w0 N w' b r := by
  have h' := h
  obtain ⟨F, q, hF, _⟩ := h
  exact (X.seq b F r w q).mono fun e w' ⟨he, hh⟩ => ⟨he, h'.left hF hh⟩
theorem oSize (h : OneR R w0 N w b r) : Calls Try.prog 14 #[PtrR b] w fun e w' => e = .returned (.int .i64 (r.size : Nat)) ∧ OneR R w0 N w' b r := by
  have h' := h
  obtain ⟨F, q, hF, _⟩ := h
  exact (X.size b F r w q).mono fun e w' ⟨he, hh⟩ => ⟨he, h'.left hF hh⟩
theorem oFloor (h : OneR R w0 N w b r) : Calls Try.prog 17 #[PtrR b] w fun e w' => e = .returned (.int .i64 (r.floor : Nat)) ∧ OneR R w0 N w' b r := by
  have h' := h
  obtain ⟨F, q, hF, _⟩ := h
  exact (X.floor b F r w q).mono fun e w' ⟨he, hh⟩ => ⟨he, h'.left hF hh⟩
theorem oAsOf (x : Int) (h : OneR R w0 N w b r) (h0 : 0 ≤ x) (h1 : x ≤ 18446744073709551615) (hl : r.l.length ≤ 1000) :
    Calls Try.prog 15 #[PtrR b, .int .u64 x] w fun e w' => e = .returned (.tuple #[.int .i64 (r.asOf x : Nat), .int .i64 (r.asNo x)]) ∧ OneR R w0 N w' b r := by
  have h' := h
  obtain ⟨F, q, hF, _⟩ := h
  exact (X.asOf b F r x w q h0 h1 hl).mono fun e w' ⟨he, hh⟩ => ⟨he, h'.left hF hh⟩
theorem OneR.below (h : OneR R w0 N w b r) (hb : Below w.heap.size w w') : OneR R w0 N w' b r := by
  obtain ⟨F, q, hF, hN, c⟩ := h
  exact ⟨F, X.keep q (fun k e => hb.block k (X.lt q e)) hb.size, hF, hN, c.trans (Chg.of_below (F := fun _ => False) hb) (fun _ e => e.elim)⟩
omit X in
/-- a new one: all that was there stays -/
theorem OneR.new {F : Nat → Prop} (hb : Below w0.heap.size w0 w) (q : R w b F r) (hF : ∀ k, F k → w0.heap.size ≤ k) : OneR R w0 (fun k => k < w0.heap.size) w b r :=
  ⟨F, q, fun k e f => by have := hF k e; omega, fun k e => e, ⟨hb.os, hb.tape, hb.output, hb.size, fun k hk hn => hb.block k hk⟩⟩
end

set_option maxRecDepth 100000 in
set_option maxHeartbeats 1000000 in
/-- cloisonnelaw10.awake -/
theorem awake0 {R : RelR} (X : RingAt R) (w : World) : Calls Try.prog 7 #[] w fun e w' => e = .returned (.bool true) ∧ Below w.heap.size w w' := by
  have CN := Lib.hid (X.new 2 0 w)
  have X' := Lib.hid X
  have P1 := Lib.hid (fun (w1 : World) b (h : OneR R w (fun k => k < w.heap.size) w1 b ⟨2, 0, []⟩) => show Calls Try.prog 11 #[PtrR b, .int .u64 5] w1 fun e w' => e = .returned (.tuple #[.int .i64 1, .int .i64 0]) ∧ OneR R w (fun k => k < w.heap.size) w' b ⟨2, 0, [5]⟩ from oPush X 5 h (by decide) (by decide) (by decide))
  have P2 := Lib.hid (fun (w1 : World) b (h : OneR R w (fun k => k < w.heap.size) w1 b ⟨2, 0, [5]⟩) => show Calls Try.prog 11 #[PtrR b, .int .u64 7] w1 fun e w' => e = .returned (.tuple #[.int .i64 2, .int .i64 0]) ∧ OneR R w (fun k => k < w.heap.size) w' b ⟨2, 0, [5, 7]⟩ from oPush X 7 h (by decide) (by decide) (by decide))
  have P3 := Lib.hid (fun (w1 : World) b (h : OneR R w (fun k => k < w.heap.size) w1 b ⟨2, 0, [5, 7]⟩) => show Calls Try.prog 11 #[PtrR b, .int .u64 9] w1 fun e w' => e = .returned (.tuple #[.int .i64 3, .int .i64 0]) ∧ OneR R w (fun k => k < w.heap.size) w' b ⟨2, 0, [5, 7, 9]⟩ from oPush X 9 h (by decide) (by decide) (by decide))
  have P4 := Lib.hid (fun (w1 : World) b (h : OneR R w (fun k => k < w.heap.size) w1 b ⟨2, 0, [5, 7, 9]⟩) => show Calls Try.prog 15 #[PtrR b, .int .u64 7] w1 fun e w' => e = .returned (.tuple #[.int .i64 2, .int .i64 0]) ∧ OneR R w (fun k => k < w.heap.size) w' b ⟨2, 0, [5, 7, 9]⟩ from oAsOf X 7 h (by decide) (by decide) (by decide))
  have P5 := Lib.hid (fun (w1 : World) b (h : OneR R w (fun k => k < w.heap.size) w1 b ⟨2, 0, [5, 7, 9]⟩) => show Calls Try.prog 15 #[PtrR b, .int .u64 6] w1 fun e w' => e = .returned (.tuple #[.int .i64 0, .int .i64 14]) ∧ OneR R w (fun k => k < w.heap.size) w' b ⟨2, 0, [5, 7, 9]⟩ from oAsOf X 6 h (by decide) (by decide) (by decide))
  clear X
  go_enter Try.func7, Try.ntmps7
  go_wp2_with fail
  refine CN.out.mono ?_
  rintro e w1 ⟨hb1, ⟨_, b, F, rfl, hr, hF⟩ | ⟨hf, _⟩⟩
  case inr => exact absurd hf (by decide)
  have O1 := Lib.hid (show OneR R w (fun k => k < w.heap.size) w1 b ⟨2, 0, []⟩ from OneR.new hb1 hr hF)
  clear hb1 hr hF CN
  go_wp2_with fail
  refine (P1.out w1 b O1.out).mono ?_
  rintro e w2 ⟨rfl, o2⟩
  have O2 := Lib.hid o2
  clear o2 P1
  go_wp2_with fail
  refine (P2.out w2 b O2.out).mono ?_
  rintro e w3 ⟨rfl, o3⟩
  have O3 := Lib.hid o3
  clear o3 P2
  go_wp2_with fail
  refine (P3.out w3 b O3.out).mono ?_
  rintro e w4 ⟨rfl, o4⟩
  have O4 := Lib.hid o4
  clear o4 P3
  go_wp2_with fail
  refine (P4.out w4 b O4.out).mono ?_
  rintro e w5 ⟨rfl, o5⟩
  have O5 := Lib.hid o5
  clear o5 P4
  go_wp2_with fail
  refine (P5.out w5 b O5.out).mono ?_
  rintro e w6 ⟨rfl, o6⟩
  have O6 := Lib.hid (o6.base (Nat.le_refl _) (fun _ e => e))
  clear o6 P5
  go_wp2_with fail
  go_ret
  exact ⟨rfl, O6.out⟩

end Go.Proofs.Ytagodofcjnlnbaa
