/- What the program's extent does, in the document's way; cloisonnelaw05.awake, alike: walked, given that. -/
import Derived.Test.YtjghpacpeojejaaE5w
namespace Go.Proofs.Ytjghpacpeojejaa
open Go.RowKit

/-- a relation: at block b lies a world, in the blocks of F, that is m -/
abbrev RelE := World → Nat → (Nat → Prop) → Ext → Prop
/-- what a call leaves -/
def LeftE (R : RelE) (b : Nat) (F : Nat → Prop) (w : World) (m : Ext) (w' : World) : Prop := Chg F w w' ∧ ∃ F', R w' b F' m ∧ ∀ k, F' k → F k ∨ w.heap.size ≤ k
structure ExtOps (R : RelE) : Prop where
  keep : ∀ {w w' : World} {b : Nat} {F : Nat → Prop} {m : Ext}, R w b F m → (∀ k, F k → w'.heap[k]? = w.heap[k]?) → w.heap.size ≤ w'.heap.size → R w' b F m
  lt : ∀ {w : World} {b : Nat} {F : Nat → Prop} {m : Ext} {k : Nat}, R w b F m → F k → k < w.heap.size
  ok : ∀ {w : World} {b : Nat} {F : Nat → Prop} {m : Ext}, R w b F m → m.Ok
  write : ∀ (b : Nat) (F : Nat → Prop) (m : Ext) (e a : Int) (s : ByteArray) (w : World), R w b F m → In64 e → In64 a → s.size ≤ 9223372036854775807 →
    Calls Try.prog 24 #[.pointer (some ⟨b, 0, none⟩), .int .i64 e, .int .i64 a, .string s] w fun x w' => x = .returned (.int .i64 (m.write e a s).2) ∧ LeftE R b F w (m.write e a s).1 w'
  read : ∀ (b : Nat) (F : Nat → Prop) (m : Ext) (e a : Int) (w : World), R w b F m → In64 e → In64 a →
    Calls Try.prog 21 #[.pointer (some ⟨b, 0, none⟩), .int .i64 e, .int .i64 a] w fun x w' => x = .returned (.tuple #[.string (m.read e a).1, .int .i64 (m.read e a).2]) ∧ LeftE R b F w m w'
  dry : ∀ (b : Nat) (F : Nat → Prop) (m : Ext) (e a : Int) (w : World), R w b F m → In64 e → In64 a →
    Calls Try.prog 23 #[.pointer (some ⟨b, 0, none⟩), .int .i64 e, .int .i64 a] w fun x w' => x = .returned (.tuple #[.string (m.dryOf e a).1, .int .i64 (m.dryOf e a).2]) ∧ LeftE R b F w m w'
  flush : ∀ (b : Nat) (F : Nat → Prop) (m : Ext) (e : Int) (w : World), R w b F m → In64 e →
    Calls Try.prog 20 #[.pointer (some ⟨b, 0, none⟩), .int .i64 e] w fun x w' => x = .returned (.int .i64 (m.flush e).2) ∧ LeftE R b F w (m.flush e).1 w'
  crash : ∀ (b : Nat) (F : Nat → Prop) (m : Ext) (A : Option Addr) (c : Nat) (ps : List (Int × Int)) (w : World), R w b F m → SlPk w A ps → (0 < ps.length → ∀ g o, A = some ⟨g, o, none⟩ → ¬ F g) → PkOk ps → (A = none → ps = [] ∧ c = 0) →
    Calls Try.prog 22 #[.pointer (some ⟨b, 0, none⟩), .slice A ps.length c] w fun x w' => x = .returned (.int .i64 (m.crash ps).2) ∧ LeftE R b F w (m.crash ps).1 w'
  start : ∀ (b : Nat) (F : Nat → Prop) (m : Ext) (w : World), R w b F m →
    Calls Try.prog 19 #[.pointer (some ⟨b, 0, none⟩)] w fun x w' => x = .returned (.int .i64 m.start.2) ∧ LeftE R b F w m.start.1 w'
  lay : ∀ (b : Nat) (F : Nat → Prop) (m : Ext) (e a : Int) (s : ByteArray) (w : World), R w b F m → In64 e → In64 a → s.size ≤ 9223372036854775807 →
    Calls Try.prog 25 #[.pointer (some ⟨b, 0, none⟩), .int .i64 e, .int .i64 a, .string s] w fun x w' => x = .returned (.int .i64 (m.lay e a s).2) ∧ LeftE R b F w (m.lay e a s).1 w'
  on : ∀ (b : Nat) (F : Nat → Prop) (m : Ext) (w : World), R w b F m →
    Calls Try.prog 12 #[.pointer (some ⟨b, 0, none⟩)] w fun x w' => x = .returned (.bool (!m.off)) ∧ LeftE R b F w m w'
  extents : ∀ (b : Nat) (F : Nat → Prop) (m : Ext) (w : World), R w b F m →
    Calls Try.prog 16 #[.pointer (some ⟨b, 0, none⟩)] w fun x w' => x = .returned (.int .i64 (m.ext : Int)) ∧ LeftE R b F w m w'
  sectors : ∀ (b : Nat) (F : Nat → Prop) (m : Ext) (w : World), R w b F m →
    Calls Try.prog 17 #[.pointer (some ⟨b, 0, none⟩)] w fun x w' => x = .returned (.int .i64 (m.sec : Int)) ∧ LeftE R b F w m w'
  wet : ∀ (b : Nat) (F : Nat → Prop) (m : Ext) (e : Int) (w : World), R w b F m → In64 e →
    Calls Try.prog 14 #[.pointer (some ⟨b, 0, none⟩), .int .i64 e] w fun x w' => (∃ A c, x = .returned (.slice A (m.wet e).length c) ∧ SlJ w' A (m.wet e)) ∧ LeftE R b F w m w'
/-- .. New too -/
structure ExtAt (R : RelE) : Prop extends ExtOps R where
  new : ∀ (e s : Int) (w : World), In64 e → In64 s → Calls Try.prog 8 #[.int .i64 e, .int .i64 s] w fun x w' => Below w.heap.size w w' ∧
    ((Ext.fits e s = true ∧ ∃ b F, x = .returned (.tuple #[.pointer (some ⟨b, 0, none⟩), .int .i64 0]) ∧ R w' b F (Ext.new e.toNat s.toNat) ∧ ∀ k, F k → w.heap.size ≤ k) ∨
      (Ext.fits e s = false ∧ x = .returned (.tuple #[.pointer none, .int .i64 1])))

/-- from block B on lies the world m of the program, and nothing else of it is known -/
def HasE (R : RelE) (B : Nat) (w : World) (b : Nat) (m : Ext) : Prop := ∃ F, R w b F m ∧ ∀ k, F k → B ≤ k
theorem LeftE.has {R : RelE} {b B : Nat} {F : Nat → Prop} {m' : Ext} {w w' : World} (h : LeftE R b F w m' w') (hF : ∀ k, F k → B ≤ k) (hB : B ≤ w.heap.size) : HasE R B w' b m' ∧ Below B w w' := by
  obtain ⟨hc, F', hr', hf⟩ := h
  exact ⟨⟨F', hr', fun k hk => by rcases hf k hk with q | q; exact hF k q; omega⟩, hc.below hF hB⟩
section
variable {R : RelE} (X : ExtAt R)
include X
theorem HasE.drewN {b B : Nat} {m : Ext} {w : World} (h : HasE R B w b m) (n : Nat) : HasE R B (w.drewN n) b m := by
  obtain ⟨F, hr, hF⟩ := h
  exact ⟨F, X.keep hr (fun _ _ => rfl) (Nat.le_refl _), hF⟩
theorem HasE.new {b B : Nat} {m : Ext} {w w' : World} (h : HasE R B w b m) (hb : Below w.heap.size w w') : HasE R B w' b m := by
  obtain ⟨F, hr, hF⟩ := h
  exact ⟨F, X.keep hr (fun k hk => hb.block k (X.lt hr hk)) hb.size, hF⟩

/-- cloisonnelaw05.awake -/
theorem awake5 (w : World) : Calls Try.prog 7 #[] w fun e w' => e = .returned (.bool true) ∧ Below w.heap.size w w' := by
  obtain ⟨x, hx⟩ : ∃ x : ByteArray, x = ⟨#[120]⟩ := ⟨_, rfl⟩
  obtain ⟨y, hy⟩ : ∃ y : ByteArray, y = ⟨#[121]⟩ := ⟨_, rfl⟩
  have i0 : In64 0 := ⟨by decide, by decide⟩
  obtain ⟨m0, h0⟩ : ∃ m0, m0 = Ext.new (1 : Int).toNat (2 : Int).toNat := ⟨_, rfl⟩
  have e0 : m0 = ⟨false, 1, 2, [Sec0, Sec0]⟩ := by rw [h0]; rfl
  have e1 : m0.write 0 0 x = (⟨false, 1, 2, [⟨⟨#[]⟩, x, true⟩, Sec0]⟩, 0) := by rw [e0, hx]; rfl
  obtain ⟨m1, hm1⟩ : ∃ m1 : Ext, m1 = ⟨false, 1, 2, [⟨⟨#[]⟩, x, true⟩, Sec0]⟩ := ⟨_, rfl⟩
  have e2 : m1.flush 0 = (⟨false, 1, 2, [⟨x, x, false⟩, Sec0]⟩, 0) := by rw [hm1]; rfl
  obtain ⟨m2, hm2⟩ : ∃ m2 : Ext, m2 = ⟨false, 1, 2, [⟨x, x, false⟩, Sec0]⟩ := ⟨_, rfl⟩
  have e3 : m2.write 0 0 y = (⟨false, 1, 2, [⟨x, y, true⟩, Sec0]⟩, 0) := by rw [hm2, hy]; rfl
  obtain ⟨m3, hm3⟩ : ∃ m3 : Ext, m3 = ⟨false, 1, 2, [⟨x, y, true⟩, Sec0]⟩ := ⟨_, rfl⟩
  have e4 : m3.read 0 0 = (y, 0) := by rw [hm3]; rfl
  have e5 : m3.dryOf 0 0 = (x, 0) := by rw [hm3]; rfl
  have e6 : m3.crash [] = (⟨true, 1, 2, [⟨x, x, false⟩, Sec0]⟩, 0) := by rw [hm3]; rfl
  obtain ⟨m4, hm4⟩ : ∃ m4 : Ext, m4 = ⟨true, 1, 2, [⟨x, x, false⟩, Sec0]⟩ := ⟨_, rfl⟩
  have e7 : m4.dryOf 0 0 = (x, 0) := by rw [hm4]; rfl
  rw [← hm1] at e1
  rw [← hm2] at e2
  rw [← hm3] at e3
  rw [← hm4] at e6
  have hxs : x.size ≤ 9223372036854775807 := by rw [hx]; decide
  have hys : y.size ≤ 9223372036854775807 := by rw [hy]; decide
  have HX := Lib.hid hx
  have HY := Lib.hid hy
  have N := Lib.hid (X.new 1 2 w ⟨by decide, by decide⟩ ⟨by decide, by decide⟩)
  have X' := Lib.hid X
  have E1 := Lib.hid e1
  have E2 := Lib.hid e2
  have E3 := Lib.hid e3
  have E4 := Lib.hid e4
  have E5 := Lib.hid e5
  have E6 := Lib.hid e6
  have E7 := Lib.hid e7
  have H0 := Lib.hid h0
  have XS : x.toList = [120] := by rw [hx, ByteArray.toList_eq]
  have YS : y.toList = [121] := by rw [hy, ByteArray.toList_eq]
  clear e0 e1 e2 e3 e4 e5 e6 e7 hm1 hm2 hm3 hm4 h0 hx hy
  go_enter Try.func7, Try.ntmps7
  go_wp2_with fail
  refine N.out.mono ?_
  rintro e w1 ⟨hb1, ⟨_, b, F, rfl, hr, hF⟩ | ⟨hf, _⟩⟩
  case inr => exact absurd hf (by decide)
  rw [← H0.out] at hr
  have A1 := Lib.hid (show HasE R w.heap.size w1 b m0 from ⟨F, hr, hF⟩)
  have B1 := Lib.hid hb1
  clear hb1 hr hF
  go_wp2_with fail
  obtain ⟨F1, r1, f1⟩ := A1.out
  rw [← HX.out]
  refine (X'.out.write b F1 m0 0 0 x _ r1 i0 i0 hxs).mono ?_
  rintro e w2 ⟨rfl, hl⟩
  rw [E1.out] at hl
  rw [E1.out]
  have A2 := Lib.hid (hl.has f1 B1.out.size)
  have B2 := Lib.hid (B1.out.trans A2.out.2)
  clear hl r1 f1
  go_wp2_with fail
  obtain ⟨F2, r2, f2⟩ := A2.out.1
  refine (X'.out.flush b F2 m1 0 _ r2 i0).mono ?_
  rintro e w3 ⟨rfl, hl⟩
  rw [E2.out] at hl
  rw [E2.out]
  have A3 := Lib.hid (hl.has f2 B2.out.size)
  have B3 := Lib.hid (B2.out.trans A3.out.2)
  clear hl r2 f2
  go_wp2_with fail
  obtain ⟨F3, r3, f3⟩ := A3.out.1
  rw [← HY.out]
  refine (X'.out.write b F3 m2 0 0 y _ r3 i0 i0 hys).mono ?_
  rintro e w4 ⟨rfl, hl⟩
  rw [E3.out] at hl
  rw [E3.out]
  have A4 := Lib.hid (hl.has f3 B3.out.size)
  have B4 := Lib.hid (B3.out.trans A4.out.2)
  clear hl r3 f3
  go_wp2_with fail
  obtain ⟨F4, r4, f4⟩ := A4.out.1
  refine (X'.out.read b F4 m3 0 0 _ r4 i0 i0).mono ?_
  rintro e w5 ⟨rfl, hl⟩
  rw [E4.out]
  have A5 := Lib.hid (hl.has f4 B4.out.size)
  have B5 := Lib.hid (B4.out.trans A5.out.2)
  clear hl r4 f4
  go_wp2_with fail
  obtain ⟨F5, r5, f5⟩ := A5.out.1
  refine (X'.out.dry b F5 m3 0 0 _ r5 i0 i0).mono ?_
  rintro e w6 ⟨rfl, hl⟩
  rw [E5.out]
  have A6 := Lib.hid (hl.has f5 B5.out.size)
  have B6 := Lib.hid (B5.out.trans A6.out.2)
  clear hl r5 f5
  go_wp2_with fail
  obtain ⟨F6, r6, f6⟩ := A6.out.1
  refine (X'.out.crash b F6 m3 none 0 [] _ r6 (fun h => absurd h (by simp)) (fun _ g o e => by cases e) ⟨by simp, fun q hq => by cases hq⟩ (fun _ => ⟨rfl, rfl⟩)).mono ?_
  rintro e w7 ⟨rfl, hl⟩
  rw [E6.out] at hl
  rw [E6.out]
  have A7 := Lib.hid (hl.has f6 B6.out.size)
  have B7 := Lib.hid (B6.out.trans A7.out.2)
  clear hl r6 f6
  go_wp2_with fail
  obtain ⟨F7, r7, f7⟩ := A7.out.1
  refine (X'.out.dry b F7 m4 0 0 _ r7 i0 i0).mono ?_
  rintro e w8 ⟨rfl, hl⟩
  rw [E7.out]
  have A8 := Lib.hid (hl.has f7 B7.out.size)
  have B8 := Lib.hid (B7.out.trans A8.out.2)
  clear hl r7 f7
  go_wp2_with fail
  go_ret
  exact ⟨by first | rfl | simp, B8.out⟩

end
end Go.Proofs.Ytjghpacpeojejaa
