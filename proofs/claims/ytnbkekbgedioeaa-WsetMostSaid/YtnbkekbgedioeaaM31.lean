/- Proved parts: D3a D3f D3n D3w. Conditions: each theorem's own. -/
import Derived.Test.YtnbkekbgedioeaaM30
namespace Go.Proofs.Ytnbkekbgedioeaa
open Go.RowKit

section
variable {w0 w : World} {N : Nat → Prop} {os : List Ob} {i : Nat} {b : Nat} {m : Ws}
theorem sPut (h : Side w0 N w os) (hi : os[i]? = some (obS TS b m)) (k : ByteArray) (y : Val) (hf : y.Fits) :
    Calls Try.prog 22 #[PtrW b, .string k, y.v] w fun e w' => e = .returned (.int .i64 (m.L.wE ⟨k, false, y⟩)) ∧ Side w0 N w' (os.set i (obS TS b (m.wr ⟨k, false, y⟩))) :=
  sCall h hi fun _ _ _ _ _ ok hh => xPutW2 k y hh ok hf
theorem sDel (h : Side w0 N w os) (hi : os[i]? = some (obS TS b m)) (k : ByteArray) :
    Calls Try.prog 23 #[PtrW b, .string k] w fun e w' => e = .returned (.int .i64 (m.L.wE ⟨k, true, Val.V0⟩)) ∧ Side w0 N w' (os.set i (obS TS b (m.wr ⟨k, true, Val.V0⟩))) :=
  sCall h hi fun _ _ _ _ _ ok hh => xDelW2 k hh ok
theorem sMark (h : Side w0 N w os) (hi : os[i]? = some (obS TS b m)) :
    Calls Try.prog 20 #[PtrW b] w fun e w' => e = .returned (.tuple #[.int .i64 m.mkN, .int .i64 m.mkE]) ∧ Side w0 N w' (os.set i (obS TS b m.mk')) :=
  sCall h hi fun _ _ _ _ _ ok hh => xMarkW hh ok
theorem sBack (h : Side w0 N w os) (hi : os[i]? = some (obS TS b m)) (n : Int) :
    Calls Try.prog 21 #[PtrW b, .int .i64 n] w fun e w' => e = .returned (.int .i64 (m.bkE n)) ∧ Side w0 N w' (os.set i (obS TS b (m.bk n))) :=
  sCall h hi fun _ _ _ _ _ ok hh => xBackW n hh ok
theorem sGet (h : Side w0 N w os) (hi : os[i]? = some (obS TS b m)) (k : ByteArray) :
    Calls Try.prog 15 #[PtrW b, .string k] w fun e w' => e = .returned (.tuple #[(m.L.getV k).v, .bool (m.L.has k)]) ∧ Below w.heap.size w w' ∧ Side w0 N w' os :=
  sAsk h hi fun v vm _ ok hh => xGetW m.L b v vm k w (Sets.row hh) (Sets.node hh) ok.l
theorem sAfter (h : Side w0 N w os) (hi : os[i]? = some (obS TS b m)) (k : ByteArray) :
    Calls Try.prog 17 #[PtrW b, .string k] w fun e w' => e = .returned (.tuple #[(m.L.atV (m.L.frm k true)).v, .bool (decide (m.L.frm k true < m.L.length))]) ∧ Below w.heap.size w w' ∧ Side w0 N w' os :=
  sAsk h hi fun v vm _ ok hh => xAfterW m.L b v vm k w (Sets.row hh) (Sets.node hh) ok.l
theorem sSeek (h : Side w0 N w os) (hi : os[i]? = some (obS TS b m)) (k : ByteArray) :
    Calls Try.prog 19 #[PtrW b, .string k] w fun e w' => e = .returned (.tuple #[(m.L.atV (m.L.frm k false)).v, .bool (decide (m.L.frm k false < m.L.length))]) ∧ Below w.heap.size w w' ∧ Side w0 N w' os :=
  sAsk h hi fun v vm _ ok hh => xSeekW m.L b v vm k w (Sets.row hh) (Sets.node hh) ok.l
theorem sLen (h : Side w0 N w os) (hi : os[i]? = some (obS TS b m)) :
    Calls Try.prog 13 #[PtrW b] w fun e w' => e = .returned (.int .i64 (m.L.length : Nat)) ∧ Below w.heap.size w w' ∧ Side w0 N w' os :=
  sAsk h hi fun v vm _ ok hh => by
    obtain ⟨A, c, rfl, -⟩ := (Sets.node hh).sl
    exact (xLenW b A m.L.length c vm w (Sets.row hh)).mono fun e w' ⟨h1, h2⟩ => ⟨h1, by rw [h2]; exact Below.refl _ _⟩
theorem sMarks (h : Side w0 N w os) (hi : os[i]? = some (obS TS b m)) :
    Calls Try.prog 14 #[PtrW b] w fun e w' => e = .returned (.int .i64 (m.M.length : Nat)) ∧ Below w.heap.size w w' ∧ Side w0 N w' os :=
  sAsk h hi fun v vm _ ok hh => by
    obtain ⟨A, c, rfl, -⟩ := Sets.form hh
    exact (xMarksW b A m.M.length c v w (Sets.row hh)).mono fun e w' ⟨h1, h2⟩ => ⟨h1, by rw [h2]; exact Below.refl _ _⟩
theorem sAll (h : Side w0 N w os) (hi : os[i]? = some (obS TS b m)) :
    Calls Try.prog 12 #[PtrW b] w fun e w' => (∃ v', e = .returned v' ∧ NodeAtW w' v' m.L ∧ ∀ k, v'.ownBlock = some k → w.heap.size ≤ k) ∧ Below w.heap.size w w' ∧ Side w0 N w' os :=
  sAsk h hi fun v vm _ ok hh => (xAllW m.L b v vm w (Sets.row hh) (Sets.node hh) ok.l).mono fun _ _ ⟨v', h1, h2, h3, h4⟩ => ⟨⟨v', h1, h2, h3⟩, h4⟩
/-- the reference's -/
theorem mWrite (h : Side w0 N w os) (hi : os[i]? = some (obS TR b m)) (x : Wr) (hf : x.val.Fits) (hk : x.key.size ≤ 1000000) :
    Calls Try.prog 24 #[PtrW b, .agg #[.string x.key, .bool x.gone, .bool x.val.num, .string x.val.txt, .int .u64 (x.val.bits : Int)]] w fun e w' => e = .returned (.int .i64 (m.L.wE x)) ∧ Side w0 N w' (os.set i (obS TR b (m.wr x))) :=
  sCall h hi fun _ _ _ _ _ ok hh => rWriteW x hh ok hf hk
theorem mMark (h : Side w0 N w os) (hi : os[i]? = some (obS TR b m)) :
    Calls Try.prog 25 #[PtrW b] w fun e w' => e = .returned (.tuple #[.int .i64 m.mkN, .int .i64 m.mkE]) ∧ Side w0 N w' (os.set i (obS TR b m.mk')) :=
  sCall h hi fun _ _ _ _ _ ok hh => rMarkW hh ok
theorem mBack (h : Side w0 N w os) (hi : os[i]? = some (obS TR b m)) (n : Int) :
    Calls Try.prog 26 #[PtrW b, .int .i64 n] w fun e w' => e = .returned (.int .i64 (m.bkE n)) ∧ Side w0 N w' (os.set i (obS TR b (m.bk n))) :=
  sCall h hi fun _ _ _ _ _ ok hh => rBackW n hh ok
theorem mGet (h : Side w0 N w os) (hi : os[i]? = some (obS TR b m)) (k : ByteArray) :
    Calls Try.prog 16 #[PtrW b, .string k] w fun e w' => e = .returned (.tuple #[(m.L.getV k).v, .bool (m.L.has k)]) ∧ Below w.heap.size w w' ∧ Side w0 N w' os :=
  sAsk h hi fun v vm _ ok hh => rGetW m.L b v vm k w (Sets.row hh) (Sets.node hh) ok.l
theorem mFromW (h : Side w0 N w os) (hi : os[i]? = some (obS TR b m)) (k : ByteArray) (ab : Bool) :
    Calls Try.prog 18 #[PtrW b, .string k, .bool ab] w fun e w' => e = .returned (.tuple #[(m.L.atV (m.L.frm k ab)).v, .bool (decide (m.L.frm k ab < m.L.length))]) ∧ Below w.heap.size w w' ∧ Side w0 N w' os :=
  sAsk h hi fun v vm _ ok hh => rFromW m.L b v vm k ab w (Sets.row hh) (Sets.node hh) ok.l
/-- its fields -/
theorem mCells (h : Side w0 N w os) (hi : os[i]? = some (obS TR b m)) : ∃ A c A2 c2, w.cell? ⟨b, 0, none⟩ = some (.slice A m.L.length c) ∧ SlWr w A m.L ∧ w.cell? ⟨b, 1, none⟩ = some (.slice A2 m.M.length c2) ∧ b < w.heap.size := by
  obtain ⟨F, ok, v, vm, vs, hP⟩ := h.get hi
  have hh : Side w (fun k => k < w.heap.size ∧ ¬ F k) w (sOs TR b v vm vs m ++ []) := by rw [List.append_nil]; exact hP.side
  obtain ⟨A, c, rfl, hs, -⟩ := (Sets.node hh).sl
  obtain ⟨A2, c2, rfl, -⟩ := Sets.form hh
  exact ⟨A, c, A2, c2, (Sets.row hh).cell 0, hs, (Sets.row hh).cell 1, (Sets.row hh).lt⟩
end
/-- New, beside other things -/
theorem sNew {w0 w : World} {N : Nat → Prop} {os : List Ob} (h : Side w0 N w os) : Calls Try.prog 8 #[] w fun e w' => (∃ b, e = .returned (PtrW b) ∧ Side w0 N w' (os ++ [obS TS b Ws.new])) ∧ Below w.heap.size w w' :=
  (xNewW w).mono fun _ _ ⟨b, _, h1, h2, h3, h4⟩ => ⟨⟨b, h1, h.more h4 (o := obS TS b Ws.new) h2 h3⟩, h4⟩
/-- a new set of the reference's -/
theorem mNewSet {w0 w : World} {N : Nat → Prop} {os : List Ob} (h : Side w0 N w os) : Side w0 N (w.alloc (.cells #[.slice none 0 0, .slice none 0 0] TR)) (os ++ [obS TR w.heap.size Ws.new]) := by
  have h1 := (Side.nil w).rowNew [.slice none 0 0, .slice none 0 0] TR
  have h2 := h1.more (o := oWr (.slice none 0 0) []) (F' := fun _ => False) (Below.refl _ _) ⟨.inl ⟨rfl, rfl⟩, fun k => ⟨fun e => e.elim, fun e => by cases e⟩⟩ fun k e => e.elim
  have h3 := h2.more (o := oVec 27 (.slice none 0 0) []) (F' := fun _ => False) (Below.refl _ _) ⟨⟨rfl, .inl ⟨rfl, rfl⟩⟩, fun k => ⟨fun e => e.elim, fun e => by cases e⟩⟩ fun k e => e.elim
  have h4 := h3.more (o := oMk [] []) (F' := fun _ => False) (Below.refl _ _) ⟨rfl, fun i hi => (by cases hi), fun k e => e.elim⟩ fun k e => e.elim
  have h5 : Side w (fun k => k < w.heap.size) (w.alloc (.cells #[.slice none 0 0, .slice none 0 0] TR)) (sOs TR w.heap.size (.slice none 0 0) (.slice none 0 0) [] Ws.new) := h4
  obtain ⟨hb, F, hF, hk⟩ := h5.allNew
  exact h.more hb (o := obS TR w.heap.size Ws.new) ⟨Ws.ok_new, _, _, _, hF⟩ hk

end Go.Proofs.Ytnbkekbgedioeaa

namespace Go.Proofs.Ytnbkekbgedioeaa
open Go.RowKit

/-- a call -/
structure AcW where
  kind : Int
  key : ByteArray
  val : Val
  n : Int
namespace AcW
def cs (x : AcW) : List Value := [.int .i64 x.kind, .string x.key, .bool x.val.num, .string x.val.txt, .int .u64 (x.val.bits : Int), .int .i64 x.n]
def Z : AcW := ⟨0, ⟨#[]⟩, Val.V0, 0⟩
def far (x : AcW) : Bool := decide (200 < x.key.size) || decide (200 < x.val.txt.size)
end AcW
namespace Ws
/-- what a call tells -/
def ans (m : Ws) (x : AcW) : Int × Int := if x.kind = 1 then (0, m.L.wE ⟨x.key, false, x.val⟩) else if x.kind = 2 then (0, m.L.wE ⟨x.key, true, Val.V0⟩) else if x.kind = 3 then (m.mkN, m.mkE) else if x.kind = 4 then (0, m.bkE x.n) else (0, 0)
/-- what it leaves -/
def step (m : Ws) (x : AcW) : Ws := if x.kind = 1 then m.wr ⟨x.key, false, x.val⟩ else if x.kind = 2 then m.wr ⟨x.key, true, Val.V0⟩ else if x.kind = 3 then m.mk' else if x.kind = 4 then m.bk x.n else m
end Ws
set_option maxRecDepth 100000 in
set_option maxHeartbeats 4000000 in
/-- far -/
theorem lFarW (x : AcW) (w : World) : Calls Try.prog 9 #[.agg #[.int .i64 x.kind, .string x.key, .bool x.val.num, .string x.val.txt, .int .u64 (x.val.bits : Int), .int .i64 x.n]] w fun e w' => e = .returned (.bool x.far) ∧ Below w.heap.size w w' := by
  obtain ⟨kd, k, v, n⟩ := x
  obtain ⟨m, t, u⟩ := v
  have E : AcW.far ⟨kd, k, ⟨m, t, u⟩, n⟩ = (decide (200 < k.size) || decide (200 < t.size)) := rfl
  rw [E]
  have B0 := Lib.hid ((Below.refl w.heap.size w).alloc (Nat.le_refl _) (.cells #[.int .i64 kd, .string k, .bool m, .string t, .int .u64 (u : Int), .int .i64 n] 36))
  obtain ⟨a, ha⟩ : ∃ a, a = k.size := ⟨_, rfl⟩
  obtain ⟨c, hc⟩ : ∃ a, a = t.size := ⟨_, rfl⟩
  rw [← ha, ← hc]
  by_cases z1 : 200 < a
  · have d1 := Lib.hid (decide_eq_true z1)
    rw [ha] at z1
    clear ha hc E
    go_enter Try.func9, Try.ntmps9
    go_wp2_with fail
    go_ret
    exact ⟨by rw [d1.out]; rfl, B0.out⟩
  · have d1 := Lib.hid (decide_eq_false z1)
    by_cases z2 : 200 < c
    · have d2 := Lib.hid (decide_eq_true z2)
      rw [ha] at z1
      rw [hc] at z2
      clear ha hc E
      go_enter Try.func9, Try.ntmps9
      go_wp2_with fail
      go_ret
      exact ⟨by rw [d1.out, d2.out]; show Ending.returned (.bool (decide ((200 : Int) < (k.size : Int)) || decide ((200 : Int) < (t.size : Int)))) = _; rw [decide_eq_false (show ¬ (200 : Int) < (k.size : Int) by omega), decide_eq_true (show (200 : Int) < (t.size : Int) by omega)], B0.out⟩
    · have d2 := Lib.hid (decide_eq_false z2)
      rw [ha] at z1
      rw [hc] at z2
      clear ha hc E
      go_enter Try.func9, Try.ntmps9
      go_wp2_with fail
      go_ret
      exact ⟨by rw [d1.out, d2.out]; show Ending.returned (.bool (decide ((200 : Int) < (k.size : Int)) || decide ((200 : Int) < (t.size : Int)))) = _; rw [decide_eq_false (show ¬ (200 : Int) < (k.size : Int) by omega), decide_eq_false (show ¬ (200 : Int) < (t.size : Int) by omega)], B0.out⟩

end Go.Proofs.Ytnbkekbgedioeaa

namespace Go.Proofs.Ytnbkekbgedioeaa
open Go.RowKit

set_option maxRecDepth 100000 in
theorem xFindNil (k : ByteArray) (w : World) : Calls Try.prog 28 #[.pointer none, .string k] w fun e w' => e = .returned (.tuple #[.int .i64 0, .bool false]) ∧ w' = w := by
  go_enter Try.func28, Try.ntmps28
  go_wp2_with fail
  go_ret2
  exact ⟨rfl, rfl⟩
set_option maxRecDepth 100000 in
theorem xLenNil (w : World) : Calls Try.prog 13 #[.pointer none] w fun e w' => e = .returned (.int .i64 0) ∧ w' = w := by
  go_enter Try.func13, Try.ntmps13
  go_wp2_with fail
  go_ret
  exact ⟨rfl, rfl⟩
set_option maxRecDepth 100000 in
theorem xMarksNil (w : World) : Calls Try.prog 14 #[.pointer none] w fun e w' => e = .returned (.int .i64 0) ∧ Below w.heap.size w w' := by
  have B := Lib.hid (Below.refl w.heap.size w)
  go_enter Try.func14, Try.ntmps14
  go_wp2_with fail
  go_ret
  exact ⟨rfl, B.out⟩
set_option maxRecDepth 100000 in
theorem xMarkNil (w : World) : Calls Try.prog 20 #[.pointer none] w fun e w' => e = .returned (.tuple #[.int .i64 0, .int .i64 2]) ∧ Below w.heap.size w w' := by
  have B := Lib.hid (Below.refl w.heap.size w)
  go_enter Try.func20, Try.ntmps20
  go_wp2_with fail
  go_ret2
  exact ⟨rfl, B.out⟩
set_option maxRecDepth 100000 in
theorem xBackNil (n : Int) (w : World) : Calls Try.prog 21 #[.pointer none, .int .i64 n] w fun e w' => e = .returned (.int .i64 2) ∧ Below w.heap.size w w' := by
  have B := Lib.hid (Below.refl w.heap.size w)
  go_enter Try.func21, Try.ntmps21
  go_wp2_with fail
  go_ret
  exact ⟨rfl, B.out⟩
set_option maxRecDepth 100000 in
theorem xWriteNil (x : Wr) (w : World) : Calls Try.prog 32 #[.pointer none, .agg #[.string x.key, .bool x.gone, .bool x.val.num, .string x.val.txt, .int .u64 (x.val.bits : Int)]] w fun e w' => e = .returned (.int .i64 2) ∧ Below w.heap.size w w' := by
  have B := Lib.hid ((Below.refl w.heap.size w).alloc (Nat.le_refl _) (.cells #[.string x.key, .bool x.gone, .bool x.val.num, .string x.val.txt, .int .u64 (x.val.bits : Int)] 42))
  go_enter Try.func32, Try.ntmps32
  go_wp2_with fail
  go_ret
  exact ⟨rfl, B.out⟩
set_option maxRecDepth 100000 in
theorem xPutNil (k : ByteArray) (y : Val) (w : World) : Calls Try.prog 22 #[.pointer none, .string k, .agg #[.bool y.num, .string y.txt, .int .u64 (y.bits : Int)]] w fun e w' => e = .returned (.int .i64 2) ∧ Below w.heap.size w w' := by
  have B := Lib.hid ((Below.refl w.heap.size w).alloc (Nat.le_refl _) (.cells #[.bool y.num, .string y.txt, .int .u64 (y.bits : Int)] 34))
  have K := Lib.hid (fun W => xWriteNil ⟨k, false, y⟩ W)
  obtain ⟨mm, t, u⟩ := y
  have K : Hid (∀ W, Calls Try.prog 32 #[.pointer none, .agg #[.string k, .bool false, .bool mm, .string t, .int .u64 (u : Int)]] W fun e w' => e = .returned (.int .i64 2) ∧ Below W.heap.size W w') := K
  show Calls Try.prog 22 #[.pointer none, .string k, .agg #[.bool mm, .string t, .int .u64 (u : Int)]] w _
  go_enter Try.func22, Try.ntmps22
  go_wp2_with fail
  refine (K.out _).mono ?_
  rintro e w1 ⟨rfl, hb⟩
  have B1 := Lib.hid (below_then B.out hb)
  clear hb
  go_wp2_with fail
  go_ret
  exact ⟨rfl, B1.out⟩
set_option maxRecDepth 100000 in
theorem xDelNil (k : ByteArray) (w : World) : Calls Try.prog 23 #[.pointer none, .string k] w fun e w' => e = .returned (.int .i64 2) ∧ Below w.heap.size w w' := by
  have K : Hid (∀ W, Calls Try.prog 32 #[.pointer none, .agg #[.string k, .bool true, .bool false, .string ⟨#[]⟩, .int .u64 0]] W fun e w' => e = .returned (.int .i64 2) ∧ Below W.heap.size W w') := Lib.hid (fun W => xWriteNil ⟨k, true, Val.V0⟩ W)
  go_enter Try.func23, Try.ntmps23
  go_wp2_with fail
  refine (K.out _).mono ?_
  rintro e w1 ⟨rfl, hb⟩
  have B1 := Lib.hid hb
  clear hb
  go_wp2_with fail
  go_ret
  exact ⟨rfl, B1.out⟩
set_option maxRecDepth 100000 in
theorem xAllNil (w : World) : Calls Try.prog 12 #[.pointer none] w fun e w' => e = .returned (.slice none 0 0) ∧ Below w.heap.size w w' := by
  have B := Lib.hid (Below.refl w.heap.size w)
  go_enter Try.func12, Try.ntmps12
  go_wp2_with fail
  refine (xLenNil _).mono ?_
  rintro e w1 ⟨rfl, rfl⟩
  go_wp2_with fail
  go_loopw [3, 7] (fun vl vi wr => vl = .slice none 0 0 ∧ vi = .int .i64 0 ∧ wr = w1) (fun _ _ _ => 1)
  case atStart => exact ⟨rfl, rfl, rfl⟩
  case round =>
    obtain ⟨rfl, rfl, rfl⟩ := hrel
    go_wp2_with fail
    go_ret
    exact ⟨rfl, B.out⟩
set_option maxRecDepth 100000 in
set_option maxHeartbeats 4000000 in
theorem xToldNil (w : World) : Calls Try.prog 29 #[.pointer none, .int .i64 0] w fun e w' => e = .returned (.tuple #[Wr.Z.v, .bool false]) ∧ Below w.heap.size w w' := by
  obtain ⟨B, hB⟩ : ∃ B, B = w.heap.size := ⟨_, rfl⟩
  obtain ⟨W0, hW0⟩ : ∃ W, W = w.alloc (.cells #[.string ⟨#[]⟩, .bool false, .bool false, .string ⟨#[]⟩, .int .u64 0] 42) := ⟨_, rfl⟩
  have b0 : Below w.heap.size w W0 := by rw [hW0]; exact (Below.refl _ _).alloc (Nat.le_refl _) _
  have R0 : RowAt W0 w.heap.size Wr.Z.cs 42 := by rw [hW0]; exact RowAt.new w Wr.Z.cs 42
  rw [← hB] at b0 R0 ⊢
  have HB := Lib.hid hB
  have HW := Lib.hid hW0
  obtain ⟨g0, g1, g2, g3, g4, e0, e1, e2, e3, e4⟩ := wrZ R0
  have F1 := Lib.hid (show Below B w (setW W0 B Wr.Z) from setW_below b0 (Nat.le_refl _))
  have F2 := Lib.hid (show RowAt (setW W0 B Wr.Z) B Wr.Z.cs _ from setW_row R0)
  clear hB hW0 b0 R0
  go_enter Try.func29, Try.ntmps29
  go_wp2_with fail
  rw [← HW.out, ← HB.out]
  refine (xLenNil _).mono ?_
  rintro e w1 ⟨rfl, hw⟩
  obtain rfl : W0 = w1 := hw.symm
  go_wp2_with fail
  refine bodyPost_ret (results_cell_tmp rfl _ (setW W0 B Wr.Z) B _ _ _ rfl F2.out Try.underlying42 rfl (by kernel_rfl)) rfl ?_
  exact ⟨rfl, F1.out⟩
set_option maxRecDepth 100000 in
set_option maxHeartbeats 4000000 in
theorem xGetNil (k : ByteArray) (w : World) : Calls Try.prog 15 #[.pointer none, .string k] w fun e w' => e = .returned (.tuple #[Wr.Z.v, .bool false]) ∧ Below w.heap.size w w' := by
  obtain ⟨B, hB⟩ : ∃ B, B = w.heap.size := ⟨_, rfl⟩
  obtain ⟨W0, hW0⟩ : ∃ W, W = w.alloc (.cells #[.string ⟨#[]⟩, .bool false, .bool false, .string ⟨#[]⟩, .int .u64 0] 42) := ⟨_, rfl⟩
  have b0 : Below w.heap.size w W0 := by rw [hW0]; exact (Below.refl _ _).alloc (Nat.le_refl _) _
  have R0 : RowAt W0 w.heap.size Wr.Z.cs 42 := by rw [hW0]; exact RowAt.new w Wr.Z.cs 42
  rw [← hB] at b0 R0 ⊢
  have HB := Lib.hid hB
  have HW := Lib.hid hW0
  obtain ⟨g0, g1, g2, g3, g4, e0, e1, e2, e3, e4⟩ := wrZ R0
  have F1 := Lib.hid (show Below B w (setW W0 B Wr.Z) from setW_below b0 (Nat.le_refl _))
  have F2 := Lib.hid (show RowAt (setW W0 B Wr.Z) B Wr.Z.cs _ from setW_row R0)
  clear hB hW0 b0 R0
  go_enter Try.func15, Try.ntmps15
  go_wp2_with fail
  rw [← HW.out, ← HB.out]
  refine (xFindNil k _).mono ?_
  rintro e w1 ⟨rfl, hw⟩
  obtain rfl : W0 = w1 := hw.symm
  go_wp2_with fail
  refine bodyPost_ret (results_cell_tmp rfl _ (setW W0 B Wr.Z) B _ _ _ rfl F2.out Try.underlying42 rfl (by kernel_rfl)) rfl ?_
  exact ⟨rfl, F1.out⟩
set_option maxRecDepth 100000 in
set_option maxHeartbeats 4000000 in
theorem xAfterNil (k : ByteArray) (w : World) : Calls Try.prog 17 #[.pointer none, .string k] w fun e w' => e = .returned (.tuple #[Wr.Z.v, .bool false]) ∧ Below w.heap.size w w' := by
  obtain ⟨B, hB⟩ : ∃ B, B = w.heap.size := ⟨_, rfl⟩
  obtain ⟨W0, hW0⟩ : ∃ W, W = w.alloc (.cells #[.string ⟨#[]⟩, .bool false, .bool false, .string ⟨#[]⟩, .int .u64 0] 42) := ⟨_, rfl⟩
  have b0 : Below w.heap.size w W0 := by rw [hW0]; exact (Below.refl _ _).alloc (Nat.le_refl _) _
  have R0 : RowAt W0 w.heap.size Wr.Z.cs 42 := by rw [hW0]; exact RowAt.new w Wr.Z.cs 42
  rw [← hB] at b0 R0 ⊢
  have HB := Lib.hid hB
  have HW := Lib.hid hW0
  have KT : Hid (∀ W, Calls Try.prog 29 #[.pointer none, .int .i64 0] W fun e w' => e = .returned (.tuple #[.agg #[.string ⟨#[]⟩, .bool false, .bool false, .string ⟨#[]⟩, .int .u64 0], .bool false]) ∧ Below W.heap.size W w') := Lib.hid (fun W => xToldNil W)
  have B0 := Lib.hid b0
  have R0 := Lib.hid R0
  clear hB hW0 b0
  go_enter Try.func17, Try.ntmps17
  go_wp2_with fail
  rw [← HW.out, ← HB.out]
  refine (xFindNil k _).mono ?_
  rintro e w1 ⟨rfl, hw⟩
  obtain rfl : W0 = w1 := hw.symm
  go_wp2_with fail
  refine (KT.out _).mono ?_
  rintro e w2 ⟨rfl, hb2⟩
  have R2 := R0.out.below hb2
  have b2 : Below B w w2 := B0.out.trans (hb2.mono (by have := B0.out.size; have := HB.out; omega))
  obtain ⟨g0, g1, g2, g3, g4, e0, e1, e2, e3, e4⟩ := wrZ R2
  have F1 := Lib.hid (show Below B w (setW w2 B Wr.Z) from setW_below b2 (Nat.le_refl _))
  have F2 := Lib.hid (show RowAt (setW w2 B Wr.Z) B Wr.Z.cs _ from setW_row R2)
  clear hb2 R2 b2 KT
  go_wp2_with fail
  refine bodyPost_ret (results_cell_tmp rfl _ (setW w2 B Wr.Z) B _ _ _ rfl F2.out Try.underlying42 rfl (by kernel_rfl)) rfl ?_
  exact ⟨rfl, F1.out⟩
set_option maxRecDepth 100000 in
set_option maxHeartbeats 4000000 in
theorem xSeekNil (k : ByteArray) (w : World) : Calls Try.prog 19 #[.pointer none, .string k] w fun e w' => e = .returned (.tuple #[Wr.Z.v, .bool false]) ∧ Below w.heap.size w w' := by
  obtain ⟨B, hB⟩ : ∃ B, B = w.heap.size := ⟨_, rfl⟩
  obtain ⟨W0, hW0⟩ : ∃ W, W = w.alloc (.cells #[.string ⟨#[]⟩, .bool false, .bool false, .string ⟨#[]⟩, .int .u64 0] 42) := ⟨_, rfl⟩
  have b0 : Below w.heap.size w W0 := by rw [hW0]; exact (Below.refl _ _).alloc (Nat.le_refl _) _
  have R0 : RowAt W0 w.heap.size Wr.Z.cs 42 := by rw [hW0]; exact RowAt.new w Wr.Z.cs 42
  rw [← hB] at b0 R0 ⊢
  have HB := Lib.hid hB
  have HW := Lib.hid hW0
  have KT : Hid (∀ W, Calls Try.prog 29 #[.pointer none, .int .i64 0] W fun e w' => e = .returned (.tuple #[.agg #[.string ⟨#[]⟩, .bool false, .bool false, .string ⟨#[]⟩, .int .u64 0], .bool false]) ∧ Below W.heap.size W w') := Lib.hid (fun W => xToldNil W)
  have B0 := Lib.hid b0
  have R0 := Lib.hid R0
  clear hB hW0 b0
  go_enter Try.func19, Try.ntmps19
  go_wp2_with fail
  rw [← HW.out, ← HB.out]
  refine (xFindNil k _).mono ?_
  rintro e w1 ⟨rfl, hw⟩
  obtain rfl : W0 = w1 := hw.symm
  go_wp2_with fail
  refine (KT.out _).mono ?_
  rintro e w2 ⟨rfl, hb2⟩
  have R2 := R0.out.below hb2
  have b2 : Below B w w2 := B0.out.trans (hb2.mono (by have := B0.out.size; have := HB.out; omega))
  obtain ⟨g0, g1, g2, g3, g4, e0, e1, e2, e3, e4⟩ := wrZ R2
  have F1 := Lib.hid (show Below B w (setW w2 B Wr.Z) from setW_below b2 (Nat.le_refl _))
  have F2 := Lib.hid (show RowAt (setW w2 B Wr.Z) B Wr.Z.cs _ from setW_row R2)
  clear hb2 R2 b2 KT
  go_wp2_with fail
  refine bodyPost_ret (results_cell_tmp rfl _ (setW w2 B Wr.Z) B _ _ _ rfl F2.out Try.underlying42 rfl (by kernel_rfl)) rfl ?_
  exact ⟨rfl, F1.out⟩

end Go.Proofs.Ytnbkekbgedioeaa

namespace Go.Proofs.Ytnbkekbgedioeaa
open Go.RowKit

theorem awk_facts : (Ws.new.L.wE ⟨⟨#[97]⟩, false, ⟨false, ⟨#[120]⟩, 0⟩⟩ = 0 ∧ Ws.new.wr ⟨⟨#[97]⟩, false, ⟨false, ⟨#[120]⟩, 0⟩⟩ = ⟨[⟨⟨#[97]⟩, false, ⟨false, ⟨#[120]⟩, 0⟩⟩], []⟩) ∧
    (Wl.wE [⟨⟨#[97]⟩, false, ⟨false, ⟨#[120]⟩, 0⟩⟩] ⟨⟨#[97]⟩, true, Val.V0⟩ = 0 ∧ Wl.wL [⟨⟨#[97]⟩, false, ⟨false, ⟨#[120]⟩, 0⟩⟩] ⟨⟨#[97]⟩, true, Val.V0⟩ = [⟨⟨#[97]⟩, true, Val.V0⟩]) ∧
    (Wl.getV [⟨⟨#[97]⟩, false, ⟨false, ⟨#[120]⟩, 0⟩⟩] ⟨#[97]⟩ = ⟨⟨#[97]⟩, false, ⟨false, ⟨#[120]⟩, 0⟩⟩ ∧ Wl.has [⟨⟨#[97]⟩, false, ⟨false, ⟨#[120]⟩, 0⟩⟩] ⟨#[97]⟩ = true) := by
  refine ⟨⟨by kernel_rfl, by kernel_rfl⟩, ⟨by kernel_rfl, by kernel_rfl⟩, by kernel_rfl, by kernel_rfl⟩

set_option maxRecDepth 100000 in
set_option maxHeartbeats 4000000 in
/-- awake -/
theorem awakeW (w : World) : Calls Try.prog 7 #[] w fun e w' => e = .returned (.bool true) ∧ Below w.heap.size w w' := by
  obtain ⟨⟨f1, f2⟩, ⟨f3, f4⟩, f5, f6⟩ := awk_facts
  have KN := Lib.hid (sNew (Side.nil w))
  have KP := Lib.hid (fun b W (h : Side w (fun k => k < w.heap.size) W [obS TS b Ws.new]) => show Calls Try.prog 22 #[PtrW b, .string ⟨#[97]⟩, .agg #[.bool false, .string ⟨#[120]⟩, .int .u64 0]] W fun e w' => e = .returned (.int .i64 0) ∧ Side w (fun k => k < w.heap.size) w' [obS TS b ⟨[⟨⟨#[97]⟩, false, ⟨false, ⟨#[120]⟩, 0⟩⟩], []⟩] from by
    have hf : Val.Fits ⟨false, ⟨#[120]⟩, 0⟩ := ⟨by decide, by decide⟩
    have k := sPut h (i := 0) rfl ⟨#[97]⟩ ⟨false, ⟨#[120]⟩, 0⟩ hf
    rw [f1, f2] at k; exact k)
  have KM := Lib.hid (fun b W (h : Side w (fun k => k < w.heap.size) W [obS TS b ⟨[⟨⟨#[97]⟩, false, ⟨false, ⟨#[120]⟩, 0⟩⟩], []⟩]) => show Calls Try.prog 20 #[PtrW b] W fun e w' => e = .returned (.tuple #[.int .i64 1, .int .i64 0]) ∧ Side w (fun k => k < w.heap.size) w' [obS TS b ⟨[⟨⟨#[97]⟩, false, ⟨false, ⟨#[120]⟩, 0⟩⟩], [[⟨⟨#[97]⟩, false, ⟨false, ⟨#[120]⟩, 0⟩⟩]]⟩] from sMark h (i := 0) rfl)
  have KD := Lib.hid (fun b W (h : Side w (fun k => k < w.heap.size) W [obS TS b ⟨[⟨⟨#[97]⟩, false, ⟨false, ⟨#[120]⟩, 0⟩⟩], [[⟨⟨#[97]⟩, false, ⟨false, ⟨#[120]⟩, 0⟩⟩]]⟩]) => show Calls Try.prog 23 #[PtrW b, .string ⟨#[97]⟩] W fun e w' => e = .returned (.int .i64 0) ∧ Side w (fun k => k < w.heap.size) w' [obS TS b ⟨[⟨⟨#[97]⟩, true, Val.V0⟩], [[⟨⟨#[97]⟩, false, ⟨false, ⟨#[120]⟩, 0⟩⟩]]⟩] from by
    have k := sDel h (i := 0) rfl ⟨#[97]⟩
    unfold Ws.wr at k
    rw [f3, f4] at k; exact k)
  have KB := Lib.hid (fun b W (h : Side w (fun k => k < w.heap.size) W [obS TS b ⟨[⟨⟨#[97]⟩, true, Val.V0⟩], [[⟨⟨#[97]⟩, false, ⟨false, ⟨#[120]⟩, 0⟩⟩]]⟩]) => show Calls Try.prog 21 #[PtrW b, .int .i64 1] W fun e w' => e = .returned (.int .i64 0) ∧ Side w (fun k => k < w.heap.size) w' [obS TS b ⟨[⟨⟨#[97]⟩, false, ⟨false, ⟨#[120]⟩, 0⟩⟩], [[⟨⟨#[97]⟩, false, ⟨false, ⟨#[120]⟩, 0⟩⟩]]⟩] from sBack h (i := 0) rfl 1)
  have KG := Lib.hid (fun b W (h : Side w (fun k => k < w.heap.size) W [obS TS b ⟨[⟨⟨#[97]⟩, false, ⟨false, ⟨#[120]⟩, 0⟩⟩], [[⟨⟨#[97]⟩, false, ⟨false, ⟨#[120]⟩, 0⟩⟩]]⟩]) => show Calls Try.prog 15 #[PtrW b, .string ⟨#[97]⟩] W fun e w' => e = .returned (.tuple #[.agg #[.string ⟨#[97]⟩, .bool false, .bool false, .string ⟨#[120]⟩, .int .u64 0], .bool true]) ∧ Below W.heap.size W w' ∧ Side w (fun k => k < w.heap.size) w' [obS TS b ⟨[⟨⟨#[97]⟩, false, ⟨false, ⟨#[120]⟩, 0⟩⟩], [[⟨⟨#[97]⟩, false, ⟨false, ⟨#[120]⟩, 0⟩⟩]]⟩] from by
    have k := sGet h (i := 0) rfl ⟨#[97]⟩
    rw [f5, f6] at k; exact k)
  have BS := Lib.hid (fun W os (h : Side w (fun k => k < w.heap.size) W os) => show Below w.heap.size w W from h.base (Nat.le_refl _) fun _ e => e)
  clear f1 f2 f3 f4 f5 f6
  go_enter Try.func7, Try.ntmps7
  go_wp2_with fail
  refine KN.out.mono ?_
  rintro e w1 ⟨⟨b, rfl, h1⟩, -⟩
  have H1 := Lib.hid h1
  clear h1 KN
  go_wp2_with fail
  refine (KP.out b _ H1.out).mono ?_
  rintro e w2 ⟨rfl, h2⟩
  have H2 := Lib.hid h2
  clear h2 H1 KP
  go_wp2_with fail
  refine (KM.out b _ H2.out).mono ?_
  rintro e w3 ⟨rfl, h3⟩
  have H3 := Lib.hid h3
  clear h3 H2 KM
  go_wp2_with fail
  refine (KD.out b _ H3.out).mono ?_
  rintro e w4 ⟨rfl, h4⟩
  have H4 := Lib.hid h4
  clear h4 H3 KD
  go_wp2_with fail
  refine (KB.out b _ H4.out).mono ?_
  rintro e w5 ⟨rfl, h5⟩
  have H5 := Lib.hid h5
  clear h5 H4 KB
  go_wp2_with fail
  refine (KG.out b _ H5.out).mono ?_
  rintro e w6 ⟨rfl, hb, h6⟩
  have B6 := Lib.hid (below_then (BS.out _ _ h6) ((Below.refl _ _).alloc (Nat.le_refl w6.heap.size) (.cells #[.string ⟨#[97]⟩, .bool false, .bool false, .string ⟨#[120]⟩, .int .u64 0] 42)))
  clear h6 hb H5 KG
  go_wp2_with fail
  go_ret
  exact ⟨rfl, B6.out⟩

end Go.Proofs.Ytnbkekbgedioeaa
