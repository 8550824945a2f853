/- What the program's value does, walked: Compare; all of it. -/
import Derived.Test.YtblmebgpjanekaaVt
namespace Go.Proofs.Ytblmebgpjanekaa
open Go.RowKit

theorem box_second {o : Obj} (w : World) (n : Bool) (t : ByteArray) (b : Nat) (ty : TypeId) : BoxV ((w.alloc o).alloc (.cells #[.bool n, .string t, .int .u64 (b : Int)] ty)) (w.heap.size + 1) n t b := by
  have h := BoxV.new (w.alloc o) n t b ty
  have e : (w.alloc o).heap.size = w.heap.size + 1 := by simp
  rw [e] at h; exact h
theorem from_right (k : Nat) (w : World) (h : Fl.bitsOf k = k) : Calls Try.prog 24 #[.int .u64 (k : Int)] w fun e w' => e = .returned (.float .f64 k) ∧ w = w' := by
  have q := nfrom (k : Int) w; rw [show ((k : Int)).toNat = k by omega, h] at q; exact q
/-- Right's answer about a value -/
def RightSays (n : Bool) (t : ByteArray) (b : Nat) (o : Bool) : Prop := ∀ w, Calls Try.prog 9 #[.agg #[.bool n, .string t, .int .u64 (b : Int)]] w fun e w' => e = .returned (.bool o) ∧ Below w.heap.size w w'
/-- two boxes, as they stand at the door -/
theorem doors (w : World) (n m : Bool) (t u : ByteArray) (b d : Nat) (T : TypeId) :
    BoxV ((w.alloc (.cells #[.bool n, .string t, .int .u64 (b : Int)] T)).alloc (.cells #[.bool m, .string u, .int .u64 (d : Int)] T)) w.heap.size n t b ∧
    BoxV ((w.alloc (.cells #[.bool n, .string t, .int .u64 (b : Int)] T)).alloc (.cells #[.bool m, .string u, .int .u64 (d : Int)] T)) (w.heap.size + 1) m u d ∧
    Below w.heap.size w ((w.alloc (.cells #[.bool n, .string t, .int .u64 (b : Int)] T)).alloc (.cells #[.bool m, .string u, .int .u64 (d : Int)] T)) :=
  ⟨(BoxV.new w n t b T).below ((Below.refl _ _).alloc (Nat.le_refl _) _), box_second w m u d T, ((Below.refl w.heap.size w).alloc (Nat.le_refl _) _).alloc (by simp) _⟩

set_option maxRecDepth 100000 in
set_option maxHeartbeats 400000 in
theorem vpCompare_no1 (n m : Bool) (t u : ByteArray) (b d : Nat) (w : World) (RX : Hid (RightSays n t b false)) :
    Calls Try.prog 21 #[.agg #[.bool n, .string t, .int .u64 (b : Int)], .agg #[.bool m, .string u, .int .u64 (d : Int)]] w fun e w' => e = .returned (.int .i64 0) ∧ Below w.heap.size w w' := by
  have DO := Lib.hid (doors w n m t u b d 24)
  go_enter Try.func21, Try.ntmps21
  go_wp2_with fail
  refine (RX.out _).mono ?_
  rintro e w1 ⟨rfl, hb1⟩
  have HB1 := Lib.hid (below_then DO.out.2.2 hb1)
  clear hb1
  go_wp2_with fail
  go_ret
  exact ⟨rfl, HB1.out⟩

set_option maxRecDepth 100000 in
set_option maxHeartbeats 400000 in
theorem vpCompare_no2 (n m : Bool) (t u : ByteArray) (b d : Nat) (w : World) (RX : Hid (RightSays n t b true)) (RY : Hid (RightSays m u d false)) :
    Calls Try.prog 21 #[.agg #[.bool n, .string t, .int .u64 (b : Int)], .agg #[.bool m, .string u, .int .u64 (d : Int)]] w fun e w' => e = .returned (.int .i64 0) ∧ Below w.heap.size w w' := by
  have DO := Lib.hid (doors w n m t u b d 24)
  go_enter Try.func21, Try.ntmps21
  go_wp2_with fail
  refine (RX.out _).mono ?_
  rintro e w1 ⟨rfl, hb1⟩
  have HB1 := Lib.hid (below_then DO.out.2.2 hb1)
  obtain ⟨b0, b1, b2⟩ := DO.out.2.1.below hb1
  clear hb1
  go_wp2_with fail
  refine (RY.out _).mono ?_
  rintro e w2 ⟨rfl, hb2⟩
  have HB2 := Lib.hid (below_then HB1.out hb2)
  clear hb2
  go_wp2_with fail
  go_ret
  exact ⟨rfl, HB2.out⟩

set_option maxRecDepth 100000 in
set_option maxHeartbeats 400000 in
theorem vpCompare_tt (t u : ByteArray) (b d : Nat) (w : World) (RX : Hid (RightSays false t b true)) (RY : Hid (RightSays false u d true)) :
    Calls Try.prog 21 #[.agg #[.bool false, .string t, .int .u64 (b : Int)], .agg #[.bool false, .string u, .int .u64 (d : Int)]] w fun e w' => e = .returned (.int .i64 (Lib.compareBytes t.data.toList u.data.toList)) ∧ Below w.heap.size w w' := by
  have DO := Lib.hid (doors w false false t u b d 24)
  have SC := Lib.hid (scmpString t u)
  go_enter Try.func21, Try.ntmps21
  go_wp2_with fail
  refine (RX.out _).mono ?_
  rintro e w1 ⟨rfl, hb1⟩
  have HB1 := Lib.hid (below_then DO.out.2.2 hb1)
  have X1 := Lib.hid (DO.out.1.below hb1)
  have Y1 := Lib.hid (DO.out.2.1.below hb1)
  obtain ⟨b0, b1, b2⟩ := Y1.out
  clear hb1
  go_wp2_with fail
  refine (RY.out _).mono ?_
  rintro e w2 ⟨rfl, hb2⟩
  have HB2 := Lib.hid (below_then HB1.out hb2)
  clear b0 b1 b2
  obtain ⟨b0, b1, b2⟩ := Y1.out.below hb2
  obtain ⟨a0, a1, a2⟩ := X1.out.below hb2
  clear hb2
  go_wp2_with fail
  refine (SC.out _).mono ?_
  rintro e w3 ⟨rfl, rfl⟩
  go_wp2_with fail
  go_ret
  exact ⟨rfl, HB2.out⟩

set_option maxRecDepth 100000 in
set_option maxHeartbeats 400000 in
theorem vpCompare_tn (t u : ByteArray) (b d : Nat) (w : World) (RX : Hid (RightSays false t b true)) (RY : Hid (RightSays true u d true)) :
    Calls Try.prog 21 #[.agg #[.bool false, .string t, .int .u64 (b : Int)], .agg #[.bool true, .string u, .int .u64 (d : Int)]] w fun e w' => e = .returned (.int .i64 (-1)) ∧ Below w.heap.size w w' := by
  have DO := Lib.hid (doors w false true t u b d 24)
  go_enter Try.func21, Try.ntmps21
  go_wp2_with fail
  refine (RX.out _).mono ?_
  rintro e w1 ⟨rfl, hb1⟩
  have HB1 := Lib.hid (below_then DO.out.2.2 hb1)
  have X1 := Lib.hid (DO.out.1.below hb1)
  have Y1 := Lib.hid (DO.out.2.1.below hb1)
  obtain ⟨b0, b1, b2⟩ := Y1.out
  clear hb1
  go_wp2_with fail
  refine (RY.out _).mono ?_
  rintro e w2 ⟨rfl, hb2⟩
  have HB2 := Lib.hid (below_then HB1.out hb2)
  clear b0 b1 b2
  obtain ⟨b0, b1, b2⟩ := Y1.out.below hb2
  obtain ⟨a0, a1, a2⟩ := X1.out.below hb2
  clear hb2
  go_wp2_with fail
  go_ret
  exact ⟨rfl, HB2.out⟩

set_option maxRecDepth 100000 in
set_option maxHeartbeats 400000 in
theorem vpCompare_nt (t u : ByteArray) (b d : Nat) (w : World) (RX : Hid (RightSays true t b true)) (RY : Hid (RightSays false u d true)) :
    Calls Try.prog 21 #[.agg #[.bool true, .string t, .int .u64 (b : Int)], .agg #[.bool false, .string u, .int .u64 (d : Int)]] w fun e w' => e = .returned (.int .i64 1) ∧ Below w.heap.size w w' := by
  have DO := Lib.hid (doors w true false t u b d 24)
  go_enter Try.func21, Try.ntmps21
  go_wp2_with fail
  refine (RX.out _).mono ?_
  rintro e w1 ⟨rfl, hb1⟩
  have HB1 := Lib.hid (below_then DO.out.2.2 hb1)
  have X1 := Lib.hid (DO.out.1.below hb1)
  have Y1 := Lib.hid (DO.out.2.1.below hb1)
  obtain ⟨b0, b1, b2⟩ := Y1.out
  clear hb1
  go_wp2_with fail
  refine (RY.out _).mono ?_
  rintro e w2 ⟨rfl, hb2⟩
  have HB2 := Lib.hid (below_then HB1.out hb2)
  clear b0 b1 b2
  obtain ⟨b0, b1, b2⟩ := Y1.out.below hb2
  obtain ⟨a0, a1, a2⟩ := X1.out.below hb2
  clear hb2
  go_wp2_with fail
  go_ret
  exact ⟨rfl, HB2.out⟩

set_option maxRecDepth 100000 in
set_option maxHeartbeats 400000 in
theorem vpCompare_nn (t u : ByteArray) (b d : Nat) (w : World) (RX : Hid (RightSays true t b true)) (RY : Hid (RightSays true u d true))
    (Q1 : Hid (Fl.bitsOf b = b)) (Q2 : Hid (Fl.bitsOf d = d))
    (OR : Hid (∀ w, Calls Try.prog 31 #[.float .f64 b, .float .f64 d] w fun e w' => e = .returned (.int .i64 (cmpI (Fl.place b) (Fl.place d))) ∧ w = w')) :
    Calls Try.prog 21 #[.agg #[.bool true, .string t, .int .u64 (b : Int)], .agg #[.bool true, .string u, .int .u64 (d : Int)]] w fun e w' => e = .returned (.int .i64 (cmpI (Fl.place b) (Fl.place d))) ∧ Below w.heap.size w w' := by
  have DO := Lib.hid (doors w true true t u b d 24)
  obtain ⟨q, hq⟩ : ∃ q, q = cmpI (Fl.place b) (Fl.place d) := ⟨_, rfl⟩
  rw [← hq] at OR ⊢
  clear hq
  have F := Lib.hid from_right
  go_enter Try.func21, Try.ntmps21
  go_wp2_with fail
  refine (RX.out _).mono ?_
  rintro e w1 ⟨rfl, hb1⟩
  have HB1 := Lib.hid (below_then DO.out.2.2 hb1)
  have X1 := Lib.hid (DO.out.1.below hb1)
  have Y1 := Lib.hid (DO.out.2.1.below hb1)
  obtain ⟨b0, b1, b2⟩ := Y1.out
  clear hb1
  go_wp2_with fail
  refine (RY.out _).mono ?_
  rintro e w2 ⟨rfl, hb2⟩
  have HB2 := Lib.hid (below_then HB1.out hb2)
  clear b0 b1 b2
  obtain ⟨b0, b1, b2⟩ := Y1.out.below hb2
  obtain ⟨a0, a1, a2⟩ := X1.out.below hb2
  clear hb2
  go_wp2_with fail
  go_quiet (first | (go_at_call 24; exact Calls.quiet_of_same ((F.out _ _ (by first | exact Q1.out | exact Q2.out)).mono fun _ _ hh => ⟨hh.1, hh.2.symm⟩)) | (go_at_call 31; exact Calls.quiet_of_same ((OR.out _).mono fun _ _ hh => ⟨hh.1, hh.2.symm⟩)))
  go_wp2_with fail
  go_ret
  exact ⟨rfl, below_drewN HB2.out _⟩

/-- value.Compare -/
theorem vpCompare (x y : Val) (w : World) (hx : x.Fits) (hy : y.Fits) : Calls Try.prog 21 #[x.v, y.v] w fun e w' => e = .returned (.int .i64 (if x.ok && y.ok then Val.cmp x y else 0)) ∧ Below w.heap.size w w' := by
  have RX : RightSays x.num x.txt x.bits x.ok := fun w => vpRight x w hx
  have RY : RightSays y.num y.txt y.bits y.ok := fun w => vpRight y w hy
  cases o1 : x.ok with
  | false => rw [o1] at RX; exact vpCompare_no1 _ _ _ _ _ _ w (Lib.hid RX)
  | true =>
    rw [o1] at RX
    cases o2 : y.ok with
    | false => rw [o2] at RY; exact vpCompare_no2 _ _ _ _ _ _ w (Lib.hid RX) (Lib.hid RY)
    | true =>
      rw [o2] at RY
      show Calls _ _ _ w fun e w' => e = .returned (.int .i64 (Val.cmp x y)) ∧ _
      obtain ⟨n, t, b⟩ := x
      obtain ⟨m, u, d⟩ := y
      have hb : b < 18446744073709551616 := hx.1
      have hd : d < 18446744073709551616 := hy.1
      cases n <;> cases m
      · have e : Val.cmp ⟨false, t, b⟩ ⟨false, u, d⟩ = Lib.compareBytes t.data.toList u.data.toList := by rw [cmpBytes_eq, ← Val.toL, ← Val.toL]; rfl
        rw [e]; exact vpCompare_tt t u b d w (Lib.hid RX) (Lib.hid RY)
      · exact vpCompare_tn t u b d w (Lib.hid RX) (Lib.hid RY)
      · exact vpCompare_nt t u b d w (Lib.hid RX) (Lib.hid RY)
      · have q1 : Fl.bitsOf b = b := (Val.num_of o1 rfl).2
        have q2 : Fl.bitsOf d = d := (Val.num_of o2 rfl).2
        have e : Val.cmp ⟨true, t, b⟩ ⟨true, u, d⟩ = cmpI (Fl.place b) (Fl.place d) := by
          unfold cmpI Val.cmp
          simp
        rw [e]
        exact vpCompare_nn t u b d w (Lib.hid RX) (Lib.hid RY)
          (Lib.hid q1) (Lib.hid q2)
          (Lib.hid (norder b d (fits_small b hb) (fits_small d hd)))

/-- what the program's value does -/
theorem valueAt : ValueAt where
  right := vpRight
  pack := vpPack
  unpack := vpUnpack
  weight := vpWeight
  number := fun b w _ => vpNumber b w
  float := vpFloat
  bytes := vpBytes
  compare := fun x y w hx hy _ _ => vpCompare x y w hx hy

end Go.Proofs.Ytblmebgpjanekaa
