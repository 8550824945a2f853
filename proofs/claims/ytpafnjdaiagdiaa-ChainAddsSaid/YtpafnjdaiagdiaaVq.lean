/- What the program's value does, walked: Right, Bytes, Number, Float, Pack, Unpack, Weight, Compare. -/
import Derived.Test.YtpafnjdaiagdiaaVo
import Derived.Test.YtpafnjdaiagdiaaVu
import Derived.Test.YtpafnjdaiagdiaaCo
import Derived.Test.YtpafnjdaiagdiaaChg
import Derived.Lib.Bytealg
import Derived.Deep.RegionHeld3
import Derived.BigQuiet
namespace Go.Proofs.Ytpafnjdaiagdiaa
open Go.RowKit

theorem cmpBytes_eq : ∀ x y : List UInt8, Lib.compareBytes x y = (if Op.bytesLess x y then -1 else if Op.bytesLess y x then 1 else 0)
  | [], [] => rfl
  | [], _ :: _ => rfl
  | _ :: _, [] => rfl
  | a :: x, b :: y => by
    have ih := cmpBytes_eq x y
    unfold Lib.compareBytes
    rw [ih]
    by_cases h1 : a < b
    · have h2 : Op.bytesLess (a :: x) (b :: y) = true := by unfold Op.bytesLess; simp [h1]
      rw [if_pos h1, h2]; rfl
    · rw [if_neg h1]
      by_cases h2 : b < a
      · have h3 : Op.bytesLess (b :: y) (a :: x) = true := by unfold Op.bytesLess; simp [h2]
        rw [if_pos h2, h3, Val.less_asym _ _ h3]; rfl
      · rw [if_neg h2]
        have e : a = b := by
          apply UInt8.toNat_inj.1
          have q1 : ¬ a.toNat < b.toNat := fun q => h1 (UInt8.lt_iff_toNat_lt.2 q)
          have q2 : ¬ b.toNat < a.toNat := fun q => h2 (UInt8.lt_iff_toNat_lt.2 q)
          omega
        subst e
        rw [Val.less_cons, Val.less_cons]

theorem bitsOf_twice (b : Nat) : Fl.bitsOf (Fl.bitsOf b) = Fl.bitsOf b := by
  unfold Fl.bitsOf
  cases h : Fl.nanB b with
  | true => rw [if_pos rfl]; split <;> rfl
  | false => simp [h]
theorem bitsOf_fits {b : Nat} (h : b < 18446744073709551616) : Fl.Fits (Fl.bitsOf b) := fits_small _ (Val.bits_lt b h)

set_option maxRecDepth 100000 in
set_option maxHeartbeats 1000000 in
/-- value.Right -/
theorem vpRight (x : Val) (w : World) (hf : x.Fits) : Calls Try.prog 34 #[x.v] w fun e w' => e = .returned (.bool x.ok) ∧ Below w.heap.size w w' := by
  obtain ⟨n, t, b⟩ := x
  obtain ⟨hb, ht⟩ := hf
  change b < 18446744073709551616 at hb
  change t.size ≤ maxLen at ht
  unfold maxLen at ht
  show Calls Try.prog 34 #[.agg #[.bool n, .string t, .int .u64 (b : Int)]] w _
  have B0 := Lib.hid ((Below.refl w.heap.size w).alloc (Nat.le_refl _) (.cells #[.bool n, .string t, .int .u64 (b : Int)] 27))
  cases n with
  | false =>
    have R := Lib.hid (show Val.ok ⟨false, t, b⟩ = (decide (b = 0) && decide (t.size ≤ 64)) from rfl)
    by_cases b0 : b = 0
    · have T0 : ((b : Int) == 0) = true := by rw [beq_iff_eq]; omega
      have D0 := Lib.hid b0
      clear b0 hb
      go_enter Try.func34, Try.ntmps34
      go_wp2_with fail
      go_ret
      refine ⟨ret_bool ?_, B0.out⟩
      rw [R.out, decide_eq_true D0.out, Bool.true_and, Bool.eq_iff_iff]
      simp only [decide_eq_true_eq]
      omega
    · have T0 : ((b : Int) == 0) = false := by rw [beq_eq_false_iff_ne]; omega
      have D0 := Lib.hid b0
      clear b0 hb
      go_enter Try.func34, Try.ntmps34
      go_wp2_with fail
      go_ret
      refine ⟨ret_bool ?_, B0.out⟩
      rw [R.out, decide_eq_false D0.out]; rfl
  | true =>
    have R := Lib.hid (show Val.ok ⟨true, t, b⟩ = (decide (t.size = 0) && decide (Fl.bitsOf b = b)) from rfl)
    have bn : ((b : Int)).toNat = b := by omega
    have FR := Lib.hid (show ∀ w, Calls Try.prog 41 #[.int .u64 (b : Int)] w fun e w' => e = .returned (.float .f64 (Fl.bitsOf b)) ∧ w = w' from fun w => by have h := nfrom (b : Int) w; rw [bn] at h; exact h)
    have FB := Lib.hid (show ∀ w, Calls Try.prog 40 #[.float .f64 (Fl.bitsOf b)] w fun e w' => e = .returned (.int .u64 (Fl.bitsOf b : Nat)) ∧ w = w' from fun w => by have h := nbits (Fl.bitsOf b) w; rw [bitsOf_twice] at h; exact h)
    by_cases t0 : t.size = 0
    · have T0 : (t.toList == []) = true := by rw [Val.nil_of t0, Val.toL]; rfl
      have D0 := Lib.hid t0
      clear t0 hb bn
      go_enter Try.func34, Try.ntmps34
      go_wp2_with fail
      go_quiet (first | (go_at_call 41; exact Calls.quiet_of_same ((FR.out _).mono fun _ _ hh => ⟨hh.1, hh.2.symm⟩)) | (go_at_call 40; exact Calls.quiet_of_same ((FB.out _).mono fun _ _ hh => ⟨hh.1, hh.2.symm⟩)))
      go_wp2_with fail
      go_ret
      refine ⟨ret_bool ?_, below_drewN B0.out _⟩
      rw [R.out, decide_eq_true D0.out, Bool.true_and, Bool.eq_iff_iff, beq_iff_eq, decide_eq_true_eq]
      omega
    · have T0 : (t.toList == []) = false := by
        rw [beq_eq_false_iff_ne]; intro e; apply t0; rw [Val.toL] at e
        have := congrArg List.length e; simpa using this
      have D0 := Lib.hid t0
      clear t0 hb bn
      go_enter Try.func34, Try.ntmps34
      go_wp2_with fail
      go_quiet (fail)
      go_wp2_with fail
      go_ret
      refine ⟨ret_bool ?_, below_drewN B0.out _⟩
      rw [R.out, decide_eq_false D0.out]; rfl


set_option maxRecDepth 100000 in
set_option maxHeartbeats 1000000 in
/-- value.Pack -/
theorem vpPack (x : Val) (w : World) (hf : x.Fits) (hs : x.txt.size ≤ 1000) : Calls Try.prog 35 #[x.v] w fun e w' => e = .returned (.tuple #[.string (if x.ok then x.pack else ⟨#[]⟩), .int .i64 (if x.ok then 0 else 1)]) ∧ Below w.heap.size w w' := by
  have RI := Lib.hid (vpRight x)
  have HF := Lib.hid hf
  obtain ⟨o, ho⟩ : ∃ o, o = x.ok := ⟨_, rfl⟩
  have hq : x.num = true → o = true → Fl.bitsOf x.bits = x.bits := fun hn h => (Val.num_of (ho ▸ h) hn).2
  rw [← ho] at RI ⊢
  clear ho
  obtain ⟨n, t, b⟩ := x
  have hb : b < 18446744073709551616 := hf.1
  have FB := Lib.hid (fits_small b hb)
  clear hf hb
  have bn : ((b : Int)).toNat = b := by omega
  change t.size ≤ 1000 at hs
  change Hid (∀ w, _ → Calls Try.prog 34 #[.agg #[.bool n, .string t, .int .u64 (b : Int)]] w _) at RI
  show Calls Try.prog 35 #[.agg #[.bool n, .string t, .int .u64 (b : Int)]] w fun e w' => e = .returned (.tuple #[.string (if o then Val.pack ⟨n, t, b⟩ else ⟨#[]⟩), .int .i64 (if o then 0 else 1)]) ∧ _
  have B0 := Lib.hid ((Below.refl w.heap.size w).alloc (Nat.le_refl _) (.cells #[.bool n, .string t, .int .u64 (b : Int)] 27))
  have X0 := Lib.hid (BoxV.new w n t b 27)
  cases o with
  | false =>
    clear hq bn
    simp only [Bool.false_eq_true, if_false]
    go_enter Try.func35, Try.ntmps35
    go_wp2_with fail
    refine (RI.out _ HF.out).mono ?_
    rintro e w1 ⟨rfl, hb1⟩
    have HB1 := Lib.hid (below_then B0.out hb1)
    clear hb1
    go_wp2_with fail
    go_ret2
    exact ⟨rfl, HB1.out⟩
  | true =>
    simp only [if_true]
    cases n with
    | false =>
      have P := Lib.hid (show Val.pack ⟨false, t, b⟩ = ⟨#[0]⟩ ++ t from rfl)
      rw [P.out]
      clear hq bn P
      have s1 : (⟨#[0]⟩ : ByteArray).size = 1 := rfl
      go_enter Try.func35, Try.ntmps35
      go_wp2_with fail
      refine (RI.out _ HF.out).mono ?_
      rintro e w1 ⟨rfl, hb1⟩
      have X1 := X0.out.below hb1
      obtain ⟨a0, a1, a2⟩ := X1
      have HB1 := Lib.hid (below_then B0.out hb1)
      clear hb1
      go_wp2_with fail
      go_ret2
      exact ⟨rfl, HB1.out⟩
    | true =>
      have Q := hq rfl rfl
      change Fl.bitsOf b = b at Q
      have FR := Lib.hid (show ∀ w, Calls Try.prog 41 #[.int .u64 (b : Int)] w fun e w' => e = .returned (.float .f64 b) ∧ w = w' from fun w => by have h := nfrom (b : Int) w; rw [bn, Q] at h; exact h)
      obtain ⟨K, hK⟩ : ∃ K, K = keyOf (Fl.place b) := ⟨_, rfl⟩
      have P := Lib.hid (show Val.pack ⟨true, t, b⟩ = ⟨#[1]⟩ ++ K by rw [hK]; rfl)
      rw [P.out]
      have k8 : K.size = 8 := by rw [hK, keyOf_size]
      have KY := Lib.hid (show ∀ w, Calls Try.prog 42 #[.float .f64 b] w fun e w' => e = .returned (.string K) ∧ Below w.heap.size w w' by rw [hK]; exact nkeyB b FB.out)
      have s1 : (⟨#[1]⟩ : ByteArray).size = 1 := rfl
      clear hq bn P Q hK
      go_enter Try.func35, Try.ntmps35
      go_wp2_with fail
      refine (RI.out _ HF.out).mono ?_
      rintro e w1 ⟨rfl, hb1⟩
      have X1 := X0.out.below hb1
      obtain ⟨a0, a1, a2⟩ := X1
      have HB1 := Lib.hid (below_then B0.out hb1)
      clear hb1
      go_wp2_with fail
      refine (FR.out _).mono ?_
      rintro e w2 ⟨rfl, rfl⟩
      go_wp2_with fail
      refine (KY.out _).mono ?_
      rintro e w2 ⟨rfl, hb2⟩
      have HB2 := Lib.hid (below_then HB1.out hb2)
      clear hb2
      go_wp2_with fail
      go_ret2
      exact ⟨rfl, HB2.out⟩

theorem vbox_new {w w2 : World} {v0 v1 v2 : Value} {t : TypeId} (hb : Below (w.alloc (.cells #[v0, v1, v2] t)).heap.size (w.alloc (.cells #[v0, v1, v2] t)) w2) :
    w2.cell? ⟨w.heap.size, 0, none⟩ = some v0 ∧ w2.cell? ⟨w.heap.size, 1, none⟩ = some v1 ∧ w2.cell? ⟨w.heap.size, 2, none⟩ = some v2 ∧
    w2.frozen? ⟨w.heap.size, 0, none⟩ = false ∧ w2.frozen? ⟨w.heap.size, 1, none⟩ = false ∧ w2.frozen? ⟨w.heap.size, 2, none⟩ = false ∧ Below w.heap.size w w2 := by
  have R : RowAt w2 w.heap.size [v0, v1, v2] t := (RowAt.new w [v0, v1, v2] t).below hb
  exact ⟨R.cell 0, R.cell 1, R.cell 2, R.frozen 0, R.frozen 1, R.frozen 2, below_then ((Below.refl w.heap.size w).alloc (Nat.le_refl _) _) hb⟩

theorem vbox_drewN {w w2 : World} {v0 v1 v2 : Value} {t : TypeId} {n : Nat} (hb : Below ((w.alloc (.cells #[v0, v1, v2] t)).drewN n).heap.size ((w.alloc (.cells #[v0, v1, v2] t)).drewN n) w2) :
    w2.cell? ⟨w.heap.size, 0, none⟩ = some v0 ∧ w2.cell? ⟨w.heap.size, 1, none⟩ = some v1 ∧ w2.cell? ⟨w.heap.size, 2, none⟩ = some v2 ∧
    w2.frozen? ⟨w.heap.size, 0, none⟩ = false ∧ w2.frozen? ⟨w.heap.size, 1, none⟩ = false ∧ w2.frozen? ⟨w.heap.size, 2, none⟩ = false ∧ Below w.heap.size w w2 :=
  vbox_new (⟨hb.os, hb.tape, hb.output, hb.size, hb.block⟩)
theorem below_lt {w w2 : World} {o : Obj} {n : Nat} (hb : Below ((w.alloc o).drewN n).heap.size ((w.alloc o).drewN n) w2) : w.heap.size < w2.heap.size := by
  have := hb.size; simp at this; omega
theorem unE_no {s : ByteArray} (h : unOk s = false) : unE s = 4 := by
  unfold unOk at h; unfold unE; rw [if_neg (of_decide_eq_false h)]
theorem unE_yes {s : ByteArray} (h : unOk s = true) : unE s = 0 := by
  unfold unOk at h; unfold unE; rw [if_pos (of_decide_eq_true h)]

/-- value.Weight -/
theorem vpWeight (x : Val) (w : World) (hf : x.Fits) (hs : x.txt.size ≤ 1000) : Calls Try.prog 26 #[x.v] w fun e w' => e = .returned (.int .i64 (if x.ok then (x.pack.size : Int) else 0)) ∧ Below w.heap.size w w' := by
  obtain ⟨k, hk, hk2⟩ : ∃ k : ByteArray, (if x.ok then x.pack else ⟨#[]⟩) = k ∧ k.size ≤ 65 := by
    refine ⟨_, rfl, ?_⟩
    cases h : x.ok with
    | true => exact (Val.pack_size x h).1
    | false => show (⟨#[]⟩ : ByteArray).size ≤ 65; decide
  obtain ⟨d, hd⟩ : ∃ d : Int, d = (if x.ok then 0 else 1) := ⟨_, rfl⟩
  have P := Lib.hid (show ∀ w, Calls Try.prog 35 #[x.v] w fun e w' => e = .returned (.tuple #[.string k, .int .i64 d]) ∧ Below w.heap.size w w' from fun w => by have h := vpPack x w hf hs; rw [hk, ← hd] at h; exact h)
  have hr : (if x.ok then (x.pack.size : Int) else 0) = k.size := by
    rw [← hk]; cases x.ok <;> rfl
  rw [hr]
  clear hr hd hf hs hk
  obtain ⟨n, t, b⟩ := x
  change Hid (∀ w, Calls Try.prog 35 #[.agg #[.bool n, .string t, .int .u64 (b : Int)]] w _) at P
  show Calls Try.prog 26 #[.agg #[.bool n, .string t, .int .u64 (b : Int)]] w _
  have B0 := Lib.hid ((Below.refl w.heap.size w).alloc (Nat.le_refl _) (.cells #[.bool n, .string t, .int .u64 (b : Int)] 27))
  go_enter Try.func26, Try.ntmps26
  go_wp2_with fail
  refine (P.out _).mono ?_
  rintro e w1 ⟨rfl, hb1⟩
  have HB1 := Lib.hid (below_then B0.out hb1)
  clear hb1
  go_wp2_with fail
  go_ret
  exact ⟨rfl, HB1.out⟩

end Go.Proofs.Ytpafnjdaiagdiaa
