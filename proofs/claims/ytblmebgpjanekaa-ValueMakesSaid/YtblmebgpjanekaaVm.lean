/- ValueMakes: for any bits, any bytes and any value the law returns true, and its arguments read behind the call as they read before. -/
import Derived.Test.YtblmebgpjanekaaVo
import Derived.Test.YtblmebgpjanekaaVw
import Derived.Test.YtblmebgpjanekaaVu
import Derived.Deep.RegionHeld3
import Derived.BigQuiet
import Derived.ChangeMaps5
namespace Go.Proofs.Ytblmebgpjanekaa.valueMakes
open Go.Proofs.Ytblmebgpjanekaa Go.ChangeShapes Go.WideShapes Go.ChangeAt Go.RowKit
open Go.ChangeMaps (open_string shut_string)

theorem bits_twice (b : Nat) (h : b < 18446744073709551616) : Fl.bitsOf (Fl.bitsOf b) = Fl.bitsOf b := by
  have h1 := Fl.atB_place (fits_small b h)
  have h2 := Fl.atB_place (fits_small _ (Val.bits_lt b h))
  rw [← h2, Fl.place_bitsOf, h1]

theorem drewB {w : World} {g : Nat} {n : Bool} {t : ByteArray} {b : Nat} (h : BoxV w g n t b) (k : Nat) : BoxV (w.drewN k) g n t b := ⟨h.c0, h.c1, h.c2⟩

set_option maxRecDepth 100000 in
set_option maxHeartbeats 4000000 in
theorem walk (hv : ValueAt) (k : Int) (s : ByteArray) (x : Val) (w : World) (hk : (Lit.int .u64 k).wf = true) (hs : s.size ≤ maxLen) (hx : x.Fits) :
    Calls Try.prog 5 #[.int .u64 k, .string s, x.v] w fun e w' => e = .returned (.bool true) ∧ Below w.heap.size w w' := by
  have hm := hx.2
  unfold maxLen at hm hs
  have hb0 := bounds_u64 hk
  obtain ⟨B, rfl⟩ := Int.eq_ofNat_of_zero_le hb0.1
  have hB : B < 18446744073709551616 := by omega
  have AW := Lib.hid (awake4 hv)
  have HX := Lib.hid hx
  have HV := Lib.hid hv
  obtain ⟨n, hn⟩ : ∃ n, n = x.num := ⟨_, rfl⟩
  obtain ⟨t, ht⟩ : ∃ t, t = x.txt := ⟨_, rfl⟩
  obtain ⟨b, hb⟩ : ∃ b, b = x.bits := ⟨_, rfl⟩
  have hxv : x.v = .agg #[.bool n, .string t, .int .u64 (b : Int)] := by rw [hn, ht, hb]; rfl
  have HXV := Lib.hid hxv
  have B0 := Lib.hid ((Below.refl w.heap.size w).alloc (Nat.le_refl _) (.cells #[.bool n, .string t, .int .u64 (b : Int)] 24))
  have X0 := Lib.hid (BoxV.new w n t b 24)
  rw [← ht] at hm
  rw [hxv]
  have HN := Lib.hid hn
  have HB := Lib.hid hb
  have RB := Lib.hid (rbits B (fits_small B hB))
  obtain ⟨F, hF⟩ : ∃ F, F = Fl.bitsOf B := ⟨_, rfl⟩
  have F64 : F < 18446744073709551616 := by rw [hF]; exact Val.bits_lt B hB
  have NM := Lib.hid (show ∀ w, Calls Try.prog 16 #[.float .f64 B] w fun e w' => e = .returned (.agg #[.bool true, .string ⟨#[]⟩, .int .u64 (F : Int)]) ∧ Below w.heap.size w w' by rw [hF]; exact fun w => HV.out.number B w hB)
  have FL := Lib.hid (show ∀ w, Calls Try.prog 17 #[.agg #[.bool true, .string ⟨#[]⟩, .int .u64 (F : Int)]] w fun e w' => e = .returned (.tuple #[.float .f64 F, .int .i64 0]) ∧ Below w.heap.size w w' from fun w => by
    have h := HV.out.float (Val.number B) w ⟨by rw [Val.number_bits, ← hF]; exact F64, by show (0 : Nat) ≤ maxLen; omega⟩
    have o : (Val.number B).ok = true := by rw [Val.ok_number]; exact decide_eq_true (bits_twice B hB)
    rw [o] at h
    rw [hF]; exact h)
  rw [← hF] at RB
  have FX := Lib.hid (show ∀ w, Calls Try.prog 17 #[.agg #[.bool n, .string t, .int .u64 (b : Int)]] w _ from fun w => HXV.out ▸ HV.out.float x w HX.out)
  have RX := Lib.hid (show ∀ w, Calls Try.prog 10 #[.agg #[.bool n, .string t, .int .u64 (b : Int)]] w _ from fun w => HXV.out ▸ vrRight x w HX.out)
  have Bn : ((B : Int)).toNat = B := by omega
  clear hx hv hk hb0 hB hn ht hb hxv hF F64
  by_cases h300 : 300 < s.size ∨ 300 < t.size
  · rcases (show 300 < s.size ∨ (¬ 300 < s.size ∧ 300 < t.size) by omega) with h3 | ⟨h3, h4⟩
    all_goals
      clear h300
      go_enter Try.func5, Try.ntmps5
      go_wp2_with fail
      refine (AW.out _).mono ?_
      rintro e w1 ⟨rfl, hb1⟩
      obtain ⟨a0, a1, a2⟩ := X0.out.below hb1
      have B1 := Lib.hid (below_then B0.out hb1)
      clear hb1
      go_wp2_with fail
      go_ret
      exact ⟨rfl, B1.out⟩
  have s3 : ¬ 300 < s.size := fun h => h300 (.inl h)
  have t3 : ¬ 300 < t.size := fun h => h300 (.inr h)
  clear h300
  obtain ⟨Y, hY⟩ : ∃ Y, Y = (if s.size ≤ 64 then s else ⟨#[]⟩) := ⟨_, rfl⟩
  obtain ⟨C, hC⟩ : ∃ C : Int, C = (if s.size ≤ 64 then 0 else 5) := ⟨_, rfl⟩
  have BY := Lib.hid (show ∀ w, Calls Try.prog 18 #[.string s] w fun e w' => e = .returned (.tuple #[.agg #[.bool false, .string Y, .int .u64 0], .int .i64 C]) ∧ Below w.heap.size w w' from fun w => by
    have h := HV.out.bytes s w (by omega)
    rw [hY, hC]
    by_cases h64 : s.size ≤ 64
    · rw [if_pos h64, if_pos h64] at h; rw [if_pos h64, if_pos h64]; exact h
    · rw [if_neg h64, if_neg h64] at h; rw [if_neg h64, if_neg h64]; exact h)
  have SC : (s.size ≤ 64 ∧ Y = s ∧ C = 0) ∨ (¬ s.size ≤ 64 ∧ Y = ⟨#[]⟩ ∧ C = 5) := by
    by_cases h64 : s.size ≤ 64
    · exact .inl ⟨h64, by rw [hY, if_pos h64], by rw [hC, if_pos h64]⟩
    · exact .inr ⟨h64, by rw [hY, if_neg h64], by rw [hC, if_neg h64]⟩
  have SS := str_eq (rfl : s = s)
  have S0 : ((⟨#[]⟩ : ByteArray).toList == (⟨#[]⟩ : ByteArray).toList) = true := beq_self_eq_true _
  clear hY hC
  cases n with
  | false =>
    rw [show x.num = false from HN.out.symm] at FX
    simp only [Bool.false_and, Bool.false_eq_true, if_false] at FX
    rcases SC with ⟨h64, rfl, rfl⟩ | ⟨h64, rfl, rfl⟩
    · go_enter Try.func5, Try.ntmps5
      go_wp2_with fail
      refine (AW.out _).mono ?_
      rintro e w1 ⟨rfl, hb1⟩
      have X1 := Lib.hid (X0.out.below hb1)
      obtain ⟨a0, a1, a2⟩ := X1.out
      have B1 := Lib.hid (below_then B0.out hb1)
      clear hb1
      go_wp2_with fail
      refine (NM.out _).mono ?_
      rintro e w2 ⟨rfl, hb2⟩
      have X2 := Lib.hid (X1.out.below hb2)
      have B2 := Lib.hid (below_then B1.out hb2)
      clear hb2
      go_wp2_with fail
      refine (FL.out _).mono ?_
      rintro e w3 ⟨rfl, hb3⟩
      have X3 := Lib.hid ((X2.out.below ((Below.refl _ _).alloc (Nat.le_refl _) _)).below hb3)
      have Y3 := Lib.hid ((BoxV.new w2 true ⟨#[]⟩ F 24).below hb3)
      have B3 := Lib.hid (below_then (B2.out.alloc B2.out.size _) hb3)
      clear hb3
      go_wp2_with fail
      refine (BY.out _).mono ?_
      rintro e w4 ⟨rfl, hb4⟩
      have X4 := Lib.hid ((X3.out.below hb4).below ((Below.refl _ _).alloc (Nat.le_refl _) (.cells #[.bool false, .string Y, .int .u64 0] 24)))
      have Y4 := Lib.hid ((Y3.out.below hb4).below ((Below.refl _ _).alloc (Nat.le_refl _) (.cells #[.bool false, .string Y, .int .u64 0] 24)))
      obtain ⟨c0, c1, c2⟩ := X4.out
      obtain ⟨d0, d1, d2⟩ := Y4.out
      have B4 := Lib.hid (below_then B3.out hb4)
      clear hb4
      go_wp2_with fail
      go_quiet (first | (go_at_call 19; exact Calls.quiet_of_same ((RB.out _).mono fun _ _ hh => ⟨hh.1, hh.2.symm⟩)))
      obtain ⟨c0, c1, c2⟩ := X4.out
      have BQ := Lib.hid (below_drewN (B4.out.alloc B4.out.size (.cells #[.bool false, .string Y, .int .u64 0] 24)) nq)
      have XQ := Lib.hid (drewB X4.out nq)
      go_wp2_with fail
      refine (FX.out _).mono ?_
      rintro e w5 ⟨rfl, hb5⟩
      have X5 := Lib.hid (XQ.out.below hb5)
      obtain ⟨c0, c1, c2⟩ := X5.out
      have B5 := Lib.hid (below_then BQ.out hb5)
      clear hb5
      go_wp2_with fail
      go_ret
      exact ⟨by first | rfl | simp, B5.out⟩
    · go_enter Try.func5, Try.ntmps5
      go_wp2_with fail
      refine (AW.out _).mono ?_
      rintro e w1 ⟨rfl, hb1⟩
      have X1 := Lib.hid (X0.out.below hb1)
      obtain ⟨a0, a1, a2⟩ := X1.out
      have B1 := Lib.hid (below_then B0.out hb1)
      clear hb1
      go_wp2_with fail
      refine (NM.out _).mono ?_
      rintro e w2 ⟨rfl, hb2⟩
      have X2 := Lib.hid (X1.out.below hb2)
      have B2 := Lib.hid (below_then B1.out hb2)
      clear hb2
      go_wp2_with fail
      refine (FL.out _).mono ?_
      rintro e w3 ⟨rfl, hb3⟩
      have X3 := Lib.hid ((X2.out.below ((Below.refl _ _).alloc (Nat.le_refl _) _)).below hb3)
      have Y3 := Lib.hid ((BoxV.new w2 true ⟨#[]⟩ F 24).below hb3)
      have B3 := Lib.hid (below_then (B2.out.alloc B2.out.size _) hb3)
      clear hb3
      go_wp2_with fail
      refine (BY.out _).mono ?_
      rintro e w4 ⟨rfl, hb4⟩
      have X4 := Lib.hid ((X3.out.below hb4).below ((Below.refl _ _).alloc (Nat.le_refl _) (.cells #[.bool false, .string ⟨#[]⟩, .int .u64 0] 24)))
      have Y4 := Lib.hid ((Y3.out.below hb4).below ((Below.refl _ _).alloc (Nat.le_refl _) (.cells #[.bool false, .string ⟨#[]⟩, .int .u64 0] 24)))
      obtain ⟨c0, c1, c2⟩ := X4.out
      obtain ⟨d0, d1, d2⟩ := Y4.out
      have B4 := Lib.hid (below_then B3.out hb4)
      clear hb4
      go_wp2_with fail
      go_quiet (first | (go_at_call 19; exact Calls.quiet_of_same ((RB.out _).mono fun _ _ hh => ⟨hh.1, hh.2.symm⟩)))
      obtain ⟨c0, c1, c2⟩ := X4.out
      have BQ := Lib.hid (below_drewN (B4.out.alloc B4.out.size (.cells #[.bool false, .string ⟨#[]⟩, .int .u64 0] 24)) nq)
      have XQ := Lib.hid (drewB X4.out nq)
      go_wp2_with fail
      refine (FX.out _).mono ?_
      rintro e w5 ⟨rfl, hb5⟩
      have X5 := Lib.hid (XQ.out.below hb5)
      obtain ⟨c0, c1, c2⟩ := X5.out
      have B5 := Lib.hid (below_then BQ.out hb5)
      clear hb5
      go_wp2_with fail
      go_ret
      exact ⟨by first | rfl | simp, B5.out⟩
  | true =>
    rw [show x.num = true from HN.out.symm] at FX
    cases hok : x.ok with
    | false =>
      rw [hok] at FX RX
      simp only [Bool.true_and, Bool.false_eq_true, if_false] at FX
      clear hok
      rcases SC with ⟨h64, rfl, rfl⟩ | ⟨h64, rfl, rfl⟩
      · go_enter Try.func5, Try.ntmps5
        go_wp2_with fail
        refine (AW.out _).mono ?_
        rintro e w1 ⟨rfl, hb1⟩
        have X1 := Lib.hid (X0.out.below hb1)
        obtain ⟨a0, a1, a2⟩ := X1.out
        have B1 := Lib.hid (below_then B0.out hb1)
        clear hb1
        go_wp2_with fail
        refine (NM.out _).mono ?_
        rintro e w2 ⟨rfl, hb2⟩
        have X2 := Lib.hid (X1.out.below hb2)
        have B2 := Lib.hid (below_then B1.out hb2)
        clear hb2
        go_wp2_with fail
        refine (FL.out _).mono ?_
        rintro e w3 ⟨rfl, hb3⟩
        have X3 := Lib.hid ((X2.out.below ((Below.refl _ _).alloc (Nat.le_refl _) _)).below hb3)
        have Y3 := Lib.hid ((BoxV.new w2 true ⟨#[]⟩ F 24).below hb3)
        have B3 := Lib.hid (below_then (B2.out.alloc B2.out.size _) hb3)
        clear hb3
        go_wp2_with fail
        refine (BY.out _).mono ?_
        rintro e w4 ⟨rfl, hb4⟩
        have X4 := Lib.hid ((X3.out.below hb4).below ((Below.refl _ _).alloc (Nat.le_refl _) (.cells #[.bool false, .string Y, .int .u64 0] 24)))
        have Y4 := Lib.hid ((Y3.out.below hb4).below ((Below.refl _ _).alloc (Nat.le_refl _) (.cells #[.bool false, .string Y, .int .u64 0] 24)))
        obtain ⟨c0, c1, c2⟩ := X4.out
        obtain ⟨d0, d1, d2⟩ := Y4.out
        have B4 := Lib.hid (below_then B3.out hb4)
        clear hb4
        go_wp2_with fail
        go_quiet (first | (go_at_call 19; exact Calls.quiet_of_same ((RB.out _).mono fun _ _ hh => ⟨hh.1, hh.2.symm⟩)))
        obtain ⟨c0, c1, c2⟩ := X4.out
        have BQ := Lib.hid (below_drewN (B4.out.alloc B4.out.size (.cells #[.bool false, .string Y, .int .u64 0] 24)) nq)
        have XQ := Lib.hid (drewB X4.out nq)
        go_wp2_with fail
        refine (FX.out _).mono ?_
        rintro e w5 ⟨rfl, hb5⟩
        have X5 := Lib.hid (XQ.out.below hb5)
        obtain ⟨c0, c1, c2⟩ := X5.out
        have B5 := Lib.hid (below_then BQ.out hb5)
        clear hb5
        go_wp2_with fail
        refine (RX.out _).mono ?_
        rintro e w6 ⟨rfl, hb6⟩
        have X6 := Lib.hid (X5.out.below hb6)
        obtain ⟨c0, c1, c2⟩ := X6.out
        have B6 := Lib.hid (below_then B5.out hb6)
        clear hb6
        go_wp2_with fail
        go_ret
        exact ⟨by first | rfl | simp, B6.out⟩
      · go_enter Try.func5, Try.ntmps5
        go_wp2_with fail
        refine (AW.out _).mono ?_
        rintro e w1 ⟨rfl, hb1⟩
        have X1 := Lib.hid (X0.out.below hb1)
        obtain ⟨a0, a1, a2⟩ := X1.out
        have B1 := Lib.hid (below_then B0.out hb1)
        clear hb1
        go_wp2_with fail
        refine (NM.out _).mono ?_
        rintro e w2 ⟨rfl, hb2⟩
        have X2 := Lib.hid (X1.out.below hb2)
        have B2 := Lib.hid (below_then B1.out hb2)
        clear hb2
        go_wp2_with fail
        refine (FL.out _).mono ?_
        rintro e w3 ⟨rfl, hb3⟩
        have X3 := Lib.hid ((X2.out.below ((Below.refl _ _).alloc (Nat.le_refl _) _)).below hb3)
        have Y3 := Lib.hid ((BoxV.new w2 true ⟨#[]⟩ F 24).below hb3)
        have B3 := Lib.hid (below_then (B2.out.alloc B2.out.size _) hb3)
        clear hb3
        go_wp2_with fail
        refine (BY.out _).mono ?_
        rintro e w4 ⟨rfl, hb4⟩
        have X4 := Lib.hid ((X3.out.below hb4).below ((Below.refl _ _).alloc (Nat.le_refl _) (.cells #[.bool false, .string ⟨#[]⟩, .int .u64 0] 24)))
        have Y4 := Lib.hid ((Y3.out.below hb4).below ((Below.refl _ _).alloc (Nat.le_refl _) (.cells #[.bool false, .string ⟨#[]⟩, .int .u64 0] 24)))
        obtain ⟨c0, c1, c2⟩ := X4.out
        obtain ⟨d0, d1, d2⟩ := Y4.out
        have B4 := Lib.hid (below_then B3.out hb4)
        clear hb4
        go_wp2_with fail
        go_quiet (first | (go_at_call 19; exact Calls.quiet_of_same ((RB.out _).mono fun _ _ hh => ⟨hh.1, hh.2.symm⟩)))
        obtain ⟨c0, c1, c2⟩ := X4.out
        have BQ := Lib.hid (below_drewN (B4.out.alloc B4.out.size (.cells #[.bool false, .string ⟨#[]⟩, .int .u64 0] 24)) nq)
        have XQ := Lib.hid (drewB X4.out nq)
        go_wp2_with fail
        refine (FX.out _).mono ?_
        rintro e w5 ⟨rfl, hb5⟩
        have X5 := Lib.hid (XQ.out.below hb5)
        obtain ⟨c0, c1, c2⟩ := X5.out
        have B5 := Lib.hid (below_then BQ.out hb5)
        clear hb5
        go_wp2_with fail
        refine (RX.out _).mono ?_
        rintro e w6 ⟨rfl, hb6⟩
        have X6 := Lib.hid (X5.out.below hb6)
        obtain ⟨c0, c1, c2⟩ := X6.out
        have B6 := Lib.hid (below_then B5.out hb6)
        clear hb6
        go_wp2_with fail
        go_ret
        exact ⟨by first | rfl | simp, B6.out⟩
    | true =>
      rw [hok] at FX RX
      simp only [Bool.true_and, if_true] at FX
      rw [← HB.out] at FX
      clear hok
      rcases SC with ⟨h64, rfl, rfl⟩ | ⟨h64, rfl, rfl⟩
      · go_enter Try.func5, Try.ntmps5
        go_wp2_with fail
        refine (AW.out _).mono ?_
        rintro e w1 ⟨rfl, hb1⟩
        have X1 := Lib.hid (X0.out.below hb1)
        obtain ⟨a0, a1, a2⟩ := X1.out
        have B1 := Lib.hid (below_then B0.out hb1)
        clear hb1
        go_wp2_with fail
        refine (NM.out _).mono ?_
        rintro e w2 ⟨rfl, hb2⟩
        have X2 := Lib.hid (X1.out.below hb2)
        have B2 := Lib.hid (below_then B1.out hb2)
        clear hb2
        go_wp2_with fail
        refine (FL.out _).mono ?_
        rintro e w3 ⟨rfl, hb3⟩
        have X3 := Lib.hid ((X2.out.below ((Below.refl _ _).alloc (Nat.le_refl _) _)).below hb3)
        have Y3 := Lib.hid ((BoxV.new w2 true ⟨#[]⟩ F 24).below hb3)
        have B3 := Lib.hid (below_then (B2.out.alloc B2.out.size _) hb3)
        clear hb3
        go_wp2_with fail
        refine (BY.out _).mono ?_
        rintro e w4 ⟨rfl, hb4⟩
        have X4 := Lib.hid ((X3.out.below hb4).below ((Below.refl _ _).alloc (Nat.le_refl _) (.cells #[.bool false, .string Y, .int .u64 0] 24)))
        have Y4 := Lib.hid ((Y3.out.below hb4).below ((Below.refl _ _).alloc (Nat.le_refl _) (.cells #[.bool false, .string Y, .int .u64 0] 24)))
        obtain ⟨c0, c1, c2⟩ := X4.out
        obtain ⟨d0, d1, d2⟩ := Y4.out
        have B4 := Lib.hid (below_then B3.out hb4)
        clear hb4
        go_wp2_with fail
        go_quiet (first | (go_at_call 19; exact Calls.quiet_of_same ((RB.out _).mono fun _ _ hh => ⟨hh.1, hh.2.symm⟩)))
        obtain ⟨c0, c1, c2⟩ := X4.out
        have BQ := Lib.hid (below_drewN (B4.out.alloc B4.out.size (.cells #[.bool false, .string Y, .int .u64 0] 24)) nq)
        have XQ := Lib.hid (drewB X4.out nq)
        go_wp2_with fail
        refine (FX.out _).mono ?_
        rintro e w5 ⟨rfl, hb5⟩
        have X5 := Lib.hid (XQ.out.below hb5)
        obtain ⟨c0, c1, c2⟩ := X5.out
        have B5 := Lib.hid (below_then BQ.out hb5)
        clear hb5
        go_wp2_with fail
        refine (RX.out _).mono ?_
        rintro e w6 ⟨rfl, hb6⟩
        have X6 := Lib.hid (X5.out.below hb6)
        obtain ⟨c0, c1, c2⟩ := X6.out
        have B6 := Lib.hid (below_then B5.out hb6)
        clear hb6
        go_wp2_with fail
        go_quiet (fail)
        go_wp2_with fail
        go_ret
        exact ⟨by first | rfl | simp, below_drewN B6.out _⟩
      · go_enter Try.func5, Try.ntmps5
        go_wp2_with fail
        refine (AW.out _).mono ?_
        rintro e w1 ⟨rfl, hb1⟩
        have X1 := Lib.hid (X0.out.below hb1)
        obtain ⟨a0, a1, a2⟩ := X1.out
        have B1 := Lib.hid (below_then B0.out hb1)
        clear hb1
        go_wp2_with fail
        refine (NM.out _).mono ?_
        rintro e w2 ⟨rfl, hb2⟩
        have X2 := Lib.hid (X1.out.below hb2)
        have B2 := Lib.hid (below_then B1.out hb2)
        clear hb2
        go_wp2_with fail
        refine (FL.out _).mono ?_
        rintro e w3 ⟨rfl, hb3⟩
        have X3 := Lib.hid ((X2.out.below ((Below.refl _ _).alloc (Nat.le_refl _) _)).below hb3)
        have Y3 := Lib.hid ((BoxV.new w2 true ⟨#[]⟩ F 24).below hb3)
        have B3 := Lib.hid (below_then (B2.out.alloc B2.out.size _) hb3)
        clear hb3
        go_wp2_with fail
        refine (BY.out _).mono ?_
        rintro e w4 ⟨rfl, hb4⟩
        have X4 := Lib.hid ((X3.out.below hb4).below ((Below.refl _ _).alloc (Nat.le_refl _) (.cells #[.bool false, .string ⟨#[]⟩, .int .u64 0] 24)))
        have Y4 := Lib.hid ((Y3.out.below hb4).below ((Below.refl _ _).alloc (Nat.le_refl _) (.cells #[.bool false, .string ⟨#[]⟩, .int .u64 0] 24)))
        obtain ⟨c0, c1, c2⟩ := X4.out
        obtain ⟨d0, d1, d2⟩ := Y4.out
        have B4 := Lib.hid (below_then B3.out hb4)
        clear hb4
        go_wp2_with fail
        go_quiet (first | (go_at_call 19; exact Calls.quiet_of_same ((RB.out _).mono fun _ _ hh => ⟨hh.1, hh.2.symm⟩)))
        obtain ⟨c0, c1, c2⟩ := X4.out
        have BQ := Lib.hid (below_drewN (B4.out.alloc B4.out.size (.cells #[.bool false, .string ⟨#[]⟩, .int .u64 0] 24)) nq)
        have XQ := Lib.hid (drewB X4.out nq)
        go_wp2_with fail
        refine (FX.out _).mono ?_
        rintro e w5 ⟨rfl, hb5⟩
        have X5 := Lib.hid (XQ.out.below hb5)
        obtain ⟨c0, c1, c2⟩ := X5.out
        have B5 := Lib.hid (below_then BQ.out hb5)
        clear hb5
        go_wp2_with fail
        refine (RX.out _).mono ?_
        rintro e w6 ⟨rfl, hb6⟩
        have X6 := Lib.hid (X5.out.below hb6)
        obtain ⟨c0, c1, c2⟩ := X6.out
        have B6 := Lib.hid (below_then B5.out hb6)
        clear hb6
        go_wp2_with fail
        go_quiet (fail)
        go_wp2_with fail
        go_ret
        exact ⟨by first | rfl | simp, below_drewN B6.out _⟩

set_option maxRecDepth 100000 in
theorem lifted (hv : ValueAt) (os : Os) (started : os.Started) (H : Type) (enc : TypeId × Value → H) :
    ReturnsInHanded {} Try.checked os 5 .any (Rows.valueMakesSpec.pre6 enc Try.prog Try.f5 Rows.valueMakesRow.domain false) (Rows.valueMakesSpec.post enc Try.prog Try.f5 false true false false) := by
  refine returnsInHanded_of_change (C := Try.checked) own started (by kernel_rfl) Try.func5
    (ChangeSpec.witness6 (enc := enc) (C := Try.checked) false ⟨#[], #[.int .u64 0, .string ⟨#[]⟩, .agg #[.bool false, .string ⟨#[]⟩, .int .u64 0]], []⟩ 8 (by kernel_rfl) (by kernel_rfl) (by kernel_rfl) (by kernel_rfl)) ?_
  intro W base args ds gs before hval0 hW hcnd _
  have hval : ∀ (j : Nat) t v, Try.f5.params[j]? = some t → args[j]? = some v → Value.okWide Try.prog W .any base t v := hval0
  have hW' := hW
  obtain ⟨p, q, hA0, hV, rfl, hfz, hnd⟩ := hW
  have hA : DataW.TrodAll enc Try.prog W 0 (fun _ => true) true Try.f5.params.toList args.toList ds p := hA0
  rw [Try.params5] at hA hval
  obtain ⟨v0, vs0, d0, ds0, p0, q0, hargs0, rfl, rfl, h0, r0⟩ := trodAll_cons hA
  obtain ⟨v1, vs1, d1, ds1, p1, q1, hargs1, rfl, rfl, h1, r1⟩ := trodAll_cons r0
  obtain ⟨v2, vs2, d2, ds2, p2, q2, hargs2, rfl, rfl, h2, r2⟩ := trodAll_cons r1
  obtain ⟨rfl, rfl, rfl⟩ := trodAll_nil r2
  obtain rfl : args = #[v0, v1, v2] := by cases args; simp_all
  obtain ⟨rfl, rfl⟩ := trodVars_none hV
  obtain ⟨x0, rfl, rfl, rfl, w0⟩ := open_int Try.underlying22 (hval 0 22 v0 rfl rfl) h0
  obtain ⟨x1, rfl, rfl, rfl, w1⟩ := open_string Try.underlying9 (hval 1 9 v1 rfl rfl) h1
  obtain ⟨x2, rfl, w2, rfl⟩ := open_val (hval 2 24 v2 rfl rfl) h2
  clear hA0 hval0
  simp only [List.append_nil] at hW'
  refine (walk hv x0 x1 x2 W w0 w1 w2).mono fun e W' ⟨he, hg⟩ => ?_
  subst he
  refine ⟨_, rfl, [.lit (.int .u64 x0), .lit (.string x1.data.toList), d2], [], [], [], [] ++ ([] ++ ([] ++ [])), [], hW', ?_, ?_, ?_, hg.frame _, fun h => by cases h⟩
  · exact trodAll_cons_mk (shut_bool Try.underlying4 _) trodAll_mk0
  · exact (trodAll_cons_mk (shut_int Try.underlying22 w0) (trodAll_cons_mk (shut_string Try.underlying9 w1) (trodAll_cons_mk (Below.trod laidOut (by kernel_rfl) (of_decide_eq_true (by kernel_rfl)) h2 hg (fun x hx => by cases hx)) trodAll_mk0)))
  · rfl

theorem over (hv : ValueAt) : Rows.valueMakesRow.holds Try.pinned (OpenSpec.ofChange Rows.valueMakesSpec) :=
  OpenClaim.holds_of_wide 5 Try.f5 rfl rfl rfl rfl rfl rfl rfl ⟨rfl, rfl, rfl, rfl, rfl⟩ rfl rfl rfl rfl rfl (by kernel_rfl) Try.func5 (by kernel_rfl)
    (of_decide_eq_true (by kernel_rfl)) (by unfold Func.isWrapper; first | (rw [if_pos (by decide +kernel)]; kernel_rfl) | (rw [if_neg (by decide +kernel)]; exact ⟨rfl, rfl⟩))
    (fun os started H enc _ => lifted hv os started H enc)

/-- ████ THE STATEMENT ████ -/
theorem proved : Rows.ValueMakesSaid :=
  over valueAt
#print axioms proved

end Go.Proofs.Ytblmebgpjanekaa.valueMakes
