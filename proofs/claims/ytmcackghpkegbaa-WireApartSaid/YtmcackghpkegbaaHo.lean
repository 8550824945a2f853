/- wire.hasOnly answers, walked. -/
import Derived.Test.YtmcackghpkegbaaBl
import Derived.Test.YtmcackghpkegbaaLr
import Derived.Deep.RegionWith
import Derived.StillTailTactics
namespace Go.Proofs.Ytmcackghpkegbaa
open Go.RowKit

/-- wire.hasOnly of a letter -/
def HoAt (L : Ltr) : Prop := ∀ (d : Nat) (x : Item) (AL AK : Option Addr) (cL cK : Nat) (w : World), FitOne d x → Sl w AL x.l →
    Calls Try.prog 31 #[.int .u8 L.code, .agg #[.int .u64 x.n, .string x.s, .slice AL x.l.length cL, .slice AK x.ks.length cK]] w fun e w' => e = .returned (.bool (only L x)) ∧ Below w.heap.size w w'

set_option maxRecDepth 100000 in
theorem ho_b : HoAt .b := by
  intro d x AL AK cL cK w hf _
  have E := Lib.hid (show only .b x = (decide (x.n ≤ 255) && blank (strip .b x)) from rfl)
  have C := Lib.hid (show ∀ w2, Calls Try.prog 32 #[.agg #[.int .u64 0, .string x.s, .slice AL x.l.length cL, .slice AK x.ks.length cK]] w2 (fun e w' => e = .returned (.bool (blank (strip .b x))) ∧ Below w2.heap.size w2 w') from fun w2 => lblank (strip .b x) AL AK cL cK w2)
  have B0 := Lib.hid ((Below.refl w.heap.size w).alloc (Nat.le_refl _) (.cells #[.int .u64 0, .string x.s, .slice AL x.l.length cL, .slice AK x.ks.length cK] 44))
  clear hf
  show Calls Try.prog 31 #[.int .u8 98, _] w _
  by_cases c1 : x.n ≤ 255
  · have R := Lib.hid (show only .b x = blank (strip .b x) by rw [E.out, decide_eq_true c1]; rfl)
    go_enter Try.func31, Try.ntmps31
    go_wp2_with fail
    refine (C.out _).mono ?_
    rintro e w' ⟨rfl, hb⟩
    have HB := Lib.hid (below_then B0.out hb)
    clear hb
    go_wp2_with fail
    go_ret
    exact ⟨ret_bool R.out.symm, HB.out⟩
  · have R := Lib.hid (show only .b x = false by rw [E.out, decide_eq_false c1]; rfl)
    go_enter Try.func31, Try.ntmps31
    go_wp2_with fail
    go_ret
    exact ⟨ret_bool R.out.symm, B0.out⟩

set_option maxRecDepth 100000 in
theorem ho_n : HoAt .n := by
  intro d x AL AK cL cK w _ _
  have R := Lib.hid (show only .n x = blank (strip .n x) from rfl)
  have C := Lib.hid (show ∀ w2, Calls Try.prog 32 #[.agg #[.int .u64 0, .string x.s, .slice AL x.l.length cL, .slice AK x.ks.length cK]] w2 (fun e w' => e = .returned (.bool (blank (strip .n x))) ∧ Below w2.heap.size w2 w') from fun w2 => lblank (strip .n x) AL AK cL cK w2)
  have B0 := Lib.hid ((Below.refl w.heap.size w).alloc (Nat.le_refl _) (.cells #[.int .u64 0, .string x.s, .slice AL x.l.length cL, .slice AK x.ks.length cK] 44))
  show Calls Try.prog 31 #[.int .u8 110, _] w _
  go_enter Try.func31, Try.ntmps31
  go_wp2_with fail
  refine (C.out _).mono ?_
  rintro e w' ⟨rfl, hb⟩
  have HB := Lib.hid (below_then B0.out hb)
  clear hb
  go_wp2_with fail
  go_ret
  exact ⟨ret_bool R.out.symm, HB.out⟩

set_option maxRecDepth 100000 in
theorem ho_t : HoAt .t := by
  intro d x AL AK cL cK w hf _
  have hs := hf.2.2.1
  unfold maxLen at hs
  have E := Lib.hid (show only .t x = (decide (x.s.size ≤ 200) && blank (strip .t x)) from rfl)
  have C := Lib.hid (show ∀ w2, Calls Try.prog 32 #[.agg #[.int .u64 x.n, .string ⟨#[]⟩, .slice AL x.l.length cL, .slice AK x.ks.length cK]] w2 (fun e w' => e = .returned (.bool (blank (strip .t x))) ∧ Below w2.heap.size w2 w') from fun w2 => lblank (strip .t x) AL AK cL cK w2)
  have B0 := Lib.hid ((Below.refl w.heap.size w).alloc (Nat.le_refl _) (.cells #[.int .u64 x.n, .string ⟨#[]⟩, .slice AL x.l.length cL, .slice AK x.ks.length cK] 44))
  clear hf
  show Calls Try.prog 31 #[.int .u8 116, _] w _
  by_cases c1 : x.s.size ≤ 200
  · have R := Lib.hid (show only .t x = blank (strip .t x) by rw [E.out, decide_eq_true c1]; rfl)
    go_enter Try.func31, Try.ntmps31
    go_wp2_with fail
    refine (C.out _).mono ?_
    rintro e w' ⟨rfl, hb⟩
    have HB := Lib.hid (below_then B0.out hb)
    clear hb
    go_wp2_with fail
    go_ret
    exact ⟨ret_bool R.out.symm, HB.out⟩
  · have R := Lib.hid (show only .t x = false by rw [E.out, decide_eq_false c1]; rfl)
    go_enter Try.func31, Try.ntmps31
    go_wp2_with fail
    go_ret
    exact ⟨ret_bool R.out.symm, B0.out⟩

set_option maxRecDepth 100000 in
theorem ho_l : HoAt .l := by
  intro d x AL AK cL cK w hf hsl
  have RC := Lib.hid (show ∀ w2, Below w.heap.size w w2 → Calls Try.prog 50 #[.slice AL x.l.length cL] w2 _ from fun w2 hb => lright AL cL x.l w2 (hsl.below hb) hf.2.2.2.1)
  have E := Lib.hid (show only .l x = (La.right x.l && blank (strip .l x)) from rfl)
  have C := Lib.hid (show ∀ w2, Calls Try.prog 32 #[.agg #[.int .u64 x.n, .string x.s, .slice none 0 0, .slice AK x.ks.length cK]] w2 (fun e w' => e = .returned (.bool (blank (strip .l x))) ∧ Below w2.heap.size w2 w') from fun w2 => lblank (strip .l x) none AK 0 cK w2)
  have B0 := Lib.hid ((Below.refl w.heap.size w).alloc (Nat.le_refl _) (.cells #[.int .u64 x.n, .string x.s, .slice AL x.l.length cL, .slice AK x.ks.length cK] 44))
  have B1 := Lib.hid ((Below.refl w.heap.size w).alloc (Nat.le_refl _) (.cells #[.int .u64 x.n, .string x.s, .slice none 0 0, .slice AK x.ks.length cK] 44))
  clear hf hsl
  show Calls Try.prog 31 #[.int .u8 108, _] w _
  cases c1 : La.right x.l
  · have R := Lib.hid (show only .l x = false by rw [E.out, c1]; rfl)
    have D1 := Lib.hid c1
    clear c1
    go_enter Try.func31, Try.ntmps31
    go_wp2_with fail
    refine (RC.out _ B0.out).mono ?_
    rintro e w' ⟨rfl, rfl⟩
    rw [D1.out]
    go_wp2_with fail
    go_ret
    exact ⟨ret_bool R.out.symm, B1.out⟩
  · have R := Lib.hid (show only .l x = blank (strip .l x) by rw [E.out, c1]; rfl)
    have D1 := Lib.hid c1
    clear c1
    go_enter Try.func31, Try.ntmps31
    go_wp2_with fail
    refine (RC.out _ B0.out).mono ?_
    rintro e w' ⟨rfl, rfl⟩
    rw [D1.out]
    go_wp2_with fail
    refine (C.out _).mono ?_
    rintro e w' ⟨rfl, hb⟩
    have HB := Lib.hid (below_then B1.out hb)
    clear hb
    go_wp2_with fail
    go_ret
    exact ⟨ret_bool R.out.symm, HB.out⟩

set_option maxRecDepth 100000 in
theorem ho_f : HoAt .f := by
  intro d x AL AK cL cK w hf _
  have E := Lib.hid (show only .f x = (decide (((Fl.bitsOf (Fl.bitsOf x.n.toNat) : Nat) : Int) = x.n) && blank (strip .f x)) from rfl)
  have C := Lib.hid (show ∀ w2, Calls Try.prog 32 #[.agg #[.int .u64 0, .string x.s, .slice AL x.l.length cL, .slice AK x.ks.length cK]] w2 (fun e w' => e = .returned (.bool (blank (strip .f x))) ∧ Below w2.heap.size w2 w') from fun w2 => lblank (strip .f x) AL AK cL cK w2)
  have B0 := Lib.hid ((Below.refl w.heap.size w).alloc (Nat.le_refl _) (.cells #[.int .u64 0, .string x.s, .slice AL x.l.length cL, .slice AK x.ks.length cK] 44))
  clear hf
  show Calls Try.prog 31 #[.int .u8 102, _] w _
  by_cases c1 : ((Fl.bitsOf (Fl.bitsOf x.n.toNat) : Nat) : Int) = x.n
  · have R := Lib.hid (show only .f x = blank (strip .f x) by rw [E.out, decide_eq_true c1]; rfl)
    have D1 := Lib.hid c1
    have T := beq_iff_eq.2 c1
    clear c1
    go_enter Try.func31, Try.ntmps31
    go_wp2_with fail
    refine wp_region_still_tail 9 (by kernel_rfl) (by kernel_rfl) ?_
    simp only [List.take_succ_cons, List.take_zero, List.drop_succ_cons, List.drop_zero]
    change wpStill _ _ (World.drew _) (fun a' => wpList _ _ _ _ a' (World.drew _)) _ _
    repeat still_step
    still_call ((nfrom _ _).mono fun _ _ h => ⟨h.1, h.2.symm⟩)
    repeat still_step
    still_call ((nbits _ _).mono fun _ _ h => ⟨h.1, h.2.symm⟩)
    repeat still_step
    refine wpStill_nil ?_
    go_wp2_with fail
    refine (C.out _).mono ?_
    rintro e w' ⟨rfl, hb⟩
    have HB := Lib.hid (below_then (below_drew B0.out) hb)
    clear hb
    go_wp2_with fail
    go_ret
    exact ⟨ret_bool R.out.symm, HB.out⟩
  · have R := Lib.hid (show only .f x = false by rw [E.out, decide_eq_false c1]; rfl)
    have T : (((Fl.bitsOf (Fl.bitsOf x.n.toNat) : Nat) : Int) == x.n) = false := beq_eq_false_iff_ne.2 c1
    clear c1
    go_enter Try.func31, Try.ntmps31
    go_wp2_with fail
    refine wp_region_still_tail 9 (by kernel_rfl) (by kernel_rfl) ?_
    simp only [List.take_succ_cons, List.take_zero, List.drop_succ_cons, List.drop_zero]
    change wpStill _ _ (World.drew _) (fun a' => wpList _ _ _ _ a' (World.drew _)) _ _
    repeat still_step
    still_call ((nfrom _ _).mono fun _ _ h => ⟨h.1, h.2.symm⟩)
    repeat still_step
    still_call ((nbits _ _).mono fun _ _ h => ⟨h.1, h.2.symm⟩)
    repeat still_step
    refine wpStill_nil ?_
    go_wp2_with fail
    go_ret
    exact ⟨ret_bool R.out.symm, below_drew B0.out⟩

/-- wire.hasOnly -/
theorem lhasOnly (L : Ltr) : HoAt L := by
  cases L
  · exact ho_b
  · exact ho_n
  · exact ho_t
  · exact ho_f
  · exact ho_l

end Go.Proofs.Ytmcackghpkegbaa
