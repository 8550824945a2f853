/- strings.IndexByte among the letters; wire.isBlank: walked. -/
import Derived.Test.YtmcackghpkegbaaKi
import Derived.Lib.Bytealg
import Derived.Laws.Externs
import Derived.Test.YtmcackghpkegbaaLr
import Derived.Deep.RegionWith
import Derived.StillTailTactics
namespace Go.Proofs.Ytmcackghpkegbaa
open Go.RowKit

theorem run_idx (s : ByteArray) (c : Int) (w : World) : (callFunc 59 #[.string s, .int .u8 c]).run Try.prog w = .ok (.value (.int .i64 (Lib.indexByte s.data.toList c.toNat.toUInt8))) w := by
  rw [run_callFunc_extern Try.func59 (by kernel_rfl) (by kernel_rfl) (by kernel_rfl) (e := Extern.BytealgIndexByte.indexByte) (by kernel_rfl)]
  rw [Lib.run_indexByteString]
  rfl

theorem lidx0 (s : ByteArray) (c : Int) (w : World) : Calls Try.prog 47 #[.string s, .int .u8 c] w fun e w' => e = .returned (.int .i64 (Lib.indexByte s.data.toList c.toNat.toUInt8)) ∧ w = w' := by
  have H := run_idx
  go_enter Try.func47, Try.ntmps47
  go_wp2_with fail
  go_ret
  exact ⟨rfl, rfl⟩
/-- strings.IndexByte -/
theorem lidx (s : ByteArray) (c : Int) (w : World) : Calls Try.prog 30 #[.string s, .int .u8 c] w fun e w' => e = .returned (.int .i64 (Lib.indexByte s.data.toList c.toNat.toUInt8)) ∧ w = w' := by
  go_enter Try.func30, Try.ntmps30
  go_wp2_with fail
  refine (lidx0 s c _).mono ?_
  rintro e w' ⟨rfl, rfl⟩
  go_wp2_with fail
  go_ret
  exact ⟨rfl, rfl⟩

def letters : ByteArray := ⟨#[98, 110, 116, 102, 108]⟩
theorem idx_ltr (c : UInt8) : (ltr c).isSome = decide (0 ≤ Lib.indexByte letters.data.toList c) := by
  unfold ltr letters
  by_cases h1 : c = 98
  · subst h1; decide
  by_cases h2 : c = 110
  · subst h2; decide
  by_cases h3 : c = 116
  · subst h3; decide
  by_cases h4 : c = 102
  · subst h4; decide
  by_cases h5 : c = 108
  · subst h5; decide
  rw [if_neg h1, if_neg h2, if_neg h3, if_neg h4, if_neg h5]
  have e : ∀ k : UInt8, c ≠ k → (k == c) = false := fun k h => by rw [beq_eq_false_iff_ne]; exact fun e => h e.symm
  simp [Lib.indexByte, e _ h1, e _ h2, e _ h3, e _ h4, e _ h5]
/-- is it a letter? of the constant "bntfl" -/
theorem lidxL (c : UInt8) (w : World) : Calls Try.prog 30 #[.string letters, .int .u8 (c.toNat : Int)] w fun e w' => (∃ n : Int, e = .returned (.int .i64 n) ∧ ((ltr c).isSome = decide (0 ≤ n))) ∧ w = w' :=
  (lidx letters _ w).mono (by rintro e w' ⟨rfl, rfl⟩; exact ⟨⟨_, rfl, by rw [idx_ltr]; simp⟩, rfl⟩)

theorem lidx42 (w : World) : Calls Try.prog 30 #[.string letters, .int .u8 42] w fun e w' => e = .returned (.int .i64 (-1)) ∧ w = w' :=
  (lidx letters 42 w).mono (by rintro e w' ⟨rfl, rfl⟩; exact ⟨rfl, rfl⟩)

set_option maxRecDepth 100000 in
/-- wire.isBlank -/
theorem lblank (x : Item) (AL AK : Option Addr) (cL cK : Nat) (w : World) :
    Calls Try.prog 32 #[.agg #[.int .u64 x.n, .string x.s, .slice AL x.l.length cL, .slice AK x.ks.length cK]] w fun e w' => e = .returned (.bool (blank x)) ∧ Below w.heap.size w w' := by
  have E := Lib.hid (show blank x = (decide (x.n = 0) && decide (x.s.size = 0) && decide (x.l.length = 0) && decide (x.ks.length = 0)) from rfl)
  have B0 := Lib.hid ((Below.refl w.heap.size w).alloc (Nat.le_refl _) (.cells #[.int .u64 x.n, .string x.s, .slice AL x.l.length cL, .slice AK x.ks.length cK] 44))
  by_cases c1 : x.n = 0
  case neg =>
    have T1 : (x.n == 0) = false := by simp [c1]
    have R := Lib.hid (show blank x = false by rw [E.out, decide_eq_false c1]; rfl)
    clear c1
    go_enter Try.func32, Try.ntmps32
    go_wp2_with fail
    go_ret
    exact ⟨ret_bool R.out.symm, B0.out⟩
  have T1 : (x.n == 0) = true := by simp [c1]
  have K1 := Lib.hid (decide_eq_true c1)
  clear c1
  by_cases c2 : x.s.size = 0
  case neg =>
    have T2 : x.s.toList.isEmpty = false := by
      rw [ByteArray.toList_eq, List.isEmpty_eq_false_iff]
      intro h; apply c2
      have := congrArg List.length h
      simpa using this
    have T3 : ¬ x.s.toList = [] := by intro h; rw [h] at T2; cases T2
    have R := Lib.hid (show blank x = false by rw [E.out, decide_eq_false c2, Bool.and_false]; rfl)
    clear c2
    go_enter Try.func32, Try.ntmps32
    go_wp2_with fail
    go_ret
    exact ⟨ret_bool R.out.symm, B0.out⟩
  have T2 : x.s.toList.isEmpty = true := by
    rw [ByteArray.toList_eq, List.isEmpty_iff]
    exact List.eq_nil_of_length_eq_zero (by simpa using c2)
  have T3 : x.s.toList = [] := List.isEmpty_iff.1 T2
  have K2 := Lib.hid (decide_eq_true c2)
  clear c2
  by_cases c3 : x.l.length = 0
  case neg =>
    have R := Lib.hid (show blank x = false by rw [E.out, decide_eq_false c3, Bool.and_false]; rfl)
    have T4 : ((x.l.length : Int) == 0) = false := by simp; intro h; exact c3 (by rw [h]; rfl)
    clear c3
    go_enter Try.func32, Try.ntmps32
    go_wp2_with fail
    go_ret
    exact ⟨ret_bool R.out.symm, B0.out⟩
  have K3 := Lib.hid (decide_eq_true c3)
  have T4 : ((x.l.length : Int) == 0) = true := beq_iff_eq.2 (by omega)
  clear c3
  by_cases c4 : x.ks.length = 0
  case neg =>
    have R := Lib.hid (show blank x = false by rw [E.out, decide_eq_false c4, Bool.and_false])
    have T5 : ((x.ks.length : Int) == 0) = false := by rw [beq_eq_false_iff_ne]; omega
    clear c4
    go_enter Try.func32, Try.ntmps32
    go_wp2_with fail
    go_ret
    exact ⟨ret_bool R.out.symm, B0.out⟩
  have T5 : ((x.ks.length : Int) == 0) = true := beq_iff_eq.2 (by omega)
  have R := Lib.hid (show blank x = true by rw [E.out, decide_eq_true c4, K1.out, K2.out, K3.out]; rfl)
  clear c4
  go_enter Try.func32, Try.ntmps32
  go_wp2_with fail
  go_ret
  exact ⟨ret_bool R.out.symm, B0.out⟩

/-- wire.hasOnly of a letter -/
def HoAt (L : Ltr) : Prop := ∀ (d : Nat) (x : Item) (AL AK : Option Addr) (cL cK : Nat) (w : World), FitOne d x → Sl w AL x.l →
    Calls Try.prog 31 #[.int .u8 L.code, .agg #[.int .u64 x.n, .string x.s, .slice AL x.l.length cL, .slice AK x.ks.length cK]] w fun e w' => e = .returned (.bool (only L x)) ∧ Below w.heap.size w w'

set_option maxRecDepth 100000 in
theorem ho_b : HoAt .b := by
  intro d x AL AK cL cK w hf _
  have E := Lib.hid (show only .b x = (decide (x.n ≤ 255) && blank (strip .b x)) from rfl)
  have C := Lib.hid (show ∀ w2, Calls Try.prog 32 #[.agg #[.int .u64 0, .string x.s, .slice AL x.l.length cL, .slice AK x.ks.length cK]] w2 (fun e w' => e = .returned (.bool (blank (strip .b x))) ∧ Below w2.heap.size w2 w') from fun w2 => lblank (strip .b x) AL AK cL cK w2)
  have B0 := Lib.hid ((Below.refl w.heap.size w).alloc (Nat.le_refl _) (.cells #[.int .u64 0, .string x.s, .slice AL x.l.length cL, .slice AK x.ks.length cK] 44))
  clear hf
  show Calls Try.prog 31 #[.int .u8 98, _] w _
  by_cases c1 : x.n ≤ 255
  · have R := Lib.hid (show only .b x = blank (strip .b x) by rw [E.out, decide_eq_true c1]; rfl)
    go_enter Try.func31, Try.ntmps31
    go_wp2_with fail
    refine (C.out _).mono ?_
    rintro e w' ⟨rfl, hb⟩
    have HB := Lib.hid (below_then B0.out hb)
    clear hb
    go_wp2_with fail
    go_ret
    exact ⟨ret_bool R.out.symm, HB.out⟩
  · have R := Lib.hid (show only .b x = false by rw [E.out, decide_eq_false c1]; rfl)
    go_enter Try.func31, Try.ntmps31
    go_wp2_with fail
    go_ret
    exact ⟨ret_bool R.out.symm, B0.out⟩

set_option maxRecDepth 100000 in
theorem ho_n : HoAt .n := by
  intro d x AL AK cL cK w _ _
  have R := Lib.hid (show only .n x = blank (strip .n x) from rfl)
  have C := Lib.hid (show ∀ w2, Calls Try.prog 32 #[.agg #[.int .u64 0, .string x.s, .slice AL x.l.length cL, .slice AK x.ks.length cK]] w2 (fun e w' => e = .returned (.bool (blank (strip .n x))) ∧ Below w2.heap.size w2 w') from fun w2 => lblank (strip .n x) AL AK cL cK w2)
  have B0 := Lib.hid ((Below.refl w.heap.size w).alloc (Nat.le_refl _) (.cells #[.int .u64 0, .string x.s, .slice AL x.l.length cL, .slice AK x.ks.length cK] 44))
  show Calls Try.prog 31 #[.int .u8 110, _] w _
  go_enter Try.func31, Try.ntmps31
  go_wp2_with fail
  refine (C.out _).mono ?_
  rintro e w' ⟨rfl, hb⟩
  have HB := Lib.hid (below_then B0.out hb)
  clear hb
  go_wp2_with fail
  go_ret
  exact ⟨ret_bool R.out.symm, HB.out⟩

set_option maxRecDepth 100000 in
theorem ho_t : HoAt .t := by
  intro d x AL AK cL cK w hf _
  have hs := hf.2.2.1
  unfold maxLen at hs
  have E := Lib.hid (show only .t x = (decide (x.s.size ≤ 200) && blank (strip .t x)) from rfl)
  have C := Lib.hid (show ∀ w2, Calls Try.prog 32 #[.agg #[.int .u64 x.n, .string ⟨#[]⟩, .slice AL x.l.length cL, .slice AK x.ks.length cK]] w2 (fun e w' => e = .returned (.bool (blank (strip .t x))) ∧ Below w2.heap.size w2 w') from fun w2 => lblank (strip .t x) AL AK cL cK w2)
  have B0 := Lib.hid ((Below.refl w.heap.size w).alloc (Nat.le_refl _) (.cells #[.int .u64 x.n, .string ⟨#[]⟩, .slice AL x.l.length cL, .slice AK x.ks.length cK] 44))
  clear hf
  show Calls Try.prog 31 #[.int .u8 116, _] w _
  by_cases c1 : x.s.size ≤ 200
  · have R := Lib.hid (show only .t x = blank (strip .t x) by rw [E.out, decide_eq_true c1]; rfl)
    go_enter Try.func31, Try.ntmps31
    go_wp2_with fail
    refine (C.out _).mono ?_
    rintro e w' ⟨rfl, hb⟩
    have HB := Lib.hid (below_then B0.out hb)
    clear hb
    go_wp2_with fail
    go_ret
    exact ⟨ret_bool R.out.symm, HB.out⟩
  · have R := Lib.hid (show only .t x = false by rw [E.out, decide_eq_false c1]; rfl)
    go_enter Try.func31, Try.ntmps31
    go_wp2_with fail
    go_ret
    exact ⟨ret_bool R.out.symm, B0.out⟩

set_option maxRecDepth 100000 in
theorem ho_l : HoAt .l := by
  intro d x AL AK cL cK w hf hsl
  have RC := Lib.hid (show ∀ w2, Below w.heap.size w w2 → Calls Try.prog 50 #[.slice AL x.l.length cL] w2 _ from fun w2 hb => lright AL cL x.l w2 (hsl.below hb) hf.2.2.2.1)
  have E := Lib.hid (show only .l x = (La.right x.l && blank (strip .l x)) from rfl)
  have C := Lib.hid (show ∀ w2, Calls Try.prog 32 #[.agg #[.int .u64 x.n, .string x.s, .slice none 0 0, .slice AK x.ks.length cK]] w2 (fun e w' => e = .returned (.bool (blank (strip .l x))) ∧ Below w2.heap.size w2 w') from fun w2 => lblank (strip .l x) none AK 0 cK w2)
  have B0 := Lib.hid ((Below.refl w.heap.size w).alloc (Nat.le_refl _) (.cells #[.int .u64 x.n, .string x.s, .slice AL x.l.length cL, .slice AK x.ks.length cK] 44))
  have B1 := Lib.hid ((Below.refl w.heap.size w).alloc (Nat.le_refl _) (.cells #[.int .u64 x.n, .string x.s, .slice none 0 0, .slice AK x.ks.length cK] 44))
  clear hf hsl
  show Calls Try.prog 31 #[.int .u8 108, _] w _
  cases c1 : La.right x.l
  · have R := Lib.hid (show only .l x = false by rw [E.out, c1]; rfl)
    have D1 := Lib.hid c1
    clear c1
    go_enter Try.func31, Try.ntmps31
    go_wp2_with fail
    refine (RC.out _ B0.out).mono ?_
    rintro e w' ⟨rfl, rfl⟩
    rw [D1.out]
    go_wp2_with fail
    go_ret
    exact ⟨ret_bool R.out.symm, B1.out⟩
  · have R := Lib.hid (show only .l x = blank (strip .l x) by rw [E.out, c1]; rfl)
    have D1 := Lib.hid c1
    clear c1
    go_enter Try.func31, Try.ntmps31
    go_wp2_with fail
    refine (RC.out _ B0.out).mono ?_
    rintro e w' ⟨rfl, rfl⟩
    rw [D1.out]
    go_wp2_with fail
    refine (C.out _).mono ?_
    rintro e w' ⟨rfl, hb⟩
    have HB := Lib.hid (below_then B1.out hb)
    clear hb
    go_wp2_with fail
    go_ret
    exact ⟨ret_bool R.out.symm, HB.out⟩

set_option maxRecDepth 100000 in
theorem ho_f : HoAt .f := by
  intro d x AL AK cL cK w hf _
  have E := Lib.hid (show only .f x = (decide (((Fl.bitsOf (Fl.bitsOf x.n.toNat) : Nat) : Int) = x.n) && blank (strip .f x)) from rfl)
  have C := Lib.hid (show ∀ w2, Calls Try.prog 32 #[.agg #[.int .u64 0, .string x.s, .slice AL x.l.length cL, .slice AK x.ks.length cK]] w2 (fun e w' => e = .returned (.bool (blank (strip .f x))) ∧ Below w2.heap.size w2 w') from fun w2 => lblank (strip .f x) AL AK cL cK w2)
  have B0 := Lib.hid ((Below.refl w.heap.size w).alloc (Nat.le_refl _) (.cells #[.int .u64 0, .string x.s, .slice AL x.l.length cL, .slice AK x.ks.length cK] 44))
  clear hf
  show Calls Try.prog 31 #[.int .u8 102, _] w _
  by_cases c1 : ((Fl.bitsOf (Fl.bitsOf x.n.toNat) : Nat) : Int) = x.n
  · have R := Lib.hid (show only .f x = blank (strip .f x) by rw [E.out, decide_eq_true c1]; rfl)
    have D1 := Lib.hid c1
    have T := beq_iff_eq.2 c1
    clear c1
    go_enter Try.func31, Try.ntmps31
    go_wp2_with fail
    refine wp_region_still_tail 9 (by kernel_rfl) (by kernel_rfl) ?_
    simp only [List.take_succ_cons, List.take_zero, List.drop_succ_cons, List.drop_zero]
    change wpStill _ _ (World.drew _) (fun a' => wpList _ _ _ _ a' (World.drew _)) _ _
    repeat still_step
    still_call ((nfrom _ _).mono fun _ _ h => ⟨h.1, h.2.symm⟩)
    repeat still_step
    still_call ((nbits _ _).mono fun _ _ h => ⟨h.1, h.2.symm⟩)
    repeat still_step
    refine wpStill_nil ?_
    go_wp2_with fail
    refine (C.out _).mono ?_
    rintro e w' ⟨rfl, hb⟩
    have HB := Lib.hid (below_then (below_drew B0.out) hb)
    clear hb
    go_wp2_with fail
    go_ret
    exact ⟨ret_bool R.out.symm, HB.out⟩
  · have R := Lib.hid (show only .f x = false by rw [E.out, decide_eq_false c1]; rfl)
    have T : (((Fl.bitsOf (Fl.bitsOf x.n.toNat) : Nat) : Int) == x.n) = false := beq_eq_false_iff_ne.2 c1
    clear c1
    go_enter Try.func31, Try.ntmps31
    go_wp2_with fail
    refine wp_region_still_tail 9 (by kernel_rfl) (by kernel_rfl) ?_
    simp only [List.take_succ_cons, List.take_zero, List.drop_succ_cons, List.drop_zero]
    change wpStill _ _ (World.drew _) (fun a' => wpList _ _ _ _ a' (World.drew _)) _ _
    repeat still_step
    still_call ((nfrom _ _).mono fun _ _ h => ⟨h.1, h.2.symm⟩)
    repeat still_step
    still_call ((nbits _ _).mono fun _ _ h => ⟨h.1, h.2.symm⟩)
    repeat still_step
    refine wpStill_nil ?_
    go_wp2_with fail
    go_ret
    exact ⟨ret_bool R.out.symm, below_drew B0.out⟩

/-- wire.hasOnly -/
theorem lhasOnly (L : Ltr) : HoAt L := by
  cases L
  · exact ho_b
  · exact ho_n
  · exact ho_t
  · exact ho_f
  · exact ho_l

end Go.Proofs.Ytmcackghpkegbaa
