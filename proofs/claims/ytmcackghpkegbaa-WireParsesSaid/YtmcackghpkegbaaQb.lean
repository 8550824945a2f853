/- cloisonneref03.Number, One: walked. -/
import Derived.Test.YtmcackghpkegbaaQa
import Derived.Test.YtmcackghpkegbaaPo
import Derived.Test.YtmcackghpkegbaaPr
import Derived.Deep.RegionHeld3
namespace Go.Proofs.Ytmcackghpkegbaa
open Go.RowKit

set_option maxRecDepth 100000 in
set_option maxHeartbeats 1000000 in
/-- cloisonneref03.Number -/
theorem rNumber (n : Nat) (w : World) (hn : n < 18446744073709551616) : Calls Try.prog 22 #[.int .u64 (n : Int)] w fun e w' => e = .returned (.string (strOfNums (leb n))) ∧ Below w.heap.size w w' := by
  have HN := Lib.hid hn
  have OM := Lib.hid (show OwnB (w.alloc (.cells #[] 5)) w.heap.size (.slice (some ⟨w.heap.size, 0, none⟩) 0 0) [] from OwnB.made w w.heap.size (Nat.le_refl _) [] (Nat.zero_le _))
  clear hn
  go_enter Try.func22, Try.ntmps22
  go_wp2_with fail
  go_loopw [0, 3] (fun vn vo wr => ∃ (m : Nat) (ds : List Int), vn = .int .u64 (m : Int) ∧ Hid (m < 18446744073709551616) ∧ ds.length ≤ 10 ∧ Hid (leb n = ds ++ leb m) ∧ Hid (OwnB wr w.heap.size vo ds) ∧ Hid (Below w.heap.size w wr)) (fun vn _ _ => (intOf vn).toNat)
  case atStart => exact ⟨n, [], rfl, HN.out, by simp, rfl, OM.out, (Below.refl _ _).alloc (Nat.le_refl _) _⟩
  case round =>
    obtain ⟨m, ds, rfl, HM, hd, HL, HW, HG⟩ := hrel
    have hsz := HG.out.size
    have m0 : (0 : Int) ≤ (m : Int) := by omega
    by_cases hlt : 127 < m
    · have HB := Lib.hid (leb_big (n := m) (by omega))
      have hdl : ds.length < 10 := by
        have h1 := leb_len64 HN.out
        rw [HL.out, List.length_append] at h1
        have h2 : 0 < (leb m).length := by rw [HB.out]; simp
        omega
      have hw : IntKind.u64.wrap ((m : Int) / 128) = (m : Int) / 128 := by rw [IntKind.wrap_u64]; have := HM.out; omega
      go_wp2_with (at_builtin; refine wp_put1b rfl (.tmp 7) (.tmp 12) rfl w.heap.size _ _ rfl (HW.out.alloc _) _ _ rfl (cell_newk _ _ _) (by omega) (by simp; omega) ?_; intro v1 w1 hown1 hb1; have HO1 := Lib.hid hown1; have HB1 := Lib.hid ((HG.out.alloc hsz _).trans hb1); clear hown1 hb1)
      go_roundw
      case rel =>
        refine ⟨m / 128, ds ++ [((m % 128 + 128 : Nat) : Int)], by go_num, Lib.hid (by have := HM.out; omega), by rw [List.length_append]; simp; omega, ?_, ?_, HB1.out⟩
        · rw [HL.out, HB.out, List.append_assoc]; exact rfl
        · have h9 := HO1.out
          have e9 : ((m % 128 + 128 : Nat) : Int) = 128 + (m : Int) % 128 := by omega
          rw [e9]; exact h9
      case measure => simp [intOf]; omega
    · have HB := Lib.hid (leb_small (n := m) (by omega))
      have hm8 : m < 128 := by omega
      clear hlt
      obtain ⟨NL, hNL⟩ : ∃ NL, NL = (leb n).length := ⟨_, rfl⟩
      have HNL := Lib.hid hNL
      have EL := Lib.hid (show ds ++ [(m : Int)] = leb n by rw [HL.out, HB.out])
      clear hNL
      go_wp2_with (at_builtin; refine wp_put1b rfl (.tmp 16) (.tmp 19) rfl w.heap.size _ _ rfl (HW.out.alloc _) _ _ rfl (cell_newk _ _ _) (by omega) (by simp; omega) ?_; intro v1 w1 hown1 hb1; rw [EL.out] at hown1; obtain ⟨A1, c1, rfl, _, _, _, _⟩ := hown1.form; have hcv := conv_any hown1; rw [← HNL.out] at hcv ⊢; have HB1 := Lib.hid ((HG.out.alloc hsz _).trans hb1); clear hown1 hb1)
      go_ret
      exact ⟨rfl, HB1.out⟩

/-- cloisonneref03.One of a letter -/
def RoAt (L : Ltr) : Prop := ∀ (d : Nat) (x : Item) (AL AK : Option Addr) (cL cK : Nat) (w : World), FitOne d x → Sl w AL x.l → x.l.length ≤ 60 → x.s.size ≤ 300 →
    Calls Try.prog 21 #[.int .u8 L.code, .agg #[.int .u64 x.n, .string x.s, .slice AL x.l.length cL, .slice AK x.ks.length cK]] w
      fun e w' => (∃ S, e = .returned (.tuple #[.string S, .bool (only L x)]) ∧ (only L x = true → S = strOfNums (enc1 L x))) ∧ Below w.heap.size w w'

theorem bitsOf_idem (b : Nat) : Fl.bitsOf (Fl.bitsOf b) = Fl.bitsOf b := by
  cases h : Fl.nanB b
  · have e : Fl.bitsOf b = b := by unfold Fl.bitsOf; rw [h]; rfl
    rw [e, e]
  · have e : Fl.bitsOf b = Fl.NANB := by unfold Fl.bitsOf; rw [h]; rfl
    rw [e]; unfold Fl.bitsOf; rw [Fl.nanB_NANB]; rfl
theorem isEmpty_of {s : ByteArray} (h : s.size = 0) : s.toList.isEmpty = true := by
  rw [ByteArray.toList_eq, List.isEmpty_iff]; exact List.eq_nil_of_length_eq_zero (by simpa using h)
theorem isEmpty_no {s : ByteArray} (h : s.size ≠ 0) : s.toList.isEmpty = false := by
  rw [ByteArray.toList_eq, List.isEmpty_eq_false_iff]; intro e; apply h
  have := congrArg List.length e; simpa using this

set_option maxRecDepth 100000 in
theorem roK (c : Int) (n : Int) (s : ByteArray) (LL : Nat) (KL : Nat) (AL AK : Option Addr) (cL cK : Nat) (w : World) (k0 : 0 < KL) :
    Calls Try.prog 21 #[.int .u8 c, .agg #[.int .u64 n, .string s, .slice AL LL cL, .slice AK KL cK]] w fun e w' => e = .returned (.tuple #[.string ⟨#[]⟩, .bool false]) ∧ Below w.heap.size w w' := by
  have B0 := Lib.hid ((Below.refl w.heap.size w).alloc (Nat.le_refl _) (.cells #[.int .u64 n, .string s, .slice AL LL cL, .slice AK KL cK] 44))
  go_enter Try.func21, Try.ntmps21
  go_wp2_with fail
  go_ret2
  exact ⟨rfl, B0.out⟩

set_option maxRecDepth 100000 in
theorem roS (c : Int) (n : Int) (s : ByteArray) (LL : Nat) (AL AK : Option Addr) (cL cK : Nat) (w : World) (c1 : (c != 116) = true) (s0 : s.size ≠ 0) :
    Calls Try.prog 21 #[.int .u8 c, .agg #[.int .u64 n, .string s, .slice AL LL cL, .slice AK 0 cK]] w fun e w' => e = .returned (.tuple #[.string ⟨#[]⟩, .bool false]) ∧ Below w.heap.size w w' := by
  have B0 := Lib.hid ((Below.refl w.heap.size w).alloc (Nat.le_refl _) (.cells #[.int .u64 n, .string s, .slice AL LL cL, .slice AK 0 cK] 44))
  have TS := isEmpty_no s0
  have TSb : ¬ s.toList = [] := by intro h; rw [h] at TS; cases TS
  clear s0
  go_enter Try.func21, Try.ntmps21
  go_wp2_with fail
  go_ret2
  exact ⟨rfl, B0.out⟩

set_option maxRecDepth 100000 in
theorem roL (c : Int) (n : Int) (LL : Nat) (AL AK : Option Addr) (cL cK : Nat) (w : World) (c1 : (c != 116) = true) (c2 : (c != 108) = true) (l0 : 0 < LL) :
    Calls Try.prog 21 #[.int .u8 c, .agg #[.int .u64 n, .string ⟨#[]⟩, .slice AL LL cL, .slice AK 0 cK]] w fun e w' => e = .returned (.tuple #[.string ⟨#[]⟩, .bool false]) ∧ Below w.heap.size w w' := by
  have B0 := Lib.hid ((Below.refl w.heap.size w).alloc (Nat.le_refl _) (.cells #[.int .u64 n, .string ⟨#[]⟩, .slice AL LL cL, .slice AK 0 cK] 44))
  go_enter Try.func21, Try.ntmps21
  go_wp2_with fail
  go_ret2
  exact ⟨rfl, B0.out⟩

set_option maxRecDepth 100000 in
theorem roLt (n : Int) (s : ByteArray) (LL : Nat) (AL AK : Option Addr) (cL cK : Nat) (w : World) (l0 : 0 < LL) :
    Calls Try.prog 21 #[.int .u8 116, .agg #[.int .u64 n, .string s, .slice AL LL cL, .slice AK 0 cK]] w fun e w' => e = .returned (.tuple #[.string ⟨#[]⟩, .bool false]) ∧ Below w.heap.size w w' := by
  have B0 := Lib.hid ((Below.refl w.heap.size w).alloc (Nat.le_refl _) (.cells #[.int .u64 n, .string s, .slice AL LL cL, .slice AK 0 cK] 44))
  go_enter Try.func21, Try.ntmps21
  go_wp2_with fail
  go_ret2
  exact ⟨rfl, B0.out⟩

set_option maxRecDepth 100000 in
theorem roNt (n : Int) (s : ByteArray) (AL AK : Option Addr) (cL cK : Nat) (w : World) (n0 : n ≠ 0) :
    Calls Try.prog 21 #[.int .u8 116, .agg #[.int .u64 n, .string s, .slice AL 0 cL, .slice AK 0 cK]] w fun e w' => e = .returned (.tuple #[.string ⟨#[]⟩, .bool false]) ∧ Below w.heap.size w w' := by
  have B0 := Lib.hid ((Below.refl w.heap.size w).alloc (Nat.le_refl _) (.cells #[.int .u64 n, .string s, .slice AL 0 cL, .slice AK 0 cK] 44))
  have TN : (n == 0) = false := by simp [n0]
  clear n0
  go_enter Try.func21, Try.ntmps21
  go_wp2_with fail
  go_ret2
  exact ⟨rfl, B0.out⟩

set_option maxRecDepth 100000 in
theorem roNl (n : Int) (LL : Nat) (AL AK : Option Addr) (cL cK : Nat) (w : World) (n0 : n ≠ 0) :
    Calls Try.prog 21 #[.int .u8 108, .agg #[.int .u64 n, .string ⟨#[]⟩, .slice AL LL cL, .slice AK 0 cK]] w fun e w' => e = .returned (.tuple #[.string ⟨#[]⟩, .bool false]) ∧ Below w.heap.size w w' := by
  have B0 := Lib.hid ((Below.refl w.heap.size w).alloc (Nat.le_refl _) (.cells #[.int .u64 n, .string ⟨#[]⟩, .slice AL LL cL, .slice AK 0 cK] 44))
  have TN : (n == 0) = false := by simp [n0]
  clear n0
  go_enter Try.func21, Try.ntmps21
  go_wp2_with fail
  go_ret2
  exact ⟨rfl, B0.out⟩

theorem below_cellOf {B : Nat} {w w' : World} (h : Below B w w') {a : Addr} {v : Value} (hc : w.cell? a = some v) (hB : w.heap.size ≤ B) : w'.cell? a = some v := by
  rw [h.cell (Nat.lt_of_lt_of_le (World.block_lt_of_cell? w a hc) hB)]
  exact hc

theorem conv1 (A : Nat) (v : Int) (w : World) (h : w.cell? ⟨A, 0, none⟩ = some (.int .u8 v)) : (convert 48 9 (.slice (some ⟨A, 0, none⟩) 1 1)).run Try.prog w = .ok (.string (strOfNums [v])) w :=
  run_convert_bytes_arg w 48 5 (by kernel_rfl) (by kernel_rfl) A 0 1 1 [v] rfl (by intro i hi; have e : i = 0 := (by omega); subst e; exact h) 9 (by kernel_rfl)

set_option maxRecDepth 100000 in
set_option maxHeartbeats 1000000 in
theorem roB (n : Int) (AL AK : Option Addr) (cL cK : Nat) (w : World) :
    Calls Try.prog 21 #[.int .u8 98, .agg #[.int .u64 n, .string ⟨#[]⟩, .slice AL 0 cL, .slice AK 0 cK]] w fun e w' => e = .returned (.tuple #[.string (strOfNums [n % 256]), .bool (decide (n < 256))]) ∧ Below w.heap.size w w' := by
  have hw : IntKind.u8.wrap n = n % 256 := by rw [IntKind.wrap_u8]
  have CV1 := conv1 (w.heap.size + 1) (n % 256) ((w.alloc (.cells #[.int .u64 n, .string ⟨#[]⟩, .slice AL 0 cL, .slice AK 0 cK] 44)).alloc (.cells #[.int .u8 (n % 256)] 5)) (cell_new2 _ _ _ _)
  have CV2 := conv1 (w.heap.size + 1) (n % 256) (((w.alloc (.cells #[.int .u64 n, .string ⟨#[]⟩, .slice AL 0 cL, .slice AK 0 cK] 44)).alloc (.cells #[.int .u8 (n % 256)] 5)).drew) (cell_new2 _ _ _ _)
  have B0 := Lib.hid ((Below.refl w.heap.size w).alloc (Nat.le_refl _) (.cells #[.int .u64 n, .string ⟨#[]⟩, .slice AL 0 cL, .slice AK 0 cK] 44))
  go_enter Try.func21, Try.ntmps21
  go_wp2_with fail
  go_region_held (fun w' => w'.cell? ⟨w.heap.size, 0, none⟩ = some (.int .u64 n))
    (first
      | go_keep)
    (first
      | fail "no")
  go_wp2_with fail
  go_ret2
  exact ⟨rfl, ((B0.out.alloc (by simp) _)).drew⟩

set_option maxRecDepth 100000 in
set_option maxHeartbeats 1000000 in
theorem roN (n : Nat) (AL AK : Option Addr) (cL cK : Nat) (w : World) (hn : n < 18446744073709551616) :
    Calls Try.prog 21 #[.int .u8 110, .agg #[.int .u64 n, .string ⟨#[]⟩, .slice AL 0 cL, .slice AK 0 cK]] w fun e w' => e = .returned (.tuple #[.string (strOfNums (leb n)), .bool true]) ∧ Below w.heap.size w w' := by
  have B0 := Lib.hid ((Below.refl w.heap.size w).alloc (Nat.le_refl _) (.cells #[.int .u64 n, .string ⟨#[]⟩, .slice AL 0 cL, .slice AK 0 cK] 44))
  have HN := Lib.hid hn
  clear hn
  go_enter Try.func21, Try.ntmps21
  go_wp2_with fail
  refine (rNumber n _ HN.out).mono ?_
  rintro e w1 ⟨rfl, hb1⟩
  have B1 := Lib.hid (below_then B0.out hb1)
  clear hb1
  go_wp2_with fail
  go_ret2
  exact ⟨rfl, B1.out⟩

set_option maxRecDepth 100000 in
set_option maxHeartbeats 1000000 in
theorem roT (s : ByteArray) (AL AK : Option Addr) (cL cK : Nat) (w : World) (hs : s.size ≤ 300) :
    Calls Try.prog 21 #[.int .u8 116, .agg #[.int .u64 0, .string s, .slice AL 0 cL, .slice AK 0 cK]] w fun e w' => e = .returned (.tuple #[.string (strOfNums (leb s.size) ++ s), .bool (decide ((s.size : Int) ≤ 200))]) ∧ Below w.heap.size w w' := by
  have B0 := Lib.hid ((Below.refl w.heap.size w).alloc (Nat.le_refl _) (.cells #[.int .u64 0, .string s, .slice AL 0 cL, .slice AK 0 cK] 44))
  obtain ⟨K, hK⟩ : ∃ K, K = strOfNums (leb s.size) := ⟨_, rfl⟩
  have k10 : K.size ≤ 10 := by rw [hK, strOfNums_size]; exact leb_len64 (by omega)
  have LP := Lib.hid (show ∀ w0, Calls Try.prog 22 #[.int .u64 (s.size : Int)] w0 fun e w' => e = .returned (.string K) ∧ Below w0.heap.size w0 w' by rw [hK]; exact fun w0 => rNumber s.size w0 (by omega))
  rw [← hK]
  clear hK
  have ki : (K.size : Int) ≤ 8388608 := (by omega)
  have si : (s.size : Int) ≤ 8388608 := by omega
  have hw : IntKind.u64.wrap (s.size : Int) = s.size := by rw [IntKind.wrap_u64]; omega
  go_enter Try.func21, Try.ntmps21
  go_wp2_with fail
  go_region_held (fun w' => w'.cell? ⟨w.heap.size, 1, none⟩ = some (.string s))
    (first
      | go_keep
      | exact HC1.out)
    (first
      | ((with_reducible refine (LP.out _).mono ?_); rintro e w1 ⟨rfl, hb1⟩; have HB1 := Lib.hid (below_then B0.out.drew hb1); have HC1 := Lib.hid (show w1.cell? ⟨w.heap.size, 1, none⟩ = some (.string s) from below_cellOf hb1 (by simp) (by simp))))
  go_wp2_with fail
  go_ret2
  exact ⟨rfl, HB1.out⟩

set_option maxRecDepth 100000 in
set_option maxHeartbeats 1000000 in
theorem roF (n : Int) (AL AK : Option Addr) (cL cK : Nat) (w : World) (hn : 0 ≤ n ∧ n < 18446744073709551616) :
    Calls Try.prog 21 #[.int .u8 102, .agg #[.int .u64 n, .string ⟨#[]⟩, .slice AL 0 cL, .slice AK 0 cK]] w fun e w' => e = .returned (.tuple #[.string (keyOf (Fl.place n.toNat)), .bool (((Fl.bitsOf n.toNat : Nat) : Int) == n)]) ∧ Below w.heap.size w w' := by
  have B0 := Lib.hid ((Below.refl w.heap.size w).alloc (Nat.le_refl _) (.cells #[.int .u64 n, .string ⟨#[]⟩, .slice AL 0 cL, .slice AK 0 cK] 44))
  have FB := Lib.hid (show Fl.Fits n.toNat from Fl.Fits.mk (by omega))
  go_enter Try.func21, Try.ntmps21
  go_wp2_with fail
  go_region_held3 (fun w' => w'.cell? ⟨w.heap.size, 0, none⟩ = some (.int .u64 n))
    (first
      | go_keep
      | exact HC1.out)
    (first
      | (go_at_call 36; (with_reducible refine (rkeyB n.toNat FB.out _).mono ?_); rintro e w1 ⟨rfl, hb1⟩; have HB1 := Lib.hid (show Below w.heap.size w w1 by first | exact below_then B0.out hb1 | exact below_then B0.out.drew hb1); have HC1 := Lib.hid (show w1.cell? ⟨w.heap.size, 0, none⟩ = some (.int .u64 n) from below_cellOf hb1 (by simp) (by simp)))
      | (go_at_call 37; (with_reducible refine (rbits n.toNat FB.out _).mono ?_); rintro e w2 ⟨rfl, rfl⟩))
  go_wp2_with fail
  go_ret2
  exact ⟨rfl, HB1.out⟩

set_option maxRecDepth 100000 in
set_option maxHeartbeats 1000000 in
theorem roLs (l : List Int) (AL AK : Option Addr) (cL cK : Nat) (w : World) (hsl : Sl w AL l) (hm : l.length ≤ 60) (hu : La.U64 l) :
    Calls Try.prog 21 #[.int .u8 108, .agg #[.int .u64 0, .string ⟨#[]⟩, .slice AL l.length cL, .slice AK 0 cK]] w fun e w' => e = .returned (.tuple #[.string (packS l), .bool (La.right l)]) ∧ Below w.heap.size w w' := by
  have B0 := Lib.hid ((Below.refl w.heap.size w).alloc (Nat.le_refl _) (.cells #[.int .u64 0, .string ⟨#[]⟩, .slice AL l.length cL, .slice AK 0 cK] 44))
  have SL := Lib.hid hsl
  have HU := Lib.hid hu
  clear hsl hu
  go_enter Try.func21, Try.ntmps21
  go_wp2_with fail
  go_region_held3 (fun w' => w'.cell? ⟨w.heap.size, 2, none⟩ = some (.slice AL l.length cL) ∧ Sl w' AL l)
    (first
      | exact ⟨by simp, SL.out.alloc _⟩
      | exact ⟨by simp, (SL.out.alloc _).drew⟩
      | exact ⟨HC1.out, HS1.out⟩
      | exact ⟨HC2.out, HS1.out.drewN _⟩
      | exact ⟨HC1.out, HS1.out.drewN _⟩)
    (first
      | (go_at_call 38; (with_reducible refine (rpack AL cL l _ (by first | exact SL.out.alloc _ | exact (SL.out.alloc _).drew) hm HU.out).mono ?_); rintro e w1 ⟨rfl, hb1⟩; have HB1 := Lib.hid (show Below w.heap.size w w1 by first | exact below_then B0.out hb1 | exact below_then B0.out.drew hb1); have HS1 := Lib.hid (show Sl w1 AL l by first | exact (SL.out.alloc _).below hb1 | exact ((SL.out.alloc _).drew).below hb1); have HC1 := Lib.hid (show w1.cell? ⟨w.heap.size, 2, none⟩ = some (.slice AL l.length cL) from below_cellOf hb1 (by simp) (by simp)))
      | (go_at_call 39; (with_reducible refine (rright AL cL l _ HS1.out (by unfold maxLen; omega) HU.out).mono ?_); rintro e w2 ⟨rfl, n2, rfl⟩; have HC2 := Lib.hid (show (w1.drewN n2).cell? ⟨w.heap.size, 2, none⟩ = some (.slice AL l.length cL) from HC1.out)))
  go_wp2_with fail
  go_ret2
  exact ⟨rfl, below_drewN HB1.out _⟩

theorem strOf_app (a b : List Int) : strOfNums (a ++ b) = strOfNums a ++ strOfNums b := by
  apply WideShapes.bytes_inj
  rw [ByteArray.data_append, Array.toList_append, strOfNums_data, strOfNums_data, strOfNums_data, List.map_append]
theorem strOf_nums (s : ByteArray) : strOfNums (nums s) = s := by
  apply WideShapes.bytes_inj
  rw [strOfNums_data]; unfold nums; rw [List.map_map]
  exact List.map_id'' (fun b => by simp) _

theorem only_blank {L : Ltr} {x : Item} (h : only L x = true) : blank (strip L x) = true := by
  unfold only at h; rw [Bool.and_eq_true] at h; exact h.2
theorem only_ks {L : Ltr} {x : Item} (h : only L x = true) : x.ks = [] := by
  have k := ((blank_iff _).1 (only_blank h)).2.2.2
  cases L <;> exact k
theorem only_s {L : Ltr} {x : Item} (hL : L ≠ .t) (h : only L x = true) : x.s = ⟨#[]⟩ := by
  have k := ((blank_iff _).1 (only_blank h)).2.1
  cases L <;> first | exact k | exact absurd rfl hL
theorem only_l {L : Ltr} {x : Item} (hL : L ≠ .l) (h : only L x = true) : x.l = [] := by
  have k := ((blank_iff _).1 (only_blank h)).2.2.1
  cases L <;> first | exact k | exact absurd rfl hL
theorem only_nt {x : Item} (h : only .t x = true) : x.n = 0 := ((blank_iff _).1 (only_blank h)).1
theorem only_nl {x : Item} (h : only .l x = true) : x.n = 0 := ((blank_iff _).1 (only_blank h)).1
theorem only_of {L : Ltr} {x : Item} (h : blank (strip L x) = true) : only L x = right1 L x := by
  unfold only; rw [h, Bool.and_true]
theorem no_of {b : Bool} {p : Prop} (hp : ¬ p) (h : b = true → p) : b = false := by
  cases b with
  | false => rfl
  | true => exact absurd (h rfl) hp
theorem empty_of {s : ByteArray} (h : s.size = 0) : s = ⟨#[]⟩ := by
  apply WideShapes.bytes_inj; exact List.eq_nil_of_length_eq_zero (by simpa using h)
/-- it is none -/
theorem ro_no {P : Program} {L : Ltr} {x : Item} {f : FuncId} {args : Array Value} {w : World} (hn : only L x = false)
    (h : Calls P f args w fun e w' => e = .returned (.tuple #[.string ⟨#[]⟩, .bool false]) ∧ Below w.heap.size w w') :
    Calls P f args w fun e w' => (∃ S, e = .returned (.tuple #[.string S, .bool (only L x)]) ∧ (only L x = true → S = strOfNums (enc1 L x))) ∧ Below w.heap.size w w' :=
  h.mono (by rintro e w' ⟨rfl, hb⟩; exact ⟨⟨_, by rw [hn], fun k => by rw [hn] at k; cases k⟩, hb⟩)

theorem rOne (L : Ltr) : RoAt L := by
  intro d x AL AK cL cK w hf hsl hl hs
  have n0 := hf.1
  have n1 := hf.2.1
  have uu := hf.2.2.2.2.1
  by_cases qK : x.ks.length = 0
  case neg => exact ro_no (no_of (p := x.ks = []) (fun h => qK (by rw [h]; rfl)) only_ks) (roK L.code x.n x.s x.l.length x.ks.length AL AK cL cK w (by omega))
  have eK : x.ks = [] := List.eq_nil_of_length_eq_zero qK
  rw [qK]
  by_cases hT : L = .t
  · subst hT
    by_cases qL : x.l.length = 0
    case neg => exact ro_no (no_of (p := x.l = []) (fun h => qL (by rw [h]; rfl)) (only_l (by decide))) (roLt x.n x.s x.l.length AL AK cL cK w (by omega))
    have eL : x.l = [] := List.eq_nil_of_length_eq_zero qL
    rw [qL]
    by_cases qN : x.n = 0
    case neg => exact ro_no (no_of (p := x.n = 0) qN only_nt) (roNt x.n x.s AL AK cL cK w qN)
    rw [qN]
    have O : only .t x = decide ((x.s.size : Int) ≤ 200) := by
      rw [only_of (L := .t) (x := x) ((blank_iff (strip .t x)).2 ⟨qN, rfl, eL, eK⟩)]
      show decide (x.s.size ≤ 200) = _
      rw [decide_eq_decide]; omega
    refine (roT x.s AL AK cL cK w hs).mono ?_
    rintro e w' ⟨rfl, hb⟩
    exact ⟨⟨strOfNums (leb x.s.size) ++ x.s, by rw [O], fun _ => by show _ = strOfNums (leb x.s.size ++ nums x.s); rw [strOf_app, strOf_nums]⟩, hb⟩
  by_cases qS : x.s.size = 0
  case neg => exact ro_no (no_of (p := x.s = ⟨#[]⟩) (fun h => qS (by rw [h]; rfl)) (only_s hT)) (roS L.code x.n x.s x.l.length AL AK cL cK w (by cases L <;> first | rfl | exact absurd rfl hT) qS)
  have eS := empty_of qS
  rw [eS]
  by_cases hLl : L = .l
  · subst hLl
    by_cases qN : x.n = 0
    case neg => exact ro_no (no_of (p := x.n = 0) qN only_nl) (roNl x.n x.l.length AL AK cL cK w qN)
    rw [qN]
    have O : only .l x = La.right x.l := only_of (L := .l) (x := x) ((blank_iff (strip .l x)).2 ⟨qN, eS, rfl, eK⟩)
    refine (roLs x.l AL AK cL cK w hsl hl uu).mono ?_
    rintro e w' ⟨rfl, hb⟩
    exact ⟨⟨packS x.l, by rw [O], fun _ => rfl⟩, hb⟩
  by_cases qL : x.l.length = 0
  case neg => exact ro_no (no_of (p := x.l = []) (fun h => qL (by rw [h]; rfl)) (only_l hLl)) (roL L.code x.n x.l.length AL AK cL cK w (by cases L <;> first | rfl | exact absurd rfl hT) (by cases L <;> first | rfl | exact absurd rfl hLl) (by omega))
  have eL : x.l = [] := List.eq_nil_of_length_eq_zero qL
  rw [qL]
  cases L with
  | t => exact absurd rfl hT
  | l => exact absurd rfl hLl
  | b =>
    have O : only .b x = decide (x.n < 256) := by
      rw [only_of (L := .b) (x := x) ((blank_iff (strip .b x)).2 ⟨rfl, eS, eL, eK⟩)]
      show decide (x.n ≤ 255) = _
      rw [decide_eq_decide]; omega
    refine (roB x.n AL AK cL cK w).mono ?_
    rintro e w' ⟨rfl, hb⟩
    exact ⟨⟨strOfNums [x.n % 256], by rw [O], fun _ => rfl⟩, hb⟩
  | n =>
    have O : only .n x = true := only_of (L := .n) (x := x) ((blank_iff (strip .n x)).2 ⟨rfl, eS, eL, eK⟩)
    obtain ⟨N, hN⟩ : ∃ N : Nat, x.n = N := ⟨x.n.toNat, by omega⟩
    have EN : enc1 .n x = leb N := by show leb x.n.toNat = leb N; rw [hN]; rfl
    rw [hN]
    refine (roN N AL AK cL cK w (by omega)).mono ?_
    rintro e w' ⟨rfl, hb⟩
    exact ⟨⟨strOfNums (leb N), by rw [O], fun _ => by rw [EN]⟩, hb⟩
  | f =>
    have O : only .f x = (((Fl.bitsOf x.n.toNat : Nat) : Int) == x.n) := by
      rw [only_of (L := .f) (x := x) ((blank_iff (strip .f x)).2 ⟨rfl, eS, eL, eK⟩)]
      show decide (((Fl.bitsOf (Fl.bitsOf x.n.toNat) : Nat) : Int) = x.n) = _
      rw [bitsOf_idem]; rfl
    refine (roF x.n AL AK cL cK w ⟨n0, n1⟩).mono ?_
    rintro e w' ⟨rfl, hb⟩
    refine ⟨⟨keyOf (Fl.place x.n.toNat), by rw [O], fun h => ?_⟩, hb⟩
    rw [O, beq_iff_eq] at h
    show keyOf _ = strOfNums (keyNums (Fl.place (Fl.bitsOf x.n.toNat)))
    rw [show Fl.bitsOf x.n.toNat = x.n.toNat by omega]; rfl

end Go.Proofs.Ytmcackghpkegbaa
