/- The reference's Numbers; AggNil: walked. -/
import Derived.Test.YtoljhoabbaigdaaI1h
namespace Go.Proofs.Ytoljhoabbaigdaa
open Go.RowKit Ex Fl Ag Ieee
attribute [local go_sem] Oper.semAt_some

set_option maxRecDepth 100000 in
set_option maxHeartbeats 4000000 in
theorem rNumbers (l : List Ro) (A : Option Addr) (c : Nat) (w : World) (h : SlRo w A l) (hf : FitsRo l) (hl : l.length ≤ 1000) :
    Calls Try.prog 15 #[.slice A l.length c] w fun e w' => (∃ A' c', e = .returned (.slice A' (nums l).length c') ∧ SlF w' A' (nums l)) ∧ Below w.heap.size w w' := by
  obtain ⟨n, hn⟩ : ∃ n, n = l.length := ⟨_, rfl⟩
  have HN := Lib.hid hn
  have HS := Lib.hid h
  have HF := Lib.hid hf
  have hl' : n ≤ 1000 := by omega
  rw [← hn]
  clear hn h hf hl
  go_enter Try.func15, Try.ntmps15
  go_wp2_with fail
  have O0 := Lib.hid (OwnF.made w w.heap.size (Nat.le_refl _) [] (by decide))
  have B0 := Lib.hid ((Below.refl w.heap.size w).alloc (Nat.le_refl _) (.cells #[] 36))
  go_loopw [3, 4] (fun vl vi wr => ∃ i : Nat, i ≤ n ∧ vi = .int .i64 i ∧ Hid (OwnF wr w.heap.size vl (nums (l.take i))) ∧ Hid (Below w.heap.size w wr)) (fun _ vi _ => n - (intOf vi).toNat)
  case atStart => exact ⟨0, Nat.zero_le _, rfl, O0, B0⟩
  case round =>
    obtain ⟨i, hi, rfl, HO, HB⟩ := hrel
    by_cases q : i < n
    · obtain ⟨b, o, rfl, hb, k0, k1, k2, k3, k4⟩ := (HS.out.below HB.out).at (j := i) (by rw [← HN.out]; exact q)
      have FX := HF.out.get (i := i) (by rw [← HN.out]; exact q)
      have NL := nums_len (l.take i)
      have NS := nums_snoc (l.take i) (l.getD i Ro.Z)
      rw [← takeRo (by rw [← HN.out]; exact q)] at NS
      have S5 := HS.out.below HB.out
      obtain ⟨x, hx⟩ : ∃ x, x = l.getD i Ro.Z := ⟨_, rfl⟩
      rw [← hx] at k0 k1 k2 k3 k4 FX NS
      have KK := Lib.hid (fun W (hw : Below wr.heap.size wr W) => show W.cell? ⟨b, o + i * 5 + 4, none⟩ = some (.int .u64 (x.val.bits : Int)) from (hw.cell (p := ⟨b, o + i * 5 + 4, none⟩) hb).trans k4)
      obtain ⟨rm, ky, ⟨nu, tx, bt⟩⟩ := x
      simp only at k0 k1 k2 k3 k4 FX KK
      have VR := Lib.hid (vrRight ⟨nu, tx, bt⟩ wr FX)
      have LL := Lib.hid (show (nums (l.take i)).length ≤ 1000 by rw [List.length_take] at NL; omega)
      have i5 : (0 : Int) ≤ (i : Int) := by omega
      have i6 : (i : Int) < (n : Int) := by omega
      cases nu with
      | false =>
        have NE := Lib.hid (show nums (l.take (i + 1)) = nums (l.take i) by rw [NS]; rfl)
        clear hb FX NS hx NL S5 k4 KK
        go_wp2_with fail
        go_roundw
        case rel => exact ⟨i + 1, by omega, by go_num, Lib.hid (by rw [NE.out]; exact HO.out), HB⟩
        case measure => simp [intOf]; omega
      | true =>
        cases hq : (⟨true, tx, bt⟩ : Val).ok with
        | false =>
          have NE := Lib.hid (show nums (l.take (i + 1)) = nums (l.take i) by rw [NS]; unfold isNum; simp only [hq]; rfl)
          rw [hq] at VR
          clear hb FX NS hx NL S5 KK hq
          go_wp2_with fail
          refine VR.out.mono ?_
          rintro e w5 ⟨rfl, hb5⟩
          have O5 := Lib.hid (HO.out.below hb5)
          have B5 := Lib.hid (below_then HB.out hb5)
          clear hb5
          go_wp2_with fail
          go_roundw
          case rel => exact ⟨i + 1, by omega, by go_num, Lib.hid (by rw [NE.out]; exact O5.out), B5⟩
          case measure => simp [intOf]; omega
        | true =>
          have NE := Lib.hid (show nums (l.take (i + 1)) = nums (l.take i) ++ [bt] by rw [NS]; unfold isNum; simp only [hq]; rfl)
          rw [hq] at VR
          clear hb FX NS hx NL S5 hq
          go_wp2_with fail
          refine VR.out.mono ?_
          rintro e w5 ⟨rfl, hb5⟩
          have O5 := Lib.hid (HO.out.below hb5)
          have B5 := Lib.hid (below_then HB.out hb5)
          have k5 := KK.out _ hb5
          have hsz := B5.out.size
          clear hb5
          go_wp2_with (at_builtin; refine wp_put1F rfl (.tmp 26) (.tmp 34) rfl w.heap.size _ _ rfl (O5.out.alloc _) _ bt rfl (cell_newF _ _ _) (by have := LL.out; omega) (by simp; omega) ?_; intro v3 w3 hown3 hb3; have HO3 := Lib.hid hown3; have HB3 := Lib.hid ((B5.out.alloc hsz _).trans hb3); clear hown3 hb3)
          go_roundw
          case rel => exact ⟨i + 1, by omega, by go_num, Lib.hid (by rw [NE.out]; exact HO3.out), HB3⟩
          case measure => simp [intOf]; omega
    · obtain rfl : i = n := by omega
      have own2 := HO.out
      rw [show l.take i = l from List.take_of_length_le (by rw [← HN.out]; exact Nat.le_refl _)] at own2
      obtain ⟨A3, c3, rfl, k3, s3, n3, _⟩ := own2.form
      have S3 := Lib.hid s3
      clear own2 s3 k3 n3
      go_wp2_with fail
      go_ret
      exact ⟨⟨A3, c3, rfl, S3.out⟩, HB.out⟩

set_option maxRecDepth 100000 in
theorem eqIn_tal (d : Nat) (w : World) (a b c e f a' b' c' e' f' : Int) :
    (Op.equalIn (d + 2) 28 (.agg #[.int .i64 a, .int .u64 b, .int .u64 c, .int .u64 e, .int .u64 f]) (.agg #[.int .i64 a', .int .u64 b', .int .u64 c', .int .u64 e', .int .u64 f'])).run Try.prog w =
      .ok ((a == a') && ((b == b') && ((c == c') && ((e == e') && (f == f'))))) w := by
  rw [run_equalIn_struct w (d + 1) 28 _ _ (by kernel_rfl) (by kernel_rfl)]
  simp [go_sem]
  by_cases h1 : a = a' <;> by_cases h2 : b = b' <;> by_cases h3 : c = c' <;> by_cases h4 : e = e' <;> by_cases h5 : f = f' <;> simp [h1, h2, h3, h4, h5]
/-- two tallies that are one -/
theorem eql_tal (a b c e f : Int) (w : World) : (binOp .eql 28 (.agg #[.int .i64 a, .int .u64 b, .int .u64 c, .int .u64 e, .int .u64 f]) (.agg #[.int .i64 a, .int .u64 b, .int .u64 c, .int .u64 e, .int .u64 f])).run Try.prog w = .ok (.bool true) w := by
  rw [run_eql_struct, eqIn_tal 9998]; simp
theorem neq_tal (a b c e f : Int) (w : World) : (binOp .neq 28 (.agg #[.int .i64 a, .int .u64 b, .int .u64 c, .int .u64 e, .int .u64 f]) (.agg #[.int .i64 a, .int .u64 b, .int .u64 c, .int .u64 e, .int .u64 f])).run Try.prog w = .ok (.bool false) w := by
  rw [run_neq_struct, eqIn_tal 9998]; simp

end Go.Proofs.Ytoljhoabbaigdaa
namespace Go.Proofs.Ytoljhoabbaigdaa.aggNil
open Go.Proofs.Ytoljhoabbaigdaa Go.Joins Go.ChangeShapes Go.WideShapes Go.ChangeAt Go.RowKit Ex Fl Ag Ieee
attribute [local go_sem] Oper.semAt_some

set_option maxRecDepth 100000 in
set_option maxHeartbeats 2000000 in
theorem walk (x : Nat) (w : World) : Calls Try.prog 6 #[.int .u64 (x : Int)] w fun e w' => e = .returned (.bool true) ∧ Below w.heap.size w w' := by
  have AW := Lib.hid (awake15 w)
  have XA := Lib.hid (xAddNil x)
  have XT := Lib.hid xTallyNil
  have TN := Lib.hid (show tal [] = .agg #[.int .i64 0, .int .u64 0, .int .u64 0, .int .u64 0, .int .u64 0] from rfl)
  have ET := eql_tal 0 0 0 0 0
  go_enter Try.func6, Try.ntmps6
  go_wp2_with fail
  refine AW.out.mono ?_
  rintro e w1 ⟨rfl, hb1⟩
  have B1 := Lib.hid hb1
  clear hb1
  go_wp2_with fail
  refine (XA.out _).mono ?_
  rintro e w2 ⟨rfl, hb2⟩
  have B2 := Lib.hid (below_then B1.out hb2)
  clear hb2
  go_wp2_with fail
  refine (XT.out _).mono ?_
  rintro e w3 ⟨rfl, hb3⟩
  have B3 := Lib.hid (below_then B2.out hb3)
  clear hb3
  rw [TN.out]
  go_wp2_with fail
  go_ret
  exact ⟨rfl, B3.out⟩

theorem walkI (x : Int) (h : 0 ≤ x) (w : World) : Calls Try.prog 6 #[.int .u64 x] w fun e w' => e = .returned (.bool true) ∧ Below w.heap.size w w' := by
  have := walk x.toNat w
  rwa [Int.toNat_of_nonneg h] at this

end Go.Proofs.Ytoljhoabbaigdaa.aggNil
