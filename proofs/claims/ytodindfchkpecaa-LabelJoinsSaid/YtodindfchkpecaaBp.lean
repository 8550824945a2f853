/- slices.breakPatternsOrdered and what it calls, at uint64, walked. -/
import Derived.Test.YtodindfchkpecaaCh
import Derived.Deep.Cut
import Derived.Deep.CutRange
import Derived.Deep.CutBlock
import Derived.Deep.DeepCutAuto
import Derived.Lib.BitFns
import Derived.Lib.Tables
import Derived.Lib.Strings
import Derived.Lib.Slices
import Derived.Lib.Small
import Derived.Lib.Walk
import Derived.Laws.Bits64
import Derived.Laws.Bits64b
namespace Go.Proofs.Ytodindfchkpecaa
open Go.RowKit Go.Sort

theorem Ct.swap {w0 w : World} {g s : Nat} {Z : List Value} {d : Array Int} {T : TypeId} {v : Value} (h : Ct w0 w g Z d s T v) (i j : Nat) (hi : i < d.size) (hj : j < d.size) :
    Ct w0 ((w.setCell ⟨g, i, none⟩ (.int .u64 d[j]!)).setCell ⟨g, j, none⟩ (.int .u64 d[i]!)) g Z (swp d i j) s T v :=
  ⟨h.sw.swap i j hi hj, h.old, h.ne, by
    rw [Below.heap_setCell _ _ _ _ (fun e => h.ne e), Below.heap_setCell _ _ _ _ (fun e => h.ne e)]; exact h.row⟩

theorem bitLen_small : ∀ n : Fin 256, Lib.bitLen n.val ≤ 8 ∧ n.val < 2 ^ Lib.bitLen n.val ∧ (1 ≤ n.val → 2 ^ Lib.bitLen n.val ≤ 2 * n.val) := by decide +kernel

set_option maxRecDepth 1000000 in
/-- the table of bytes, as the program's text bears it, under its name -/
theorem tab_named : ({ data := (([0, 1, 2, 2, 3, 3, 3, 3, 4, 4, 4, 4, 4, 4, 4, 4, 5, 5, 5, 5, 5, 5, 5, 5, 5, 5, 5, 5, 5, 5, 5, 5, 6, 6, 6, 6, 6, 6, 6, 6, 6, 6, 6, 6, 6, 6, 6, 6, 6, 6, 6, 6, 6, 6, 6, 6, 6, 6, 6, 6, 6, 6, 6, 6].append [7, 7, 7, 7, 7, 7, 7, 7, 7, 7, 7, 7, 7, 7, 7, 7, 7, 7, 7, 7, 7, 7, 7, 7, 7, 7, 7, 7, 7, 7, 7, 7, 7, 7, 7, 7, 7, 7, 7, 7, 7, 7, 7, 7, 7, 7, 7, 7, 7, 7, 7, 7, 7, 7, 7, 7, 7, 7, 7, 7, 7, 7, 7, 7]).append ([8, 8, 8, 8, 8, 8, 8, 8, 8, 8, 8, 8, 8, 8, 8, 8, 8, 8, 8, 8, 8, 8, 8, 8, 8, 8, 8, 8, 8, 8, 8, 8, 8, 8, 8, 8, 8, 8, 8, 8, 8, 8, 8, 8, 8, 8, 8, 8, 8, 8, 8, 8, 8, 8, 8, 8, 8, 8, 8, 8, 8, 8, 8, 8].append [8, 8, 8, 8, 8, 8, 8, 8, 8, 8, 8, 8, 8, 8, 8, 8, 8, 8, 8, 8, 8, 8, 8, 8, 8, 8, 8, 8, 8, 8, 8, 8, 8, 8, 8, 8, 8, 8, 8, 8, 8, 8, 8, 8, 8, 8, 8, 8, 8, 8, 8, 8, 8, 8, 8, 8, 8, 8, 8, 8, 8, 8, 8, 8])).toArray } : ByteArray) = Lib.len8tab := by rfl

set_option maxHeartbeats 4000000 in
set_option maxRecDepth 1000000 in
/-- bits.Len64 of a number below 256 -/
theorem olen64 (n : Nat) (hn : n < 256) (w : World) :
    Calls Try.prog 62 #[.int .u64 (n : Int)] w fun e w' => e = .returned (.int .i64 (Lib.bitLen n : Nat)) ∧ w' = w := by
  have b8 := (bitLen_small ⟨n, hn⟩).1
  have e8 : Lib.len8 (n : Int) = (Lib.bitLen n : Nat) := by
    have := Lib.len8_of (n : Int) (by omega) (by omega)
    rwa [Int.toNat_natCast] at this
  generalize Lib.bitLen n = K at b8 e8 ⊢
  obtain ⟨x, hx⟩ : ∃ x : Int, (n : Int) = x := ⟨_, rfl⟩
  have h0 : 0 ≤ x := by omega
  have h1 : x ≤ 255 := by omega
  rw [hx] at e8 ⊢
  obtain ⟨y, hy⟩ : ∃ y : Int, ((K : Nat) : Int) = y := ⟨_, rfl⟩
  have y0 : 0 ≤ y := by omega
  have y1 : y ≤ 8 := by omega
  rw [hy] at e8 ⊢
  have RUN : ∀ w', (Instr.index 9 (.string Lib.len8tab) (.int .u8 x)).run Try.prog w' = .ok (.int .u8 y) w' := fun w' => by
    rw [Lib.run_index_len8tab w' 9 .u8 x (by kernel_rfl) h0 h1, e8]
  clear hn hx hy b8 e8
  have t1 : ¬ (4294967296 : Int) ≤ x := by omega
  have t2 : ¬ (65536 : Int) ≤ x := by omega
  have t3 : ¬ (256 : Int) ≤ x := by omega
  go_enter Try.func62, Try.ntmps62
  rw [tab_named]
  generalize Lib.len8tab = TAB at RUN ⊢
  go_wp2_with fail
  go_ret
  exact ⟨rfl, rfl⟩

set_option maxHeartbeats 1000000 in
set_option maxRecDepth 100000 in
/-- bits.Len of a number below 256 -/
theorem olen (n : Nat) (hn : n < 256) (w : World) :
    Calls Try.prog 48 #[.int .u64 (n : Int)] w fun e w' => e = .returned (.int .i64 (Lib.bitLen n : Nat)) ∧ w' = w := by
  have O := Lib.hid (olen64 n hn)
  generalize Lib.bitLen n = K at O ⊢
  go_enter Try.func48, Try.ntmps48
  go_wp2_with fail
  refine (O.out _).mono ?_
  rintro e w1 ⟨rfl, rfl⟩
  go_wp2_with fail
  go_ret
  exact ⟨rfl, rfl⟩

set_option maxHeartbeats 1000000 in
set_option maxRecDepth 100000 in
/-- slices.nextPowerOfTwo of a number below 256 -/
theorem onextpow (z : Int) (h0 : 1 ≤ z) (h1 : z < 256) (w : World) :
    Calls Try.prog 65 #[.int .i64 z] w fun e w' => ∃ M : Nat, e = .returned (.int .u64 (M : Int)) ∧ z < M ∧ (M : Int) ≤ 2 * z ∧ w' = w := by
  obtain ⟨n, rfl⟩ := Int.eq_ofNat_of_zero_le (show 0 ≤ z by omega)
  have hn : n < 256 := by omega
  have O := Lib.hid (olen n hn)
  obtain ⟨b8, m0, m1⟩ := bitLen_small ⟨n, hn⟩
  replace m1 := m1 (show 1 ≤ n by omega)
  simp only [] at b8 m0 m1
  generalize Lib.bitLen n = K at O b8 m0 m1
  have hp : IntKind.u64.wrap ((2 : Int) ^ K) = ((2 ^ K : Nat) : Int) := by
    rw [IntKind.wrap_u64, show ((2 : Int) ^ K) = ((2 ^ K : Nat) : Int) by push_cast; rfl]
    generalize (2 : Nat) ^ K = p at m0 m1
    omega
  have k62 : K ≤ 62 := by omega
  obtain ⟨M, hM⟩ : ∃ M, 2 ^ K = M := ⟨_, rfl⟩
  rw [hM] at hp m0 m1
  have MM := Lib.hid (show (n : Int) < M ∧ (M : Int) ≤ 2 * n from ⟨by omega, by omega⟩)
  clear hM m0 m1
  go_enter Try.func65, Try.ntmps65
  go_wp2_with fail
  refine (O.out _).mono ?_
  rintro e w1 ⟨rfl, rfl⟩
  go_wp2_with fail
  go_ret
  exact ⟨M, rfl, MM.out.1, MM.out.2, rfl⟩

set_option maxHeartbeats 1000000 in
set_option maxRecDepth 100000 in
/-- (*slices.xorshift).Next -/
theorem onext (g : Nat) (Z : List Value) (d : Array Int) (s X : Nat) (T : TypeId) (w0 w : World) (h : Ct w0 w g Z d s T (.int .u64 (X : Int))) (hX : X < 18446744073709551616) :
    Calls Try.prog 66 #[.pointer (some ⟨s, 0, none⟩)] w fun e w' => ∃ x : Nat, e = .returned (.int .u64 (x : Int)) ∧ x < 18446744073709551616 ∧ Ct w0 w' g Z d s T (.int .u64 (x : Int)) := by
  obtain ⟨A, hA⟩ : ∃ A : Nat, A = X ^^^ (X * 8192 % 18446744073709551616) := ⟨_, rfl⟩
  obtain ⟨B, hB⟩ : ∃ B : Nat, B = A ^^^ (A / 128) := ⟨_, rfl⟩
  obtain ⟨C, hC⟩ : ∃ C : Nat, C = B ^^^ (B * 131072 % 18446744073709551616) := ⟨_, rfl⟩
  have lA : A < 18446744073709551616 := by rw [hA]; exact Nat.xor_lt_two_pow (n := 64) (by omega) (by omega)
  have lB : B < 18446744073709551616 := by rw [hB]; exact Nat.xor_lt_two_pow (n := 64) (by omega) (by omega)
  have lC : C < 18446744073709551616 := by rw [hC]; exact Nat.xor_lt_two_pow (n := 64) (by omega) (by omega)
  have e1 : bits .xor .u64 (X : Int) (IntKind.u64.wrap ((X : Int) * 8192)) = (A : Int) := by
    rw [IntKind.wrap_u64, show ((X : Int) * 8192 % 18446744073709551616) = ((X * 8192 % 18446744073709551616 : Nat) : Int) by omega, bits_xor_u64_nat _ _ hX (by omega), hA]
  have e2 : bits .xor .u64 (A : Int) ((A : Int) / 128) = (B : Int) := by
    rw [show ((A : Int) / 128) = ((A / 128 : Nat) : Int) by omega, bits_xor_u64_nat _ _ lA (by omega), hB]
  have e3 : bits .xor .u64 (B : Int) (IntKind.u64.wrap ((B : Int) * 131072)) = (C : Int) := by
    rw [IntKind.wrap_u64, show ((B : Int) * 131072 % 18446744073709551616) = ((B * 131072 % 18446744073709551616 : Nat) : Int) by omega, bits_xor_u64_nat _ _ lB (by omega), hC]
  have cs := h.cell
  have fs := h.frozen
  have H := Lib.hid h
  clear hA hB hC h
  go_enter Try.func66, Try.ntmps66
  go_wp2_with fail
  go_region
  have H1 := Lib.hid (H.out.set (.int .u64 (A : Int))).drew
  generalize (w.setCell ⟨s, 0, none⟩ (.int .u64 (A : Int))).drew = w1 at H1 ⊢
  clear cs fs H
  have cs := H1.out.cell
  have fs := H1.out.frozen
  go_wp2_with fail
  go_region
  have H2 := Lib.hid (H1.out.set (.int .u64 (B : Int))).drew
  generalize (w1.setCell ⟨s, 0, none⟩ (.int .u64 (B : Int))).drew = w2 at H2 ⊢
  clear cs fs H1
  have cs := H2.out.cell
  have fs := H2.out.frozen
  go_wp2_with fail
  go_region
  have H3 := Lib.hid (H2.out.set (.int .u64 (C : Int))).drew
  generalize (w2.setCell ⟨s, 0, none⟩ (.int .u64 (C : Int))).drew = w3 at H3 ⊢
  clear cs fs H2
  have cs := H3.out.cell
  have fs := H3.out.frozen
  go_wp2_with fail
  go_ret
  exact ⟨C, rfl, lC, H3.out⟩

end Go.Proofs.Ytodindfchkpecaa
