/- What the program's sector does with numbers: within, Right, Count, put, numberOf: walked. -/
import Derived.Test.YtjhmgkelmllnjaaS6o
import Derived.Laws.BitsLemmas
namespace Go.Proofs.Ytjhmgkelmllnjaa
open Go.RowKit

def strLen (v : Value) : Nat := match v with | .string T => T.size | _ => 0
def inB (n a b : Int) : Bool := decide (a ≤ n) && decide (n ≤ b)
/-- sector.within -/
theorem pWithin (n a b : Int) (w : World) : Calls Try.prog 13 #[.int .i64 n, .int .i64 a, .int .i64 b] w fun e w' => e = .returned (.bool (inB n a b)) ∧ w' = w := by
  unfold inB
  by_cases h : a ≤ n
  · have h1 : decide (a ≤ n) = true := decide_eq_true h
    go_enter Try.func13, Try.ntmps13
    go_wp2_with fail
    go_ret
    exact ⟨ret_bool (by simp [h]), rfl⟩
  · have h1 : decide (a ≤ n) = false := decide_eq_false h
    go_enter Try.func13, Try.ntmps13
    go_wp2_with fail
    go_ret
    exact ⟨ret_bool (by simp), rfl⟩

theorem ok_inB (x : Stp) : x.ok = (inB x.gen 1 2147483647 && inB x.index 0 127 && inB x.life 1 2147483647 && inB x.parts 1 128 && inB x.part 0 (x.parts - 1)) := by
  rw [Bool.eq_iff_iff, Stp.ok_iff]
  unfold inB
  simp only [Bool.and_eq_true, decide_eq_true_eq]
  omega

/-- sector.Count -/
theorem pCount (n : Int) (w : World) (h0 : -9223372036854775808 ≤ n) (h1 : n ≤ 9223372036854775807) : Calls Try.prog 7 #[.int .i64 n] w fun e w' => e = .returned (.int .i64 (cnt n)) ∧ w' = w := by
  by_cases hn : n < 0
  · have e : cnt n = 0 := by unfold cnt; rw [if_pos hn]
    rw [e]
    go_enter Try.func7, Try.ntmps7
    go_wp2_with fail
    go_ret
    exact ⟨rfl, rfl⟩
  by_cases hz : n = 0
  · subst hz
    go_enter Try.func7, Try.ntmps7
    go_wp2_with fail
    go_ret
    exact ⟨rfl, rfl⟩
  have e : cnt n = (n - 1) / 50 + 1 := by unfold cnt; rw [if_neg hn, if_neg hz]
  rw [e]
  go_enter Try.func7, Try.ntmps7
  go_wp2_with fail
  go_ret
  exact ⟨rfl, rfl⟩

set_option maxRecDepth 100000 in
set_option maxHeartbeats 1000000 in
/-- sector.Right -/
theorem pRight (x : Stp) (w : World) (hf : x.Fits) : Calls Try.prog 10 #[x.v] w fun e w' => e = .returned (.bool x.ok) ∧ Below w.heap.size w w' := by
  obtain ⟨o, ho⟩ : ∃ o, o = x.ok := ⟨_, rfl⟩
  have O := ok_inB x
  rw [← ho] at O ⊢
  clear ho
  obtain ⟨g, i, l, p, n⟩ := x
  show Calls Try.prog 10 #[.agg #[.int .i64 g, .int .i64 i, .int .i64 l, .int .i64 p, .int .i64 n]] w _
  simp only at O
  obtain ⟨_, _, _, _, n0, n1⟩ := hf
  simp only at n0 n1
  have B0 := Lib.hid ((Below.refl w.heap.size w).alloc (Nat.le_refl _) (.cells #[.int .i64 g, .int .i64 i, .int .i64 l, .int .i64 p, .int .i64 n] 31))
  have W1 := fun w => pWithin g 1 2147483647 w
  have W2 := fun w => pWithin i 0 127 w
  have W3 := fun w => pWithin l 1 2147483647 w
  have W4 := fun w => pWithin n 1 128 w
  have W5 := fun w => pWithin p 0 (n - 1) w
  obtain ⟨b1, h1⟩ : ∃ b, b = inB g 1 2147483647 := ⟨_, rfl⟩
  obtain ⟨b2, h2⟩ : ∃ b, b = inB i 0 127 := ⟨_, rfl⟩
  obtain ⟨b3, h3⟩ : ∃ b, b = inB l 1 2147483647 := ⟨_, rfl⟩
  obtain ⟨b4, h4⟩ : ∃ b, b = inB n 1 128 := ⟨_, rfl⟩
  obtain ⟨b5, h5⟩ : ∃ b, b = inB p 0 (n - 1) := ⟨_, rfl⟩
  rw [← h1] at W1 O
  rw [← h2] at W2 O
  rw [← h3] at W3 O
  rw [← h4] at W4 O
  rw [← h5] at W5 O
  replace W1 := Lib.hid W1
  replace W2 := Lib.hid W2
  replace W3 := Lib.hid W3
  replace W4 := Lib.hid W4
  replace W5 := Lib.hid W5
  have N : b4 = true → 1 ≤ n := by
    intro e; rw [e] at h4; unfold inB at h4
    have := h4.symm
    simp only [Bool.and_eq_true, decide_eq_true_eq] at this
    exact this.1
  clear h1 h2 h3 h5 h4
  go_enter Try.func10, Try.ntmps10
  go_wp2_with fail
  refine (W1.out _).mono ?_
  rintro e w1 ⟨rfl, rfl⟩
  cases b1 with
  | false =>
    have O' := Lib.hid O
    clear O
    go_wp2_with fail
    go_ret
    exact ⟨ret_bool (by rw [O'.out]; rfl), B0.out⟩
  | true =>
  go_wp2_with fail
  refine (W2.out _).mono ?_
  rintro e w1 ⟨rfl, rfl⟩
  cases b2 with
  | false =>
    have O' := Lib.hid O
    clear O
    go_wp2_with fail
    go_ret
    exact ⟨ret_bool (by rw [O'.out]; rfl), B0.out⟩
  | true =>
  go_wp2_with fail
  refine (W3.out _).mono ?_
  rintro e w1 ⟨rfl, rfl⟩
  cases b3 with
  | false =>
    have O' := Lib.hid O
    clear O
    go_wp2_with fail
    go_ret
    exact ⟨ret_bool (by rw [O'.out]; rfl), B0.out⟩
  | true =>
  go_wp2_with fail
  refine (W4.out _).mono ?_
  rintro e w1 ⟨rfl, rfl⟩
  cases b4 with
  | false =>
    have O' := Lib.hid O
    clear O
    go_wp2_with fail
    go_ret
    exact ⟨ret_bool (by rw [O'.out]; rfl), B0.out⟩
  | true =>
  have n2 : 1 ≤ n := N rfl
  have O' := Lib.hid O
  clear O N
  go_wp2_with fail
  refine (W5.out _).mono ?_
  rintro e w1 ⟨rfl, rfl⟩
  go_wp2_with fail
  go_ret
  exact ⟨ret_bool (by rw [O'.out]; rfl), B0.out⟩

/-- the k bytes from o on are n's, the highest first -/
def putF (f : Nat → Int) (o k : Nat) (n : Int) (j : Nat) : Int := if o ≤ j ∧ j < o + k then n / (256 : Int) ^ (o + k - 1 - j) % 256 else f j
/-- behind the last r of them -/
def putR (f : Nat → Int) (o k r : Nat) (n : Int) (j : Nat) : Int := if o + (k - r) ≤ j ∧ j < o + k then n / (256 : Int) ^ (o + k - 1 - j) % 256 else f j
theorem div_pow (n : Int) (r : Nat) : n / (256 : Int) ^ r / 256 = n / (256 : Int) ^ (r + 1) := by
  have p : (0 : Int) < (256 : Int) ^ r := Int.pow_pos (by decide)
  rw [Int.pow_succ, Int.ediv_ediv, if_neg (by omega), Int.sub_zero]
theorem putR_step (f : Nat → Int) (o k r : Nat) (n : Int) (hr : r < k) (j : Nat) : upd (putR f o k r n) (o + (k - 1 - r)) (n / (256 : Int) ^ r % 256) j = putR f o k (r + 1) n j := by
  unfold upd putR
  by_cases e : j = o + (k - 1 - r)
  · subst e
    rw [if_pos rfl, if_pos (by omega), show o + k - 1 - (o + (k - 1 - r)) = r by omega]
  · rw [if_neg e]
    by_cases h : o + (k - r) ≤ j ∧ j < o + k
    · rw [if_pos h, if_pos (by omega)]
    · rw [if_neg h, if_neg (by omega)]
theorem putR_all (f : Nat → Int) (o k : Nat) (n : Int) (j : Nat) : putR f o k k n j = putF f o k n j := by
  unfold putR putF; rw [Nat.sub_self, Nat.add_zero]
theorem putR_none (f : Nat → Int) (o k : Nat) (n : Int) (j : Nat) : putR f o k 0 n j = f j := by
  unfold putR; rw [if_neg (by omega)]
theorem div_fits (n : Int) (r : Nat) (h0 : 0 ≤ n) (h1 : n ≤ 9223372036854775807) : 0 ≤ n / (256 : Int) ^ r ∧ n / (256 : Int) ^ r ≤ 9223372036854775807 := by
  have p : (0 : Int) < (256 : Int) ^ r := Int.pow_pos (by decide)
  refine ⟨Int.ediv_nonneg h0 (Int.le_of_lt p), ?_⟩
  have := Int.ediv_le_self ((256 : Int) ^ r) h0
  omega

set_option maxRecDepth 100000 in
set_option maxHeartbeats 1000000 in
/-- sector.put -/
theorem pPut (w : World) (g o k c : Nat) (n : Int) (f : Nat → Int) (hR : RowF w g f) (hk : o + k ≤ 64) (h0 : 0 ≤ n) (h1 : n ≤ 9223372036854775807) :
    Calls Try.prog 11 #[.slice (some ⟨g, o, none⟩) k c, .int .i64 n] w fun e w' => e = .returned (.tuple #[]) ∧ RowF w' g (putF f o k n) ∧ Below g w w' := by
  have B0 := Lib.hid (Below.refl g w)
  go_enter Try.func11, Try.ntmps11
  go_wp2_with fail
  go_loopw [1, 4] (fun vn vi wr => ∃ (r : Nat) (a z : Int), r ≤ k ∧ vi = .int .i64 z ∧ z = (k : Int) - 1 - r ∧ vn = .int .i64 a ∧ 0 ≤ a ∧ a ≤ 9223372036854775807 ∧ Hid (a = n / (256 : Int) ^ r) ∧ Hid (RowF wr g (putR f o k r n)) ∧ Hid (Below g w wr)) (fun _ vi _ => (intOf vi + 1).toNat)
  case atStart => exact ⟨0, n, _, by omega, rfl, by omega, rfl, h0, h1, Lib.hid (by simp), Lib.hid (hR.congr fun j _ => (putR_none f o k n j).symm), B0⟩
  case round =>
    obtain ⟨r, a, z, rk, rfl, hz, rfl, a0, a1, HA, HR, HW⟩ := hrel
    by_cases kk : r < k
    · obtain ⟨m, hm⟩ : ∃ m : Nat, m = k - 1 - r := ⟨_, rfl⟩
      obtain rfl : z = (m : Int) := by omega
      have c0 := HR.out.cell (j := o + m) (by omega)
      have f0 := RowF.frozen HR.out (o + m)
      have DA := Lib.hid (show a / 256 = n / (256 : Int) ^ (r + 1) by rw [HA.out, div_pow])
      have mk : m < k := by omega
      have HM := Lib.hid hm
      have HZ := Lib.hid hz
      have EU := Lib.hid (putR_step f o k r n kk)
      clear hz hm
      go_wp2_with fail
      go_roundw
      case rel =>
        refine ⟨r + 1, a / 256, _, by omega, rfl, by have := HZ.out; omega, rfl, by omega, by omega, DA, Lib.hid ((HR.out.set (o + m) _).congr fun j _ => ?_), Lib.hid (HW.out.setCell (Nat.le_refl _) _)⟩
        rw [HA.out, HM.out]; exact EU.out j
      case measure => simp [intOf]; try omega
    · obtain rfl : r = k := by omega
      obtain rfl : z = -1 := by omega
      go_wp2_with fail
      go_end0
      exact ⟨rfl, HR.out.congr fun j _ => putR_all f o r n j, HW.out⟩

theorem join64 (x y : Nat) (hx : x < 36028797018963968) (hy : y < 256) : bits .or .i64 ((x : Int) * 256) (y : Int) = (x : Int) * 256 + y :=
  bits_join .i64 63 (by decide) (fun n h0 h1 => by rw [IntKind.wrap_i64]; omega) 8 ((x : Int) * 256) y (by omega) (by omega) (by omega) (by omega) (by omega) (by omega)

end Go.Proofs.Ytjhmgkelmllnjaa
