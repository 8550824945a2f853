/- Proved parts: S6o S6a S7l. Conditions: each theorem's own. -/
import Derived.Test.YtfodclafkdkjbaaDoorM8
import Derived.Test.YtfodclafkdkjbaaDoorM9
import Derived.Test.YtfodclafkdkjbaaDoorM10
import Derived.Laws.BitsLemmas
import Derived.Test.YtfodclafkdkjbaaDoorM6
namespace Go.Proofs.YtfodclafkdkjbaaDoor
open Go.RowKit

def Stp.Fits (x : Stp) : Prop := (-9223372036854775808 ≤ x.gen ∧ x.gen ≤ 9223372036854775807) ∧ (-9223372036854775808 ≤ x.index ∧ x.index ≤ 9223372036854775807) ∧ (-9223372036854775808 ≤ x.life ∧ x.life ≤ 9223372036854775807) ∧ (-9223372036854775808 ≤ x.part ∧ x.part ≤ 9223372036854775807) ∧ (-9223372036854775808 ≤ x.parts ∧ x.parts ≤ 9223372036854775807)
theorem Stp.fits_ok {x : Stp} (h : x.ok = true) : x.Fits := by
  have := (Stp.ok_iff x).1 h
  unfold Stp.Fits; omega
/-- what the program's sector does -/
structure SecAt : Prop where
  right : ∀ (x : Stp) (w : World), x.Fits → Calls Tryd.prog 66 #[x.v] w fun e w' => e = .returned (.bool x.ok) ∧ Below w.heap.size w w'
  pack : ∀ (x : Stp) (d : ByteArray) (w : World), x.Fits → d.size ≤ 1000 → Calls Tryd.prog 61 #[x.v, .string d] w fun e w' => e = .returned (.tuple #[.string (if x.ok && decide (d.size ≤ 50) then pack6 x d else ⟨#[]⟩), .int .i64 (if x.ok then (if d.size ≤ 50 then 0 else 5) else 1)]) ∧ Below w.heap.size w w'
  unpack : ∀ (s : ByteArray) (w : World), s.size ≤ 1000 → Calls Tryd.prog 56 #[.string s] w fun e w' => e = .returned (.tuple #[(if isSec s then stp s else Stp.S0).v, .string (if isSec s then dat s else ⟨#[]⟩), .int .i64 (if isSec s then 0 else 4)]) ∧ Below w.heap.size w w'
  count : ∀ (n : Int) (w : World), -9223372036854775808 ≤ n → n ≤ 9223372036854775807 → Calls Tryd.prog 33 #[.int .i64 n] w fun e w' => e = .returned (.int .i64 (cnt n)) ∧ Below w.heap.size w w'

section
open Go.Joins Go.ChangeShapes Go.WideShapes Go.ChangeAt
set_option maxRecDepth 100000 in
/-- a stamp that came in -/
theorem open_stamp {H : Type} {enc : TypeId × Value → H} {W : World} {base : Nat} {v : Value} {d : DataW H} {p : List MemPlace} (hval : Value.okWide Tryd.prog W .any base 110 v)
    (h : DataW.Trod enc Tryd.prog W 0 (fun _ => true) true 110 v d p) : ∃ x : Stp, v = x.v ∧ x.Fits ∧ p = [] := by
  obtain ⟨v0, v1, v2, v3, v4, y0, y1, y2, y3, y4, n, rfl, hp, f0, f1, f2, f3, f4⟩ := agg5v Tryd.underlying110 (by kernel_rfl) (by kernel_rfl) hval h
  obtain ⟨n0, e0, q0, w0⟩ := DataW.trod_int Tryd.underlying3 f0
  obtain ⟨n1, e1, q1, w1⟩ := DataW.trod_int Tryd.underlying3 f1
  obtain ⟨n2, e2, q2, w2⟩ := DataW.trod_int Tryd.underlying3 f2
  obtain ⟨n3, e3, q3, w3⟩ := DataW.trod_int Tryd.underlying3 f3
  obtain ⟨n4, e4, q4, w4⟩ := DataW.trod_int Tryd.underlying3 f4
  simp at e0 e1 e2 e3 e4
  subst e0; subst e1; subst e2; subst e3; subst e4
  refine ⟨⟨n0, n1, n2, n3, n4⟩, rfl, ⟨bounds_i64 w0, bounds_i64 w1, bounds_i64 w2, bounds_i64 w3, bounds_i64 w4⟩, ?_⟩
  rw [hp, q0, q1, q2, q3, q4]; rfl
end

end Go.Proofs.YtfodclafkdkjbaaDoor

namespace Go.Proofs.YtfodclafkdkjbaaDoor
open Go.RowKit

def strLen (v : Value) : Nat := match v with | .string T => T.size | _ => 0
def inB (n a b : Int) : Bool := decide (a ≤ n) && decide (n ≤ b)
/-- sector.within -/
theorem pWithin (n a b : Int) (w : World) : Calls Tryd.prog 73 #[.int .i64 n, .int .i64 a, .int .i64 b] w fun e w' => e = .returned (.bool (inB n a b)) ∧ w' = w := by
  unfold inB
  by_cases h : a ≤ n
  · have h1 : decide (a ≤ n) = true := decide_eq_true h
    go_enter Tryd.func73, Tryd.ntmps73
    go_wp2_with fail
    go_ret
    exact ⟨ret_bool (by simp [h]), rfl⟩
  · have h1 : decide (a ≤ n) = false := decide_eq_false h
    go_enter Tryd.func73, Tryd.ntmps73
    go_wp2_with fail
    go_ret
    exact ⟨ret_bool (by simp), rfl⟩

theorem ok_inB (x : Stp) : x.ok = (inB x.gen 1 2147483647 && inB x.index 0 127 && inB x.life 1 2147483647 && inB x.parts 1 128 && inB x.part 0 (x.parts - 1)) := by
  rw [Bool.eq_iff_iff, Stp.ok_iff]
  unfold inB
  simp only [Bool.and_eq_true, decide_eq_true_eq]
  omega

/-- sector.Count -/
theorem pCount (n : Int) (w : World) (h0 : -9223372036854775808 ≤ n) (h1 : n ≤ 9223372036854775807) : Calls Tryd.prog 33 #[.int .i64 n] w fun e w' => e = .returned (.int .i64 (cnt n)) ∧ w' = w := by
  by_cases hn : n < 0
  · have e : cnt n = 0 := by unfold cnt; rw [if_pos hn]
    rw [e]
    go_enter Tryd.func33, Tryd.ntmps33
    go_wp2_with fail
    go_ret
    exact ⟨rfl, rfl⟩
  by_cases hz : n = 0
  · subst hz
    go_enter Tryd.func33, Tryd.ntmps33
    go_wp2_with fail
    go_ret
    exact ⟨rfl, rfl⟩
  have e : cnt n = (n - 1) / 50 + 1 := by unfold cnt; rw [if_neg hn, if_neg hz]
  rw [e]
  go_enter Tryd.func33, Tryd.ntmps33
  go_wp2_with fail
  go_ret
  exact ⟨rfl, rfl⟩

set_option maxRecDepth 100000 in
set_option maxHeartbeats 1000000 in
/-- sector.Right -/
theorem pRight (x : Stp) (w : World) (hf : x.Fits) : Calls Tryd.prog 66 #[x.v] w fun e w' => e = .returned (.bool x.ok) ∧ Below w.heap.size w w' := by
  obtain ⟨o, ho⟩ : ∃ o, o = x.ok := ⟨_, rfl⟩
  have O := ok_inB x
  rw [← ho] at O ⊢
  clear ho
  obtain ⟨g, i, l, p, n⟩ := x
  show Calls Tryd.prog 66 #[.agg #[.int .i64 g, .int .i64 i, .int .i64 l, .int .i64 p, .int .i64 n]] w _
  simp only at O
  obtain ⟨_, _, _, _, n0, n1⟩ := hf
  simp only at n0 n1
  have B0 := Lib.hid ((Below.refl w.heap.size w).alloc (Nat.le_refl _) (.cells #[.int .i64 g, .int .i64 i, .int .i64 l, .int .i64 p, .int .i64 n] 110))
  have W1 := fun w => pWithin g 1 2147483647 w
  have W2 := fun w => pWithin i 0 127 w
  have W3 := fun w => pWithin l 1 2147483647 w
  have W4 := fun w => pWithin n 1 128 w
  have W5 := fun w => pWithin p 0 (n - 1) w
  obtain ⟨b1, h1⟩ : ∃ b, b = inB g 1 2147483647 := ⟨_, rfl⟩
  obtain ⟨b2, h2⟩ : ∃ b, b = inB i 0 127 := ⟨_, rfl⟩
  obtain ⟨b3, h3⟩ : ∃ b, b = inB l 1 2147483647 := ⟨_, rfl⟩
  obtain ⟨b4, h4⟩ : ∃ b, b = inB n 1 128 := ⟨_, rfl⟩
  obtain ⟨b5, h5⟩ : ∃ b, b = inB p 0 (n - 1) := ⟨_, rfl⟩
  rw [← h1] at W1 O
  rw [← h2] at W2 O
  rw [← h3] at W3 O
  rw [← h4] at W4 O
  rw [← h5] at W5 O
  replace W1 := Lib.hid W1
  replace W2 := Lib.hid W2
  replace W3 := Lib.hid W3
  replace W4 := Lib.hid W4
  replace W5 := Lib.hid W5
  have N : b4 = true → 1 ≤ n := by
    intro e; rw [e] at h4; unfold inB at h4
    have := h4.symm
    simp only [Bool.and_eq_true, decide_eq_true_eq] at this
    exact this.1
  clear h1 h2 h3 h5 h4
  go_enter Tryd.func66, Tryd.ntmps66
  go_wp2_with fail
  refine (W1.out _).mono ?_
  rintro e w1 ⟨rfl, rfl⟩
  cases b1 with
  | false =>
    have O' := Lib.hid O
    clear O
    go_wp2_with fail
    go_ret
    exact ⟨ret_bool (by rw [O'.out]; rfl), B0.out⟩
  | true =>
  go_wp2_with fail
  refine (W2.out _).mono ?_
  rintro e w1 ⟨rfl, rfl⟩
  cases b2 with
  | false =>
    have O' := Lib.hid O
    clear O
    go_wp2_with fail
    go_ret
    exact ⟨ret_bool (by rw [O'.out]; rfl), B0.out⟩
  | true =>
  go_wp2_with fail
  refine (W3.out _).mono ?_
  rintro e w1 ⟨rfl, rfl⟩
  cases b3 with
  | false =>
    have O' := Lib.hid O
    clear O
    go_wp2_with fail
    go_ret
    exact ⟨ret_bool (by rw [O'.out]; rfl), B0.out⟩
  | true =>
  go_wp2_with fail
  refine (W4.out _).mono ?_
  rintro e w1 ⟨rfl, rfl⟩
  cases b4 with
  | false =>
    have O' := Lib.hid O
    clear O
    go_wp2_with fail
    go_ret
    exact ⟨ret_bool (by rw [O'.out]; rfl), B0.out⟩
  | true =>
  have n2 : 1 ≤ n := N rfl
  have O' := Lib.hid O
  clear O N
  go_wp2_with fail
  refine (W5.out _).mono ?_
  rintro e w1 ⟨rfl, rfl⟩
  go_wp2_with fail
  go_ret
  exact ⟨ret_bool (by rw [O'.out]; rfl), B0.out⟩

/-- the k bytes from o on are n's, the highest first -/
def putF (f : Nat → Int) (o k : Nat) (n : Int) (j : Nat) : Int := if o ≤ j ∧ j < o + k then n / (256 : Int) ^ (o + k - 1 - j) % 256 else f j
/-- behind the last r of them -/
def putR (f : Nat → Int) (o k r : Nat) (n : Int) (j : Nat) : Int := if o + (k - r) ≤ j ∧ j < o + k then n / (256 : Int) ^ (o + k - 1 - j) % 256 else f j
theorem div_pow (n : Int) (r : Nat) : n / (256 : Int) ^ r / 256 = n / (256 : Int) ^ (r + 1) := by
  have p : (0 : Int) < (256 : Int) ^ r := Int.pow_pos (by decide)
  rw [Int.pow_succ, Int.ediv_ediv, if_neg (by omega), Int.sub_zero]
theorem putR_step (f : Nat → Int) (o k r : Nat) (n : Int) (hr : r < k) (j : Nat) : upd (putR f o k r n) (o + (k - 1 - r)) (n / (256 : Int) ^ r % 256) j = putR f o k (r + 1) n j := by
  unfold upd putR
  by_cases e : j = o + (k - 1 - r)
  · subst e
    rw [if_pos rfl, if_pos (by omega), show o + k - 1 - (o + (k - 1 - r)) = r by omega]
  · rw [if_neg e]
    by_cases h : o + (k - r) ≤ j ∧ j < o + k
    · rw [if_pos h, if_pos (by omega)]
    · rw [if_neg h, if_neg (by omega)]
theorem putR_all (f : Nat → Int) (o k : Nat) (n : Int) (j : Nat) : putR f o k k n j = putF f o k n j := by
  unfold putR putF; rw [Nat.sub_self, Nat.add_zero]
theorem putR_none (f : Nat → Int) (o k : Nat) (n : Int) (j : Nat) : putR f o k 0 n j = f j := by
  unfold putR; rw [if_neg (by omega)]
theorem div_fits (n : Int) (r : Nat) (h0 : 0 ≤ n) (h1 : n ≤ 9223372036854775807) : 0 ≤ n / (256 : Int) ^ r ∧ n / (256 : Int) ^ r ≤ 9223372036854775807 := by
  have p : (0 : Int) < (256 : Int) ^ r := Int.pow_pos (by decide)
  refine ⟨Int.ediv_nonneg h0 (Int.le_of_lt p), ?_⟩
  have := Int.ediv_le_self ((256 : Int) ^ r) h0
  omega

set_option maxRecDepth 100000 in
set_option maxHeartbeats 1000000 in
/-- sector.put -/
theorem pPut (w : World) (g o k c : Nat) (n : Int) (f : Nat → Int) (hR : RowF w g f) (hk : o + k ≤ 64) (h0 : 0 ≤ n) (h1 : n ≤ 9223372036854775807) :
    Calls Tryd.prog 71 #[.slice (some ⟨g, o, none⟩) k c, .int .i64 n] w fun e w' => e = .returned (.tuple #[]) ∧ RowF w' g (putF f o k n) ∧ Below g w w' := by
  have B0 := Lib.hid (Below.refl g w)
  go_enter Tryd.func71, Tryd.ntmps71
  go_wp2_with fail
  go_loopw [1, 4] (fun vn vi wr => ∃ (r : Nat) (a z : Int), r ≤ k ∧ vi = .int .i64 z ∧ z = (k : Int) - 1 - r ∧ vn = .int .i64 a ∧ 0 ≤ a ∧ a ≤ 9223372036854775807 ∧ Hid (a = n / (256 : Int) ^ r) ∧ Hid (RowF wr g (putR f o k r n)) ∧ Hid (Below g w wr)) (fun _ vi _ => (intOf vi + 1).toNat)
  case atStart => exact ⟨0, n, _, by omega, rfl, by omega, rfl, h0, h1, Lib.hid (by simp), Lib.hid (hR.congr fun j _ => (putR_none f o k n j).symm), B0⟩
  case round =>
    obtain ⟨r, a, z, rk, rfl, hz, rfl, a0, a1, HA, HR, HW⟩ := hrel
    by_cases kk : r < k
    · obtain ⟨m, hm⟩ : ∃ m : Nat, m = k - 1 - r := ⟨_, rfl⟩
      obtain rfl : z = (m : Int) := by omega
      have c0 := HR.out.cell (j := o + m) (by omega)
      have f0 := RowF.frozen HR.out (o + m)
      have DA := Lib.hid (show a / 256 = n / (256 : Int) ^ (r + 1) by rw [HA.out, div_pow])
      have mk : m < k := by omega
      have HM := Lib.hid hm
      have HZ := Lib.hid hz
      have EU := Lib.hid (putR_step f o k r n kk)
      clear hz hm
      go_wp2_with fail
      go_roundw
      case rel =>
        refine ⟨r + 1, a / 256, _, by omega, rfl, by have := HZ.out; omega, rfl, by omega, by omega, DA, Lib.hid ((HR.out.set (o + m) _).congr fun j _ => ?_), Lib.hid (HW.out.setCell (Nat.le_refl _) _)⟩
        rw [HA.out, HM.out]; exact EU.out j
      case measure => simp [intOf]; try omega
    · obtain rfl : r = k := by omega
      obtain rfl : z = -1 := by omega
      go_wp2_with fail
      go_end0
      exact ⟨rfl, HR.out.congr fun j _ => putR_all f o r n j, HW.out⟩

theorem join64 (x y : Nat) (hx : x < 36028797018963968) (hy : y < 256) : bits .or .i64 ((x : Int) * 256) (y : Int) = (x : Int) * 256 + y :=
  bits_join .i64 63 (by decide) (fun n h0 h1 => by rw [IntKind.wrap_i64]; omega) 8 ((x : Int) * 256) y (by omega) (by omega) (by omega) (by omega) (by omega) (by omega)

set_option maxRecDepth 100000 in
set_option maxHeartbeats 1000000 in
/-- sector.numberOf -/
theorem pNumber (s : ByteArray) (w : World) (h : s.size ≤ 4) : Calls Tryd.prog 65 #[.string s] w fun e w' => e = .returned (.int .i64 (gk s 0 s.size)) ∧ w' = w := by
  go_enter Tryd.func65, Tryd.ntmps65
  go_wp2_with fail
  go_loop [3, 7] (fun vn vi => ∃ k : Nat, k ≤ s.size ∧ vi = .int .i64 k ∧ vn = .int .i64 (gk s 0 k)) (fun _ vi => s.size - (intOf vi).toNat)
  case atStart => exact ⟨0, Nat.zero_le _, rfl, rfl⟩
  case round =>
    obtain ⟨k, hk, rfl, rfl⟩ := hrel
    by_cases kk : k < s.size
    · have b0 := gk_le s 0 k (by omega)
      have b1 := bN_lt s k
      have e0 : ((s[k]'kk).toNat : Int) = bN s k := byte_bN s k kk
      obtain ⟨x, hx⟩ : ∃ x : Nat, gk s 0 k = x := ⟨(gk s 0 k).toNat, by omega⟩
      have J := Lib.hid (show bits .or .i64 ((x : Int) * 256) ((bN s k : Nat) : Int) = gk s 0 (k + 1) by
        rw [join64 x (bN s k) (by have := b0.2.2 (by omega); omega) b1, ← hx]; simp [gk])
      have b2 := b0.2.2 (by omega)
      rw [hx] at b2 ⊢
      clear hx b0
      go_wp2_with fail
      go_round
      case rel => exact ⟨k + 1, by omega, by go_num, by rw [← J.out]⟩
      case measure => simp [intOf]; try omega
    · obtain rfl : k = s.size := by omega
      go_wp2_with fail
      go_ret
      exact ⟨rfl, rfl⟩

end Go.Proofs.YtfodclafkdkjbaaDoor

namespace Go.Proofs.YtfodclafkdkjbaaDoor
open Go.RowKit

theorem Side.same {c q : Cont} {S : Nat} {G : Int} {a : Nat} {y : Int} (h : Side c S G a y) (e : ∀ i, i < S → q i = c i) : Side q S G a y := by
  refine ⟨fun i hi hq => ?_, fun i h1 h2 h3 h4 => ?_, fun i h1 h2 h3 h4 => ?_, ?_⟩
  · rw [e i hi] at hq ⊢; exact h.gen i hi hq
  · rw [e i h2] at h3 h4 ⊢; exact h.life i h1 h2 h3 h4
  · rw [e i h2] at h3 h4 ⊢; exact h.start i h1 h2 h3 h4
  · rcases Nat.eq_zero_or_pos (recN q S G a) with k | k
    · exact k
    · have hl := (recN_some rfl k).2.2.2
      have := (recN_same (c := q) (d := c) rfl k (fun i h1 h2 => e i (by omega))).1
      rw [h.none] at this; omega
theorem Side.relife {c : Cont} {S : Nat} {G : Int} {a : Nat} {y z : Int} (h : Side c S G a y) (hz : ∀ i, i < S → isSec (c i) = true → (stp (c i)).life < z) : Side c S G a z :=
  ⟨h.gen, fun i _ h2 h3 _ => hz i h2 h3, h.start, h.none⟩

/-- both extents: in A stands G, with kept in the first u sectors; the other one is ready for the next generation -/
structure Base (S A : Nat) (G : Int) (u : Nat) (y : Int) (P : Nat → Cont) (kept : List ByteArray) : Prop where
  s1 : 1 ≤ S
  a2 : A < 2
  g0 : 0 ≤ G
  y0 : 1 ≤ y
  par : ∀ e, e < 2 → ∀ i, i < S → isSec (P e i) = true → ((stp (P e i)).gen + e) % 2 = 1
  pa : (G + A) % 2 = 1
  sa : Side (P A) S G u y
  sb : Side (P (1 - A)) S (G + 1) 0 y
  ch : Chain (P A) S G 0 kept u
  pos : 0 < G → 0 < u
  fr : G = 0 → u = 0 ∧ kept = []
section
variable {S A : Nat} {G : Int} {u : Nat} {y : Int} {P : Nat → Cont} {kept : List ByteArray}
/-- the life of a log that is opened there -/
def lifeP (P : Nat → Cont) (S : Nat) : Int := 1 + max (lifeTo (P 0) S) (lifeTo (P 1) S)
theorem lifeP_gt (P : Nat → Cont) (S e i : Nat) (he : e < 2) (hi : i < S) (hs : isSec (P e i) = true) : (stp (P e i)).life < lifeP P S := by
  have h := lifeTo_le (P e) S i hi hs
  unfold lifeP
  rcases (show e = 0 ∨ e = 1 by omega) with rfl | rfl <;> omega
theorem lifeP_pos (P : Nat → Cont) (S : Nat) : 1 ≤ lifeP P S := by
  have := lifeTo_nonneg (P 0) S
  unfold lifeP; omega
theorem Base.relife (h : Base S A G u y P kept) : Base S A G u (lifeP P S) P kept :=
  { h with y0 := lifeP_pos P S, sa := h.sa.relife fun i hi hs => lifeP_gt P S A i h.a2 hi hs, sb := h.sb.relife fun i hi hs => lifeP_gt P S (1 - A) i (by omega) hi hs }
theorem Base.used (h : Base S A G u y P kept) : u ≤ S := by
  have := h.ch.bound
  omega
theorem Base.standsA (h : Base S A G u y P kept) : stands (P A) S = (G, kept, u) := by
  have s1 := h.s1
  by_cases hg : 0 < G
  · have hu := h.pos hg
    have hr := h.ch.recs h.sa.none S (by have := h.used; omega)
    have h0 : isSec (P A 0) = true ∧ (stp (P A 0)).gen = G := by
      have hc := h.ch
      cases hc with
      | nil => omega
      | cons e1 e2 _ =>
        have hb := (begins_iff _ _ _ _).1 (recN_some e1 e2).1
        exact ⟨hb.2.1, hb.2.2.1⟩
    unfold stands
    rw [if_pos h0.1, h0.2, hr, if_neg (by simp only; omega)]
  · have g0 : G = 0 := by have := h.g0; omega
    obtain ⟨rfl, rfl⟩ := h.fr g0
    subst g0
    have hn : isSec (P A 0) = false := by
      cases e : isSec (P A 0) with
      | false => rfl
      | true => have h1 := h.sa.gen 0 (by omega) e; have h2 := parts_pos e; omega
    unfold stands
    rw [hn]; rfl
theorem Base.standsB (h : Base S A G u y P kept) : 0 ≤ (stands (P (1 - A)) S).1 ∧ ((stands (P (1 - A)) S).1 = 0 ∨ (stands (P (1 - A)) S).1 < G) := by
  have s1 := h.s1
  unfold stands
  cases e : isSec (P (1 - A) 0) with
  | false => exact ⟨Int.le_refl _, .inl rfl⟩
  | true =>
    have p := parts_pos e
    have hg := h.sb.gen 0 (by omega) e
    have hp := h.par (1 - A) (by omega) 0 (by omega) e
    have pa := h.pa
    have a2 := h.a2
    rw [if_pos rfl]
    by_cases hG : (stp (P (1 - A) 0)).gen = G + 1
    · have hr := (Chain.nil (c := P (1 - A)) (S := S) (G := G + 1) 0).recs h.sb.none S (by omega)
      rw [hG, hr, if_pos rfl]
      exact ⟨Int.le_refl _, .inl rfl⟩
    · split
      · exact ⟨Int.le_refl _, .inl rfl⟩
      · refine ⟨by simp only; omega, .inr ?_⟩
        simp only
        rcases (show A = 0 ∨ A = 1 by omega) with rfl | rfl <;> omega
theorem Base.opens (h : Base S A G u y P kept) : openP (P 0) (P 1) S 0 = (⟨0, A, G, u, lifeP P S, false⟩, kept) := by
  have ha := h.standsA
  have hb := h.standsB
  have pa := h.pa
  have g0 := h.g0
  unfold openP lifeP
  rcases (show A = 0 ∨ A = 1 by have := h.a2; omega) with rfl | rfl
  · have hb' : 0 ≤ (stands (P 1) S).1 ∧ ((stands (P 1) S).1 = 0 ∨ (stands (P 1) S).1 < G) := hb
    rw [ha, if_pos ⟨by simp only; omega, by simp only; omega⟩]
  · have hb' : 0 ≤ (stands (P 0) S).1 ∧ ((stands (P 0) S).1 = 0 ∨ (stands (P 0) S).1 < G) := hb
    by_cases hg : 0 < G
    · rw [ha, if_neg (by simp only; omega), if_pos (by simp only; omega)]
    · have g0' : G = 0 := by omega
      obtain ⟨rfl, rfl⟩ := h.fr g0'
      subst g0'
      rw [ha, if_neg (by simp only; omega), if_neg (by simp only; omega)]
/-- on a new world -/
theorem base_new (S : Nat) (hS : 1 ≤ S) (P : Nat → Cont) (hP : ∀ e i, i < S → isSec (P e i) = false) : Base S 1 0 0 1 P [] := by
  have hn : ∀ e i (p : Prop), i < S → isSec (P e i) = true → p := fun e i p hi hs => by rw [hP e i hi] at hs; cases hs
  have hr : ∀ e G a, recN (P e) S G a = 0 := fun e G a => by
    rcases Nat.eq_zero_or_pos (recN (P e) S G a) with k | k
    · exact k
    · have hb := (begins_iff _ _ _ _).1 (recN_some rfl k).1
      exact hn e a _ hb.1 hb.2.1
  exact { s1 := hS, a2 := by omega, g0 := Int.le_refl _, y0 := Int.le_refl _, par := fun e _ i hi hs => hn e i _ hi hs, pa := rfl,
          sa := ⟨fun i hi hs => hn 1 i _ hi hs, fun i _ hi hs => hn 1 i _ hi hs, fun i _ hi hs => hn 1 i _ hi hs, hr _ _ _⟩,
          sb := ⟨fun i hi hs => hn _ i _ hi hs, fun i _ hi hs => hn _ i _ hi hs, fun i _ hi hs => hn _ i _ hi hs, hr _ _ _⟩,
          ch := .nil 0, pos := fun h => absurd h (by omega), fr := fun _ => ⟨rfl, rfl⟩ }

/-- a picture with some of the new sectors in the extent T -/
structure MixP (P Q : Nat → Cont) (S T : Nat) (G : Int) (a : Nat) (y : Int) (ps : List ByteArray) : Prop where
  mix : Mix (P T) (Q T) S G a y ps
  other : ∀ i, i < S → Q (1 - T) i = P (1 - T) i
theorem MixP.par {Q : Nat → Cont} {T a : Nat} {G' : Int} {ps : List ByteArray} (hm : MixP P Q S T G' a y ps) (hM : May S G' a y ps) (hT : T < 2) (hp : ∀ e, e < 2 → ∀ i, i < S → isSec (P e i) = true → ((stp (P e i)).gen + e) % 2 = 1) (hg : (G' + T) % 2 = 1) :
    ∀ e, e < 2 → ∀ i, i < S → isSec (Q e i) = true → ((stp (Q e i)).gen + e) % 2 = 1 := fun e he i hi hs => by
  by_cases eT : e = T
  · subst eT
    rcases hm.mix.at hi with k | ⟨j, hj, rfl, k⟩
    · rw [k] at hs ⊢; exact hp e he i hi hs
    · rw [k, (hM.new hj).2.1]; exact hg
  · obtain rfl : e = 1 - T := by omega
    rw [hm.other i hi] at hs ⊢; exact hp _ he i hi hs
/-- a record, whole -/
theorem Base.fullRec {Q : Nat → Cont} {ps : List ByteArray} {z : Int} (h : Base S A G u y P kept) (hM : May S G u y ps) (hm : MixP P Q S A G u y ps) (hf : Full (Q A) G u y ps) (hz : y ≤ z) (hy : ∀ i, i < S → isSec (Q (1 - A) i) = true → (stp (Q (1 - A) i)).gen = G + 1 → (stp (Q (1 - A) i)).life < z) :
    Base S A G (u + ps.length) z Q (kept ++ [joined ps ps.length]) := by
  have n0 := hM.n0
  have hc := (h.ch.same (d := Q A) (fun i _ hi => (hm.mix.out i (by have := h.used; omega) (.inl hi)).symm)).snoc (full_rec hM hf) n0
  rw [full_bytes hM hf _ (Nat.le_refl _)] at hc
  have sb := h.sb.same hm.other
  exact { s1 := h.s1, a2 := h.a2, g0 := h.g0, y0 := by have := h.y0; omega, par := hm.par hM h.a2 h.par h.pa, pa := h.pa, sa := full_side hM h.sa hm.mix hz,
          sb := ⟨sb.gen, fun i _ h2 h3 h4 => hy i h2 h3 h4, sb.start, sb.none⟩, ch := hc, pos := fun _ => by omega, fr := fun e => by have := hM.g0; omega }
/-- a base, whole -/
theorem Base.fullBase {Q : Nat → Cont} {ps : List ByteArray} {z : Int} (h : Base S A G u y P kept) (hM : May S (G + 1) 0 y ps) (hm : MixP P Q S (1 - A) (G + 1) 0 y ps) (hf : Full (Q (1 - A)) (G + 1) 0 y ps) (hz : y ≤ z) :
    Base S (1 - A) (G + 1) ps.length z Q [joined ps ps.length] := by
  have n0 := hM.n0
  have a2 := h.a2
  have pa := h.pa
  have pb : (G + 1 + ((1 - A : Nat) : Int)) % 2 = 1 := by rcases (show A = 0 ∨ A = 1 by omega) with rfl | rfl <;> omega
  have hc := Chain.cons (full_rec hM hf) n0 (.nil (c := Q (1 - A)) (S := S) (G := G + 1) (0 + ps.length))
  rw [full_bytes hM hf _ (Nat.le_refl _), Nat.zero_add] at hc
  have sa := full_side hM h.sb hm.mix hz
  rw [Nat.zero_add] at sa
  have e1 : 1 - (1 - A) = A := by omega
  have ho : ∀ i, i < S → Q A i = P A i := by have := hm.other; rwa [e1] at this
  have hlt : ∀ i, i < S → isSec (Q A i) = true → (stp (Q A i)).gen ≤ G := fun i hi hs => by rw [ho i hi] at hs ⊢; exact h.sa.gen i hi hs
  refine { s1 := h.s1, a2 := by omega, g0 := by have := h.g0; omega, y0 := by have := h.y0; omega, par := hm.par hM (by omega) h.par pb, pa := pb, sa := sa, sb := ?_, ch := hc, pos := fun _ => n0, fr := fun e => by have := h.g0; omega }
  rw [e1]
  refine ⟨fun i hi hs => by have := hlt i hi hs; omega, fun i _ hi hs e => by have := hlt i hi hs; omega, fun i _ hi hs e => by have := hlt i hi hs; omega, ?_⟩
  rcases Nat.eq_zero_or_pos (recN (Q A) S (G + 1 + 1) 0) with k | k
  · exact k
  · have hb := (begins_iff _ _ _ _).1 (recN_some rfl k).1
    have := hlt 0 hb.1 hb.2.1
    omega
/-- a record, not whole: as before -/
theorem Base.partRec {Q : Nat → Cont} {ps : List ByteArray} (h : Base S A G u y P kept) (hM : May S G u y ps) (hm : MixP P Q S A G u y ps) (hf : ¬ Full (Q A) G u y ps) : Base S A G u (lifeP Q S) Q kept := by
  have hc := h.ch.same (d := Q A) (fun i _ hi => (hm.mix.out i (by have := h.used; omega) (.inl hi)).symm)
  exact { s1 := h.s1, a2 := h.a2, g0 := h.g0, y0 := lifeP_pos Q S, par := hm.par hM h.a2 h.par h.pa, pa := h.pa, sa := mix_side hM h.sa hm.mix hf fun i hi hs => lifeP_gt Q S A i h.a2 hi hs,
          sb := (h.sb.same hm.other).relife fun i hi hs => lifeP_gt Q S (1 - A) i (by omega) hi hs, ch := hc, pos := h.pos, fr := h.fr }
/-- a base, not whole: as before -/
theorem Base.partBase {Q : Nat → Cont} {ps : List ByteArray} (h : Base S A G u y P kept) (hM : May S (G + 1) 0 y ps) (hm : MixP P Q S (1 - A) (G + 1) 0 y ps) (hf : ¬ Full (Q (1 - A)) (G + 1) 0 y ps) : Base S A G u (lifeP Q S) Q kept := by
  have a2 := h.a2
  have pa := h.pa
  have pb : (G + 1 + ((1 - A : Nat) : Int)) % 2 = 1 := by rcases (show A = 0 ∨ A = 1 by omega) with rfl | rfl <;> omega
  have e1 : 1 - (1 - A) = A := by omega
  have ho : ∀ i, i < S → Q A i = P A i := by have := hm.other; rwa [e1] at this
  have hc := h.ch.same (d := Q A) (fun i _ hi => (ho i (by have := h.used; omega)).symm)
  exact { s1 := h.s1, a2 := h.a2, g0 := h.g0, y0 := lifeP_pos Q S, par := hm.par hM (by omega) h.par pb, pa := h.pa, sa := (h.sa.same ho).relife fun i hi hs => lifeP_gt Q S A i h.a2 hi hs,
          sb := mix_side hM h.sb hm.mix hf fun i hi hs => lifeP_gt Q S (1 - A) i (by omega) hi hs, ch := hc, pos := h.pos, fr := h.fr }
end

end Go.Proofs.YtfodclafkdkjbaaDoor
