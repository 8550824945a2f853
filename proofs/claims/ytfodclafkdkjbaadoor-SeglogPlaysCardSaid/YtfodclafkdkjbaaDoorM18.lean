/- Proved parts: S7v S6c. Conditions: each theorem's own. -/
import Derived.Test.YtfodclafkdkjbaaDoorM17
import Derived.Test.YtfodclafkdkjbaaDoorM11
import Derived.Deep.QuietTactic
import Derived.BigQuiet
namespace Go.Proofs.YtfodclafkdkjbaaDoor
open Go.RowKit

theorem OwnS.stay {B : Nat} {w w' : World} {v : Value} {zs : List ByteArray} (h : OwnS w B v zs) (hs : ∀ k, B ≤ k → k < w.heap.size → w'.heap[k]? = w.heap[k]?) : OwnS w' B v zs := by
  rcases h with ⟨h1, h2⟩
  refine ⟨h1, ?_⟩
  rcases h2 with ⟨rfl, h0⟩ | ⟨g, cap, cur, rfl, hB, hg, r⟩
  · exact .inl ⟨rfl, h0⟩
  · refine .inr ⟨g, cap, cur, rfl, hB, ?_, r⟩
    have hl : g < w.heap.size := (Array.getElem?_eq_some_iff.1 hg).1
    rw [hs g hB hl]; exact hg
theorem OwnS.setCell {B : Nat} {w : World} {v : Value} {zs : List ByteArray} (h : OwnS w B v zs) {p : Addr} (hp : p.block < B) (u : Value) : OwnS (w.setCell p u) B v zs :=
  h.stay fun k hk _ => Below.heap_setCell _ _ _ _ (by omega)

def logCells (p : Nat) (l : Lg) : List Value := [.pointer (some ⟨p, 0, none⟩), .int .i64 (l.first : Int), .int .i64 (l.at_ : Int), .int .i64 l.gen, .int .i64 (l.used : Int), .int .i64 l.life, .bool l.busy]
/-- the reference's log l lies at pl, its world at p -/
def RefL (w : World) (pl p : Nat) (l : Lg) : Prop := RowAt w pl (logCells p l) 44
theorem lifeTo_max (c : Cont) : ∀ k, 0 ≤ lifeTo c k ∧ lifeTo c k ≤ 2147483647
  | 0 => ⟨Int.le_refl _, by show (0 : Int) ≤ _; omega⟩
  | k + 1 => by
    have ih := lifeTo_max c k
    unfold lifeTo
    by_cases h : (isSec (c k) && decide (lifeTo c k < (stp (c k)).life)) = true
    · rw [if_pos h]
      rw [Bool.and_eq_true] at h
      have := parts_pos h.1; omega
    · rw [if_neg h]; exact ih
theorem stands_ok (c : Cont) (S : Nat) : 0 ≤ (stands c S).1 ∧ (stands c S).1 ≤ 2147483647 ∧ (stands c S).2.2 ≤ S := by
  unfold stands
  cases h : isSec (c 0) with
  | false => exact ⟨Int.le_refl _, by show (0 : Int) ≤ _; omega, Nat.zero_le _⟩
  | true =>
    have := parts_pos h
    rw [if_pos rfl]
    split
    · exact ⟨Int.le_refl _, by show (0 : Int) ≤ _; omega, Nat.zero_le _⟩
    · refine ⟨by simp only; omega, by simp only; omega, ?_⟩
      have hc := (recs_chain c S (stp (c 0)).gen S 0 (by omega)).1.bound
      simp only
      omega
def openV (a b : Int × List ByteArray × Nat) (z : Int) (f : Nat) : Lg × List ByteArray :=
  if 0 < a.1 ∧ b.1 ≤ a.1 then (⟨f, f, a.1, a.2.2, z, false⟩, a.2.1) else if 0 < b.1 then (⟨f, f + 1, b.1, b.2.2, z, false⟩, b.2.1) else (⟨f, f + 1, 0, 0, z, false⟩, [])
theorem openP_eq (c d : Cont) (S f : Nat) : openP c d S f = openV (stands c S) (stands d S) (1 + max (lifeTo c S) (lifeTo d S)) f := rfl
/-- what it answers -/
def OpPost (p : Nat) (o : Lg × List ByteArray) (w : World) (x : Ending) (w' : World) : Prop :=
  (∃ pl v, x = .returned (.tuple #[.pointer (some ⟨pl, 0, none⟩), v, .int .i64 0]) ∧ RefL w' pl p o.1 ∧ w.heap.size ≤ pl ∧ OwnS w' (pl + 1) v o.2) ∧ Below w.heap.size w w'

set_option maxRecDepth 100000 in
set_option maxHeartbeats 2000000 in
/-- cloisonneref07.Open, where both extents are there -/
theorem rOpen_yes (p g : Nat) (m : Ext) (f : Nat) (w : World) (h : RefE w p g m) (hoff : m.off = false) (hf : f + 1 < m.ext) (hs : m.Small) :
    Calls Tryd.prog 28 #[.pointer (some ⟨p, 0, none⟩), .int .i64 (f : Int)] w (OpPost p (openP (nowC m f) (nowC m (f + 1)) m.sec f) w) := by
  have HR := Lib.hid h
  have e32 := h.ok.2.1
  have c0 := h.p0
  have c1 := h.p1
  rw [hoff] at c0
  obtain ⟨E, hE⟩ : ∃ E, E = m.ext := ⟨_, rfl⟩
  rw [← hE] at c1 hf e32
  have L1 := Lib.hid (fun w hr => rLife p g m f w hr hoff (by omega) hs)
  have L2 := Lib.hid (fun w hr => rLife p g m (f + 1) w hr hoff (by omega) hs)
  have S1 := Lib.hid (fun w hr => rStands p g m f w hr hoff (by omega) hs)
  have S2 := Lib.hid (fun w hr => rStands p g m (f + 1) w hr hoff (by omega) hs)
  obtain ⟨a1, a2, a3⟩ := stands_ok (nowC m f) m.sec
  obtain ⟨b1, b2, b3⟩ := stands_ok (nowC m (f + 1)) m.sec
  obtain ⟨x1, x2⟩ := lifeTo_max (nowC m f) m.sec
  obtain ⟨y1, y2⟩ := lifeTo_max (nowC m (f + 1)) m.sec
  have s128 := h.ok.2.2.2.1
  rw [openP_eq]
  rw [Int.natCast_add] at L2 S2
  obtain ⟨A, hA⟩ : ∃ A, A = stands (nowC m f) m.sec := ⟨_, rfl⟩
  obtain ⟨B, hB⟩ : ∃ B, B = stands (nowC m (f + 1)) m.sec := ⟨_, rfl⟩
  obtain ⟨X, hX⟩ : ∃ X, X = lifeTo (nowC m f) m.sec := ⟨_, rfl⟩
  obtain ⟨Y, hY⟩ : ∃ Y, Y = lifeTo (nowC m (f + 1)) m.sec := ⟨_, rfl⟩
  rw [← hX] at L1 x1 x2
  rw [← hY] at L2 y1 y2
  rw [← hA] at a1 a2 a3
  rw [← hB] at b1 b2 b3
  rw [← hX, ← hY, ← hA, ← hB]
  replace S1 := Lib.hid (show ∀ w, RefE w p g m → Calls Tryd.prog 52 #[.pointer (some ⟨p, 0, none⟩), .int .i64 (f : Int)] w fun x w' => (∃ v, x = .returned (.tuple #[.int .i64 A.1, v, .int .i64 (A.2.2 : Nat)]) ∧ OwnS w' w.heap.size v A.2.1) ∧ Below w.heap.size w w' from fun w hr => by rw [hA]; exact S1.out w hr)
  replace S2 := Lib.hid (show ∀ w, RefE w p g m → Calls Tryd.prog 52 #[.pointer (some ⟨p, 0, none⟩), .int .i64 ((f : Int) + 1)] w fun x w' => (∃ v, x = .returned (.tuple #[.int .i64 B.1, v, .int .i64 (B.2.2 : Nat)]) ∧ OwnS w' w.heap.size v B.2.1) ∧ Below w.heap.size w w' from fun w hr => by rw [hB]; exact S2.out w hr)
  clear hA hB hX hY h hoff hE hs
  obtain ⟨A1, AR, AU⟩ := A
  obtain ⟨B1, BR, BU⟩ := B
  simp only at a1 a2 a3 b1 b2 b3
  have AU1 : AU ≤ 128 := by omega
  have BU1 : BU ≤ 128 := by omega
  clear a3 b3 s128
  obtain ⟨Z, hZ⟩ : ∃ Z, Z = 1 + max X Y := ⟨_, rfl⟩
  have z1 : 1 ≤ Z := by rw [hZ]; omega
  have z2 : Z ≤ 2147483648 := by rw [hZ]; omega
  have HZ := Lib.hid hZ
  rw [← hZ]
  clear hZ
  go_enter Tryd.func28, Tryd.ntmps28
  go_wp2_with fail
  refine (L1.out w HR.out).mono ?_
  rintro e1 w1 ⟨rfl, hb1⟩
  have R1 := Lib.hid (HR.out.below hb1)
  have W1 := Lib.hid hb1
  clear hb1 c0 c1
  go_wp2_with fail
  refine (L2.out w1 R1.out).mono ?_
  rintro e2 w2 ⟨rfl, hb2⟩
  have R2 := Lib.hid (R1.out.below hb2)
  have W2 := Lib.hid (below_then W1.out hb2)
  clear hb2
  have MX : max X Y ≤ 2147483647 := by omega
  have MX0 : 0 ≤ max X Y := by omega
  go_wp2_with fail
  rw [← HZ.out]
  have PL3 := Lib.hid (show RowAt (w2.alloc (.cells #[.pointer (some ⟨p, 0, none⟩), .int .i64 (f : Int), .int .i64 ((f : Int) + 1), .int .i64 0, .int .i64 0, .int .i64 Z, .bool false] 44)) w2.heap.size (logCells p ⟨f, f + 1, 0, 0, Z, false⟩) 44 by
    have k := RowAt.new w2 (logCells p ⟨f, f + 1, 0, 0, Z, false⟩) 44
    unfold logCells at k ⊢
    simp only [Int.natCast_add, Int.cast_ofNat_Int] at k ⊢
    exact k)
  have R3 := Lib.hid (R2.out.below ((Below.refl _ _).alloc (Nat.le_refl _) (.cells #[.pointer (some ⟨p, 0, none⟩), .int .i64 (f : Int), .int .i64 ((f : Int) + 1), .int .i64 0, .int .i64 0, .int .i64 Z, .bool false] 44)))
  have W3 := Lib.hid (W2.out.alloc W2.out.size (.cells #[.pointer (some ⟨p, 0, none⟩), .int .i64 (f : Int), .int .i64 ((f : Int) + 1), .int .i64 0, .int .i64 0, .int .i64 Z, .bool false] 44))
  have Q3 := Lib.hid (show w.heap.size ≤ w2.heap.size from W2.out.size)
  generalize w2.alloc (.cells #[.pointer (some ⟨p, 0, none⟩), .int .i64 (f : Int), .int .i64 ((f : Int) + 1), .int .i64 0, .int .i64 0, .int .i64 Z, .bool false] 44) = w3 at PL3 R3 W3 ⊢
  generalize w2.heap.size = pl at PL3 Q3 ⊢
  refine (S1.out w3 R3.out).mono ?_
  rintro e3 w4 ⟨⟨va, rfl, ho4⟩, hb4⟩
  have R4 := Lib.hid (R3.out.below hb4)
  have W4 := Lib.hid (below_then W3.out hb4)
  have PL4 := Lib.hid (RowAt.below PL3.out hb4)
  have OA4 := Lib.hid (ho4.mono (show pl + 1 ≤ w3.heap.size from RowAt.lt PL3.out))
  clear hb4 ho4
  go_wp2_with fail
  refine (S2.out w4 R4.out).mono ?_
  rintro e4 w5 ⟨⟨vb, rfl, ho5⟩, hb5⟩
  have R5 := Lib.hid (R4.out.below hb5)
  have W5 := Lib.hid (below_then W4.out hb5)
  have PL5 := Lib.hid (RowAt.below PL4.out hb5)
  have OA5 := Lib.hid (OA4.out.below hb5)
  have OB5 := Lib.hid (ho5.mono (show pl + 1 ≤ w4.heap.size from RowAt.lt PL4.out))
  clear hb5 ho5
  have c2 := RowAt.cell PL5.out 2
  have c3 := RowAt.cell PL5.out 3
  have c4 := RowAt.cell PL5.out 4
  have f2 := RowAt.frozen PL5.out 2
  have f3 := RowAt.frozen PL5.out 3
  have f4 := RowAt.frozen PL5.out 4
  simp only [logCells, List.getElem?_cons_zero, List.getElem?_cons_succ] at c2 c3 c4
  by_cases q1 : 0 < A1 ∧ B1 ≤ A1
  · have OV := Lib.hid (show openV (A1, AR, AU) (B1, BR, BU) Z f = (⟨f, f, A1, AU, Z, false⟩, AR) by unfold openV; rw [if_pos q1])
    obtain ⟨q2, q3⟩ := q1
    go_wp2_with fail
    go_ret3
    unfold OpPost
    rw [OV.out]
    refine ⟨⟨pl, va, rfl, ?_, Q3.out, ?_⟩, ?_⟩
    · exact ((RowAt.set PL5.out 2 (.int .i64 (f : Int))).set 3 (.int .i64 A1)).set 4 (.int .i64 (AU : Int))
    · exact ((OA5.out.setCell (p := ⟨pl, 2, none⟩) (Nat.lt_succ_self pl) _).setCell (p := ⟨pl, 3, none⟩) (Nat.lt_succ_self pl) _).setCell (p := ⟨pl, 4, none⟩) (Nat.lt_succ_self pl) _
    · exact ((W5.out.setCell (p := ⟨pl, 2, none⟩) Q3.out _).setCell (p := ⟨pl, 3, none⟩) Q3.out _).setCell (p := ⟨pl, 4, none⟩) Q3.out _
  · by_cases q2 : 0 < B1
    · have OV := Lib.hid (show openV (A1, AR, AU) (B1, BR, BU) Z f = (⟨f, f + 1, B1, BU, Z, false⟩, BR) by unfold openV; rw [if_neg q1, if_pos q2])
      have T : ∀ x, decide (0 < A1) = x → (x && decide (B1 ≤ A1)) = false := fun x hx => by
        rw [← hx, Bool.and_eq_false_iff, decide_eq_false_iff_not, decide_eq_false_iff_not]; omega
      rcases (show A1 ≤ 0 ∨ (0 < A1 ∧ A1 < B1) by omega) with q3 | ⟨q3, q4⟩
      all_goals
        clear q1 T
        go_wp2_with fail
        go_ret3
        unfold OpPost
        rw [OV.out]
        refine ⟨⟨pl, vb, rfl, ?_, Q3.out, ?_⟩, ?_⟩
        · exact (RowAt.set PL5.out 3 (.int .i64 B1)).set 4 (.int .i64 (BU : Int))
        · exact (OB5.out.setCell (p := ⟨pl, 3, none⟩) (Nat.lt_succ_self pl) _).setCell (p := ⟨pl, 4, none⟩) (Nat.lt_succ_self pl) _
        · exact (W5.out.setCell (p := ⟨pl, 3, none⟩) Q3.out _).setCell (p := ⟨pl, 4, none⟩) Q3.out _
    · have OV := Lib.hid (show openV (A1, AR, AU) (B1, BR, BU) Z f = (⟨f, f + 1, 0, 0, Z, false⟩, []) by unfold openV; rw [if_neg q1, if_neg q2])
      have q3 : A1 ≤ 0 := by omega
      clear q1
      go_wp2_with fail
      go_ret3
      unfold OpPost
      rw [OV.out]
      exact ⟨⟨pl, _, rfl, PL5.out, Q3.out, ownS_nil _ _⟩, W5.out⟩

end Go.Proofs.YtfodclafkdkjbaaDoor

namespace Go.Proofs.YtfodclafkdkjbaaDoor
open Go.RowKit

/-- the first m bytes without the noughts at their end: how many -/
def nzR (s : ByteArray) : Nat → Nat
  | 0 => 0
  | m + 1 => if bN s m = 0 then nzR s m else m + 1
/-- the last k bytes without the noughts at their beginning: where they begin -/
def nzL (s : ByteArray) : Nat → Nat
  | 0 => s.size
  | k + 1 => if bN s (s.size - (k + 1)) = 0 then nzL s k else s.size - (k + 1)
theorem nzR_le (s : ByteArray) : ∀ m, nzR s m ≤ m
  | 0 => Nat.le_refl _
  | m + 1 => by
    unfold nzR
    have := nzR_le s m
    split <;> omega
theorem nzR_zero (s : ByteArray) : ∀ m, nzR s m = 0 ↔ ∀ j, j < m → bN s j = 0
  | 0 => by simp [nzR]
  | m + 1 => by
    unfold nzR
    by_cases h : bN s m = 0
    · rw [if_pos h, nzR_zero s m]
      constructor
      · intro k j hj
        by_cases e : j = m
        · rw [e]; exact h
        · exact k j (by omega)
      · intro k j hj
        exact k j (by omega)
    · rw [if_neg h]
      constructor
      · intro k; omega
      · intro k; exact absurd (k m (by omega)) h
theorem nzR_end (s : ByteArray) : ∀ m, 0 < nzR s m → bN s (nzR s m - 1) ≠ 0
  | 0, h => absurd h (Nat.lt_irrefl 0)
  | m + 1, h => by
    unfold nzR at h ⊢
    by_cases e : bN s m = 0
    · rw [if_pos e] at h ⊢; exact nzR_end s m h
    · rw [if_neg e] at h ⊢; exact e
theorem nzL_le (s : ByteArray) : ∀ k, k ≤ s.size → nzL s k ≤ s.size
  | 0, _ => Nat.le_refl _
  | k + 1, h => by
    unfold nzL
    have := nzL_le s k (by omega)
    split <;> omega
theorem nzL_all (s : ByteArray) : ∀ k, k ≤ s.size → (nzL s k = s.size ↔ ∀ j, s.size - k ≤ j → j < s.size → bN s j = 0)
  | 0, _ => by
    refine ⟨fun _ j h1 h2 => ?_, fun _ => rfl⟩
    omega
  | k + 1, hk => by
    unfold nzL
    by_cases h : bN s (s.size - (k + 1)) = 0
    · rw [if_pos h, nzL_all s k (by omega)]
      constructor
      · intro q j h1 h2
        by_cases e : j = s.size - (k + 1)
        · rw [e]; exact h
        · exact q j (by omega) h2
      · intro q j h1 h2
        exact q j (by omega) h2
    · rw [if_neg h]
      constructor
      · intro q; omega
      · intro q; exact absurd (q _ (Nat.le_refl _) (by omega)) h

set_option maxRecDepth 100000 in
set_option maxHeartbeats 1000000 in
/-- strings.trimRightByte of noughts -/
theorem pTrimR (s : ByteArray) (w : World) (hs : s.size ≤ 1000) : Calls Tryd.prog 75 #[.string s, .int .u8 0] w fun e w' => e = .returned (.string (s.extract 0 (nzR s s.size))) ∧ w' = w := by
  go_enter Tryd.func75, Tryd.ntmps75
  go_wp2_with fail
  go_loop [0] (fun v => ∃ (m : Nat) (T : ByteArray), m ≤ s.size ∧ v = .string T ∧ T.size = m ∧ Hid (T = s.extract 0 m) ∧ Hid (nzR s s.size = nzR s m)) (fun v => strLen v)
  case atStart => exact ⟨s.size, s, Nat.le_refl _, rfl, rfl, Lib.hid (by simp), Lib.hid rfl⟩
  case round =>
    obtain ⟨m, T, hm, rfl, hT, HT, HN⟩ := hrel
    by_cases h0 : 0 < m
    · have hp : m - 1 < T.size := by omega
      have e0 : ((T[m - 1]'hp).toNat : Int) = bN s (m - 1) := by rw [byte_bN T (m - 1) hp, HT.out, bN_extract _ _ _ _ (by omega), Nat.zero_add]
      by_cases hz : bN s (m - 1) = 0
      · have t0 : (((bN s (m - 1) : Nat) : Int) == 0) = true := by rw [hz]; rfl
        have NR := Lib.hid (show nzR s s.size = nzR s (m - 1) by
          rw [HN.out, show m = (m - 1) + 1 by omega]
          show (if bN s (m - 1) = 0 then nzR s (m - 1) else m - 1 + 1) = _
          rw [if_pos hz]; rfl)
        have TE := Lib.hid (show T.extract 0 (m - 1) = s.extract 0 (m - 1) by rw [HT.out, ByteArray.extract_extract]; congr 1 <;> omega)
        have TS : (T.extract 0 (m - 1)).size = m - 1 := by rw [size_extract _ _ _ (by omega)]; omega
        clear hz
        go_wp2_with fail
        go_round
        case rel => exact ⟨m - 1, _, by omega, rfl, TS, TE, NR⟩
        case measure => simp only [strLen, TS]; omega
      · have t0 : (((bN s (m - 1) : Nat) : Int) == 0) = false := by rw [beq_eq_false_iff_ne]; omega
        have NR := Lib.hid (show nzR s s.size = m by
          rw [HN.out]
          obtain ⟨q, rfl⟩ : ∃ q, m = q + 1 := ⟨m - 1, by omega⟩
          show (if bN s q = 0 then nzR s q else q + 1) = _
          rw [if_neg (show ¬ bN s q = 0 from hz)])
        clear hz
        go_wp2_with fail
        show bodyPost Tryd.prog Tryd.f75 _ .ret _ _
        go_ret
        exact ⟨by rw [NR.out, ← HT.out]; rfl, rfl⟩
    · obtain rfl : m = 0 := by omega
      have NR := Lib.hid (show nzR s s.size = 0 from HN.out)
      go_wp2_with fail
      show bodyPost Tryd.prog Tryd.f75 _ .ret _ _
      go_ret
      exact ⟨by rw [NR.out, ← HT.out]; rfl, rfl⟩

set_option maxRecDepth 100000 in
set_option maxHeartbeats 1000000 in
/-- strings.trimLeftByte of noughts -/
theorem pTrimL (s : ByteArray) (w : World) (_hs : s.size ≤ 1000) : Calls Tryd.prog 74 #[.string s, .int .u8 0] w fun e w' => e = .returned (.string (s.extract (nzL s s.size) s.size)) ∧ w' = w := by
  go_enter Tryd.func74, Tryd.ntmps74
  go_wp2_with fail
  go_loop [0] (fun v => ∃ (m : Nat) (T : ByteArray), m ≤ s.size ∧ v = .string T ∧ T.size = m ∧ Hid (T = s.extract (s.size - m) s.size) ∧ Hid (nzL s s.size = nzL s m)) (fun v => strLen v)
  case atStart => exact ⟨s.size, s, Nat.le_refl _, rfl, rfl, Lib.hid (by simp), Lib.hid rfl⟩
  case round =>
    obtain ⟨m, T, hm, rfl, hT, HT, HN⟩ := hrel
    by_cases h0 : 0 < m
    · have hp : 0 < T.size := by omega
      have e0 : ((T[0]'hp).toNat : Int) = bN s (s.size - m) := by rw [byte_bN T 0 hp, HT.out, bN_extract _ _ _ _ (by omega), Nat.add_zero]
      by_cases hz : bN s (s.size - m) = 0
      · have t0 : (((bN s (s.size - m) : Nat) : Int) == 0) = true := by rw [hz]; rfl
        have NR := Lib.hid (show nzL s s.size = nzL s (m - 1) by
          rw [HN.out]
          obtain ⟨q, rfl⟩ : ∃ q, m = q + 1 := ⟨m - 1, by omega⟩
          show (if bN s (s.size - (q + 1)) = 0 then nzL s q else _) = _
          rw [if_pos hz]; rfl)
        have TE := Lib.hid (show T.extract 1 m = s.extract (s.size - (m - 1)) s.size by rw [HT.out, ByteArray.extract_extract]; congr 1 <;> omega)
        have TS : (T.extract 1 m).size = m - 1 := by rw [size_extract _ _ _ (by omega)]
        clear hz
        go_wp2_with fail
        go_round
        case rel => exact ⟨m - 1, _, by omega, rfl, TS, TE, NR⟩
        case measure => simp only [strLen, TS]; omega
      · have t0 : (((bN s (s.size - m) : Nat) : Int) == 0) = false := by rw [beq_eq_false_iff_ne]; omega
        have NR := Lib.hid (show nzL s s.size = s.size - m by
          rw [HN.out]
          obtain ⟨q, rfl⟩ : ∃ q, m = q + 1 := ⟨m - 1, by omega⟩
          show (if bN s (s.size - (q + 1)) = 0 then nzL s q else _) = _
          rw [if_neg hz])
        clear hz
        go_wp2_with fail
        show bodyPost Tryd.prog Tryd.f74 _ .ret _ _
        go_ret
        exact ⟨by rw [NR.out, ← HT.out]; rfl, rfl⟩
    · obtain rfl : m = 0 := by omega
      have NR := Lib.hid (show nzL s s.size = s.size from HN.out)
      go_wp2_with fail
      show bodyPost Tryd.prog Tryd.f74 _ .ret _ _
      go_ret
      exact ⟨by rw [NR.out, show s.extract s.size s.size = T by rw [HT.out]; rfl]; rfl, rfl⟩

/-- what stands between the noughts -/
def trimmed (s : ByteArray) : ByteArray := (s.extract 0 (nzR s s.size)).extract (nzL (s.extract 0 (nzR s s.size)) (s.extract 0 (nzR s s.size)).size) (s.extract 0 (nzR s s.size)).size
theorem trimmed_nil (s : ByteArray) : (trimmed s).size = 0 ↔ ∀ j, j < s.size → bN s j = 0 := by
  have hr := nzR_le s s.size
  have hz := nzR_zero s s.size
  have he := nzR_end s s.size
  have e1 : (s.extract 0 (nzR s s.size)).size = nzR s s.size := by rw [size_extract _ _ _ hr, Nat.sub_zero]
  unfold trimmed
  generalize nzR s s.size = r at hr hz he e1 ⊢
  have hl := nzL_le (s.extract 0 r) (s.extract 0 r).size (Nat.le_refl _)
  have ha := nzL_all (s.extract 0 r) (s.extract 0 r).size (Nat.le_refl _)
  rw [size_extract _ _ _ (Nat.le_refl _)]
  constructor
  · intro h
    rw [← hz]
    rcases Nat.eq_zero_or_pos r with e | e
    · exact e
    · have hall := ha.1 (by omega) (r - 1) (by omega) (by omega)
      rw [bN_extract _ _ _ _ (by omega), Nat.zero_add] at hall
      exact absurd hall (he e)
  · intro h
    have : r = 0 := hz.2 h
    omega

set_option maxRecDepth 100000 in
set_option maxHeartbeats 1000000 in
/-- strings.Trim of noughts -/
theorem pTrim (s : ByteArray) (w : World) (hs : s.size ≤ 1000) : Calls Tryd.prog 67 #[.string s, .string ⟨#[0]⟩] w fun e w' => e = .returned (.string (trimmed s)) ∧ ∃ n, w' = w.drewN n := by
  by_cases h0 : s.size = 0
  · have e : trimmed s = s := bytes_eq (by rw [h0]; exact (trimmed_nil s).2 (fun j hj => by omega)) (fun j hj => by
      have := (trimmed_nil s).2 (fun j hj => by omega)
      omega)
    have e2 : s = ⟨#[]⟩ := bytes_eq (by rw [h0]; rfl) (fun j hj => by omega)
    rw [e, e2]
    go_enter Tryd.func67, Tryd.ntmps67
    go_wp2_with fail
    go_ret
    exact ⟨rfl, 0, rfl⟩
  · have T0 : (s.toList == []) = false := by
      rw [beq_eq_false_iff_ne]
      intro e
      have e3 := toList_inj (b := ⟨#[]⟩) (e.trans (by rw [ByteArray.toList_eq]))
      rw [e3] at h0
      exact h0 rfl
    have Z0 : ∀ h, (((⟨#[0]⟩ : ByteArray)[0]'h).toNat : Int) = 0 := fun _ => rfl
    have CR := Lib.hid (fun w => pTrimR s w hs)
    obtain ⟨t, ht⟩ : ∃ t, t = s.extract 0 (nzR s s.size) := ⟨_, rfl⟩
    have CL := Lib.hid (fun w => pTrimL t w (by have := nzR_le s s.size; rw [ht, size_extract _ _ _ this]; omega))
    rw [← ht] at CR
    have E := Lib.hid (show t.extract (nzL t t.size) t.size = trimmed s by rw [ht]; rfl)
    rw [E.out] at CL
    clear ht
    go_enter Tryd.func67, Tryd.ntmps67
    go_wp2_with fail
    go_quiet (first | exact Calls.quiet_of_same (CR.out _) | exact Calls.quiet_of_same (CL.out _))
    go_wp2_with fail
    go_ret
    exact ⟨rfl, _, rfl⟩

end Go.Proofs.YtfodclafkdkjbaaDoor
