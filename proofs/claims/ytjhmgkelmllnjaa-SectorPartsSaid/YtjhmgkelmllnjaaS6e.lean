/- Parts, the program's and the reference's: walked. -/
import Derived.Test.YtjhmgkelmllnjaaS6b
import Derived.Test.YtjhmgkelmllnjaaStr
import Derived.Test.YtjhmgkelmllnjaaCo
namespace Go.Proofs.Ytjhmgkelmllnjaa
open Go.RowKit

theorem extract_twice (s : ByteArray) (a b c d : Nat) (hd : a + d ≤ b) : (s.extract a b).extract c d = s.extract (a + c) (a + d) := by
  rw [ByteArray.extract_extract]; congr 1; omega
theorem cntN_end (n i : Nat) (h0 : 50 * i ≤ n) (h1 : n - 50 * i ≤ 50) (h2 : i = 0 ∨ 50 * i < n) : cntN n = i + 1 := by
  unfold cntN
  by_cases h : n = 0
  · rw [if_pos h]; omega
  · rw [if_neg h]; omega
/-- the first i parts -/
def firstOf (s : ByteArray) (i : Nat) : List ByteArray := (List.range i).map (partAt s)
theorem firstOf_len (s : ByteArray) (i : Nat) : (firstOf s i).length = i := by unfold firstOf; simp
theorem firstOf_step (s : ByteArray) (i : Nat) : firstOf s i ++ [partAt s i] = firstOf s (i + 1) := by
  unfold firstOf; rw [List.range_succ, List.map_append]; rfl
/-- what is cut so far -/
structure CutAt (s T : ByteArray) (i : Nat) : Prop where
  le : 50 * i ≤ s.size
  more : i = 0 ∨ 50 * i < s.size
  rest : T = s.extract (50 * i) s.size
theorem CutAt.start (s : ByteArray) : CutAt s s 0 := ⟨by omega, .inl rfl, by simp⟩
theorem CutAt.size {s T : ByteArray} {i : Nat} (h : CutAt s T i) : T.size = s.size - 50 * i := by rw [h.rest, size_extract _ _ _ (Nat.le_refl _)]
theorem CutAt.step {s T : ByteArray} {i : Nat} (h : CutAt s T i) (hT : 50 < T.size) : CutAt s (T.extract 50 T.size) (i + 1) ∧ T.extract 0 50 = partAt s i := by
  have hs := h.size
  have hl := h.le
  refine ⟨⟨by omega, .inr (by omega), ?_⟩, ?_⟩
  · rw [hs, h.rest, extract_twice _ _ _ _ _ (by omega)]
    congr 1; omega
  · unfold partAt
    rw [if_pos (by omega), h.rest, extract_twice _ _ _ _ _ (by omega)]
    congr 1
theorem CutAt.last {s T : ByteArray} {i : Nat} (h : CutAt s T i) (hT : T.size ≤ 50) : firstOf s i ++ [T] = partsOf s := by
  have hs := h.size
  have hl := h.le
  have e : T = partAt s i := by
    unfold partAt
    by_cases q : 50 * (i + 1) ≤ s.size
    · rw [if_pos q, h.rest]; congr 1; omega
    · rw [if_neg q]; exact h.rest
  rw [e, firstOf_step]
  unfold firstOf partsOf
  rw [cntN_end s.size i hl (by omega) h.more]

set_option maxRecDepth 100000 in
set_option maxHeartbeats 1000000 in
/-- cloisonneref06.Parts -/
theorem srParts (s : ByteArray) (w : World) (hs : s.size ≤ 5000) : Calls Try.prog 6 #[.string s] w fun e w' => ∃ v, e = .returned v ∧ OwnS w' w.heap.size v (partsOf s) ∧ Below w.heap.size w w' := by
  have O0 := Lib.hid (OwnS.made w (Nat.le_refl w.heap.size))
  have B0 := Lib.hid ((Below.refl w.heap.size w).alloc (Nat.le_refl _) (.cells #[] 9))
  go_enter Try.func6, Try.ntmps6
  go_wp2_with fail
  go_loopw [0, 3] (fun vs vo wr => ∃ (i : Nat) (T : ByteArray), vs = .string T ∧ CutAt s T i ∧ Hid (OwnS wr w.heap.size vo (firstOf s i)) ∧ Hid (Below w.heap.size w wr)) (fun vs _ _ => strLen vs)
  case atStart => exact ⟨0, s, rfl, CutAt.start s, O0, B0⟩
  case round =>
    obtain ⟨i, T, rfl, hC, HO, HB⟩ := hrel
    have SZ := Lib.hid (hC.size)
    have T5 : T.size ≤ 5000 := by have := SZ.out; omega
    have LN := Lib.hid (show (firstOf s i).length ≤ 5000 by rw [firstOf_len]; have := hC.le; omega)
    by_cases h50 : 50 < T.size
    · obtain ⟨hC2, hP⟩ := hC.step h50
      have TS := Lib.hid (show (T.extract 50 T.size).size < T.size by rw [size_extract _ _ _ (Nat.le_refl _)]; omega)
      obtain ⟨y, hy⟩ : ∃ y, y = T.extract 0 50 := ⟨_, rfl⟩
      have CW := Lib.hid (show ∀ w : World, (w.alloc (.cells #[.string (T.extract 0 50)] 9)).cell? ⟨w.heap.size, 0, none⟩ = some (.string y) from fun w => by rw [World.cell?_alloc_at _ _ _ _ rfl, hy]; rfl)
      have FS := Lib.hid (show firstOf s i ++ [y] = firstOf s (i + 1) by rw [hy, hP, firstOf_step])
      clear hy hP hC
      have C2 := Lib.hid hC2
      clear hC2
      go_wp2_with (at_builtin; refine wp_putS rfl (.tmp 8) (.tmp 11) rfl w.heap.size _ _ rfl (HO.out.alloc _) _ y rfl (CW.out _) (by have := LN.out; omega) (by have := HB.out.size; simp; omega) ?_; intro v1 w2 hown1 hb1; rw [FS.out] at hown1; have HO1 := Lib.hid hown1; have HB1 := Lib.hid ((HB.out.alloc HB.out.size _).trans hb1); clear hown1 hb1)
      go_roundw
      case rel => exact ⟨i + 1, _, rfl, C2.out, HO1, HB1⟩
      case measure => exact TS.out
    · have L := Lib.hid (hC.last (by omega))
      have CW := Lib.hid (show ∀ w : World, (w.alloc (.cells #[.string T] 9)).cell? ⟨w.heap.size, 0, none⟩ = some (.string T) from fun w => by rw [World.cell?_alloc_at _ _ _ _ rfl]; rfl)
      clear hC
      go_wp2_with (at_builtin; refine wp_putS rfl (.tmp 15) (.tmp 17) rfl w.heap.size _ _ rfl (HO.out.alloc _) _ T rfl (CW.out _) (by have := LN.out; omega) (by have := HB.out.size; simp; omega) ?_; intro v1 w2 hown1 hb1; rw [L.out] at hown1; have HO1 := Lib.hid hown1; have HB1 := Lib.hid ((HB.out.alloc HB.out.size _).trans hb1); clear hown1 hb1)
      show bodyPost Try.prog Try.f6 _ .ret _ _
      go_ret
      exact ⟨_, rfl, HO1.out, HB1.out⟩

set_option maxRecDepth 100000 in
set_option maxHeartbeats 1000000 in
/-- sector.Parts -/
theorem pParts (s : ByteArray) (w : World) (hs : s.size ≤ 50000) : Calls Try.prog 5 #[.string s] w fun e w' => ∃ v, e = .returned v ∧ OwnS w' w.heap.size v (partsOf s) ∧ Below w.heap.size w w' := by
  have CC := Lib.hid (fun w => lclone s w (by omega))
  obtain ⟨c, hc⟩ : ∃ c, c = cntN s.size := ⟨_, rfl⟩
  have c1 : c ≤ 50000 := by rw [hc]; unfold cntN; split <;> omega
  have CN := Lib.hid (show ∀ w, Calls Try.prog 7 #[.int .i64 (s.size : Int)] w fun e w' => e = .returned (.int .i64 (c : Int)) ∧ w' = w from fun w => by
    have k := pCount s.size w (by omega) (by omega)
    rw [cnt_nat, ← hc] at k; exact k)
  clear hc
  go_enter Try.func5, Try.ntmps5
  go_wp2_with fail
  refine (CC.out _).mono ?_
  rintro e w1 ⟨rfl, hb1⟩
  have B1 := Lib.hid hb1
  clear hb1
  go_wp2_with fail
  refine (CN.out _).mono ?_
  rintro e wx ⟨rfl, rfl⟩
  obtain ⟨w2, MK, hO, hB⟩ := makeS wx c (by omega)
  have O0 := Lib.hid (hO.mono (B1.out.size))
  have B0 := Lib.hid (below_then B1.out hB)
  clear hO hB
  go_wp2_with fail
  clear MK
  go_loopw [3, 4] (fun vs vo wr => ∃ (i : Nat) (T : ByteArray), vs = .string T ∧ CutAt s T i ∧ Hid (OwnS wr w.heap.size vo (firstOf s i)) ∧ Hid (Below w.heap.size w wr)) (fun vs _ _ => strLen vs)
  case atStart => exact ⟨0, s, rfl, CutAt.start s, O0, B0⟩
  case round =>
    obtain ⟨i, T, rfl, hC, HO, HB⟩ := hrel
    have SZ := Lib.hid (hC.size)
    have T5 : T.size ≤ 50000 := by have := SZ.out; omega
    have LN := Lib.hid (show (firstOf s i).length ≤ 50000 by rw [firstOf_len]; have := hC.le; omega)
    by_cases h50 : 50 < T.size
    · obtain ⟨hC2, hP⟩ := hC.step h50
      have TS := Lib.hid (show (T.extract 50 T.size).size < T.size by rw [size_extract _ _ _ (Nat.le_refl _)]; omega)
      obtain ⟨y, hy⟩ : ∃ y, y = T.extract 0 50 := ⟨_, rfl⟩
      have CW := Lib.hid (show ∀ w : World, (w.alloc (.cells #[.string (T.extract 0 50)] 9)).cell? ⟨w.heap.size, 0, none⟩ = some (.string y) from fun w => by rw [World.cell?_alloc_at _ _ _ _ rfl, hy]; rfl)
      have FS := Lib.hid (show firstOf s i ++ [y] = firstOf s (i + 1) by rw [hy, hP, firstOf_step])
      clear hy hP hC
      have C2 := Lib.hid hC2
      clear hC2
      go_wp2_with (at_builtin; refine wp_putS rfl (.tmp 14) (.tmp 17) rfl w.heap.size _ _ rfl (HO.out.alloc _) _ y rfl (CW.out _) (by have := LN.out; omega) (by have := HB.out.size; simp; omega) ?_; intro v1 w2 hown1 hb1; rw [FS.out] at hown1; have HO1 := Lib.hid hown1; have HB1 := Lib.hid ((HB.out.alloc HB.out.size _).trans hb1); clear hown1 hb1)
      go_roundw
      case rel => exact ⟨i + 1, _, rfl, C2.out, HO1, HB1⟩
      case measure => exact TS.out
    · have L := Lib.hid (hC.last (by omega))
      have CW := Lib.hid (show ∀ w : World, (w.alloc (.cells #[.string T] 9)).cell? ⟨w.heap.size, 0, none⟩ = some (.string T) from fun w => by rw [World.cell?_alloc_at _ _ _ _ rfl]; rfl)
      clear hC
      go_wp2_with (at_builtin; refine wp_putS rfl (.tmp 21) (.tmp 23) rfl w.heap.size _ _ rfl (HO.out.alloc _) _ T rfl (CW.out _) (by have := LN.out; omega) (by have := HB.out.size; simp; omega) ?_; intro v1 w2 hown1 hb1; rw [L.out] at hown1; have HO1 := Lib.hid hown1; have HB1 := Lib.hid ((HB.out.alloc HB.out.size _).trans hb1); clear hown1 hb1)
      show bodyPost Try.prog Try.f5 _ .ret _ _
      go_ret
      exact ⟨_, rfl, HO1.out, HB1.out⟩

end Go.Proofs.Ytjhmgkelmllnjaa
