/- strings.Trim of noughts: walked. -/
import Derived.Test.YtjhmgkelmllnjaaDoorS6a
import Derived.Deep.QuietTactic
import Derived.BigQuiet
namespace Go.Proofs.YtjhmgkelmllnjaaDoor
open Go.RowKit

/-- the first m bytes without the noughts at their end: how many -/
def nzR (s : ByteArray) : Nat → Nat
  | 0 => 0
  | m + 1 => if bN s m = 0 then nzR s m else m + 1
/-- the last k bytes without the noughts at their beginning: where they begin -/
def nzL (s : ByteArray) : Nat → Nat
  | 0 => s.size
  | k + 1 => if bN s (s.size - (k + 1)) = 0 then nzL s k else s.size - (k + 1)
theorem nzR_le (s : ByteArray) : ∀ m, nzR s m ≤ m
  | 0 => Nat.le_refl _
  | m + 1 => by
    unfold nzR
    have := nzR_le s m
    split <;> omega
theorem nzR_zero (s : ByteArray) : ∀ m, nzR s m = 0 ↔ ∀ j, j < m → bN s j = 0
  | 0 => by simp [nzR]
  | m + 1 => by
    unfold nzR
    by_cases h : bN s m = 0
    · rw [if_pos h, nzR_zero s m]
      constructor
      · intro k j hj
        by_cases e : j = m
        · rw [e]; exact h
        · exact k j (by omega)
      · intro k j hj
        exact k j (by omega)
    · rw [if_neg h]
      constructor
      · intro k; omega
      · intro k; exact absurd (k m (by omega)) h
theorem nzR_end (s : ByteArray) : ∀ m, 0 < nzR s m → bN s (nzR s m - 1) ≠ 0
  | 0, h => absurd h (Nat.lt_irrefl 0)
  | m + 1, h => by
    unfold nzR at h ⊢
    by_cases e : bN s m = 0
    · rw [if_pos e] at h ⊢; exact nzR_end s m h
    · rw [if_neg e] at h ⊢; exact e
theorem nzL_le (s : ByteArray) : ∀ k, k ≤ s.size → nzL s k ≤ s.size
  | 0, _ => Nat.le_refl _
  | k + 1, h => by
    unfold nzL
    have := nzL_le s k (by omega)
    split <;> omega
theorem nzL_all (s : ByteArray) : ∀ k, k ≤ s.size → (nzL s k = s.size ↔ ∀ j, s.size - k ≤ j → j < s.size → bN s j = 0)
  | 0, _ => by
    refine ⟨fun _ j h1 h2 => ?_, fun _ => rfl⟩
    omega
  | k + 1, hk => by
    unfold nzL
    by_cases h : bN s (s.size - (k + 1)) = 0
    · rw [if_pos h, nzL_all s k (by omega)]
      constructor
      · intro q j h1 h2
        by_cases e : j = s.size - (k + 1)
        · rw [e]; exact h
        · exact q j (by omega) h2
      · intro q j h1 h2
        exact q j (by omega) h2
    · rw [if_neg h]
      constructor
      · intro q; omega
      · intro q; exact absurd (q _ (Nat.le_refl _) (by omega)) h

def strLen (v : Value) : Nat := match v with | .string T => T.size | _ => 0
set_option maxRecDepth 100000 in
set_option maxHeartbeats 1000000 in
/-- strings.trimRightByte of noughts -/
theorem pTrimR (s : ByteArray) (w : World) (hs : s.size ≤ 1000) : Calls Tryd.prog 20 #[.string s, .int .u8 0] w fun e w' => e = .returned (.string (s.extract 0 (nzR s s.size))) ∧ w' = w := by
  go_enter Tryd.func20, Tryd.ntmps20
  go_wp2_with fail
  go_loop [0] (fun v => ∃ (m : Nat) (T : ByteArray), m ≤ s.size ∧ v = .string T ∧ T.size = m ∧ Hid (T = s.extract 0 m) ∧ Hid (nzR s s.size = nzR s m)) (fun v => strLen v)
  case atStart => exact ⟨s.size, s, Nat.le_refl _, rfl, rfl, Lib.hid (by simp), Lib.hid rfl⟩
  case round =>
    obtain ⟨m, T, hm, rfl, hT, HT, HN⟩ := hrel
    by_cases h0 : 0 < m
    · have hp : m - 1 < T.size := by omega
      have e0 : ((T[m - 1]'hp).toNat : Int) = bN s (m - 1) := by rw [byte_bN T (m - 1) hp, HT.out, bN_extract _ _ _ _ (by omega), Nat.zero_add]
      by_cases hz : bN s (m - 1) = 0
      · have t0 : (((bN s (m - 1) : Nat) : Int) == 0) = true := by rw [hz]; rfl
        have NR := Lib.hid (show nzR s s.size = nzR s (m - 1) by
          rw [HN.out, show m = (m - 1) + 1 by omega]
          show (if bN s (m - 1) = 0 then nzR s (m - 1) else m - 1 + 1) = _
          rw [if_pos hz]; rfl)
        have TE := Lib.hid (show T.extract 0 (m - 1) = s.extract 0 (m - 1) by rw [HT.out, ByteArray.extract_extract]; congr 1 <;> omega)
        have TS : (T.extract 0 (m - 1)).size = m - 1 := by rw [size_extract _ _ _ (by omega)]; omega
        clear hz
        go_wp2_with fail
        go_round
        case rel => exact ⟨m - 1, _, by omega, rfl, TS, TE, NR⟩
        case measure => simp only [strLen, TS]; omega
      · have t0 : (((bN s (m - 1) : Nat) : Int) == 0) = false := by rw [beq_eq_false_iff_ne]; omega
        have NR := Lib.hid (show nzR s s.size = m by
          rw [HN.out]
          obtain ⟨q, rfl⟩ : ∃ q, m = q + 1 := ⟨m - 1, by omega⟩
          show (if bN s q = 0 then nzR s q else q + 1) = _
          rw [if_neg (show ¬ bN s q = 0 from hz)])
        clear hz
        go_wp2_with fail
        show bodyPost Tryd.prog Tryd.f20 _ .ret _ _
        go_ret
        exact ⟨by rw [NR.out, ← HT.out]; rfl, rfl⟩
    · obtain rfl : m = 0 := by omega
      have NR := Lib.hid (show nzR s s.size = 0 from HN.out)
      go_wp2_with fail
      show bodyPost Tryd.prog Tryd.f20 _ .ret _ _
      go_ret
      exact ⟨by rw [NR.out, ← HT.out]; rfl, rfl⟩

set_option maxRecDepth 100000 in
set_option maxHeartbeats 1000000 in
/-- strings.trimLeftByte of noughts -/
theorem pTrimL (s : ByteArray) (w : World) (_hs : s.size ≤ 1000) : Calls Tryd.prog 19 #[.string s, .int .u8 0] w fun e w' => e = .returned (.string (s.extract (nzL s s.size) s.size)) ∧ w' = w := by
  go_enter Tryd.func19, Tryd.ntmps19
  go_wp2_with fail
  go_loop [0] (fun v => ∃ (m : Nat) (T : ByteArray), m ≤ s.size ∧ v = .string T ∧ T.size = m ∧ Hid (T = s.extract (s.size - m) s.size) ∧ Hid (nzL s s.size = nzL s m)) (fun v => strLen v)
  case atStart => exact ⟨s.size, s, Nat.le_refl _, rfl, rfl, Lib.hid (by simp), Lib.hid rfl⟩
  case round =>
    obtain ⟨m, T, hm, rfl, hT, HT, HN⟩ := hrel
    by_cases h0 : 0 < m
    · have hp : 0 < T.size := by omega
      have e0 : ((T[0]'hp).toNat : Int) = bN s (s.size - m) := by rw [byte_bN T 0 hp, HT.out, bN_extract _ _ _ _ (by omega), Nat.add_zero]
      by_cases hz : bN s (s.size - m) = 0
      · have t0 : (((bN s (s.size - m) : Nat) : Int) == 0) = true := by rw [hz]; rfl
        have NR := Lib.hid (show nzL s s.size = nzL s (m - 1) by
          rw [HN.out]
          obtain ⟨q, rfl⟩ : ∃ q, m = q + 1 := ⟨m - 1, by omega⟩
          show (if bN s (s.size - (q + 1)) = 0 then nzL s q else _) = _
          rw [if_pos hz]; rfl)
        have TE := Lib.hid (show T.extract 1 m = s.extract (s.size - (m - 1)) s.size by rw [HT.out, ByteArray.extract_extract]; congr 1 <;> omega)
        have TS : (T.extract 1 m).size = m - 1 := by rw [size_extract _ _ _ (by omega)]
        clear hz
        go_wp2_with fail
        go_round
        case rel => exact ⟨m - 1, _, by omega, rfl, TS, TE, NR⟩
        case measure => simp only [strLen, TS]; omega
      · have t0 : (((bN s (s.size - m) : Nat) : Int) == 0) = false := by rw [beq_eq_false_iff_ne]; omega
        have NR := Lib.hid (show nzL s s.size = s.size - m by
          rw [HN.out]
          obtain ⟨q, rfl⟩ : ∃ q, m = q + 1 := ⟨m - 1, by omega⟩
          show (if bN s (s.size - (q + 1)) = 0 then nzL s q else _) = _
          rw [if_neg hz])
        clear hz
        go_wp2_with fail
        show bodyPost Tryd.prog Tryd.f19 _ .ret _ _
        go_ret
        exact ⟨by rw [NR.out, ← HT.out]; rfl, rfl⟩
    · obtain rfl : m = 0 := by omega
      have NR := Lib.hid (show nzL s s.size = s.size from HN.out)
      go_wp2_with fail
      show bodyPost Tryd.prog Tryd.f19 _ .ret _ _
      go_ret
      exact ⟨by rw [NR.out, show s.extract s.size s.size = T by rw [HT.out]; rfl]; rfl, rfl⟩

/-- what stands between the noughts -/
def trimmed (s : ByteArray) : ByteArray := (s.extract 0 (nzR s s.size)).extract (nzL (s.extract 0 (nzR s s.size)) (s.extract 0 (nzR s s.size)).size) (s.extract 0 (nzR s s.size)).size
theorem trimmed_nil (s : ByteArray) : (trimmed s).size = 0 ↔ ∀ j, j < s.size → bN s j = 0 := by
  have hr := nzR_le s s.size
  have hz := nzR_zero s s.size
  have he := nzR_end s s.size
  have e1 : (s.extract 0 (nzR s s.size)).size = nzR s s.size := by rw [size_extract _ _ _ hr, Nat.sub_zero]
  unfold trimmed
  generalize nzR s s.size = r at hr hz he e1 ⊢
  have hl := nzL_le (s.extract 0 r) (s.extract 0 r).size (Nat.le_refl _)
  have ha := nzL_all (s.extract 0 r) (s.extract 0 r).size (Nat.le_refl _)
  rw [size_extract _ _ _ (Nat.le_refl _)]
  constructor
  · intro h
    rw [← hz]
    rcases Nat.eq_zero_or_pos r with e | e
    · exact e
    · have hall := ha.1 (by omega) (r - 1) (by omega) (by omega)
      rw [bN_extract _ _ _ _ (by omega), Nat.zero_add] at hall
      exact absurd hall (he e)
  · intro h
    have : r = 0 := hz.2 h
    omega

set_option maxRecDepth 100000 in
set_option maxHeartbeats 1000000 in
/-- strings.Trim of noughts -/
theorem pTrim (s : ByteArray) (w : World) (hs : s.size ≤ 1000) : Calls Tryd.prog 17 #[.string s, .string ⟨#[0]⟩] w fun e w' => e = .returned (.string (trimmed s)) ∧ ∃ n, w' = w.drewN n := by
  by_cases h0 : s.size = 0
  · have e : trimmed s = s := bytes_eq (by rw [h0]; exact (trimmed_nil s).2 (fun j hj => by omega)) (fun j hj => by
      have := (trimmed_nil s).2 (fun j hj => by omega)
      omega)
    have e2 : s = ⟨#[]⟩ := bytes_eq (by rw [h0]; rfl) (fun j hj => by omega)
    rw [e, e2]
    go_enter Tryd.func17, Tryd.ntmps17
    go_wp2_with fail
    go_ret
    exact ⟨rfl, 0, rfl⟩
  · have T0 : (s.toList == []) = false := by
      rw [beq_eq_false_iff_ne]
      intro e
      have e3 := toList_inj (b := ⟨#[]⟩) (e.trans (by rw [ByteArray.toList_eq]))
      rw [e3] at h0
      exact h0 rfl
    have Z0 : ∀ h, (((⟨#[0]⟩ : ByteArray)[0]'h).toNat : Int) = 0 := fun _ => rfl
    have CR := Lib.hid (fun w => pTrimR s w hs)
    obtain ⟨t, ht⟩ : ∃ t, t = s.extract 0 (nzR s s.size) := ⟨_, rfl⟩
    have CL := Lib.hid (fun w => pTrimL t w (by have := nzR_le s s.size; rw [ht, size_extract _ _ _ this]; omega))
    rw [← ht] at CR
    have E := Lib.hid (show t.extract (nzL t t.size) t.size = trimmed s by rw [ht]; rfl)
    rw [E.out] at CL
    clear ht
    go_enter Tryd.func17, Tryd.ntmps17
    go_wp2_with fail
    go_quiet (first | exact Calls.quiet_of_same (CR.out _) | exact Calls.quiet_of_same (CL.out _))
    go_wp2_with fail
    go_ret
    exact ⟨rfl, _, rfl⟩

end Go.Proofs.YtjhmgkelmllnjaaDoor
