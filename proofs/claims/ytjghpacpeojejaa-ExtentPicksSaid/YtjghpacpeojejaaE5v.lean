/- The program's small functions of extent: powered, has, fits, cmp.Or, sectorOf, text. -/
import Derived.Test.YtjghpacpeojejaaE5u
namespace Go.Proofs.Ytjghpacpeojejaa
open Go.RowKit

/-- the first that isn't nought -/
def orL : List Int → Int
  | [] => 0
  | x :: l => if x = 0 then orL l else x
theorem orL_take (l : List Int) (k : Nat) (hk : k < l.length) (h : ∀ j, j < k → l.getD j 0 = 0) (hx : l.getD k 0 ≠ 0) : orL l = l.getD k 0 := by
  induction l generalizing k with
  | nil => simp at hk
  | cons x l ih =>
    cases k with
    | zero => rw [List.getD_cons_zero] at hx ⊢; unfold orL; rw [if_neg hx]
    | succ k =>
      have h0 := h 0 (by omega)
      rw [List.getD_cons_zero] at h0
      unfold orL; rw [if_pos h0, List.getD_cons_succ]
      exact ih k (by simpa using hk) (fun j hj => by simpa using h (j + 1) (by omega)) (by simpa using hx)
theorem orL_none (l : List Int) (h : ∀ j, j < l.length → l.getD j 0 = 0) : orL l = 0 := by
  induction l with
  | nil => rfl
  | cons x l ih =>
    have h0 := h 0 (by simp)
    rw [List.getD_cons_zero] at h0
    unfold orL; rw [if_pos h0]
    exact ih fun j hj => by simpa using h (j + 1) (by simpa using hj)

set_option maxRecDepth 100000 in
/-- extent.fits -/
theorem xFits (s : ByteArray) (w : World) (hs : s.size ≤ 9223372036854775807) : Calls Try.prog 39 #[.string s] w fun e w' => e = .returned (.int .i64 (if 64 < s.size then 5 else 0)) ∧ w' = w := by
  by_cases h : 64 < s.size
  · have h1 : (64 : Int) < (s.size : Int) := by omega
    go_enter Try.func39, Try.ntmps39
    go_wp2_with fail
    go_ret
    exact ⟨rfl, rfl⟩
  · have h1 : ¬ ((64 : Int) < (s.size : Int)) := by omega
    go_enter Try.func39, Try.ntmps39
    go_wp2_with fail
    go_ret
    exact ⟨rfl, rfl⟩

set_option maxRecDepth 100000 in
/-- World.powered, of no world -/
theorem xPowNil (w : World) : Calls Try.prog 37 #[.pointer none] w fun e w' => e = .returned (.int .i64 2) ∧ w' = w := by
  go_enter Try.func37, Try.ntmps37
  go_wp2_with fail
  go_ret
  exact ⟨rfl, rfl⟩
set_option maxRecDepth 100000 in
/-- World.powered -/
theorem xPow (b : Nat) (on : Bool) (w : World) (h : w.cell? ⟨b, 0, none⟩ = some (.bool on)) : Calls Try.prog 37 #[.pointer (some ⟨b, 0, none⟩)] w fun e w' => e = .returned (.int .i64 (if on then 0 else 6)) ∧ w' = w := by
  cases on with
  | true =>
    go_enter Try.func37, Try.ntmps37
    go_wp2_with fail
    go_ret
    exact ⟨rfl, rfl⟩
  | false =>
    go_enter Try.func37, Try.ntmps37
    go_wp2_with fail
    go_ret
    exact ⟨rfl, rfl⟩
set_option maxRecDepth 100000 in
/-- World.has, of no world -/
theorem xHasNil (e a : Int) (w : World) : Calls Try.prog 33 #[.pointer none, .int .i64 e, .int .i64 a] w fun x w' => x = .returned (.int .i64 2) ∧ w' = w := by
  go_enter Try.func33, Try.ntmps33
  go_wp2_with fail
  go_ret
  exact ⟨rfl, rfl⟩
set_option maxRecDepth 100000 in
set_option maxHeartbeats 1000000 in
/-- World.has -/
theorem xHas (b : Nat) (e a : Int) (n s c : Nat) (g : Option Addr) (w : World) (h1 : w.cell? ⟨b, 1, none⟩ = some (.int .i64 s)) (h2 : w.cell? ⟨b, 2, none⟩ = some (.slice g n c)) :
    Calls Try.prog 33 #[.pointer (some ⟨b, 0, none⟩), .int .i64 e, .int .i64 a] w fun x w' => x = .returned (.int .i64 (if 0 ≤ e ∧ e < n ∧ 0 ≤ a ∧ a < s then 0 else 1)) ∧ w' = w := by
  by_cases e0 : e < 0
  · have hr : ¬ (0 ≤ e ∧ e < n ∧ 0 ≤ a ∧ a < s) := by omega
    rw [if_neg hr]
    clear hr
    go_enter Try.func33, Try.ntmps33
    go_wp2_with fail
    go_ret
    exact ⟨rfl, rfl⟩
  by_cases e1 : (n : Int) ≤ e
  · have hr : ¬ (0 ≤ e ∧ e < n ∧ 0 ≤ a ∧ a < s) := by omega
    rw [if_neg hr]
    clear hr
    go_enter Try.func33, Try.ntmps33
    go_wp2_with fail
    go_ret
    exact ⟨rfl, rfl⟩
  by_cases a0 : a < 0
  · have hr : ¬ (0 ≤ e ∧ e < n ∧ 0 ≤ a ∧ a < s) := by omega
    rw [if_neg hr]
    clear hr
    go_enter Try.func33, Try.ntmps33
    go_wp2_with fail
    go_ret
    exact ⟨rfl, rfl⟩
  by_cases a1 : (s : Int) ≤ a
  · have hr : ¬ (0 ≤ e ∧ e < n ∧ 0 ≤ a ∧ a < s) := by omega
    rw [if_neg hr]
    clear hr
    go_enter Try.func33, Try.ntmps33
    go_wp2_with fail
    go_ret
    exact ⟨rfl, rfl⟩
  have hr : 0 ≤ e ∧ e < n ∧ 0 ≤ a ∧ a < s := by omega
  rw [if_pos hr]
  clear hr
  go_enter Try.func33, Try.ntmps33
  go_wp2_with fail
  go_ret
  exact ⟨rfl, rfl⟩

set_option maxRecDepth 100000 in
set_option maxHeartbeats 1000000 in
/-- cmp.Or -/
theorem xOr (g c : Nat) (l : List Int) (w : World) (hl : l.length ≤ 3) (h : ∀ j, j < l.length → w.cell? ⟨g, j, none⟩ = some (.int .i64 (l.getD j 0))) :
    Calls Try.prog 36 #[.slice (some ⟨g, 0, none⟩) l.length c] w fun x w' => x = .returned (.int .i64 (orL l)) ∧ w' = w := by
  obtain ⟨n, hn⟩ : ∃ n, n = l.length := ⟨_, rfl⟩
  rw [← hn] at hl ⊢
  have H := Lib.hid h
  have HN := Lib.hid hn
  clear h
  clear hn
  go_enter Try.func36, Try.ntmps36
  go_wp2_with fail
  go_loopw [8] (fun v wr => ∃ k : Nat, k ≤ n ∧ v = .int .i64 k ∧ Hid (∀ j, j < k → l.getD j 0 = 0) ∧ wr = w) (fun v _ => n - (intOf v).toNat)
  case atStart => exact ⟨0, Nat.zero_le _, rfl, Lib.hid (fun j hj => absurd hj (by omega)), rfl⟩
  case round =>
    obtain ⟨k, hk, rfl, HZ, rfl⟩ := hrel
    by_cases hlt : k < n
    · have hc := H.out k (by rw [← HN.out]; exact hlt)
      obtain ⟨x, hx⟩ : ∃ x, x = l.getD k 0 := ⟨_, rfl⟩
      rw [← hx] at hc
      have HX := Lib.hid hx
      have k0 : (0 : Int) ≤ (k : Int) := by omega
      have k1 : (k : Int) < (n : Int) := by omega
      clear hx
      by_cases hz : x = 0
      · subst hz
        go_wp2_with fail
        go_roundw
        case rel => exact ⟨k + 1, by omega, by go_num, Lib.hid (fun j hj => by
          rcases Nat.lt_or_ge j k with q | q
          · exact HZ.out j q
          · rw [show j = k by omega]; exact HX.out.symm), by first | rfl | trivial⟩
        case measure => simp [intOf]; omega
      · go_wp2_with fail
        go_ret
        exact ⟨by rw [orL_take l k (by rw [← HN.out]; exact hlt) HZ.out (by rw [← HX.out]; exact hz), ← HX.out]; rfl, rfl⟩
    · have hkn : k = n := by omega
      subst hkn
      have k1 : ¬ ((k : Int) < (k : Int)) := by omega
      go_wp2_with fail
      go_ret
      exact ⟨by rw [orL_none l (fun j hj => HZ.out j (by rw [HN.out]; exact hj))]; rfl, rfl⟩

end Go.Proofs.Ytjghpacpeojejaa
