/- cloisonneref14: Needs, Right, Depth, one, Floor: walked. -/
import Derived.Test.YtjahaegdmfgmgaaDoorG1h
namespace Go.Proofs.YtjahaegdmfgmgaaDoor
open Go.RowKit Ex Fl

theorem ret_i2 {a a' b b' : Int} (h1 : a = a') (h2 : b = b') : Ending.returned (.tuple #[.int .i64 a, .int .i64 b]) = .returned (.tuple #[.int .i64 a', .int .i64 b']) := by rw [h1, h2]
theorem op16 {op : Int} (o1 : 1 ≤ op) (o2 : op ≤ 16) : op = 1 ∨ op = 2 ∨ op = 3 ∨ op = 4 ∨ op = 5 ∨ op = 6 ∨ op = 7 ∨ op = 8 ∨ op = 9 ∨ op = 10 ∨ op = 11 ∨ op = 12 ∨ op = 13 ∨ op = 14 ∨ op = 15 ∨ op = 16 := by omega
set_option maxRecDepth 100000 in
/-- Needs -/
theorem rNeeds (op : Int) (o1 : 1 ≤ op) (o2 : op ≤ 16) (w : World) : Calls Tryd.prog 24 #[.int .i64 op] w fun e w' => e = .returned (.tuple #[.int .i64 ((tk op : Nat) : Int), .int .i64 ((pt op : Nat) : Int)]) ∧ w = w' := by
  rcases op16 o1 o2 with rfl | rfl | rfl | rfl | rfl | rfl | rfl | rfl | rfl | rfl | rfl | rfl | rfl | rfl | rfl | rfl
  all_goals
    clear o1 o2
    go_enter Tryd.func24, Tryd.ntmps24
    go_wp2_with fail
    go_ret2
    exact ⟨rfl, rfl⟩

set_option maxRecDepth 100000 in
set_option maxHeartbeats 1000000 in
/-- Depth of a program -/
theorem rDepth14 (p : List Cd) (A : Option Addr) (c : Nat) (w : World) (h : SlC w A p) (hf : FitC p) (hr : right p = true) :
    Calls Tryd.prog 17 #[.slice A p.length c] w fun e w' => e = .returned (.tuple #[.int .i64 (((hts p 0).getD 0 : Nat) : Int), .bool (hts p 0).isSome]) ∧ Below w.heap.size w w' := by
  obtain ⟨st, n1, n32⟩ := right_steps hr hf
  obtain ⟨D, hD⟩ : ∃ D, D = hts p 0 := ⟨_, rfl⟩
  rw [← hD]
  have HD := Lib.hid hD
  obtain ⟨n, hn⟩ : ∃ n, n = p.length := ⟨_, rfl⟩
  have HN := Lib.hid hn
  rw [← hn] at n1 n32 ⊢
  have HS := Lib.hid h
  have ST := Lib.hid st
  clear h hf hr hD hn st
  go_enter Tryd.func17, Tryd.ntmps17
  go_wp2_with fail
  go_loopw [4, 5] (fun vh vi wr => ∃ (i k : Nat), i ≤ n ∧ k ≤ 8 ∧ vh = .int .i64 k ∧ vi = .int .i64 i ∧ Hid (D = hts (p.drop i) k) ∧ Hid (Below w.heap.size w wr)) (fun _ vi _ => n - (intOf vi).toNat)
  case atStart => exact ⟨0, 0, Nat.zero_le _, Nat.zero_le _, rfl, rfl, HD, Lib.hid (Below.refl _ _)⟩
  case round =>
    obtain ⟨i, k, hi, hk, rfl, rfl, HE, HB⟩ := hrel
    by_cases q : i < n
    · obtain ⟨b, o, rfl, hb, c0, c1⟩ := (HS.out.below HB.out).at_ (by rw [← HN.out]; exact q)
      have SX := ST.out (p.getD i Cd.Z) (by
        rw [List.getD_eq_getElem?_getD, List.getElem?_eq_getElem (by rw [← HN.out]; exact q)]
        exact List.getElem_mem _)
      have HE2 := HE.out.trans (hts_step (by rw [← HN.out]; exact q))
      obtain ⟨⟨op, bb⟩, hx⟩ : ∃ x, x = p.getD i Cd.Z := ⟨_, rfl⟩
      rw [← hx] at c0 c1 SX HE2
      obtain ⟨o1, o2, _⟩ := (isC_iff _).1 SX.1
      change 1 ≤ op at o1
      change op ≤ 16 at o2
      change wr.cell? _ = some (.int .i64 op) at c0
      change wr.cell? _ = some (.int .u64 (bb : Int)) at c1
      change D = if bad op k then none else hts (p.drop (i + 1)) (k - tk op + pt op) at HE2
      have XN := Lib.hid (rNeeds op o1 o2)
      have t3 := tk_le op
      have p2 := pt_le op
      obtain ⟨t, ht⟩ : ∃ t, t = tk op := ⟨_, rfl⟩
      obtain ⟨u, hu⟩ : ∃ u, u = pt op := ⟨_, rfl⟩
      have bd : bad op k ↔ (k < t ∨ 8 + t < k + u) := by rw [ht, hu]; rfl
      simp only [← ht, ← hu] at XN t3 p2 HE2
      have i0 : (0 : Int) ≤ (i : Int) := by omega
      have i1 : (i : Int) < (n : Int) := by omega
      by_cases p1 : k < t
      · rw [if_pos (bd.2 (.inl p1))] at HE2
        have HX := Lib.hid HE2
        clear hx SX HE2 hb bd o1 o2 ht hu
        go_wp2_with fail
        refine (XN.out _).mono ?_
        rintro e w2 ⟨rfl, rfl⟩
        go_wp2_with fail
        go_ret2
        exact ⟨by rw [HX.out]; rfl, HB.out⟩
      · obtain ⟨d, hd⟩ : ∃ d, d = k - t := ⟨_, rfl⟩
        obtain ⟨k2, hk2⟩ : ∃ k2, k2 = d + u := ⟨_, rfl⟩
        rw [← hd, ← hk2] at HE2
        by_cases p4 : 8 < k2
        · rw [if_pos (bd.2 (.inr (by omega)))] at HE2
          have HX := Lib.hid HE2
          have i9 : i + 1 ≤ n ∧ k2 ≤ 8 ∨ 8 < k2 := by omega
          have I9 := Lib.hid i9
          have q4 : (8 : Int) < (k : Int) - (t : Int) + (u : Int) := by omega
          have q5 : ¬ (k : Int) < (t : Int) := by omega
          clear hx SX HE2 hb bd o1 o2 ht hu hd hk2 i9
          go_wp2_with fail
          refine (XN.out _).mono ?_
          rintro e w2 ⟨rfl, rfl⟩
          go_wp2_with fail
          go_ret2
          exact ⟨by rw [HX.out]; rfl, HB.out⟩
        · rw [if_neg (fun h => by rcases bd.1 h with h | h <;> omega)] at HE2
          have HX := Lib.hid HE2
          have i9 : i + 1 ≤ n ∧ k2 ≤ 8 ∨ 8 < k2 := by omega
          have I9 := Lib.hid i9
          have q4 : ¬ (8 : Int) < (k : Int) - (t : Int) + (u : Int) := by omega
          have q5 : ¬ (k : Int) < (t : Int) := by omega
          have EK := Lib.hid (show (k : Int) - (t : Int) + (u : Int) = (k2 : Int) by omega)
          clear hx SX HE2 hb bd o1 o2 ht hu hd hk2 i9
          go_wp2_with fail
          refine (XN.out _).mono ?_
          rintro e w2 ⟨rfl, rfl⟩
          go_wp2_with fail
          go_roundw
          case rel => exact ⟨i + 1, k2, by have := I9.out; have := EK.out; omega, by have := EK.out; omega, congrArg (Value.int .i64) EK.out, by go_num, HX, HB⟩
          case measure => simp [intOf]; omega
    · obtain rfl : i = n := by omega
      have HX := Lib.hid (show D = some k by
        rw [HE.out, HN.out, List.drop_length]; rfl)
      go_wp2_with fail
      go_ret2
      exact ⟨by rw [HX.out]; rfl, HB.out⟩

/-- one -/
theorem rone (a : Nat) (ha : Fits a) (w : World) : Calls Tryd.prog 32 #[.float .f64 a] w fun e w' => e = .returned (.float .f64 (bitsOf a)) ∧ w = w' := by
  have RB := Lib.hid (rbits a ha)
  clear ha
  go_enter Tryd.func32, Tryd.ntmps32
  go_wp2_with fail
  refine (RB.out _).mono ?_
  rintro e w' ⟨rfl, rfl⟩
  go_wp2
  go_ret
  exact ⟨ret_fl (by simp), rfl⟩

end Go.Proofs.YtjahaegdmfgmgaaDoor
