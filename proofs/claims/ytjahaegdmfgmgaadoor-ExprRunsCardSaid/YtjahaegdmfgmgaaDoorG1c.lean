/- expr's Right and Depth: walked. -/
import Derived.Test.YtjahaegdmfgmgaaDoorG1b
namespace Go.Proofs.YtjahaegdmfgmgaaDoor
open Go.RowKit Ex Fl

/-- bits that are some -/
def FitC (p : List Cd) : Prop := ∀ c, c ∈ p → Fits c.b
theorem FitC.get {p : List Cd} (h : FitC p) {i : Nat} (hi : i < p.length) : Fits (p.getD i Cd.Z).b := by
  rw [List.getD_eq_getElem?_getD, List.getElem?_eq_getElem hi]
  exact h _ (List.getElem_mem hi)
theorem all_iff {p : List Cd} {f : Cd → Bool} : p.all f = true ↔ ∀ i, i < p.length → f (p.getD i Cd.Z) = true := by
  rw [List.all_eq_true]
  constructor
  · intro h i hi
    rw [List.getD_eq_getElem?_getD, List.getElem?_eq_getElem hi]
    exact h _ (List.getElem_mem hi)
  · intro h c hc
    obtain ⟨i, hi, rfl⟩ := List.getElem_of_mem hc
    have := h i hi
    rwa [List.getD_eq_getElem?_getD, List.getElem?_eq_getElem hi] at this
theorem right_no {p : List Cd} {i : Nat} (hi : i < p.length) (h : isC (p.getD i Cd.Z) = false) : right p = false := by
  cases q : right p with
  | false => rfl
  | true =>
    unfold right at q
    simp only [Bool.and_eq_true] at q
    have := all_iff.1 q.2.2 i hi
    rw [h] at this; cases this
theorem right_yes {p : List Cd} (h1 : 1 ≤ p.length) (h2 : p.length ≤ 32) (h : ∀ i, i < p.length → isC (p.getD i Cd.Z) = true) : right p = true := by
  unfold right
  simp only [Bool.and_eq_true, decide_eq_true_eq]
  exact ⟨h1, h2, all_iff.2 h⟩

set_option maxRecDepth 100000 in
set_option maxHeartbeats 1000000 in
/-- Right -/
theorem xRight14 (p : List Cd) (A : Option Addr) (c : Nat) (w : World) (h : SlC w A p) (hf : FitC p) (hl : p.length ≤ maxLen) :
    Calls Tryd.prog 11 #[.slice A p.length c] w fun e w' => e = .returned (.bool (right p)) ∧ Below w.heap.size w w' := by
  unfold maxLen at hl
  obtain ⟨n, hn⟩ : ∃ n, n = p.length := ⟨_, rfl⟩
  obtain ⟨R, hR⟩ : ∃ R, R = right p := ⟨_, rfl⟩
  rw [← hn, ← hR]
  rw [← hn] at hl
  have HN := Lib.hid hn
  have HR := Lib.hid hR
  have HS := Lib.hid h
  have HF := Lib.hid hf
  have RX := Lib.hid (show n < 1 ∨ 32 < n → R = false from fun q => by
    rw [hR]; unfold right; rw [← hn]
    rcases q with q | q
    · rw [decide_eq_false (by omega)]; rfl
    · rw [decide_eq_false (show ¬ n ≤ 32 by omega), Bool.false_and, Bool.and_false])
  clear hn hR h hf
  by_cases q1 : n < 1
  · go_enter Tryd.func11, Tryd.ntmps11
    go_wp2_with fail
    go_ret
    exact ⟨ret_bool (RX.out (.inl q1)).symm, Below.refl _ _⟩
  by_cases q2 : 32 < n
  · go_enter Tryd.func11, Tryd.ntmps11
    go_wp2_with fail
    go_ret
    exact ⟨ret_bool (RX.out (.inr q2)).symm, Below.refl _ _⟩
  go_enter Tryd.func11, Tryd.ntmps11
  go_wp2_with fail
  go_loopw [15] (fun vi wr => ∃ i : Nat, i ≤ n ∧ vi = .int .i64 i ∧ Hid (∀ j, j < i → isC (p.getD j Cd.Z) = true) ∧ Hid (Below w.heap.size w wr)) (fun vi _ => n - (intOf vi).toNat)
  case atStart => exact ⟨0, Nat.zero_le _, rfl, Lib.hid (fun j hj => by cases hj), Lib.hid (Below.refl _ _)⟩
  case round =>
    obtain ⟨i, hi, rfl, HM, HB⟩ := hrel
    by_cases q : i < n
    · obtain ⟨b, o, rfl, hb, c0, c1⟩ := (HS.out.below HB.out).at_ (by rw [← HN.out]; exact q)
      have RN := Lib.hid (fun (hm : isC (p.getD i Cd.Z) = false) => show R = false by rw [HR.out]; exact right_no (by rw [← HN.out]; exact q) hm)
      have XF := HF.out.get (i := i) (by rw [← HN.out]; exact q)
      obtain ⟨x, hx⟩ : ∃ x, x = p.getD i Cd.Z := ⟨_, rfl⟩
      have HMY := Lib.hid (show isC x = true → ∀ j, j < i + 1 → isC (p.getD j Cd.Z) = true from fun hm j hj => by
        by_cases e : j = i
        · rw [e, ← hx]; exact hm
        · exact HM.out j (by omega))
      rw [← hx] at c0 c1 RN XF
      have IS := Lib.hid (fun W => xisStep x XF W)
      obtain ⟨K, hK⟩ : ∃ K, K = isC x := ⟨_, rfl⟩
      rw [← hK] at RN HMY
      simp only [← hK] at IS
      obtain ⟨op, bb⟩ := x
      have IS : Hid (∀ W, Calls Tryd.prog 23 #[.agg #[.int .i64 op, .int .u64 (bb : Int)]] W fun e w' => e = .returned (.bool K) ∧ Below W.heap.size W w') := IS
      have i0 : (0 : Int) ≤ (i : Int) := by omega
      have i1 : (i : Int) < (n : Int) := by omega
      change wr.cell? _ = some (.int .i64 op) at c0
      change wr.cell? _ = some (.int .u64 (bb : Int)) at c1
      have BA := Lib.hid (HB.out.alloc HB.out.size (.cells #[.int .i64 op, .int .u64 (bb : Int)] 42))
      clear hx hK hb XF
      go_wp2_with fail
      refine (IS.out _).mono ?_
      rintro e w1 ⟨rfl, hb1⟩
      have B1 := Lib.hid (BA.out.trans (hb1.mono BA.out.size))
      clear hb1
      cases K with
      | false =>
        go_wp2_with fail
        go_ret
        exact ⟨ret_bool (RN.out (by first | rfl | trivial)).symm, B1.out⟩
      | true =>
        have HM2 := Lib.hid (HMY.out (by first | rfl | trivial))
        go_wp2_with fail
        go_roundw
        case rel => exact ⟨i + 1, by omega, by go_num, HM2, B1⟩
        case measure => simp [intOf]; omega
    · have RY := Lib.hid (show R = true by
        rw [HR.out]
        exact right_yes (by rw [← HN.out]; omega) (by rw [← HN.out]; omega) (fun j hj => HM.out j (by rw [← HN.out] at hj; omega)))
      obtain rfl : i = n := by omega
      go_wp2_with fail
      go_ret
      exact ⟨ret_bool RY.out.symm, HB.out⟩

/-- what Depth tells -/
def dep (p : List Cd) : Option Nat := if right p then hts p 0 else none
theorem hts_step {p : List Cd} {i h : Nat} (hi : i < p.length) : hts (p.drop i) h = if bad (p.getD i Cd.Z).op h then none else hts (p.drop (i + 1)) (h - tk (p.getD i Cd.Z).op + pt (p.getD i Cd.Z).op) := by
  rw [List.drop_eq_getElem_cons hi, hts, List.getD_eq_getElem?_getD, List.getElem?_eq_getElem hi]
  rfl
theorem ret_ib' {a a' : Int} {c c' : Bool} (h1 : a = a') (h2 : c = c') : Ending.returned (.tuple #[.int .i64 a, .bool c]) = .returned (.tuple #[.int .i64 a', .bool c']) := by rw [h1, h2]

set_option maxRecDepth 100000 in
set_option maxHeartbeats 1000000 in
/-- Depth -/
theorem xDepth14 (p : List Cd) (A : Option Addr) (c : Nat) (w : World) (h : SlC w A p) (hf : FitC p) (hl : p.length ≤ maxLen) (ht : TabH w) :
    Calls Tryd.prog 16 #[.slice A p.length c] w fun e w' => e = .returned (.tuple #[.int .i64 (((dep p).getD 0 : Nat) : Int), .bool (dep p).isSome]) ∧ Below w.heap.size w w' := by
  have RR := Lib.hid (xRight14 p A c w h hf hl)
  unfold maxLen at hl
  cases hr : right p with
  | false =>
    rw [hr] at RR
    have e : dep p = none := by unfold dep; rw [hr]; rfl
    rw [e]
    clear h hf ht hr e
    go_enter Tryd.func16, Tryd.ntmps16
    go_wp2_with fail
    refine RR.out.mono ?_
    rintro e w1 ⟨rfl, hb1⟩
    have B1 := Lib.hid hb1
    clear hb1
    go_wp2_with fail
    go_ret2
    exact ⟨rfl, B1.out⟩
  | true =>
    rw [hr] at RR
    obtain ⟨st, n1, n32⟩ := right_steps hr hf
    have e : dep p = hts p 0 := by unfold dep; rw [hr]; rfl
    rw [e]
    obtain ⟨D, hD⟩ : ∃ D, D = hts p 0 := ⟨_, rfl⟩
    rw [← hD]
    have HD := Lib.hid hD
    obtain ⟨n, hn⟩ : ∃ n, n = p.length := ⟨_, rfl⟩
    have HN := Lib.hid hn
    rw [← hn] at RR n1 n32 hl ⊢
    have HS := Lib.hid h
    have HT := Lib.hid ht
    have ST := Lib.hid st
    clear h hf ht hr e hD hn st
    go_enter Tryd.func16, Tryd.ntmps16
    go_wp2_with fail
    refine RR.out.mono ?_
    rintro e w1 ⟨rfl, hb1⟩
    have B1 := Lib.hid hb1
    clear hb1
    go_wp2_with fail
    go_loopw [4, 15] (fun vh vi wr => ∃ (i k : Nat), i ≤ n ∧ k ≤ 8 ∧ vh = .int .i64 k ∧ vi = .int .i64 i ∧ Hid (D = hts (p.drop i) k) ∧ Hid (Below w.heap.size w wr)) (fun _ vi _ => n - (intOf vi).toNat)
    case atStart => exact ⟨0, 0, Nat.zero_le _, Nat.zero_le _, rfl, rfl, HD, B1⟩
    case round =>
      obtain ⟨i, k, hi, hk, rfl, rfl, HE, HB⟩ := hrel
      by_cases q : i < n
      · obtain ⟨b, o, rfl, hb, c0, c1⟩ := (HS.out.below HB.out).at_ (by rw [← HN.out]; exact q)
        have SX := ST.out (p.getD i Cd.Z) (by
          rw [List.getD_eq_getElem?_getD, List.getElem?_eq_getElem (by rw [← HN.out]; exact q)]
          exact List.getElem_mem _)
        have HE2 := HE.out.trans (hts_step (by rw [← HN.out]; exact q))
        obtain ⟨⟨op, bb⟩, hx⟩ : ∃ x, x = p.getD i Cd.Z := ⟨_, rfl⟩
        rw [← hx] at c0 c1 SX HE2
        obtain ⟨o1, o2, _⟩ := (isC_iff _).1 SX.1
        change 1 ≤ op at o1
        change op ≤ 16 at o2
        change wr.cell? _ = some (.int .i64 op) at c0
        change wr.cell? _ = some (.int .u64 (bb : Int)) at c1
        change D = if bad op k then none else hts (p.drop (i + 1)) (k - tk op + pt op) at HE2
        have BA := Lib.hid (HB.out.alloc HB.out.size (.cells #[.int .i64 op, .int .u64 (bb : Int)] 42))
        have XH := Lib.hid (xheights k op hk o1 o2 _ (HT.out.bel BA.out))
        have i0 : (0 : Int) ≤ (i : Int) := by omega
        have i1 : (i : Int) < (n : Int) := by omega
        by_cases bd : bad op k
        · rw [if_pos bd] at HE2
          rw [decide_eq_true bd] at XH
          have HX := Lib.hid HE2
          clear hx SX HE2 hb bd o1 o2
          go_wp2_with fail
          refine XH.out.mono ?_
          rintro e w2 ⟨rfl, rfl⟩
          go_wp2_with fail
          go_ret2
          exact ⟨by rw [HX.out]; rfl, BA.out⟩
        · rw [if_neg bd] at HE2
          rw [decide_eq_false bd] at XH
          have k8 : k - tk op + pt op ≤ 8 := by unfold bad at bd; omega
          have e1 : (k : Int) - (tk op : Int) + (pt op : Int) = ((k - tk op + pt op : Nat) : Int) := by unfold bad at bd; omega
          rw [e1] at XH
          obtain ⟨k', hk'⟩ : ∃ k', k' = k - tk op + pt op := ⟨_, rfl⟩
          rw [← hk'] at XH k8 HE2
          have HX := Lib.hid HE2
          clear hx SX HE2 hb bd o1 o2 e1 hk'
          go_wp2_with fail
          refine XH.out.mono ?_
          rintro e w2 ⟨rfl, rfl⟩
          go_wp2_with fail
          go_roundw
          case rel => exact ⟨i + 1, k', by omega, by omega, rfl, by go_num, HX, BA⟩
          case measure => simp [intOf]; omega
      · obtain rfl : i = n := by omega
        have HX := Lib.hid (show D = some k by
          rw [HE.out, HN.out, List.drop_length]; rfl)
        go_wp2_with fail
        go_ret2
        exact ⟨by rw [HX.out]; rfl, HB.out⟩

end Go.Proofs.YtjahaegdmfgmgaaDoor
