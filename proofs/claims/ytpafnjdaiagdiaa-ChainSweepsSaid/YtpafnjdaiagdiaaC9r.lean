/- cloisonneref09: Right: walked. -/
import Derived.Test.YtpafnjdaiagdiaaC9s
namespace Go.Proofs.Ytpafnjdaiagdiaa
open Go.RowKit

/-- texts and bits that are some -/
def FitsL (l : List Ver) : Prop := ∀ x, x ∈ l → x.val.Fits
theorem FitsL.get {l : List Ver} (h : FitsL l) {i : Nat} (hi : i < l.length) : (l.getD i Ver.Z).val.Fits := by
  rw [List.getD_eq_getElem?_getD, List.getElem?_eq_getElem hi]
  exact h _ (List.getElem_mem hi)
theorem right_no {l : List Ver} {i : Nat} (hi : i < l.length) (h : mayV (prevS l i) (l.getD i Ver.Z) = false) : rightL l = false := by
  cases q : rightL l with
  | false => rfl
  | true => have := (rightL_iff l).1 q i hi; rw [h] at this; cases this
theorem prevS_succ (l : List Ver) (i : Nat) : prevS l (i + 1) = (l.getD i Ver.Z).seq := by
  unfold prevS
  rw [if_neg (by omega), Nat.add_sub_cancel]

set_option maxRecDepth 100000 in
set_option maxHeartbeats 2000000 in
/-- Right -/
theorem rRight9 (l : List Ver) (A : Option Addr) (c : Nat) (w : World) (h : SlV w A l) (hf : FitsL l) (hl : l.length ≤ 1000) :
    Calls Try.prog 9 #[.slice A l.length c] w fun e w' => e = .returned (.bool (rightL l)) ∧ Below w.heap.size w w' := by
  obtain ⟨n, hn⟩ : ∃ n, n = l.length := ⟨_, rfl⟩
  obtain ⟨R, hR⟩ : ∃ R, R = rightL l := ⟨_, rfl⟩
  rw [← hn, ← hR]
  have hl' : n ≤ 1000 := by omega
  have HN := Lib.hid hn
  have HR := Lib.hid hR
  have HS := Lib.hid h
  have HF := Lib.hid hf
  have NZ := Lib.hid neq_zero
  clear hl hn hR h hf
  go_enter Try.func9, Try.ntmps9
  go_wp2_with fail
  go_loopw [3, 4] (fun vp vi wr => ∃ i : Nat, i ≤ n ∧ vp = .int .i64 (prevS l i) ∧ vi = .int .i64 i ∧ Hid (∀ j, j < i → mayV (prevS l j) (l.getD j Ver.Z) = true) ∧ Hid (Below w.heap.size w wr)) (fun _ vi _ => n - (intOf vi).toNat)
  case atStart => exact ⟨0, Nat.zero_le _, rfl, rfl, Lib.hid (fun j hj => by cases hj), Lib.hid (Below.refl _ _)⟩
  case round =>
    obtain ⟨i, hi, rfl, rfl, HM, HB⟩ := hrel
    by_cases q : i < n
    · obtain ⟨b, o, rfl, hb, c0, c1, c2, c3, c4⟩ := (HS.out.below HB.out).at (by rw [← HN.out]; exact q)
      have RN := Lib.hid (fun (hm : mayV (prevS l i) (l.getD i Ver.Z) = false) => show R = false by rw [HR.out]; exact right_no (by rw [← HN.out]; exact q) hm)
      have PS := Lib.hid (prevS_succ l i)
      have XF := Lib.hid (HF.out.get (i := i) (by rw [← HN.out]; exact q))
      obtain ⟨p, hp⟩ : ∃ p, p = prevS l i := ⟨_, rfl⟩
      obtain ⟨x, hx⟩ : ∃ x, x = l.getD i Ver.Z := ⟨_, rfl⟩
      have HMY := Lib.hid (show mayV p x = true → ∀ j, j < i + 1 → mayV (prevS l j) (l.getD j Ver.Z) = true from fun hm j hj => by
        by_cases e : j = i
        · rw [e, ← hp, ← hx]; exact hm
        · exact HM.out j (by omega))
      rw [← hx] at c0 c1 c2 c3 c4 RN PS XF
      rw [← hp] at RN ⊢
      obtain ⟨s, g, v⟩ := x
      obtain ⟨m, t, k⟩ := v
      have VR := Lib.hid (vrRight ⟨m, t, k⟩ wr XF.out)
      have NE := NZ.out ⟨m, t, k⟩
      obtain ⟨K, hK⟩ : ∃ K, K = Val.ok ⟨m, t, k⟩ := ⟨_, rfl⟩
      obtain ⟨Y, hY⟩ : ∃ Y, Y = Val.isZ ⟨m, t, k⟩ := ⟨_, rfl⟩
      rw [← hK] at VR
      simp only [← hY] at NE
      have EM := Lib.hid (show mayV p ⟨s, g, ⟨m, t, k⟩⟩ = (decide (p < s) && (decide (s ≤ 1073741824) && (K && (!g || Y)))) by rw [hK, hY]; rfl)
      have i0 : (0 : Int) ≤ (i : Int) := by omega
      have i1 : (i : Int) < (n : Int) := by omega
      clear hp hx hK hY hb
      change wr.cell? _ = some (.int .i64 s) at c0
      change wr.cell? _ = some (.bool g) at c1
      change wr.cell? _ = some (.bool m) at c2
      change wr.cell? _ = some (.string t) at c3
      change wr.cell? _ = some (.int .u64 (k : Int)) at c4
      change Hid (prevS l (i + 1) = s) at PS
      have NE : ∀ w, (binOp .neq 27 (.agg #[.bool m, .string t, .int .u64 (k : Int)]) (.agg #[.bool false, .string ⟨#[]⟩, .int .u64 0])).run Try.prog w = .ok (.bool (!Y)) w := NE
      have VR : Hid (Calls Try.prog 22 #[.agg #[.bool m, .string t, .int .u64 (k : Int)]] wr fun e w' => e = .returned (.bool K) ∧ Below wr.heap.size wr w') := VR
      by_cases p1 : p < s
      · by_cases p2 : s ≤ 1073741824
        · go_wp2_with fail
          refine VR.out.mono ?_
          rintro e w1 ⟨rfl, hb1⟩
          have c0 := (hb1.cell (p := ⟨b, o + i * 5, none⟩) (block_lt_of_cell c0)).trans c0
          have c1 := (hb1.cell (p := ⟨b, o + i * 5 + 1, none⟩) (block_lt_of_cell c1)).trans c1
          have c2 := (hb1.cell (p := ⟨b, o + i * 5 + 2, none⟩) (block_lt_of_cell c2)).trans c2
          have c3 := (hb1.cell (p := ⟨b, o + i * 5 + 3, none⟩) (block_lt_of_cell c3)).trans c3
          have c4 := (hb1.cell (p := ⟨b, o + i * 5 + 4, none⟩) (block_lt_of_cell c4)).trans c4
          have B1 := Lib.hid (HB.out.trans (hb1.mono HB.out.size))
          clear hb1
          cases K with
          | false =>
            go_wp2_with fail
            go_ret
            exact ⟨by rw [RN.out (by rw [EM.out]; simp)]; rfl, B1.out⟩
          | true =>
            cases g with
            | false =>
              have OK := Lib.hid (HMY.out (by rw [EM.out, decide_eq_true p1, decide_eq_true p2]; rfl))
              go_wp2_with fail
              go_roundw
              case rel => exact ⟨i + 1, by omega, by rw [PS.out], by go_num, OK, B1⟩
              case measure => simp [intOf]; omega
            | true =>
              cases Y with
              | false =>
                go_wp2_with fail
                go_ret
                exact ⟨by rw [RN.out (by rw [EM.out]; simp)]; rfl, B1.out⟩
              | true =>
                have OK := Lib.hid (HMY.out (by rw [EM.out, decide_eq_true p1, decide_eq_true p2]; rfl))
                go_wp2_with fail
                go_roundw
                case rel => exact ⟨i + 1, by omega, by rw [PS.out], by go_num, OK, B1⟩
                case measure => simp [intOf]; omega
        · go_wp2_with fail
          go_ret
          exact ⟨by rw [RN.out (by rw [EM.out, decide_eq_false (show ¬ s ≤ 1073741824 by omega)]; simp)]; rfl, HB.out⟩
      · go_wp2_with fail
        go_ret
        exact ⟨by rw [RN.out (by rw [EM.out, decide_eq_false (show ¬ p < s by omega)]; simp)]; rfl, HB.out⟩
    · obtain rfl : i = n := by omega
      have RT := Lib.hid (show R = true by rw [HR.out, rightL_iff]; rw [← HN.out]; exact HM.out)
      go_wp2_with fail
      go_ret
      exact ⟨by rw [RT.out]; rfl, HB.out⟩

end Go.Proofs.Ytpafnjdaiagdiaa
