/- cloisonneref09: Weight, Same; far: walked. -/
import Derived.Test.YtpafnjdaiagdiaaC9r
import Derived.BigQuiet
namespace Go.Proofs.Ytpafnjdaiagdiaa
open Go.RowKit

/-- a version's five cells in a later world -/
theorem cells_later {w w' : World} {b o : Nat} {x : Ver} (hb : Below w.heap.size w w') (h : w.cell? ⟨b, o, none⟩ = some (.int .i64 x.seq) ∧ w.cell? ⟨b, o + 1, none⟩ = some (.bool x.gone) ∧ w.cell? ⟨b, o + 2, none⟩ = some (.bool x.val.num) ∧ w.cell? ⟨b, o + 3, none⟩ = some (.string x.val.txt) ∧ w.cell? ⟨b, o + 4, none⟩ = some (.int .u64 (x.val.bits : Int))) :
    w'.cell? ⟨b, o, none⟩ = some (.int .i64 x.seq) ∧ w'.cell? ⟨b, o + 1, none⟩ = some (.bool x.gone) ∧ w'.cell? ⟨b, o + 2, none⟩ = some (.bool x.val.num) ∧ w'.cell? ⟨b, o + 3, none⟩ = some (.string x.val.txt) ∧ w'.cell? ⟨b, o + 4, none⟩ = some (.int .u64 (x.val.bits : Int)) := by
  obtain ⟨c0, c1, c2, c3, c4⟩ := h
  exact ⟨(hb.cell (p := ⟨b, o, none⟩) (block_lt_of_cell c0)).trans c0, (hb.cell (p := ⟨b, o + 1, none⟩) (block_lt_of_cell c1)).trans c1, (hb.cell (p := ⟨b, o + 2, none⟩) (block_lt_of_cell c2)).trans c2, (hb.cell (p := ⟨b, o + 3, none⟩) (block_lt_of_cell c3)).trans c3, (hb.cell (p := ⟨b, o + 4, none⟩) (block_lt_of_cell c4)).trans c4⟩

/-- a text that is too long for the laws -/
def farL (l : List Ver) : Bool := decide (100 < l.length) || l.any fun x => decide (200 < x.val.txt.size)
set_option maxRecDepth 100000 in
set_option maxHeartbeats 1000000 in
/-- far -/
theorem xFar9 (l : List Ver) (A : Option Addr) (c : Nat) (w : World) (h : SlV w A l) (hl : l.length ≤ 9223372036854775807) :
    Calls Try.prog 8 #[.slice A l.length c] w fun e w' => (e = .returned (.bool true) ∨ (e = .returned (.bool false) ∧ l.length ≤ 100 ∧ ∀ x, x ∈ l → x.val.txt.size ≤ 200)) ∧ w' = w := by
  obtain ⟨n, hn⟩ : ∃ n, n = l.length := ⟨_, rfl⟩
  rw [← hn] at hl ⊢
  have HN := Lib.hid hn
  have HS := Lib.hid h
  clear hn h
  go_enter Try.func8, Try.ntmps8
  by_cases q0 : 100 < n
  · go_wp2_with fail
    go_ret
    exact ⟨.inl rfl, rfl⟩
  go_wp2_with fail
  go_loopw [3] (fun vi wr => ∃ i : Nat, i ≤ n ∧ vi = .int .i64 i ∧ Hid (∀ j, j < i → (l.getD j Ver.Z).val.txt.size ≤ 200) ∧ wr = w) (fun vi _ => n - (intOf vi).toNat)
  case atStart => exact ⟨0, Nat.zero_le _, rfl, Lib.hid (fun j hj => by cases hj), rfl⟩
  case round =>
    obtain ⟨i, hi, rfl, HM, rfl⟩ := hrel
    by_cases q : i < n
    · obtain ⟨b, o, rfl, hb, _, _, _, c3, _⟩ := HS.out.at (by rw [← HN.out]; exact q)
      obtain ⟨t, ht⟩ : ∃ t, t = (l.getD i Ver.Z).val.txt := ⟨_, rfl⟩
      rw [← ht] at c3
      have HT := Lib.hid ht
      have i0 : (0 : Int) ≤ (i : Int) := by omega
      have i1 : (i : Int) < (n : Int) := by omega
      have c3 : wr.cell? ⟨b, o + i * 5 + 2 + 1, none⟩ = some (.string t) := c3
      clear ht
      by_cases q2 : 200 < t.size
      · go_wp2_with fail
        go_ret
        exact ⟨.inl rfl, rfl⟩
      · go_wp2_with fail
        go_roundw
        case rel => exact ⟨i + 1, by omega, by go_num, Lib.hid (fun j hj => by
          by_cases e : j = i
          · rw [e, ← HT.out]; omega
          · exact HM.out j (by omega)), by first | trivial | rfl⟩
        case measure => simp [intOf]; omega
    · obtain rfl : i = n := by omega
      go_wp2_with fail
      go_ret
      refine ⟨.inr ⟨rfl, by omega, fun x hx => ?_⟩, rfl⟩
      obtain ⟨j, hj, rfl⟩ := List.getElem_of_mem hx
      have := HM.out j (by rw [HN.out]; exact hj)
      rw [List.getD_eq_getElem?_getD, List.getElem?_eq_getElem hj] at this
      exact this

set_option maxRecDepth 100000 in
set_option maxHeartbeats 1000000 in
/-- Weight -/
theorem rWeight9 (l : List Ver) (A : Option Addr) (c : Nat) (w : World) (h : SlV w A l) (hf : FitsL l) (ht : ∀ x, x ∈ l → x.val.txt.size ≤ 1000) (hl : l.length ≤ 1000) :
    Calls Try.prog 16 #[.slice A l.length c] w fun e w' => e = .returned (.int .i64 (weightL l : Nat)) ∧ Below w.heap.size w w' := by
  obtain ⟨n, hn⟩ : ∃ n, n = l.length := ⟨_, rfl⟩
  obtain ⟨R, hR⟩ : ∃ R, R = weightL l := ⟨_, rfl⟩
  rw [← hn] at hl
  rw [← hn, ← hR]
  have HR := Lib.hid hR
  have HN := Lib.hid hn
  have B0 := Lib.hid (Below.refl w.heap.size w)
  by_cases q : n = 0
  · subst q
    have RT := Lib.hid (show R = 0 by rw [HR.out]; unfold weightL; rw [if_pos (.inl HN.out.symm)])
    clear hR hn h hf ht hl HN
    go_enter Try.func16, Try.ntmps16
    go_wp2_with fail
    go_ret
    exact ⟨by rw [RT.out]; rfl, B0.out⟩
  · obtain ⟨i, hi⟩ : ∃ i, i = n - 1 := ⟨_, rfl⟩
    have hi' : i < l.length := by omega
    obtain ⟨b, o, rfl, hb, c0, c1, c2, c3, c4⟩ := h.at hi'
    have XF := hf.get hi'
    have XT : (l.getD i Ver.Z).val.txt.size ≤ 1000 := by
      rw [List.getD_eq_getElem?_getD, List.getElem?_eq_getElem hi']
      exact ht _ (List.getElem_mem hi')
    have ER0 : R = if (l.getD i Ver.Z).gone = true then 0 else (l.getD i Ver.Z).val.pack.size := by
      rw [hR]
      have e : lastL l = l.getD i Ver.Z := by unfold lastL; rw [← hn, ← hi]
      unfold weightL
      rw [e]
      by_cases g : (l.getD i Ver.Z).gone = true
      · rw [if_pos (.inr g), if_pos g]
      · rw [if_neg (fun z => z.elim (fun z => by omega) g), if_neg g]
    obtain ⟨x, hx⟩ : ∃ x, x = l.getD i Ver.Z := ⟨_, rfl⟩
    rw [← hx] at c0 c1 c2 c3 c4 XF XT ER0
    obtain ⟨s, g, v⟩ := x
    obtain ⟨m, t, k⟩ := v
    change w.cell? _ = some (.bool g) at c1
    change w.cell? _ = some (.bool m) at c2
    change w.cell? _ = some (.string t) at c3
    change w.cell? _ = some (.int .u64 (k : Int)) at c4
    have VP := Lib.hid (vrPack ⟨m, t, k⟩ w XF XT)
    obtain ⟨S, hS⟩ : ∃ S, S = Val.pack ⟨m, t, k⟩ := ⟨_, rfl⟩
    rw [← hS] at VP
    have ER : R = if g = true then 0 else S.size := by rw [hS]; exact ER0
    have VP : Hid (Calls Try.prog 21 #[.agg #[.bool m, .string t, .int .u64 (k : Int)]] w fun e w' => e = .returned (.string S) ∧ Below w.heap.size w w') := VP
    have i2 : (0 : Int) ≤ (i : Int) := by omega
    have i3 : (i : Int) < (n : Int) := by omega
    have i1 : (n : Int) - 1 = (i : Int) := by omega
    have HE := Lib.hid ER
    clear ER ER0 hx hS XF XT h hf ht hR hn HR HN hi hi' hb c0
    cases g with
    | true =>
      go_enter Try.func16, Try.ntmps16
      go_wp2_with fail
      go_ret
      exact ⟨by rw [HE.out]; rfl, B0.out⟩
    | false =>
      go_enter Try.func16, Try.ntmps16
      go_wp2_with fail
      refine VP.out.mono ?_
      rintro e w1 ⟨rfl, hb1⟩
      have B1 := Lib.hid hb1
      clear hb1
      go_wp2_with fail
      go_ret
      exact ⟨by rw [HE.out]; rfl, B1.out⟩

end Go.Proofs.Ytpafnjdaiagdiaa
