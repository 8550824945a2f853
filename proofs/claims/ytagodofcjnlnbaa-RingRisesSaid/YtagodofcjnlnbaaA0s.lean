/- cloisonneref10.Ring: AsOf: walked. -/
import Derived.Test.YtagodofcjnlnbaaA0r
namespace Go.Proofs.Ytagodofcjnlnbaa
open Go.RowKit

def cntTo (l : List Int) (x : Int) (i : Nat) : Nat := (l.take i).countP fun y => decide (y ≤ x)
theorem cntTo_yes {l : List Int} {x : Int} {i : Nat} (hi : i < l.length) (h : l.getD i 0 ≤ x) : cntTo l x (i + 1) = cntTo l x i + 1 := by
  unfold cntTo
  have e : l.getD i 0 = l[i] := by rw [List.getD_eq_getElem?_getD, List.getElem?_eq_getElem hi]; rfl
  rw [List.take_succ_eq_append_getElem hi, List.countP_append]
  rw [e] at h
  simp [h]
theorem cntTo_no {l : List Int} {x : Int} {i : Nat} (hi : i < l.length) (h : ¬ l.getD i 0 ≤ x) : cntTo l x (i + 1) = cntTo l x i := by
  unfold cntTo
  have e : l.getD i 0 = l[i] := by rw [List.getD_eq_getElem?_getD, List.getElem?_eq_getElem hi]; rfl
  rw [List.take_succ_eq_append_getElem hi, List.countP_append]
  rw [e] at h
  simp [h]
theorem cntTo_all (r : Rg) (x : Int) : cntTo r.l x r.l.length = r.upto x := by unfold cntTo Rg.upto; rw [List.take_length]
theorem cntTo_le (l : List Int) (x : Int) (i : Nat) : cntTo l x i ≤ i := Nat.le_trans List.countP_le_length (by rw [List.length_take]; omega)

set_option maxRecDepth 100000 in
set_option maxHeartbeats 2000000 in
/-- AsOf -/
theorem rAsOf0 (p : Nat) (v : Value) (r : Rg) (x : Int) (w : World) (h : RefG w p v r) (ok : r.Ok) (hl : r.l.length ≤ 1000) :
    Calls Try.prog 16 #[.pointer (some ⟨p, 0, none⟩), .int .u64 x] w fun e w' => e = .returned (.tuple #[.int .i64 (r.asOf x : Nat), .int .i64 (r.asNo x)]) ∧ ∃ n, w' = w.drewN n := by
  obtain ⟨A, c, rfl, hc, hsl, _, _⟩ := h.own.form
  have c0 := h.row.cell 0
  have c1 := h.row.cell 1
  have c2 := h.row.cell 2
  simp only [List.getElem?_cons_succ, List.getElem?_cons_zero] at c0 c1 c2
  obtain ⟨n, hn⟩ : ∃ n, n = r.l.length := ⟨_, rfl⟩
  obtain ⟨b, hb⟩ : ∃ b, b = r.beg := ⟨_, rfl⟩
  obtain ⟨s, hs⟩ : ∃ s, s = r.size := ⟨_, rfl⟩
  obtain ⟨R, hR⟩ : ∃ R, R = r.asOf x := ⟨_, rfl⟩
  obtain ⟨E, hE⟩ : ∃ E, E = r.asNo x := ⟨_, rfl⟩
  obtain ⟨K, hK⟩ : ∃ K, K = r.upto x := ⟨_, rfl⟩
  have kn : K ≤ n := by rw [hK, hn]; exact r.upto_le x
  have eR : R = if s ≤ n - K then 0 else b + K := by rw [hR, hs, hn, hK, hb]; unfold Rg.asOf Rg.old; simp only [decide_eq_true_eq]
  have eE : E = if s ≤ n - K then 14 else 0 := by rw [hE, hs, hn, hK]; unfold Rg.asNo Rg.old; simp only [decide_eq_true_eq]
  have s16 : s ≤ 16 := by rw [hs]; exact ok.s16
  have bs : b ≤ 1073741824 := by have := ok.sq; unfold Rg.seq at this; omega
  have EK := Lib.hid (show cntTo r.l x n = K by rw [hn, hK]; exact cntTo_all r x)
  rw [← hR, ← hE]
  rw [← hn] at c2 hl hc
  rw [← hb] at c1
  rw [← hs] at c0
  have HN := Lib.hid hn
  have SL := Lib.hid hsl
  have ER := Lib.hid eR
  have EE := Lib.hid eE
  have BS := Lib.hid bs
  clear h ok hsl eR eE hR hE hK hs hb hn bs
  go_enter Try.func16, Try.ntmps16
  go_wp2_with fail
  go_loopw [6, 7] (fun vn vi wr => ∃ i : Nat, i ≤ n ∧ vn = .int .i64 (cntTo r.l x i : Nat) ∧ vi = .int .i64 i ∧ wr = w) (fun _ vi _ => n - (intOf vi).toNat)
  case atStart => exact ⟨0, Nat.zero_le _, rfl, rfl, rfl⟩
  case round =>
    obtain ⟨i, hi, rfl, rfl, rfl⟩ := hrel
    by_cases q : i < n
    · obtain ⟨bb, o, rfl, hbb, cc⟩ := SL.out.at_ (k := i) (by rw [← HN.out]; exact q)
      have cl := cc i (by rw [← HN.out]; exact q)
      have YS := Lib.hid (fun h => cntTo_yes (l := r.l) (x := x) (i := i) (by rw [← HN.out]; exact q) h)
      have NS := Lib.hid (fun h => cntTo_no (l := r.l) (x := x) (i := i) (by rw [← HN.out]; exact q) h)
      obtain ⟨y, hy⟩ : ∃ y, y = r.l.getD i 0 := ⟨_, rfl⟩
      rw [← hy] at cl YS NS
      have ci := cntTo_le r.l x i
      obtain ⟨t, ht⟩ : ∃ t, t = cntTo r.l x i := ⟨_, rfl⟩
      rw [← ht] at ci YS NS ⊢
      have i0 : (0 : Int) ≤ (i : Int) := by omega
      have i1 : (i : Int) < (n : Int) := by omega
      clear cc hy hbb ht
      by_cases z : y ≤ x
      · have e := Lib.hid (YS.out z)
        clear YS NS
        go_wp2_with fail
        go_roundw
        case rel => exact ⟨i + 1, by omega, by rw [e.out]; go_num, by go_num, by first | trivial | rfl⟩
        case measure => simp [intOf]; omega
      · have e := Lib.hid (NS.out z)
        clear YS NS
        go_wp2_with fail
        go_roundw
        case rel => exact ⟨i + 1, by omega, by rw [e.out], by go_num, by first | trivial | rfl⟩
        case measure => simp [intOf]; omega
    · obtain rfl : i = n := by omega
      rw [EK.out]
      have d1 : (i : Int) - (K : Int) = ((i - K : Nat) : Int) := by omega
      obtain ⟨d, hd⟩ : ∃ d, d = i - K := ⟨_, rfl⟩
      rw [← hd] at d1 ER EE
      have D := Lib.hid hd
      clear hd
      by_cases z : s ≤ d
      · have e1 := ER.out
        have e2 := EE.out
        rw [if_pos z] at e1 e2
        subst e1; subst e2
        go_wp2_with fail
        go_quiet (fail)
        go_wp2_with fail
        go_ret2
        exact ⟨rfl, _, rfl⟩
      · have e1 := ER.out
        have e2 := EE.out
        rw [if_neg z] at e1 e2
        subst e1; subst e2
        have BK := Lib.hid (show (b : Int) + (K : Int) = ((b + K : Nat) : Int) by omega)
        have bs := BS.out
        go_wp2_with fail
        go_quiet (fail)
        go_wp2_with fail
        go_ret2
        exact ⟨by first | rfl | simp, _, rfl⟩

end Go.Proofs.Ytagodofcjnlnbaa
