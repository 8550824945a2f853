/- Proved parts: C9h C9k. Conditions: each theorem's own. -/
import Derived.Test.YtbfgpdgiaclphaaM36
import Derived.Test.YtbfgpdgiaclphaaM37
namespace Go.Proofs.Ytbfgpdgiaclphaa
open Go.RowKit

/-- a row of versions -/
def VRow (w : World) (g : Nat) (l : List Ver) : Prop := RowAt w g (vcs l) 60
section
variable {w w' : World} {g : Nat} {l : List Ver}
theorem VRow.cell (h : VRow w g l) {i j : Nat} (hi : i < l.length) (hj : j < 5) : w.cell? ⟨g, i * 5 + j, none⟩ = l[i].cs[j]? := by
  rw [RowAt.cell h]; exact flat_at (f := Ver.cs) (n := 5) (fun _ => rfl) l i j hi hj
theorem VRow.frozen (h : VRow w g l) (i : Nat) : w.frozen? ⟨g, i, none⟩ = false := RowAt.frozen h i
theorem VRow.below (h : VRow w g l) (hb : Below w.heap.size w w') : VRow w' g l := RowAt.below h hb
theorem VRow.set (h : VRow w g l) {k : Nat} (hk : k < l.length) (y : Ver) : VRow (w.setCells g (k * 5) y.cs) g (l.set k y) := by
  have q := RowAt.setCells y.cs (k * 5) (vcs l) w h (by rw [vcs_len]; show k * 5 + 5 ≤ _; omega)
  rw [show over (vcs l) (k * 5) y.cs = vcs (l.set k y) from flat_seg (f := Ver.cs) (n := 5) (fun _ => rfl) y l k hk] at q
  exact q
theorem VRow.own {B : Nat} (h : VRow w g l) (hg : B ≤ g) (hl : l.length ≤ maxLen) : OwnV w B (.slice (some ⟨g, 0, none⟩) l.length l.length) l :=
  ⟨vcs_len l, .inr ⟨g, l.length, _, rfl, hg, h, Nat.le_refl _, hl, by simp [vcs_len], by rw [List.take_of_length_le (by rw [vcs_len]; exact Nat.le_refl _)]⟩⟩
end
/-- the first k of l, zero ones behind -/
def verTo (l : List Ver) (k : Nat) : List Ver := (List.range l.length).map fun i => if i < k then l.getD i Ver.Z else Ver.Z
theorem verTo_len (l : List Ver) (k : Nat) : (verTo l k).length = l.length := by unfold verTo; simp
theorem verTo_get (l : List Ver) (k i : Nat) (h : i < (verTo l k).length) : (verTo l k)[i] = if i < k then l.getD i Ver.Z else Ver.Z := by
  simp [verTo]
theorem verTo_zero (l : List Ver) : verTo l 0 = List.replicate l.length Ver.Z := by
  apply List.ext_getElem
  · rw [verTo_len, List.length_replicate]
  · intro i h1 h2
    rw [verTo_get, if_neg (by omega), List.getElem_replicate]
theorem verTo_all (l : List Ver) : verTo l l.length = l := by
  apply List.ext_getElem
  · rw [verTo_len]
  · intro i h1 h2
    rw [verTo_get, if_pos h2, List.getD_eq_getElem?_getD, List.getElem?_eq_getElem h2]; rfl
theorem verTo_set (l : List Ver) (k : Nat) : (verTo l k).set k (l.getD k Ver.Z) = verTo l (k + 1) := by
  apply List.ext_getElem
  · rw [List.length_set, verTo_len, verTo_len]
  · intro i h1 h2
    rw [List.getElem_set]
    by_cases q : k = i
    · subst q; rw [if_pos rfl, verTo_get, if_pos (by omega)]
    · rw [if_neg q, verTo_get, verTo_get]
      by_cases q2 : i < k
      · rw [if_pos q2, if_pos (by omega)]
      · rw [if_neg q2, if_neg (by omega)]
/-- make([]Version, n) -/
theorem make_vers (n : Nat) (hn : n ≤ 1000) (W : World) : (Instr.makeSlice 64 (.int .i64 (n : Int)) (.int .i64 (n : Int))).run Try.prog W = .ok (.slice (some ⟨W.heap.size, 0, none⟩) n n) (W.alloc (.cells (vcs (List.replicate n Ver.Z)).toArray 60)) := by
  obtain ⟨i0, hi, hz0, hz1, hz2⟩ := info_parts infoVer
  have h := run_make (P := Try.prog) W 64 60 i0 _ Try.underlying64 hi hz0 .i64 .i64 (n : Int) (n : Int) (by omega) (by omega) (by rw [hz2]; omega) (by omega)
  rw [hz1, show Ver.Z.v.cells = Ver.Z.cs.toArray from rfl] at h
  have e := made_flat (f := Ver.cs) (m := 5) (by decide) (fun _ => rfl) Ver.Z n
  have h2 : (Instr.makeSlice 64 (.int .i64 (n : Int)) (.int .i64 (n : Int))).run Try.prog W = .ok (.slice (some ⟨W.heap.size, 0, none⟩) n n) (W.alloc (.cells (madeCells Ver.Z.cs.toArray (n * 5)) 60)) := by simpa using h
  rw [e] at h2
  exact h2

set_option maxRecDepth 100000 in
set_option maxHeartbeats 4000000 in
/-- copied -/
theorem xCopied9 (l : List Ver) (A : Option Addr) (c : Nat) (w : World) (h : SlV w A l) (hg : GoodL l) :
    Calls Try.prog 49 #[.slice A l.length c] w fun e w' => ∃ g, e = .returned (.slice (some ⟨g, 0, none⟩) l.length l.length) ∧ VRow w' g l ∧ w.heap.size ≤ g ∧ Below w.heap.size w w' := by
  obtain ⟨n, hn⟩ : ∃ n, n = l.length := ⟨_, rfl⟩
  have hl := hg.len
  rw [← hn] at hl ⊢
  have MK := make_vers n hl
  have HN := Lib.hid hn
  have HS := Lib.hid h
  have HG := Lib.hid hg
  clear hn h hg
  go_enter Try.func49, Try.ntmps49
  go_wp2_with fail
  have R0 := Lib.hid (show VRow (w.alloc (.cells (vcs (List.replicate n Ver.Z)).toArray 60)) w.heap.size (verTo l 0) by rw [verTo_zero, ← HN.out]; exact RowAt.new w _ _)
  have B0 := Lib.hid (show Below w.heap.size w (w.alloc (.cells (vcs (List.replicate n Ver.Z)).toArray 60)) from (Below.refl _ w).alloc (Nat.le_refl _) _)
  clear MK
  obtain ⟨g, hg⟩ : ∃ g, g = w.heap.size := ⟨_, rfl⟩
  have HG2 := Lib.hid hg
  rw [← hg] at R0 ⊢
  generalize w.alloc (.cells (vcs (List.replicate n Ver.Z)).toArray 60) = w2 at R0 B0 ⊢
  clear hg
  go_loopw [11] (fun v wr => ∃ k : Nat, k ≤ n ∧ v = .int .i64 k ∧ Hid (VRow wr g (verTo l k)) ∧ Hid (Below w.heap.size w wr)) (fun v _ => n - (Go.RowKit.intOf v).toNat)
  case atStart => exact ⟨0, Nat.zero_le _, rfl, R0, B0⟩
  case round =>
    obtain ⟨k, hk, rfl, HR, HB⟩ := hrel
    by_cases hlt : k < n
    · have kl : k < l.length := by rw [← HN.out]; exact hlt
      obtain ⟨b, o, rfl, hb, c0, c1, c2, c3, c4⟩ := (HS.out.below HB.out).at kl
      have xt := (HG.out.get kl).2
      have vs := verTo_set l k
      obtain ⟨x, hx⟩ : ∃ x, x = l.getD k Ver.Z := ⟨_, rfl⟩
      rw [← hx] at c0 c1 c2 c3 c4 xt vs
      have FR := Lib.hid (fun w => xFresh9 x w xt)
      have FR : Hid (∀ w, Calls Try.prog 61 #[.agg #[.int .i64 x.seq, .bool x.gone, .bool x.val.num, .string x.val.txt, .int .u64 (x.val.bits : Int)]] w fun e w' => e = .returned (.agg #[.int .i64 x.seq, .bool x.gone, .bool x.val.num, .string x.val.txt, .int .u64 (x.val.bits : Int)]) ∧ Below w.heap.size w w') := FR
      have VS := Lib.hid vs
      have i0 : (0 : Int) ≤ (k : Int) := by omega
      have i1 : (k : Int) < (n : Int) := by omega
      have AB := Lib.hid (show Below wr.heap.size wr (wr.alloc (.cells x.cs.toArray 60)) from (Below.refl _ _).alloc (Nat.le_refl _) _)
      clear hx hb xt kl vs
      go_wp2_with fail
      refine (FR.out _).mono ?_
      rintro e w3 ⟨rfl, hb3⟩
      have hb4 : Below wr.heap.size wr w3 := AB.out.trans (hb3.mono AB.out.size)
      have r4 := HR.out.below hb4
      have kl : k < (verTo l k).length := by rw [verTo_len, ← HN.out]; exact hlt
      have z : (verTo l k)[k] = Ver.Z := by rw [verTo_get, if_neg (by omega)]
      have d0 := r4.cell (j := 0) kl (by omega)
      have d1 := r4.cell (j := 1) kl (by omega)
      have d2 := r4.cell (j := 2) kl (by omega)
      have d3 := r4.cell (j := 3) kl (by omega)
      have d4 := r4.cell (j := 4) kl (by omega)
      rw [z] at d0 d1 d2 d3 d4
      simp only [Ver.cs, List.getElem?_cons_succ, List.getElem?_cons_zero, Nat.add_zero] at d0 d1 d2 d3 d4
      have f0 := r4.frozen (k * 5)
      have f1 := r4.frozen (k * 5 + 1)
      have f2 := r4.frozen (k * 5 + 2)
      have f3 := r4.frozen (k * 5 + 3)
      have f4 := r4.frozen (k * 5 + 4)
      have R4 := Lib.hid (show VRow (w3.setCells g (k * 5) x.cs) g (verTo l (k + 1)) by
        have q := r4.set kl x
        rw [VS.out] at q
        exact q)
      have B4 := Lib.hid (below_then HB.out hb4)
      have g1 : w.heap.size ≤ g := by rw [HG2.out]; exact Nat.le_refl _
      have B5 := B4.out.setCell (p := ⟨g, k * 5, none⟩) g1 (.int .i64 x.seq)
      have B6 := B5.setCell (p := ⟨g, k * 5 + 1, none⟩) g1 (.bool x.gone)
      have B7 := B6.setCell (p := ⟨g, k * 5 + 2, none⟩) g1 (.bool x.val.num)
      have B8 := B7.setCell (p := ⟨g, k * 5 + 3, none⟩) g1 (.string x.val.txt)
      have B9 := Lib.hid (B8.setCell (p := ⟨g, k * 5 + 4, none⟩) g1 (.int .u64 (x.val.bits : Int)))
      clear hb3 hb4 r4 z kl B5 B6 B7 B8 g1 c0 c1 c2 c3 c4
      go_wp2_with fail
      go_roundw
      case rel => exact ⟨k + 1, by omega, by go_num, R4, B9⟩
      case measure => simp [Go.RowKit.intOf]; omega
    · obtain rfl : k = n := by omega
      go_wp2_with fail
      go_ret
      have hr := HR.out
      rw [HN.out, verTo_all] at hr
      exact ⟨g, rfl, hr, by rw [HG2.out]; exact Nat.le_refl _, HB.out⟩

end Go.Proofs.Ytbfgpdgiaclphaa

namespace Go.Proofs.Ytbfgpdgiaclphaa
open Go.RowKit

theorem SlV.take {w : World} {A : Option Addr} {l : List Ver} (h : SlV w A l) (k : Nat) : SlV w A (l.take k) := fun hp => by
  rw [List.length_take] at hp
  obtain ⟨b, o, e, hl, hc⟩ := h (by omega)
  refine ⟨b, o, e, hl, fun j hj => ?_⟩
  rw [List.length_take] at hj
  have := hc j (by omega)
  rw [List.getD_eq_getElem?_getD, List.getElem?_take, if_pos (by omega), ← List.getD_eq_getElem?_getD]
  exact this
theorem GoodL.take {l : List Ver} (h : GoodL l) (k : Nat) : GoodL (l.take k) :=
  ⟨fun x hx => h.fits x (List.mem_of_mem_take hx), fun x hx => h.texts x (List.mem_of_mem_take hx), by rw [List.length_take]; have := h.len; omega⟩

set_option maxRecDepth 100000 in
set_option maxHeartbeats 4000000 in
/-- Last -/
theorem xLast9 (l : List Ver) (A : Option Addr) (c : Nat) (w : World) (h : SlV w A l) (hg : GoodL l) :
    Calls Try.prog 53 #[.slice A l.length c] w fun e w' => e = .returned (.tuple #[(if rightL l && decide (0 < l.length) then lastL l else Ver.Z).v, .bool (rightL l && decide (0 < l.length))]) ∧ Below w.heap.size w w' := by
  have CR := Lib.hid (fun W (hs : SlV W A l) => xRight9 l A c W hs hg)
  have CE := Lib.hid (fun W (hs : SlV W A l) => xEnd9 l A c W hs hg)
  obtain ⟨n, hn⟩ : ∃ n, n = l.length := ⟨_, rfl⟩
  obtain ⟨B, hB⟩ : ∃ B, B = w.heap.size := ⟨_, rfl⟩
  have hl := hg.len
  rw [← hn] at hl ⊢
  rw [← hB]
  simp only [← hn] at CR CE
  obtain ⟨R, hR⟩ : ∃ R, R = rightL l := ⟨_, rfl⟩
  obtain ⟨D, hD⟩ : ∃ D, D = decide (0 < n) := ⟨_, rfl⟩
  obtain ⟨y, hy⟩ : ∃ y, y = (if D = true then lastL l else Ver.Z) := ⟨_, rfl⟩
  rw [← hR, ← hD]
  simp only [← hR] at CR
  simp only [← hD, ← hy] at CE
  have CE : Hid (∀ W, SlV W A l → Calls Try.prog 59 #[.slice A n c] W fun e w' => e = .returned (.tuple #[.agg #[.int .i64 y.seq, .bool y.gone, .bool y.val.num, .string y.val.txt, .int .u64 (y.val.bits : Int)], .bool D]) ∧ Below W.heap.size W w') := CE
  have HY := Lib.hid hy
  obtain ⟨u, hu⟩ : ∃ u, u = (if (R && D) = true then lastL l else Ver.Z) := ⟨_, rfl⟩
  obtain ⟨E, hE⟩ : ∃ E, E = (R && D) := ⟨_, rfl⟩
  rw [← hu, ← hE]
  have HU := Lib.hid hu
  have HE := Lib.hid hE
  clear hu hE
  have HS := Lib.hid h
  have HB := Lib.hid hB
  have R0 := RowAt.new w Ver.Z.cs 60
  rw [← hB] at R0
  have B0 := Lib.hid (show Below B w (w.alloc (.cells Ver.Z.cs.toArray 60)) by rw [hB]; exact (Below.refl _ _).alloc (Nat.le_refl _) _)
  have S0 := Lib.hid (h.below (show Below w.heap.size w (w.alloc (.cells Ver.Z.cs.toArray 60)) from (Below.refl _ _).alloc (Nat.le_refl _) _))
  have R0 := Lib.hid R0
  clear hn hB h hg hR hD hy
  go_enter Try.func53, Try.ntmps53
  go_wp2_with fail
  rw [← HB.out]
  refine (CR.out _ S0.out).mono ?_
  rintro e w1 ⟨rfl, hb1⟩
  have S1 := Lib.hid (S0.out.below hb1)
  have R1 := Lib.hid (R0.out.below hb1)
  have B1 := Lib.hid (show Below B w w1 from B0.out.trans (hb1.mono (by rw [HB.out]; exact B0.out.size)))
  clear hb1
  cases R with
  | false =>
    obtain ⟨g0, g1, g2, g3, g4, e0, e1, e2, e3, e4⟩ := zeroF R1.out
    have F1 := Lib.hid (show Below B w (setV w1 B Ver.Z) from setV_below B1.out (Nat.le_refl _))
    have F2 := Lib.hid (show RowAt (setV w1 B Ver.Z) B Ver.Z.cs _ from setV_row R1.out)
    go_wp2_with fail
    refine bodyPost_ret (results_cell_tmp rfl _ (setV w1 B Ver.Z) B _ _ _ rfl F2.out Try.underlying60 rfl (by kernel_rfl)) rfl ?_
    exact ⟨by rw [HU.out, HE.out]; rfl, F1.out⟩
  | true =>
    go_wp2_with fail
    refine (CE.out _ S1.out).mono ?_
    rintro e w2 ⟨rfl, hb2⟩
    have r2 := R1.out.below hb2
    have b2 : Below B w w2 := B1.out.trans (hb2.mono (by rw [HB.out]; exact B1.out.size))
    obtain ⟨g0, g1, g2, g3, g4, e0, e1, e2, e3, e4⟩ := zeroF r2
    have F1 := Lib.hid (show Below B w (setV w2 B y) from setV_below b2 (Nat.le_refl _))
    have F2 := Lib.hid (show RowAt (setV w2 B y) B y.cs _ from setV_row r2)
    clear hb2 r2 b2
    go_wp2_with fail
    refine bodyPost_ret (results_cell_tmp rfl _ (setV w2 B y) B _ _ _ rfl F2.out Try.underlying60 rfl (by kernel_rfl)) rfl ?_
    refine ⟨?_, F1.out⟩
    rw [HU.out, HE.out, Bool.true_and, ← HY.out]; rfl

end Go.Proofs.Ytbfgpdgiaclphaa
