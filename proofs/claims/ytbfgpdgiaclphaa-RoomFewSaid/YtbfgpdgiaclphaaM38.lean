/- Proved parts: C9h C9k C9n. Conditions: each theorem's own. -/
import Derived.Test.YtbfgpdgiaclphaaM36
import Derived.Test.YtbfgpdgiaclphaaM37
namespace Go.Proofs.Ytbfgpdgiaclphaa
open Go.RowKit

/-- a row of versions -/
def VRow (w : World) (g : Nat) (l : List Ver) : Prop := RowAt w g (vcs l) 60
section
variable {w w' : World} {g : Nat} {l : List Ver}
theorem VRow.cell (h : VRow w g l) {i j : Nat} (hi : i < l.length) (hj : j < 5) : w.cell? ⟨g, i * 5 + j, none⟩ = l[i].cs[j]? := by
  rw [RowAt.cell h]; exact flat_at (f := Ver.cs) (n := 5) (fun _ => rfl) l i j hi hj
theorem VRow.frozen (h : VRow w g l) (i : Nat) : w.frozen? ⟨g, i, none⟩ = false := RowAt.frozen h i
theorem VRow.below (h : VRow w g l) (hb : Below w.heap.size w w') : VRow w' g l := RowAt.below h hb
theorem VRow.set (h : VRow w g l) {k : Nat} (hk : k < l.length) (y : Ver) : VRow (w.setCells g (k * 5) y.cs) g (l.set k y) := by
  have q := RowAt.setCells y.cs (k * 5) (vcs l) w h (by rw [vcs_len]; show k * 5 + 5 ≤ _; omega)
  rw [show over (vcs l) (k * 5) y.cs = vcs (l.set k y) from flat_seg (f := Ver.cs) (n := 5) (fun _ => rfl) y l k hk] at q
  exact q
theorem VRow.own {B : Nat} (h : VRow w g l) (hg : B ≤ g) (hl : l.length ≤ maxLen) : OwnV w B (.slice (some ⟨g, 0, none⟩) l.length l.length) l :=
  ⟨vcs_len l, .inr ⟨g, l.length, _, rfl, hg, h, Nat.le_refl _, hl, by simp [vcs_len], by rw [List.take_of_length_le (by rw [vcs_len]; exact Nat.le_refl _)]⟩⟩
end
/-- the first k of l, zero ones behind -/
def verTo (l : List Ver) (k : Nat) : List Ver := (List.range l.length).map fun i => if i < k then l.getD i Ver.Z else Ver.Z
theorem verTo_len (l : List Ver) (k : Nat) : (verTo l k).length = l.length := by unfold verTo; simp
theorem verTo_get (l : List Ver) (k i : Nat) (h : i < (verTo l k).length) : (verTo l k)[i] = if i < k then l.getD i Ver.Z else Ver.Z := by
  simp [verTo]
theorem verTo_zero (l : List Ver) : verTo l 0 = List.replicate l.length Ver.Z := by
  apply List.ext_getElem
  · rw [verTo_len, List.length_replicate]
  · intro i h1 h2
    rw [verTo_get, if_neg (by omega), List.getElem_replicate]
theorem verTo_all (l : List Ver) : verTo l l.length = l := by
  apply List.ext_getElem
  · rw [verTo_len]
  · intro i h1 h2
    rw [verTo_get, if_pos h2, List.getD_eq_getElem?_getD, List.getElem?_eq_getElem h2]; rfl
theorem verTo_set (l : List Ver) (k : Nat) : (verTo l k).set k (l.getD k Ver.Z) = verTo l (k + 1) := by
  apply List.ext_getElem
  · rw [List.length_set, verTo_len, verTo_len]
  · intro i h1 h2
    rw [List.getElem_set]
    by_cases q : k = i
    · subst q; rw [if_pos rfl, verTo_get, if_pos (by omega)]
    · rw [if_neg q, verTo_get, verTo_get]
      by_cases q2 : i < k
      · rw [if_pos q2, if_pos (by omega)]
      · rw [if_neg q2, if_neg (by omega)]
/-- make([]Version, n) -/
theorem make_vers (n : Nat) (hn : n ≤ 1000) (W : World) : (Instr.makeSlice 64 (.int .i64 (n : Int)) (.int .i64 (n : Int))).run Try.prog W = .ok (.slice (some ⟨W.heap.size, 0, none⟩) n n) (W.alloc (.cells (vcs (List.replicate n Ver.Z)).toArray 60)) := by
  obtain ⟨i0, hi, hz0, hz1, hz2⟩ := info_parts infoVer
  have h := run_make (P := Try.prog) W 64 60 i0 _ Try.underlying64 hi hz0 .i64 .i64 (n : Int) (n : Int) (by omega) (by omega) (by rw [hz2]; omega) (by omega)
  rw [hz1, show Ver.Z.v.cells = Ver.Z.cs.toArray from rfl] at h
  have e := made_flat (f := Ver.cs) (m := 5) (by decide) (fun _ => rfl) Ver.Z n
  have h2 : (Instr.makeSlice 64 (.int .i64 (n : Int)) (.int .i64 (n : Int))).run Try.prog W = .ok (.slice (some ⟨W.heap.size, 0, none⟩) n n) (W.alloc (.cells (madeCells Ver.Z.cs.toArray (n * 5)) 60)) := by simpa using h
  rw [e] at h2
  exact h2

set_option maxRecDepth 100000 in
set_option maxHeartbeats 4000000 in
/-- copied -/
theorem xCopied9 (l : List Ver) (A : Option Addr) (c : Nat) (w : World) (h : SlV w A l) (hg : GoodL l) :
    Calls Try.prog 49 #[.slice A l.length c] w fun e w' => ∃ g, e = .returned (.slice (some ⟨g, 0, none⟩) l.length l.length) ∧ VRow w' g l ∧ w.heap.size ≤ g ∧ Below w.heap.size w w' := by
  obtain ⟨n, hn⟩ : ∃ n, n = l.length := ⟨_, rfl⟩
  have hl := hg.len
  rw [← hn] at hl ⊢
  have MK := make_vers n hl
  have HN := Lib.hid hn
  have HS := Lib.hid h
  have HG := Lib.hid hg
  clear hn h hg
  go_enter Try.func49, Try.ntmps49
  go_wp2_with fail
  have R0 := Lib.hid (show VRow (w.alloc (.cells (vcs (List.replicate n Ver.Z)).toArray 60)) w.heap.size (verTo l 0) by rw [verTo_zero, ← HN.out]; exact RowAt.new w _ _)
  have B0 := Lib.hid (show Below w.heap.size w (w.alloc (.cells (vcs (List.replicate n Ver.Z)).toArray 60)) from (Below.refl _ w).alloc (Nat.le_refl _) _)
  clear MK
  obtain ⟨g, hg⟩ : ∃ g, g = w.heap.size := ⟨_, rfl⟩
  have HG2 := Lib.hid hg
  rw [← hg] at R0 ⊢
  generalize w.alloc (.cells (vcs (List.replicate n Ver.Z)).toArray 60) = w2 at R0 B0 ⊢
  clear hg
  go_loopw [11] (fun v wr => ∃ k : Nat, k ≤ n ∧ v = .int .i64 k ∧ Hid (VRow wr g (verTo l k)) ∧ Hid (Below w.heap.size w wr)) (fun v _ => n - (Go.RowKit.intOf v).toNat)
  case atStart => exact ⟨0, Nat.zero_le _, rfl, R0, B0⟩
  case round =>
    obtain ⟨k, hk, rfl, HR, HB⟩ := hrel
    by_cases hlt : k < n
    · have kl : k < l.length := by rw [← HN.out]; exact hlt
      obtain ⟨b, o, rfl, hb, c0, c1, c2, c3, c4⟩ := (HS.out.below HB.out).at kl
      have xt := (HG.out.get kl).2
      have vs := verTo_set l k
      obtain ⟨x, hx⟩ : ∃ x, x = l.getD k Ver.Z := ⟨_, rfl⟩
      rw [← hx] at c0 c1 c2 c3 c4 xt vs
      have FR := Lib.hid (fun w => xFresh9 x w xt)
      have FR : Hid (∀ w, Calls Try.prog 61 #[.agg #[.int .i64 x.seq, .bool x.gone, .bool x.val.num, .string x.val.txt, .int .u64 (x.val.bits : Int)]] w fun e w' => e = .returned (.agg #[.int .i64 x.seq, .bool x.gone, .bool x.val.num, .string x.val.txt, .int .u64 (x.val.bits : Int)]) ∧ Below w.heap.size w w') := FR
      have VS := Lib.hid vs
      have i0 : (0 : Int) ≤ (k : Int) := by omega
      have i1 : (k : Int) < (n : Int) := by omega
      have AB := Lib.hid (show Below wr.heap.size wr (wr.alloc (.cells x.cs.toArray 60)) from (Below.refl _ _).alloc (Nat.le_refl _) _)
      clear hx hb xt kl vs
      go_wp2_with fail
      refine (FR.out _).mono ?_
      rintro e w3 ⟨rfl, hb3⟩
      have hb4 : Below wr.heap.size wr w3 := AB.out.trans (hb3.mono AB.out.size)
      have r4 := HR.out.below hb4
      have kl : k < (verTo l k).length := by rw [verTo_len, ← HN.out]; exact hlt
      have z : (verTo l k)[k] = Ver.Z := by rw [verTo_get, if_neg (by omega)]
      have d0 := r4.cell (j := 0) kl (by omega)
      have d1 := r4.cell (j := 1) kl (by omega)
      have d2 := r4.cell (j := 2) kl (by omega)
      have d3 := r4.cell (j := 3) kl (by omega)
      have d4 := r4.cell (j := 4) kl (by omega)
      rw [z] at d0 d1 d2 d3 d4
      simp only [Ver.cs, List.getElem?_cons_succ, List.getElem?_cons_zero, Nat.add_zero] at d0 d1 d2 d3 d4
      have f0 := r4.frozen (k * 5)
      have f1 := r4.frozen (k * 5 + 1)
      have f2 := r4.frozen (k * 5 + 2)
      have f3 := r4.frozen (k * 5 + 3)
      have f4 := r4.frozen (k * 5 + 4)
      have R4 := Lib.hid (show VRow (w3.setCells g (k * 5) x.cs) g (verTo l (k + 1)) by
        have q := r4.set kl x
        rw [VS.out] at q
        exact q)
      have B4 := Lib.hid (below_then HB.out hb4)
      have g1 : w.heap.size ≤ g := by rw [HG2.out]; exact Nat.le_refl _
      have B5 := B4.out.setCell (p := ⟨g, k * 5, none⟩) g1 (.int .i64 x.seq)
      have B6 := B5.setCell (p := ⟨g, k * 5 + 1, none⟩) g1 (.bool x.gone)
      have B7 := B6.setCell (p := ⟨g, k * 5 + 2, none⟩) g1 (.bool x.val.num)
      have B8 := B7.setCell (p := ⟨g, k * 5 + 3, none⟩) g1 (.string x.val.txt)
      have B9 := Lib.hid (B8.setCell (p := ⟨g, k * 5 + 4, none⟩) g1 (.int .u64 (x.val.bits : Int)))
      clear hb3 hb4 r4 z kl B5 B6 B7 B8 g1 c0 c1 c2 c3 c4
      go_wp2_with fail
      go_roundw
      case rel => exact ⟨k + 1, by omega, by go_num, R4, B9⟩
      case measure => simp [Go.RowKit.intOf]; omega
    · obtain rfl : k = n := by omega
      go_wp2_with fail
      go_ret
      have hr := HR.out
      rw [HN.out, verTo_all] at hr
      exact ⟨g, rfl, hr, by rw [HG2.out]; exact Nat.le_refl _, HB.out⟩

end Go.Proofs.Ytbfgpdgiaclphaa

namespace Go.Proofs.Ytbfgpdgiaclphaa
open Go.RowKit

theorem SlV.take {w : World} {A : Option Addr} {l : List Ver} (h : SlV w A l) (k : Nat) : SlV w A (l.take k) := fun hp => by
  rw [List.length_take] at hp
  obtain ⟨b, o, e, hl, hc⟩ := h (by omega)
  refine ⟨b, o, e, hl, fun j hj => ?_⟩
  rw [List.length_take] at hj
  have := hc j (by omega)
  rw [List.getD_eq_getElem?_getD, List.getElem?_take, if_pos (by omega), ← List.getD_eq_getElem?_getD]
  exact this
theorem GoodL.take {l : List Ver} (h : GoodL l) (k : Nat) : GoodL (l.take k) :=
  ⟨fun x hx => h.fits x (List.mem_of_mem_take hx), fun x hx => h.texts x (List.mem_of_mem_take hx), by rw [List.length_take]; have := h.len; omega⟩

set_option maxRecDepth 100000 in
set_option maxHeartbeats 4000000 in
/-- Old -/
theorem xOld9 (l : List Ver) (A : Option Addr) (c : Nat) (f : Int) (w : World) (h : SlV w A l) (hg : GoodL l) :
    Calls Try.prog 19 #[.slice A l.length c, .int .i64 f] w fun e w' => e = .returned (.int .i64 (if rightL l then oldL l f else 0 : Nat)) ∧ Below w.heap.size w w' := by
  have CR := Lib.hid (xRight9 l A c w h hg)
  have CU := Lib.hid (fun (hr : rightL l = true) W (hs : SlV W A l) => xUntil9 l A c f W hs (rise_of_right hr) hg.len)
  obtain ⟨n, hn⟩ : ∃ n, n = l.length := ⟨_, rfl⟩
  have hl := hg.len
  rw [← hn] at hl CR ⊢
  simp only [← hn] at CU
  have HN := Lib.hid hn
  have HS := Lib.hid h
  clear hn h hg
  obtain ⟨R, hR⟩ : ∃ R, R = rightL l := ⟨_, rfl⟩
  rw [← hR] at CR ⊢
  obtain ⟨O, hO⟩ : ∃ O, O = (if R = true then oldL l f else 0) := ⟨_, rfl⟩
  rw [← hO]
  go_enter Try.func19, Try.ntmps19
  go_wp2_with fail
  refine CR.out.mono ?_
  rintro e w1 ⟨rfl, hb1⟩
  have S1 := Lib.hid (HS.out.below hb1)
  have B1 := Lib.hid hb1
  clear hb1
  cases R with
  | false =>
    have HO := Lib.hid hO
    clear hR hO
    go_wp2_with fail
    go_ret
    exact ⟨by rw [HO.out]; rfl, B1.out⟩
  | true =>
    rw [if_pos rfl] at hO
    have C2 := Lib.hid (CU.out hR.symm w1 S1.out)
    have ho : oldL l f = (if cnt f l = 0 then 0 else if (l.getD (cnt f l - 1) Ver.Z).gone then cnt f l else cnt f l - 1) := rfl
    have hk := cnt_le f l
    obtain ⟨K, hK⟩ : ∃ K, K = cnt f l := ⟨_, rfl⟩
    rw [← hK] at C2 ho hk
    rw [← HN.out] at hk
    rw [← hO] at ho
    clear hK hO hR
    by_cases k0 : K = 0
    · rw [if_pos k0] at ho
      have HO := Lib.hid ho
      subst k0
      clear ho hk
      go_wp2_with fail
      refine C2.out.mono ?_
      rintro e w2 ⟨rfl, hb2⟩
      have B2 := Lib.hid (B1.out.trans (hb2.mono B1.out.size))
      clear hb2
      go_wp2_with fail
      go_ret
      exact ⟨by rw [HO.out]; rfl, B2.out⟩
    · rw [if_neg k0] at ho
      obtain ⟨i, hi⟩ : ∃ i, i = K - 1 := ⟨_, rfl⟩
      rw [← hi] at ho
      obtain ⟨b, o, rfl, hb, _, c1, _⟩ := S1.out.at (j := i) (by rw [← HN.out]; omega)
      obtain ⟨g, hg⟩ : ∃ g, g = (l.getD i Ver.Z).gone := ⟨_, rfl⟩
      rw [← hg] at c1 ho
      have HO := Lib.hid ho
      have i1 : (K : Int) - 1 = (i : Int) := by omega
      have i2 : (0 : Int) ≤ (i : Int) := by omega
      have i3 : (i : Int) < (n : Int) := by omega
      have k1 : ((K : Int) == 0) = false := by rw [beq_eq_false_iff_ne]; omega
      have C1 := Lib.hid c1
      clear ho hg hb c1 hi k0
      go_wp2_with fail
      refine C2.out.mono ?_
      rintro e w2 ⟨rfl, hb2⟩
      have c1 := (hb2.cell (p := ⟨b, o + i * 5 + 1, none⟩) (block_lt_of_cell C1.out)).trans C1.out
      have B2 := Lib.hid (B1.out.trans (hb2.mono B1.out.size))
      clear hb2
      cases g with
      | true =>
        go_wp2_with fail
        go_ret
        exact ⟨by rw [HO.out]; rfl, B2.out⟩
      | false =>
        go_wp2_with fail
        go_ret
        exact ⟨by rw [HO.out]; rfl, B2.out⟩

set_option maxRecDepth 100000 in
set_option maxHeartbeats 4000000 in
/-- Last -/
theorem xLast9 (l : List Ver) (A : Option Addr) (c : Nat) (w : World) (h : SlV w A l) (hg : GoodL l) :
    Calls Try.prog 53 #[.slice A l.length c] w fun e w' => e = .returned (.tuple #[(if rightL l && decide (0 < l.length) then lastL l else Ver.Z).v, .bool (rightL l && decide (0 < l.length))]) ∧ Below w.heap.size w w' := by
  have CR := Lib.hid (fun W (hs : SlV W A l) => xRight9 l A c W hs hg)
  have CE := Lib.hid (fun W (hs : SlV W A l) => xEnd9 l A c W hs hg)
  obtain ⟨n, hn⟩ : ∃ n, n = l.length := ⟨_, rfl⟩
  obtain ⟨B, hB⟩ : ∃ B, B = w.heap.size := ⟨_, rfl⟩
  have hl := hg.len
  rw [← hn] at hl ⊢
  rw [← hB]
  simp only [← hn] at CR CE
  obtain ⟨R, hR⟩ : ∃ R, R = rightL l := ⟨_, rfl⟩
  obtain ⟨D, hD⟩ : ∃ D, D = decide (0 < n) := ⟨_, rfl⟩
  obtain ⟨y, hy⟩ : ∃ y, y = (if D = true then lastL l else Ver.Z) := ⟨_, rfl⟩
  rw [← hR, ← hD]
  simp only [← hR] at CR
  simp only [← hD, ← hy] at CE
  have CE : Hid (∀ W, SlV W A l → Calls Try.prog 59 #[.slice A n c] W fun e w' => e = .returned (.tuple #[.agg #[.int .i64 y.seq, .bool y.gone, .bool y.val.num, .string y.val.txt, .int .u64 (y.val.bits : Int)], .bool D]) ∧ Below W.heap.size W w') := CE
  have HY := Lib.hid hy
  obtain ⟨u, hu⟩ : ∃ u, u = (if (R && D) = true then lastL l else Ver.Z) := ⟨_, rfl⟩
  obtain ⟨E, hE⟩ : ∃ E, E = (R && D) := ⟨_, rfl⟩
  rw [← hu, ← hE]
  have HU := Lib.hid hu
  have HE := Lib.hid hE
  clear hu hE
  have HS := Lib.hid h
  have HB := Lib.hid hB
  have R0 := RowAt.new w Ver.Z.cs 60
  rw [← hB] at R0
  have B0 := Lib.hid (show Below B w (w.alloc (.cells Ver.Z.cs.toArray 60)) by rw [hB]; exact (Below.refl _ _).alloc (Nat.le_refl _) _)
  have S0 := Lib.hid (h.below (show Below w.heap.size w (w.alloc (.cells Ver.Z.cs.toArray 60)) from (Below.refl _ _).alloc (Nat.le_refl _) _))
  have R0 := Lib.hid R0
  clear hn hB h hg hR hD hy
  go_enter Try.func53, Try.ntmps53
  go_wp2_with fail
  rw [← HB.out]
  refine (CR.out _ S0.out).mono ?_
  rintro e w1 ⟨rfl, hb1⟩
  have S1 := Lib.hid (S0.out.below hb1)
  have R1 := Lib.hid (R0.out.below hb1)
  have B1 := Lib.hid (show Below B w w1 from B0.out.trans (hb1.mono (by rw [HB.out]; exact B0.out.size)))
  clear hb1
  cases R with
  | false =>
    obtain ⟨g0, g1, g2, g3, g4, e0, e1, e2, e3, e4⟩ := zeroF R1.out
    have F1 := Lib.hid (show Below B w (setV w1 B Ver.Z) from setV_below B1.out (Nat.le_refl _))
    have F2 := Lib.hid (show RowAt (setV w1 B Ver.Z) B Ver.Z.cs _ from setV_row R1.out)
    go_wp2_with fail
    refine bodyPost_ret (results_cell_tmp rfl _ (setV w1 B Ver.Z) B _ _ _ rfl F2.out Try.underlying60 rfl (by kernel_rfl)) rfl ?_
    exact ⟨by rw [HU.out, HE.out]; rfl, F1.out⟩
  | true =>
    go_wp2_with fail
    refine (CE.out _ S1.out).mono ?_
    rintro e w2 ⟨rfl, hb2⟩
    have r2 := R1.out.below hb2
    have b2 : Below B w w2 := B1.out.trans (hb2.mono (by rw [HB.out]; exact B1.out.size))
    obtain ⟨g0, g1, g2, g3, g4, e0, e1, e2, e3, e4⟩ := zeroF r2
    have F1 := Lib.hid (show Below B w (setV w2 B y) from setV_below b2 (Nat.le_refl _))
    have F2 := Lib.hid (show RowAt (setV w2 B y) B y.cs _ from setV_row r2)
    clear hb2 r2 b2
    go_wp2_with fail
    refine bodyPost_ret (results_cell_tmp rfl _ (setV w2 B y) B _ _ _ rfl F2.out Try.underlying60 rfl (by kernel_rfl)) rfl ?_
    refine ⟨?_, F1.out⟩
    rw [HU.out, HE.out, Bool.true_and, ← HY.out]; rfl

end Go.Proofs.Ytbfgpdgiaclphaa

namespace Go.Proofs.Ytbfgpdgiaclphaa
open Go.RowKit

theorem SlV.sliced {w : World} {A : Option Addr} {l : List Ver} (h : SlV w A l) (k : Nat) : SlV w (Option.map (fun x => x.add (k * 5)) A) (l.drop k) := by
  by_cases p : 0 < l.length
  · obtain ⟨b, o, e, _⟩ := h p
    subst e
    have ad : (⟨b, o, none⟩ : Addr).add (k * 5) = ⟨b, o + k * 5, none⟩ := by
      unfold Addr.add
      split
      · rename_i e
        rw [e]; rfl
      · rfl
    show SlV w (some ((⟨b, o, none⟩ : Addr).add (k * 5))) _
    rw [ad]
    exact h.drop k
  · intro hp
    rw [List.length_drop] at hp
    omega
set_option maxRecDepth 100000 in
set_option maxHeartbeats 4000000 in
/-- Sweep -/
theorem xSweep9 (l : List Ver) (A : Option Addr) (c : Nat) (f : Int) (w : World) (hc : l.length ≤ c) (h : SlV w A l) (hg : GoodL l) :
    Calls Try.prog 21 #[.slice A l.length c, .int .i64 f] w fun e w' => ∃ A' c', e = .returned (.slice A' (if rightL l then sweepL l f else []).length c') ∧ (if rightL l then sweepL l f else []).length ≤ c' ∧ SlV w' A' (if rightL l then sweepL l f else []) ∧ Below w.heap.size w w' ∧ (0 < (if rightL l then sweepL l f else []).length → ∃ g, A' = some ⟨g, 0, none⟩ ∧ w.heap.size ≤ g) := by
  have CR := Lib.hid (xRight9 l A c w h hg)
  have CO := Lib.hid (fun W (hs : SlV W A l) => xOld9 l A c f W hs hg)
  have CC := Lib.hid (fun A' c' W (hs : SlV W A' (sweepL l f)) => xCopied9 (sweepL l f) A' c' W hs (hg.sweep f))
  have o1 := oldL_le l f
  have o2 := cnt_le f l
  obtain ⟨n, hn⟩ : ∃ n, n = l.length := ⟨_, rfl⟩
  obtain ⟨O, hO⟩ : ∃ O, O = oldL l f := ⟨_, rfl⟩
  have sl : (sweepL l f).length = n - O := by unfold sweepL; rw [List.length_drop, hn, hO]
  obtain ⟨T, hT⟩ : ∃ T, T = (if rightL l = true then sweepL l f else []) := ⟨_, rfl⟩
  have hl := hg.len
  rw [← hn] at hl hc CR o2 ⊢
  rw [← hO] at o1
  simp only [← hn, ← hO] at CO
  simp only [sl] at CC
  have CC := Lib.hid (fun A' c' W (hs : SlV W A' (sweepL l f)) => (CC.out A' c' W hs).mono (R' := fun e w' => ∃ g, e = .returned (.slice (some ⟨g, 0, none⟩) (n - O) (n - O)) ∧ SlV w' (some ⟨g, 0, none⟩) (sweepL l f) ∧ Below W.heap.size W w' ∧ W.heap.size ≤ g) fun e w' ⟨g, h1, h2, h3, h4⟩ => ⟨g, h1, fun hp => by
    obtain ⟨A2, c2, e2, s2, _⟩ := (h2.own (B := 0) (Nat.zero_le _) (by unfold maxLen; have := (hg.sweep f).len; omega)).sl
    injection e2 with e2 _ _
    rw [e2]
    exact s2 hp, h4, h3⟩)
  rw [← hT]
  obtain ⟨N, hN⟩ : ∃ N, N = T.length := ⟨_, rfl⟩
  rw [← hN]
  have HN := Lib.hid hn
  have HS := Lib.hid h
  have HO := Lib.hid hO
  clear hn h hg hO sl
  obtain ⟨R, hR⟩ : ∃ R, R = rightL l := ⟨_, rfl⟩
  rw [← hR] at CR hT
  simp only [← hR] at CO
  have on : O ≤ n := by omega
  clear o1 o2 hR
  go_enter Try.func21, Try.ntmps21
  go_wp2_with fail
  refine CR.out.mono ?_
  rintro e w1 ⟨rfl, hb1⟩
  have S1 := Lib.hid (HS.out.below hb1)
  have B1 := Lib.hid hb1
  clear hb1
  cases R with
  | false =>
    have HT := Lib.hid hT
    have HL := Lib.hid hN
    clear hT hN
    go_wp2_with fail
    go_ret
    have e : T = [] := HT.out
    exact ⟨none, 0, by rw [HL.out, e]; rfl, by rw [HL.out, e]; exact Nat.le_refl _, by rw [e]; exact SlV.nil _ _, B1.out, fun hp => absurd hp (by rw [HL.out, e]; exact Nat.lt_irrefl 0)⟩
  | true =>
    rw [if_pos rfl] at hT
    simp only [if_true] at CO
    have nd : N = n - O := by rw [hN, hT]; unfold sweepL; rw [List.length_drop, ← HN.out, ← HO.out]
    rw [← hT] at CC
    have HT := Lib.hid hT
    have HL := Lib.hid hN
    clear hT hN
    go_wp2_with fail
    refine (CO.out _ S1.out).mono ?_
    rintro e w2 ⟨rfl, hb2⟩
    have S2 := S1.out.below hb2
    have B2 := Lib.hid (B1.out.trans (hb2.mono B1.out.size))
    have sd : SlV w2 (Option.map (fun x => x.add (O * 5)) A) T := by
      rw [HT.out]
      unfold sweepL
      rw [← HO.out]
      exact S2.sliced O
    have CD := Lib.hid (fun c' => CC.out (Option.map (fun x => x.add (O * 5)) A) c' w2 sd)
    have CN := Lib.hid (fun (h : N = 0) A' c' => CC.out A' c' w2 (by rw [show T = [] from List.length_eq_zero_iff.1 (by rw [← HL.out]; exact h)]; exact SlV.nil _ _))
    have o2 : (0 : Int) ≤ (O : Int) := by omega
    have o3 : (O : Int) ≤ (n : Int) := by omega
    clear hb2 S2 sd
    go_wp2_with fail
    · refine (CN.out (by omega) _ _).mono ?_
      rintro e w3 ⟨g, rfl, s3, hb3, hg3⟩
      have S3 := Lib.hid s3
      have G3 := Lib.hid (Nat.le_trans B2.out.size hg3)
      have B3 := Lib.hid (B2.out.trans (hb3.mono B2.out.size))
      clear hb3 s3 hg3
      go_wp2_with fail
      go_ret
      exact ⟨some ⟨g, 0, none⟩, n - O, by rw [nd]; rfl, by omega, S3.out, B3.out, fun _ => ⟨g, rfl, G3.out⟩⟩
    · refine (CD.out _).mono ?_
      rintro e w3 ⟨g, rfl, s3, hb3, hg3⟩
      have S3 := Lib.hid s3
      have G3 := Lib.hid (Nat.le_trans B2.out.size hg3)
      have B3 := Lib.hid (B2.out.trans (hb3.mono B2.out.size))
      clear hb3 s3 hg3
      go_wp2_with fail
      go_ret
      exact ⟨some ⟨g, 0, none⟩, n - O, by rw [nd]; rfl, by omega, S3.out, B3.out, fun _ => ⟨g, rfl, G3.out⟩⟩

end Go.Proofs.Ytbfgpdgiaclphaa
