/- Rows, the reference's Numbers: walked. -/
import Derived.Test.YtoljhoabbaigdaaI1g
namespace Go.Proofs.Ytoljhoabbaigdaa
open Go.RowKit Ex Fl Ag Ieee
attribute [local go_sem] Oper.semAt_some

/-- is a row a number? -/
def isNum (x : Ro) : Bool := x.val.num && x.val.ok
def nums (l : List Ro) : List Nat := (l.filter isNum).map (·.val.bits)
theorem nums_fits {l : List Ro} (h : FitsRo l) : AllFits (nums l) := fun z hz => by
  obtain ⟨x, hx, rfl⟩ := List.mem_map.1 hz
  exact (h x (List.mem_filter.1 hx).1).1
theorem takeRo {l : List Ro} {i : Nat} (hi : i < l.length) : l.take (i + 1) = l.take i ++ [l.getD i Ro.Z] := by
  rw [List.take_add_one, List.getElem?_eq_getElem hi, List.getD_eq_getElem?_getD, List.getElem?_eq_getElem hi]; rfl
theorem nums_snoc (l : List Ro) (x : Ro) : nums (l ++ [x]) = if isNum x then nums l ++ [x.val.bits] else nums l := by
  unfold nums
  rw [List.filter_append, List.map_append]
  by_cases h : isNum x = true
  · rw [if_pos h]; simp [h]
  · rw [if_neg h]; simp [h]
theorem nums_len (l : List Ro) : (nums l).length ≤ l.length := by
  unfold nums; rw [List.length_map]; exact List.length_filter_le _ _
theorem FitsRo.get {l : List Ro} (h : FitsRo l) {i : Nat} (hi : i < l.length) : (l.getD i Ro.Z).val.Fits := by
  rw [List.getD_eq_getElem?_getD, List.getElem?_eq_getElem hi]; exact h _ (List.getElem_mem hi)
theorem FitsRo.take {l : List Ro} (h : FitsRo l) (k : Nat) : FitsRo (l.take k) := fun z hz => h z (List.mem_of_mem_take hz)

theorem results_cell_tmp15 {P : Program} {fn : Func} {p q : Tmp} {ty : TypeId} (h : fn.results = #[.cell p ty, .tmp q]) (tmps : Array Value) (w : World) (g : Nat) (t : TypeId) (cs : List Value) (d : TypeDesc)
    (hp : tmps.getD p undef = .pointer (some ⟨g, 0, none⟩)) (hg : RowAt w g cs t)
    (hu : P.underlying ty = some d) (hd : (match d with | .struct _ | .array _ _ => true | _ => false) = true) (hi : (P.info? ty).map (·.size) = some cs.toArray.size) :
    (results fn tmps).run P w = .ok (.tuple #[.agg cs.toArray, tmps.getD q undef]) w := by
  have hp' : tmps[p]?.getD undef = .pointer (some ⟨g, 0, none⟩) := by simpa using hp
  simp [results, h, hp', asAddr, run_loadVar_row w g t ty cs.toArray _ d hg hu hd hi]

set_option maxRecDepth 100000 in
set_option maxHeartbeats 4000000 in
theorem xRows (l : List Ro) (A : Option Addr) (c : Nat) (w : World) (h : SlRo w A l) (hf : FitsRo l) (hl : l.length ≤ 1000) :
    Calls Try.prog 14 #[.slice A l.length c] w fun e w' => e = .returned (.tuple #[tal (nums l), .int .i64 ((l.length : Int) - (nums l).length)]) ∧ Below w.heap.size w w' := by
  obtain ⟨n, hn⟩ : ∃ n, n = l.length := ⟨_, rfl⟩
  obtain ⟨B, hB⟩ : ∃ B, B = w.heap.size := ⟨_, rfl⟩
  obtain ⟨W1, hW1⟩ : ∃ W, W = w.alloc (.cells zT.toArray 28) := ⟨_, rfl⟩
  have HW1 := Lib.hid (show w.alloc (.cells #[.int .i64 0, .int .u64 0, .int .u64 0, .int .u64 0, .int .u64 0] 28) = W1 from hW1.symm)
  have R1 := RowAt.new w zT 28
  have B1 := (Below.refl w.heap.size w).alloc (Nat.le_refl _) (.cells zT.toArray 28)
  have hsz : W1.heap.size = B + 1 := by rw [hW1, hB]; show (w.heap.push _).size = _; rw [Array.size_push]
  rw [← hW1] at R1 B1
  rw [← hB] at R1
  have HN := Lib.hid hn
  have HS := Lib.hid h
  have HF := Lib.hid hf
  have HB := Lib.hid hB
  have HR1 := Lib.hid R1
  have HB1 := Lib.hid B1
  have HZ := Lib.hid hsz
  have XN := Lib.hid (xNew15 W1)
  obtain ⟨D, hD⟩ : ∃ D : Int, D = (l.length : Int) - (nums l).length := ⟨_, rfl⟩
  obtain ⟨t0, t1, t2, t3, t4, ht⟩ := tal_parts (nums l)
  have HT := Lib.hid ht
  have HD := Lib.hid hD
  rw [ht, ← hD, ← hn]
  have hl' : n ≤ 1000 := by omega
  clear hW1 R1 B1 hn h hf hB hsz ht hD hl
  go_enter Try.func14, Try.ntmps14
  go_wp2_with fail
  rw [HW1.out, ← HB.out]
  refine XN.out.mono ?_
  rintro e w2 ⟨rfl, ha2, hb2⟩
  rw [HZ.out] at ha2 ⊢
  obtain ⟨g, hg⟩ : ∃ g, g = B + 1 := ⟨_, rfl⟩
  rw [← hg] at ha2 ⊢
  have A2 := Lib.hid ha2
  have B2 := Lib.hid (below_then HB1.out hb2)
  have R2 := Lib.hid (HR1.out.below hb2)
  have HG := Lib.hid hg
  clear ha2 hb2 hg
  go_wp2_with fail
  go_loopw [5, 13] (fun vo vi wr => ∃ (i : Nat) (d : Int), i ≤ n ∧ vo = .int .i64 d ∧ vi = .int .i64 i ∧ 0 ≤ d ∧ d ≤ i ∧ Hid (d = (i : Int) - (nums (l.take i)).length) ∧ Hid (AdrAt wr g (nums (l.take i))) ∧ Hid (RowAt wr B zT 28) ∧ Hid (Below w.heap.size w wr)) (fun _ vi _ => n - (intOf vi).toNat)
  case atStart => exact ⟨0, 0, Nat.zero_le _, rfl, rfl, by omega, by omega, Lib.hid rfl, A2, R2, B2⟩
  case round =>
    obtain ⟨i, d, hi, rfl, rfl, d0, d1, HX, AR, RR, BR⟩ := hrel
    by_cases q : i < n
    · obtain ⟨b, o, rfl, hb, k0, k1, k2, k3, k4⟩ := (HS.out.below BR.out).at (j := i) (by rw [← HN.out]; exact q)
      have FX := HF.out.get (i := i) (by rw [← HN.out]; exact q)
      have NL := nums_len (l.take i)
      have NS := nums_snoc (l.take i) (l.getD i Ro.Z)
      rw [← takeRo (by rw [← HN.out]; exact q)] at NS
      obtain ⟨x, hx⟩ : ∃ x, x = l.getD i Ro.Z := ⟨_, rfl⟩
      rw [← hx] at k0 k1 k2 k3 k4 FX NS
      obtain ⟨rm, ky, ⟨nu, tx, bt⟩⟩ := x
      simp only at k0 k1 k2 k3 k4 FX
      have NL2 : (nums (l.take i)).length ≤ 1000 := by rw [List.length_take] at NL; omega
      -- the row of the round
      obtain ⟨W4, hW4⟩ : ∃ W, W = wr.alloc (.cells #[.int .i64 rm, .string ky, .bool nu, .string tx, .int .u64 (bt : Int)] 42) := ⟨_, rfl⟩
      have B4 := BR.out.alloc BR.out.size (.cells #[.int .i64 rm, .string ky, .bool nu, .string tx, .int .u64 (bt : Int)] 42)
      have A4 : AdrAt W4 g (nums (l.take i)) := by rw [hW4]; exact AR.out.below ((Below.refl _ _).alloc (Nat.le_refl _) _)
      have R4 : RowAt W4 B zT 28 := by rw [hW4]; exact RR.out.alloc _
      have FV := Lib.hid (vpFloat ⟨nu, tx, bt⟩ W4 FX)
      rw [hW4] at FV
      have HA4 := Lib.hid A4
      have HR4 := Lib.hid R4
      have HB4 := Lib.hid (show Below w.heap.size w W4 by rw [hW4]; exact B4)
      have HW4 := Lib.hid hW4
      have NFI := Lib.hid (nums_fits (HF.out.take i))
      cases hq : (nu && (⟨nu, tx, bt⟩ : Val).ok) with
      | true =>
        have NE := Lib.hid (show nums (l.take (i + 1)) = nums (l.take i) ++ [bt] by rw [NS]; unfold isNum; simp only [hq, if_true])
        have XA := Lib.hid (fun W (ha : AdrAt W g (nums (l.take i))) => xAdd g (nums (l.take i)) bt W ha FX.1 NFI.out (by omega))
        simp only [hq, if_true] at FV
        have HX2 := Lib.hid (show d = ((i + 1 : Nat) : Int) - (nums (l.take (i + 1))).length by rw [NE.out, List.length_append, HX.out]; simp; omega)
        clear hb FX NS hx NL NL2 hq hW4 B4 A4 R4
        go_wp2_with fail
        refine FV.out.mono ?_
        rintro e w5 ⟨rfl, hb5⟩
        rw [← HW4.out] at hb5
        have A5 := Lib.hid (HA4.out.below hb5)
        have R5 := Lib.hid (HR4.out.below hb5)
        have B5 := Lib.hid (below_then HB4.out hb5)
        clear hb5
        go_wp2_with fail
        refine (XA.out _ A5.out).mono ?_
        rintro e w6 ⟨rfl, a6, c6⟩
        have A6 := Lib.hid (show AdrAt w6 g (nums (l.take (i + 1))) by rw [NE.out]; exact a6)
        have R6 := Lib.hid (R5.out.keep c6 (show ¬ B = g by have := HG.out; omega))
        have B6 := Lib.hid (B5.out.trans (c6.below (B := w.heap.size) (by intro k hk; have := HG.out; have := HB.out; omega) B5.out.size))
        clear a6 c6
        go_wp2_with fail
        go_roundw
        case rel => exact ⟨i + 1, d, by omega, rfl, by go_num, d0, by omega, HX2, A6, R6, B6⟩
        case measure => simp [intOf]; omega
      | false =>
        have NE := Lib.hid (show nums (l.take (i + 1)) = nums (l.take i) by rw [NS]; unfold isNum; simp only [hq, Bool.false_eq_true, if_false])
        simp only [hq, Bool.false_eq_true, if_false] at FV
        have HX2 := Lib.hid (show d + 1 = ((i + 1 : Nat) : Int) - (nums (l.take (i + 1))).length by rw [NE.out, HX.out]; omega)
        clear hb FX NS hx NL NL2 hq hW4 B4 A4 R4
        go_wp2_with fail
        refine FV.out.mono ?_
        rintro e w5 ⟨rfl, hb5⟩
        rw [← HW4.out] at hb5
        have A5 := Lib.hid (HA4.out.below hb5)
        have R5 := Lib.hid (HR4.out.below hb5)
        have B5 := Lib.hid (below_then HB4.out hb5)
        clear hb5
        go_wp2_with fail
        go_roundw
        case rel => exact ⟨i + 1, d + 1, by omega, by go_num, by go_num, by omega, by omega, HX2, Lib.hid (by rw [NE.out]; exact A5.out), R5, B5⟩
        case measure => simp [intOf]; omega
    · have hin : i = n := by omega
      subst hin
      have NL := nums_len l
      have XT := Lib.hid (xTally g (nums (l.take i)) wr AR.out (by have := nums_len (l.take i); rw [List.length_take] at this; omega))
      have HX3 := HX.out
      rw [show l.take i = l from List.take_of_length_le (by rw [← HN.out]; exact Nat.le_refl _)] at XT HX3
      have ED := Lib.hid (show d = D by rw [HX3, HD.out, HN.out])
      rw [HT.out] at XT
      clear hi NL HX3
      go_wp2_with fail
      refine XT.out.mono ?_
      rintro e w3 ⟨rfl, hb3⟩
      have R3 := RR.out.below hb3
      have B3 := below_then BR.out hb3
      have z0 := R3.frozen 0
      have z1 := R3.frozen 1
      have z2 := R3.frozen 2
      have z3 := R3.frozen 3
      have z4 := R3.frozen 4
      have y0 := R3.cell 0
      have y1 := R3.cell 1
      have y2 := R3.cell 2
      have y3 := R3.cell 3
      have y4 := R3.cell 4
      simp only [List.getElem?_cons_zero, List.getElem?_cons_succ] at y0 y1 y2 y3 y4
      obtain ⟨Wf, hWf⟩ : ∃ W, W = ((((w3.setCell ⟨B, 0, none⟩ (.int .i64 t0)).setCell ⟨B, 1, none⟩ (.int .u64 t1)).setCell ⟨B, 2, none⟩ (.int .u64 t2)).setCell ⟨B, 3, none⟩ (.int .u64 t3)).setCell ⟨B, 4, none⟩ (.int .u64 t4) := ⟨_, rfl⟩
      have RF : RowAt Wf B [.int .i64 t0, .int .u64 t1, .int .u64 t2, .int .u64 t3, .int .u64 t4] 28 := by
        rw [hWf]; exact ((((R3.set 0 _).set 1 _).set 2 _).set 3 _).set 4 _
      have BF : Below w.heap.size w Wf := by
        have hb : w.heap.size ≤ B := by have := HB.out; omega
        rw [hWf]; exact ((((B3.setCell (p := ⟨B, 0, none⟩) hb _).setCell (p := ⟨B, 1, none⟩) hb _).setCell (p := ⟨B, 2, none⟩) hb _).setCell (p := ⟨B, 3, none⟩) hb _).setCell (p := ⟨B, 4, none⟩) hb _
      have RFH := Lib.hid RF
      have BFH := Lib.hid BF
      have HWf := Lib.hid hWf
      clear R3 B3 RF BF hWf hb3
      go_wp2_with fail
      rw [← HWf.out]
      refine bodyPost_ret (results_cell_tmp15 rfl _ _ B _ _ _ rfl RFH.out Try.underlying28 rfl (by kernel_rfl)) rfl ?_
      exact ⟨by rw [← ED.out]; rfl, BFH.out⟩

end Go.Proofs.Ytoljhoabbaigdaa
