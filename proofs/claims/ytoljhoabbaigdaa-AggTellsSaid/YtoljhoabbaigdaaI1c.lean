/- agg.Of, the reference's Of: walked. -/
import Derived.Test.YtoljhoabbaigdaaI1b
namespace Go.Proofs.Ytoljhoabbaigdaa
open Go.RowKit Ex Fl Ag Ieee
attribute [local go_sem] Oper.semAt_some

theorem tal_parts (zs : List Nat) : ∃ a b c d e : Int, tal zs = .agg #[.int .i64 a, .int .u64 b, .int .u64 c, .int .u64 d, .int .u64 e] := by
  unfold tal
  split
  · exact ⟨_, _, _, _, _, rfl⟩
  · exact ⟨_, _, _, _, _, rfl⟩
theorem take_snoc {zs : List Nat} {i : Nat} (hi : i < zs.length) : zs.take (i + 1) = zs.take i ++ [zs.getD i 0] := by
  rw [List.take_add_one, List.getElem?_eq_getElem hi, List.getD_eq_getElem?_getD, List.getElem?_eq_getElem hi]; rfl
theorem SlF.chg {w w' : World} {A : Option Addr} {zs : List Nat} {F : Nat → Prop} (h : SlF w A zs) (hc : Chg F w w') (hn : ∀ a, A = some a → ¬ F a.block) : SlF w' A zs := fun hp => by
  obtain ⟨b, o, e, hl, k⟩ := h hp
  refine ⟨b, o, e, Nat.lt_of_lt_of_le hl hc.size, fun j hj => ?_⟩
  have hb : ¬ F b := hn _ e
  have e2 : w'.cell? ⟨b, o + j, none⟩ = w.cell? ⟨b, o + j, none⟩ := by
    unfold World.cell?; rw [hc.block b hl hb]
  exact e2.trans (k j hj)

set_option maxRecDepth 100000 in
set_option maxHeartbeats 2000000 in
theorem xOf15 (zs : List Nat) (A : Option Addr) (c : Nat) (w : World) (h : SlF w A zs) (hf : AllFits zs) (hl : zs.length ≤ 1000) :
    Calls Try.prog 13 #[.slice A zs.length c] w fun e w' => e = .returned (tal zs) ∧ Below w.heap.size w w' := by
  obtain ⟨n, hn⟩ : ∃ n, n = zs.length := ⟨_, rfl⟩
  obtain ⟨B, hB⟩ : ∃ B, B = w.heap.size := ⟨_, rfl⟩
  obtain ⟨W1, hW1⟩ : ∃ W, W = w.alloc (.cells zT.toArray 28) := ⟨_, rfl⟩
  have HW1 := Lib.hid (show w.alloc (.cells #[.int .i64 0, .int .u64 0, .int .u64 0, .int .u64 0, .int .u64 0] 28) = W1 from hW1.symm)
  have R1 := RowAt.new w zT 28
  have B1 := (Below.refl w.heap.size w).alloc (Nat.le_refl _) (.cells zT.toArray 28)
  have hsz : W1.heap.size = B + 1 := by rw [hW1, hB]; show (w.heap.push _).size = _; rw [Array.size_push]
  rw [← hW1] at R1 B1
  rw [← hB] at R1
  rw [← hn]
  have HN := Lib.hid hn
  have HS := Lib.hid h
  have HF := Lib.hid hf
  have HL := Lib.hid hl
  have HB := Lib.hid hB
  have HR1 := Lib.hid R1
  have HB1 := Lib.hid B1
  have HZ := Lib.hid hsz
  have XN := Lib.hid (xNew15 W1)
  obtain ⟨t0, t1, t2, t3, t4, ht⟩ := tal_parts zs
  have HT := Lib.hid ht
  rw [ht]
  rw [← hn] at hl
  clear hW1 R1 B1 hn h hf hB hsz ht
  go_enter Try.func13, Try.ntmps13
  go_wp2_with fail
  rw [HW1.out, ← HB.out]
  refine XN.out.mono ?_
  rintro e w2 ⟨rfl, ha2, hb2⟩
  rw [HZ.out] at ha2 ⊢
  obtain ⟨g, hg⟩ : ∃ g, g = B + 1 := ⟨_, rfl⟩
  rw [← hg] at ha2 ⊢
  have A2 := Lib.hid ha2
  have B2 := Lib.hid (below_then HB1.out hb2)
  have R2 := Lib.hid (HR1.out.below hb2)
  have HG := Lib.hid hg
  clear ha2 hb2 hg
  go_wp2_with fail
  go_loopw [9] (fun vi wr => ∃ i : Nat, i ≤ n ∧ vi = .int .i64 i ∧ Hid (AdrAt wr g (zs.take i)) ∧ Hid (RowAt wr B zT 28) ∧ Hid (Below w.heap.size w wr)) (fun vi _ => n - (intOf vi).toNat)
  case atStart => exact ⟨0, Nat.zero_le _, rfl, A2, R2, B2⟩
  case round =>
    obtain ⟨i, hi, rfl, AR, RR, BR⟩ := hrel
    by_cases q : i < n
    · obtain ⟨b, o, rfl, hb, cc⟩ := (HS.out.below BR.out).at_ (k := i) (by rw [← HN.out]; exact q)
      have ci := cc i (by rw [← HN.out]; exact q)
      have LT : (zs.take i).length ≤ 1099511627776 := by rw [List.length_take]; have := HL.out; omega
      have XA := Lib.hid (xAdd g (zs.take i) (zs.getD i 0) wr AR.out (HF.out.get (by rw [← HN.out]; exact q)) (HF.out.take i) LT)
      obtain ⟨x, hx⟩ : ∃ x, x = zs.getD i 0 := ⟨_, rfl⟩
      rw [← hx] at XA ci
      have XA2 := Lib.hid (show Calls Try.prog 12 #[PtrA g, .float .f64 x] wr fun e w' => e = .returned (.int .i64 0) ∧ Hid (AdrAt w' g (zs.take (i + 1))) ∧ Chg (fun k => k = g) wr w' from XA.out.mono (by
        rintro e w' ⟨k1, k2, k3⟩
        rw [hx, ← take_snoc (by rw [← HN.out]; exact q)] at k2
        exact ⟨k1, k2, k3⟩))
      clear cc hb LT XA hx hi
      go_wp2_with fail
      refine XA2.out.mono ?_
      rintro e w3 ⟨rfl, a3, c3⟩
      have R3 := Lib.hid (RR.out.keep c3 (show ¬ B = g by have := HG.out; omega))
      have B3 := Lib.hid (BR.out.trans (c3.below (B := w.heap.size) (by intro k hk; have := HG.out; have := HB.out; omega) BR.out.size))
      clear c3
      go_wp2_with fail
      go_roundw
      case rel => exact ⟨i + 1, by omega, by go_num, a3, R3, B3⟩
      case measure => simp [intOf]; omega
    · have hin : i = n := by omega
      subst hin
      have XT := Lib.hid (xTally g (zs.take i) wr AR.out (by rw [List.length_take]; have := HL.out; omega))
      rw [HN.out, List.take_length] at XT
      rw [HT.out] at XT
      clear hi
      go_wp2_with fail
      refine XT.out.mono ?_
      rintro e w3 ⟨rfl, hb3⟩
      have R3 := RR.out.below hb3
      have B3 := below_then BR.out hb3
      have z0 := R3.frozen 0
      have z1 := R3.frozen 1
      have z2 := R3.frozen 2
      have z3 := R3.frozen 3
      have z4 := R3.frozen 4
      have y0 := R3.cell 0
      have y1 := R3.cell 1
      have y2 := R3.cell 2
      have y3 := R3.cell 3
      have y4 := R3.cell 4
      simp only [List.getElem?_cons_zero, List.getElem?_cons_succ] at y0 y1 y2 y3 y4
      obtain ⟨Wf, hWf⟩ : ∃ W, W = ((((w3.setCell ⟨B, 0, none⟩ (.int .i64 t0)).setCell ⟨B, 1, none⟩ (.int .u64 t1)).setCell ⟨B, 2, none⟩ (.int .u64 t2)).setCell ⟨B, 3, none⟩ (.int .u64 t3)).setCell ⟨B, 4, none⟩ (.int .u64 t4) := ⟨_, rfl⟩
      have RF : RowAt Wf B [.int .i64 t0, .int .u64 t1, .int .u64 t2, .int .u64 t3, .int .u64 t4] 28 := by
        rw [hWf]; exact ((((R3.set 0 _).set 1 _).set 2 _).set 3 _).set 4 _
      have BF : Below w.heap.size w Wf := by
        have hb : w.heap.size ≤ B := by have := HB.out; omega
        rw [hWf]; exact ((((B3.setCell (p := ⟨B, 0, none⟩) hb _).setCell (p := ⟨B, 1, none⟩) hb _).setCell (p := ⟨B, 2, none⟩) hb _).setCell (p := ⟨B, 3, none⟩) hb _).setCell (p := ⟨B, 4, none⟩) hb _
      have RFH := Lib.hid RF
      have BFH := Lib.hid BF
      have HWf := Lib.hid hWf
      clear R3 B3 RF BF hWf hb3
      go_wp2_with fail
      rw [← HWf.out]
      refine bodyPost_ret (results_cell_one15 rfl _ _ B _ _ _ rfl RFH.out Try.underlying28 rfl (by kernel_rfl)) rfl ?_
      exact ⟨rfl, BFH.out⟩

end Go.Proofs.Ytoljhoabbaigdaa
