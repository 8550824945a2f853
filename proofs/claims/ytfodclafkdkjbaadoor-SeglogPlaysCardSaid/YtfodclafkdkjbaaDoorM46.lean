/- Proved parts: E5nw. Conditions: each theorem's own. -/
import Derived.Test.YtfodclafkdkjbaaDoorM39
import Derived.Test.YtfodclafkdkjbaaDoorM6
namespace Go.Proofs.YtfodclafkdkjbaaDoor
open Go.RowKit Go.Maps

theorem infoX63 : (Tryd.prog.info? 70).map (fun i => (i.zero, i.size, i.bytes)) = some (some (.agg #[.slice none 0 0, .map none]), 2, 32) := by kernel_rfl
set_option maxRecDepth 100000 in
set_option maxHeartbeats 2000000 in
theorem xNewYes (e s : Nat) (w : World) (hf : Ext.fits e s = true) : Calls Tryd.prog 8 #[.int .i64 e, .int .i64 s] w fun x w' => Below w.heap.size w w' ∧ ∃ b F, x = .returned (.tuple #[.pointer (some ⟨b, 0, none⟩), .int .i64 0]) ∧ RelX w' b F (Ext.new e s) ∧ ∀ k, F k → w.heap.size ≤ k := by
  have HFI := Lib.hid hf
  unfold Ext.fits at hf
  simp only [Bool.and_eq_true, decide_eq_true_eq] at hf
  obtain ⟨⟨⟨h0, h1⟩, h2⟩, h3⟩ := hf
  have S128 := Lib.hid (show s ≤ 128 by omega)
  have ST := Lib.hid (MakeE.start w s)
  have B0 := Lib.hid ((Below.refl w.heap.size w).alloc (Nat.le_refl _) (.cells #[.bool true, .int .i64 s, .slice none 0 0] 66))
  go_enter Tryd.func8, Tryd.ntmps8
  go_wp2_with fail
  obtain ⟨wo, hwo⟩ : ∃ wo, wo = w.alloc (.cells #[.bool true, .int .i64 s, .slice none 0 0] 66) := ⟨_, rfl⟩
  rw [← hwo] at ST B0 ⊢
  clear hwo
  go_loopw [25] (fun v wr => ∃ (k : Nat) (x : Value) (ds ms : Nat → Nat), k ≤ e ∧ v = .int .i64 k ∧ MakeE wr w.heap.size (w.heap.size + 1) s k x ds ms ∧ Below w.heap.size w wr)
    (fun v _ => e - (Go.RowKit.intOf v).toNat)
  case atStart => exact ⟨0, _, _, _, Nat.zero_le _, rfl, ST.out, B0.out⟩
  case round =>
    obtain ⟨k, x, ds, ms, hk, rfl, hm, hb⟩ := hrel
    have MK := Lib.hid hm
    have BB := Lib.hid hb
    clear hm hb
    by_cases hlt : k < e
    · have HX := Lib.hid (show ∃ x', x' = x from ⟨x, rfl⟩)
      have HL := Lib.hid (show w.heap.size < wr.heap.size from Nat.lt_of_lt_of_le MK.out.lt MK.out.size)
      go_wp2_with fail
      have MR := fun W => make_rows s S128.out W
      have MM : ∀ W, (Instr.makeMap 68 none).run Tryd.prog W = .ok (.map (some W.heap.size)) (W.alloc (.map #[] 0)) := fun W => run_makeMap _ W
      obtain ⟨CS, hCS⟩ : ∃ CS, CS = (noSecs s).toArray := ⟨_, rfl⟩
      rw [← hCS] at MR
      have HCS := Lib.hid hCS
      clear hCS
      refine wp_region_held_drew (S := fun _ => True) (by kernel_rfl) trivial (fun hHeld => ?_)
      refine rgnTake 0 rfl (by kernel_rfl) (by kernel_rfl) (by kernel_rfl) (fun _ _ _ h => h) (by rfl) (v := ?v0) ?hy0 hHeld ?rest0
      case hy0 => (intro v hSw; first | (go_simp; done) | (go_simp; with_reducible rfl))
      try simp only [Act.put, List.setIfInBounds_toArray, List.set_cons_zero, List.set_cons_succ]
      refine rgnTake 1 rfl (by kernel_rfl) (by kernel_rfl) (by kernel_rfl) (fun _ _ _ h => h) (by rfl) (v := ?v1) ?hy1 hHeld ?rest1
      case hy1 => (intro v hSw; first | (go_simp; done) | (go_simp; with_reducible rfl))
      try simp only [Act.put, List.setIfInBounds_toArray, List.set_cons_zero, List.set_cons_succ]
      refine rgnTake 2 rfl (by kernel_rfl) (by kernel_rfl) (by kernel_rfl) (fun _ _ _ h => h) (by rfl) (v := ?v2) ?hy2 hHeld ?rest2
      case hy2 => (intro v hSw; first | (go_simp; done) | (go_simp; with_reducible rfl))
      try simp only [Act.put, List.setIfInBounds_toArray, List.set_cons_zero, List.set_cons_succ]
      refine rgnTake 3 rfl (by kernel_rfl) (by kernel_rfl) (by kernel_rfl) (fun _ _ _ h => h) (by rfl) (v := ?v3) ?hy3 hHeld ?rest3
      case hy3 => (intro v hSw; first | (go_simp; done) | (go_simp; with_reducible rfl))
      try simp only [Act.put, List.setIfInBounds_toArray, List.set_cons_zero, List.set_cons_succ]
      refine rgnTake 5 rfl (by kernel_rfl) (by kernel_rfl) (by kernel_rfl) (fun _ _ _ h => h) (by rfl) (v := ?v5) ?hy5 hHeld ?rest5
      case hy5 => (intro v hSw; first | (go_simp; done) | (go_simp; with_reducible rfl))
      try simp only [Act.put, List.setIfInBounds_toArray, List.set_cons_zero, List.set_cons_succ]
      have MQ0 := Lib.hid (MK.out.below (w' := wr.drew) ((Below.refl _ _).drew))
      refine wpAnyH_ready (rs := [4, 6, 7]) (by kernel_rfl) (by simp) (AllReadyH.cons rfl (fun K hK => ?_) (AllReadyH.cons rfl (fun K hK => ?_) (AllReadyH.cons rfl (fun K hK => ?_) (AllReadyH.nil))))
      · have y0 := MQ0.out.ext
        go_simp
        refine hK.out _ _ trivial (fun hHeld => ?_)
        clear hK K
        try simp only [Act.put, List.setIfInBounds_toArray, List.set_cons_zero, List.set_cons_succ]
        have MQ1 := Lib.hid (MK.out.below (w' := wr.drew) ((Below.refl _ _).drew))
        refine wpAnyH_ready (rs := [6, 7]) (by kernel_rfl) (by simp) (AllReadyH.cons rfl (fun K hK => ?_) (AllReadyH.cons rfl (fun K hK => ?_) (AllReadyH.nil)))
        · go_simp
          refine hK.out _ _ trivial (fun hHeld => ?_)
          clear hK K
          try simp only [Act.put, List.setIfInBounds_toArray, List.set_cons_zero, List.set_cons_succ]
          have MQ2 := Lib.hid (MK.out.below (w' := (wr.alloc (.cells CS 85)).drew) (((Below.refl _ _).alloc (Nat.le_refl _) _).drew))
          refine rgnOne 7 rfl (by kernel_rfl) (fun K hK => ?_)
          go_simp
          refine hK.out _ _ trivial (fun hHeld => ?_)
          clear hK K
          try simp only [Act.put, List.setIfInBounds_toArray, List.set_cons_zero, List.set_cons_succ]
          obtain ⟨W2, hW2⟩ : ∃ W2, W2 = ((wr.alloc (.cells CS 85)).alloc (.map #[] 0)).drew := ⟨_, rfl⟩
          rw [← hW2]
          have B2 := Lib.hid (show Below wr.heap.size wr W2 by rw [hW2]; exact (((Below.refl _ _).alloc (Nat.le_refl _) _).alloc (by simp) _).drew)
          have M2 := Lib.hid (MK.out.below B2.out)
          have S2 := Lib.hid (show W2.heap.size = wr.heap.size + 2 by rw [hW2]; simp)
          have RD := Lib.hid (show RowAt W2 (wr.heap.size) (noSecs s) 85 by rw [hW2, HCS.out]; exact (RowAt.new wr (noSecs s) 85).alloc (.map #[] 0))
          have RM := Lib.hid (show W2.ownsMap Tryd.prog 3 secElem (wr.heap.size + 1) 0 (.map []) by rw [hW2]; exact by have q := (World.ownsMap_made (wr.alloc (.cells CS 85)) Tryd.prog 3 secElem).drew; simpa using q)
          clear hW2
          refine rgnTake 8 rfl (by kernel_rfl) (by kernel_rfl) (by kernel_rfl) (fun _ _ _ h => h) (by rfl) (v := ?v101_8) ?hy101_8 hHeld ?rest101_8
          case hy101_8 => (intro v hSw; first | (go_simp; done) | (go_simp; with_reducible rfl))
          try simp only [Act.put, List.setIfInBounds_toArray, List.set_cons_zero, List.set_cons_succ]
          refine rgnOne 9 rfl (by kernel_rfl) (fun K hK => ?_)
          go_simp
          obtain ⟨W3, hW3⟩ : ∃ W3, W3 = W2.alloc (.cells #[.slice (some ⟨wr.heap.size, 0, none⟩) s s, .map (some (wr.heap.size + 1))] 70) := ⟨_, rfl⟩
          rw [← hW3]
          have B3 := Lib.hid (show Below W2.heap.size W2 W3 by rw [hW3]; exact (Below.refl _ _).alloc (Nat.le_refl _) _)
          have RB := Lib.hid (show RowAt W3 W2.heap.size [.slice (some ⟨wr.heap.size, 0, none⟩) s s, .map (some (wr.heap.size + 1))] 70 by rw [hW3]; exact RowAt.new W2 [.slice (some ⟨wr.heap.size, 0, none⟩) s s, .map (some (wr.heap.size + 1))] 70)
          have M3 := Lib.hid (M2.out.below B3.out)
          have RD3 := Lib.hid (RD.out.below B3.out)
          have RM3 := Lib.hid (ownsMap_chg (F := fun _ => False) RM.out (Chg.of_below B3.out) id)
          clear hW3
          refine hK.out _ _ trivial (fun hHeld => ?_)
          clear hK K
          try simp only [Act.put, List.setIfInBounds_toArray, List.set_cons_zero, List.set_cons_succ]
          refine rgnOne 10 rfl (by kernel_rfl) (fun K hK => ?_)
          refine (if_pos rfl).mpr ?_
          obtain ⟨i0, hi, hz0, hz1, hz2⟩ := info_parts infoX63
          refine wp_append_own W3 (.tmp 31) (.tmp 36) 64 rfl (w.heap.size + 1) 70 i0 _ 2 32 Tryd.underlying64 hi hz0 hz1 hz2 rfl (by decide) x k _ rfl M3.out.own ⟨W2.heap.size, 0, none⟩ 1 1 [.slice (some ⟨wr.heap.size, 0, none⟩) s s, .map (some (wr.heap.size + 1))] rfl rfl ?_ ?_ ?_ ?_ M3.out.size ?_
          · intro j u hj
            rw [Addr.add_mid, RB.out.cell, Nat.zero_add]; exact hj
          · intro u hu
            simp only [List.mem_cons, List.not_mem_nil, or_false] at hu
            rcases hu with rfl | rfl <;> rfl
          · unfold maxLen; omega
          · omega
          intro v' w4 hown hgr _
          have HO := Lib.hid hown
          obtain ⟨g4, c4, e4⟩ : ∃ g4 c4, v' = .slice (some ⟨g4, 0, none⟩) (k + 1) c4 := by
            rcases hown.2 with ⟨_, h⟩ | ⟨g, cap, cur, h, _⟩
            · omega
            · exact ⟨g, cap, h⟩
          subst e4
          have HG := Lib.hid hgr
          have NB4 := Lib.hid (show x.ownBlock ≠ some w.heap.size from fun q => by have := (M3.out.own.lt _ q).1; omega)
          have C4 := Lib.hid (show Chg (fun q => x.ownBlock = some q) W3 w4 from (Chg.refl _ _).grown hgr (fun q e => .inl e))
          have E4 := Lib.hid (C4.out.cell M3.out.ext NB4.out)
          clear hown hgr hi hz0 hz1 hz2
          refine hK.out _ _ trivial (fun hHeld => ?_)
          clear hK K
          try simp only [Act.put, List.setIfInBounds_toArray, List.set_cons_zero, List.set_cons_succ]
          refine rgnTake 11 rfl (by kernel_rfl) (by kernel_rfl) (by kernel_rfl) (fun _ _ _ h => h) (by rfl) (v := ?v101_11) ?hy101_11 hHeld ?rest101_11
          case hy101_11 => (intro v hSw; first | (go_simp; done) | (go_simp; with_reducible rfl))
          try simp only [Act.put, List.setIfInBounds_toArray, List.set_cons_zero, List.set_cons_succ]
          refine rgnTake 12 rfl (by kernel_rfl) (by kernel_rfl) (by kernel_rfl) (fun _ _ _ h => h) (by rfl) (v := ?v101_12) ?hy101_12 hHeld ?rest101_12
          case hy101_12 => (intro v hSw; first | (go_simp; done) | (go_simp; with_reducible rfl))
          try simp only [Act.put, List.setIfInBounds_toArray, List.set_cons_zero, List.set_cons_succ]
          refine rgnOne 13 rfl (by kernel_rfl) (fun K hK => ?_)
          have F4 : w4.frozen? ⟨w.heap.size, 2, none⟩ = false := by rw [frozen_chg C4.out (by have := HL.out; have := S2.out; have := B3.out.size; show w.heap.size < _; omega) NB4.out]; exact M3.out.fz2
          have M5 := Lib.hid (M3.out.step RD3.out RM3.out (by have := HL.out; omega) (by have := HL.out; omega) (fun i hi => ⟨fun q => by have := (MK.out.row i hi).1.lt; omega, fun q => by have := (MK.out.map i hi).1.lt; omega⟩) HG.out HO.out)
          have B5 := Lib.hid (show Below w.heap.size w (w4.setCell ⟨w.heap.size, 2, none⟩ (.slice (some ⟨g4, 0, none⟩) (k + 1) c4)) from (((BB.out.trans (B2.out.mono (Nat.le_of_lt HL.out))).trans (B3.out.mono (by have := S2.out; have := HL.out; omega))).grown HG.out (by have := M3.out.size; omega) (fun q hq => by have := (M3.out.own.lt q hq).1; omega)).setCell (p := ⟨w.heap.size, 2, none⟩) (Nat.le_refl _) _)
          have e4c := E4.out
          go_simp
          refine hK.out _ _ trivial (fun hHeld => ?_)
          clear hK K
          try simp only [Act.put]
          refine wpAnyH_done (by kernel_rfl) ?_ _
          go_wp2_with fail
          go_roundw
          case rel => first | exact ⟨k + 1, _, _, _, by omega, by go_num, M5.out, B5.out⟩ | ((repeat apply Exists.intro); exact ⟨⟨k + 1, _, _, _, by omega, by go_num, M5.out, B5.out⟩, rfl⟩)
          case measure => simp [Go.RowKit.intOf]; omega
        · go_simp
          refine hK.out _ _ trivial (fun hHeld => ?_)
          clear hK K
          try simp only [Act.put, List.setIfInBounds_toArray, List.set_cons_zero, List.set_cons_succ]
          have MQ2 := Lib.hid (MK.out.below (w' := (wr.alloc (.map #[] 0)).drew) (((Below.refl _ _).alloc (Nat.le_refl _) _).drew))
          refine rgnOne 6 rfl (by kernel_rfl) (fun K hK => ?_)
          go_simp
          refine hK.out _ _ trivial (fun hHeld => ?_)
          clear hK K
          try simp only [Act.put, List.setIfInBounds_toArray, List.set_cons_zero, List.set_cons_succ]
          obtain ⟨W2, hW2⟩ : ∃ W2, W2 = ((wr.alloc (.map #[] 0)).alloc (.cells CS 85)).drew := ⟨_, rfl⟩
          rw [← hW2]
          have B2 := Lib.hid (show Below wr.heap.size wr W2 by rw [hW2]; exact (((Below.refl _ _).alloc (Nat.le_refl _) _).alloc (by simp) _).drew)
          have M2 := Lib.hid (MK.out.below B2.out)
          have S2 := Lib.hid (show W2.heap.size = wr.heap.size + 2 by rw [hW2]; simp)
          have RD := Lib.hid (show RowAt W2 (wr.heap.size + 1) (noSecs s) 85 by rw [hW2, HCS.out]; exact by have q := RowAt.new (wr.alloc (.map #[] 0)) (noSecs s) 85; rw [show (wr.alloc (.map #[] 0)).heap.size = wr.heap.size + 1 by simp] at q; exact q)
          have RM := Lib.hid (show W2.ownsMap Tryd.prog 3 secElem (wr.heap.size) 0 (.map []) by rw [hW2]; exact ((World.ownsMap_made wr Tryd.prog 3 secElem).alloc _).drew)
          clear hW2
          refine rgnTake 8 rfl (by kernel_rfl) (by kernel_rfl) (by kernel_rfl) (fun _ _ _ h => h) (by rfl) (v := ?v102_8) ?hy102_8 hHeld ?rest102_8
          case hy102_8 => (intro v hSw; first | (go_simp; done) | (go_simp; with_reducible rfl))
          try simp only [Act.put, List.setIfInBounds_toArray, List.set_cons_zero, List.set_cons_succ]
          refine rgnOne 9 rfl (by kernel_rfl) (fun K hK => ?_)
          go_simp
          obtain ⟨W3, hW3⟩ : ∃ W3, W3 = W2.alloc (.cells #[.slice (some ⟨wr.heap.size + 1, 0, none⟩) s s, .map (some (wr.heap.size))] 70) := ⟨_, rfl⟩
          rw [← hW3]
          have B3 := Lib.hid (show Below W2.heap.size W2 W3 by rw [hW3]; exact (Below.refl _ _).alloc (Nat.le_refl _) _)
          have RB := Lib.hid (show RowAt W3 W2.heap.size [.slice (some ⟨wr.heap.size + 1, 0, none⟩) s s, .map (some (wr.heap.size))] 70 by rw [hW3]; exact RowAt.new W2 [.slice (some ⟨wr.heap.size + 1, 0, none⟩) s s, .map (some (wr.heap.size))] 70)
          have M3 := Lib.hid (M2.out.below B3.out)
          have RD3 := Lib.hid (RD.out.below B3.out)
          have RM3 := Lib.hid (ownsMap_chg (F := fun _ => False) RM.out (Chg.of_below B3.out) id)
          clear hW3
          refine hK.out _ _ trivial (fun hHeld => ?_)
          clear hK K
          try simp only [Act.put, List.setIfInBounds_toArray, List.set_cons_zero, List.set_cons_succ]
          refine rgnOne 10 rfl (by kernel_rfl) (fun K hK => ?_)
          refine (if_pos rfl).mpr ?_
          obtain ⟨i0, hi, hz0, hz1, hz2⟩ := info_parts infoX63
          refine wp_append_own W3 (.tmp 31) (.tmp 36) 64 rfl (w.heap.size + 1) 70 i0 _ 2 32 Tryd.underlying64 hi hz0 hz1 hz2 rfl (by decide) x k _ rfl M3.out.own ⟨W2.heap.size, 0, none⟩ 1 1 [.slice (some ⟨wr.heap.size + 1, 0, none⟩) s s, .map (some (wr.heap.size))] rfl rfl ?_ ?_ ?_ ?_ M3.out.size ?_
          · intro j u hj
            rw [Addr.add_mid, RB.out.cell, Nat.zero_add]; exact hj
          · intro u hu
            simp only [List.mem_cons, List.not_mem_nil, or_false] at hu
            rcases hu with rfl | rfl <;> rfl
          · unfold maxLen; omega
          · omega
          intro v' w4 hown hgr _
          have HO := Lib.hid hown
          obtain ⟨g4, c4, e4⟩ : ∃ g4 c4, v' = .slice (some ⟨g4, 0, none⟩) (k + 1) c4 := by
            rcases hown.2 with ⟨_, h⟩ | ⟨g, cap, cur, h, _⟩
            · omega
            · exact ⟨g, cap, h⟩
          subst e4
          have HG := Lib.hid hgr
          have NB4 := Lib.hid (show x.ownBlock ≠ some w.heap.size from fun q => by have := (M3.out.own.lt _ q).1; omega)
          have C4 := Lib.hid (show Chg (fun q => x.ownBlock = some q) W3 w4 from (Chg.refl _ _).grown hgr (fun q e => .inl e))
          have E4 := Lib.hid (C4.out.cell M3.out.ext NB4.out)
          clear hown hgr hi hz0 hz1 hz2
          refine hK.out _ _ trivial (fun hHeld => ?_)
          clear hK K
          try simp only [Act.put, List.setIfInBounds_toArray, List.set_cons_zero, List.set_cons_succ]
          refine rgnTake 11 rfl (by kernel_rfl) (by kernel_rfl) (by kernel_rfl) (fun _ _ _ h => h) (by rfl) (v := ?v102_11) ?hy102_11 hHeld ?rest102_11
          case hy102_11 => (intro v hSw; first | (go_simp; done) | (go_simp; with_reducible rfl))
          try simp only [Act.put, List.setIfInBounds_toArray, List.set_cons_zero, List.set_cons_succ]
          refine rgnTake 12 rfl (by kernel_rfl) (by kernel_rfl) (by kernel_rfl) (fun _ _ _ h => h) (by rfl) (v := ?v102_12) ?hy102_12 hHeld ?rest102_12
          case hy102_12 => (intro v hSw; first | (go_simp; done) | (go_simp; with_reducible rfl))
          try simp only [Act.put, List.setIfInBounds_toArray, List.set_cons_zero, List.set_cons_succ]
          refine rgnOne 13 rfl (by kernel_rfl) (fun K hK => ?_)
          have F4 : w4.frozen? ⟨w.heap.size, 2, none⟩ = false := by rw [frozen_chg C4.out (by have := HL.out; have := S2.out; have := B3.out.size; show w.heap.size < _; omega) NB4.out]; exact M3.out.fz2
          have M5 := Lib.hid (M3.out.step RD3.out RM3.out (by have := HL.out; omega) (by have := HL.out; omega) (fun i hi => ⟨fun q => by have := (MK.out.row i hi).1.lt; omega, fun q => by have := (MK.out.map i hi).1.lt; omega⟩) HG.out HO.out)
          have B5 := Lib.hid (show Below w.heap.size w (w4.setCell ⟨w.heap.size, 2, none⟩ (.slice (some ⟨g4, 0, none⟩) (k + 1) c4)) from (((BB.out.trans (B2.out.mono (Nat.le_of_lt HL.out))).trans (B3.out.mono (by have := S2.out; have := HL.out; omega))).grown HG.out (by have := M3.out.size; omega) (fun q hq => by have := (M3.out.own.lt q hq).1; omega)).setCell (p := ⟨w.heap.size, 2, none⟩) (Nat.le_refl _) _)
          have e4c := E4.out
          go_simp
          refine hK.out _ _ trivial (fun hHeld => ?_)
          clear hK K
          try simp only [Act.put]
          refine wpAnyH_done (by kernel_rfl) ?_ _
          go_wp2_with fail
          go_roundw
          case rel => first | exact ⟨k + 1, _, _, _, by omega, by go_num, M5.out, B5.out⟩ | ((repeat apply Exists.intro); exact ⟨⟨k + 1, _, _, _, by omega, by go_num, M5.out, B5.out⟩, rfl⟩)
          case measure => simp [Go.RowKit.intOf]; omega
      · go_simp
        refine hK.out _ _ trivial (fun hHeld => ?_)
        clear hK K
        try simp only [Act.put, List.setIfInBounds_toArray, List.set_cons_zero, List.set_cons_succ]
        have MQ1 := Lib.hid (MK.out.below (w' := (wr.alloc (.cells CS 85)).drew) (((Below.refl _ _).alloc (Nat.le_refl _) _).drew))
        refine wpAnyH_ready (rs := [4, 7]) (by kernel_rfl) (by simp) (AllReadyH.cons rfl (fun K hK => ?_) (AllReadyH.cons rfl (fun K hK => ?_) (AllReadyH.nil)))
        · have y0 := MQ1.out.ext
          go_simp
          refine hK.out _ _ trivial (fun hHeld => ?_)
          clear hK K
          try simp only [Act.put, List.setIfInBounds_toArray, List.set_cons_zero, List.set_cons_succ]
          have MQ2 := Lib.hid (MK.out.below (w' := (wr.alloc (.cells CS 85)).drew) (((Below.refl _ _).alloc (Nat.le_refl _) _).drew))
          refine rgnOne 7 rfl (by kernel_rfl) (fun K hK => ?_)
          go_simp
          refine hK.out _ _ trivial (fun hHeld => ?_)
          clear hK K
          try simp only [Act.put, List.setIfInBounds_toArray, List.set_cons_zero, List.set_cons_succ]
          obtain ⟨W2, hW2⟩ : ∃ W2, W2 = ((wr.alloc (.cells CS 85)).alloc (.map #[] 0)).drew := ⟨_, rfl⟩
          rw [← hW2]
          have B2 := Lib.hid (show Below wr.heap.size wr W2 by rw [hW2]; exact (((Below.refl _ _).alloc (Nat.le_refl _) _).alloc (by simp) _).drew)
          have M2 := Lib.hid (MK.out.below B2.out)
          have S2 := Lib.hid (show W2.heap.size = wr.heap.size + 2 by rw [hW2]; simp)
          have RD := Lib.hid (show RowAt W2 (wr.heap.size) (noSecs s) 85 by rw [hW2, HCS.out]; exact (RowAt.new wr (noSecs s) 85).alloc (.map #[] 0))
          have RM := Lib.hid (show W2.ownsMap Tryd.prog 3 secElem (wr.heap.size + 1) 0 (.map []) by rw [hW2]; exact by have q := (World.ownsMap_made (wr.alloc (.cells CS 85)) Tryd.prog 3 secElem).drew; simpa using q)
          clear hW2
          refine rgnTake 8 rfl (by kernel_rfl) (by kernel_rfl) (by kernel_rfl) (fun _ _ _ h => h) (by rfl) (v := ?v103_8) ?hy103_8 hHeld ?rest103_8
          case hy103_8 => (intro v hSw; first | (go_simp; done) | (go_simp; with_reducible rfl))
          try simp only [Act.put, List.setIfInBounds_toArray, List.set_cons_zero, List.set_cons_succ]
          refine rgnOne 9 rfl (by kernel_rfl) (fun K hK => ?_)
          go_simp
          obtain ⟨W3, hW3⟩ : ∃ W3, W3 = W2.alloc (.cells #[.slice (some ⟨wr.heap.size, 0, none⟩) s s, .map (some (wr.heap.size + 1))] 70) := ⟨_, rfl⟩
          rw [← hW3]
          have B3 := Lib.hid (show Below W2.heap.size W2 W3 by rw [hW3]; exact (Below.refl _ _).alloc (Nat.le_refl _) _)
          have RB := Lib.hid (show RowAt W3 W2.heap.size [.slice (some ⟨wr.heap.size, 0, none⟩) s s, .map (some (wr.heap.size + 1))] 70 by rw [hW3]; exact RowAt.new W2 [.slice (some ⟨wr.heap.size, 0, none⟩) s s, .map (some (wr.heap.size + 1))] 70)
          have M3 := Lib.hid (M2.out.below B3.out)
          have RD3 := Lib.hid (RD.out.below B3.out)
          have RM3 := Lib.hid (ownsMap_chg (F := fun _ => False) RM.out (Chg.of_below B3.out) id)
          clear hW3
          refine hK.out _ _ trivial (fun hHeld => ?_)
          clear hK K
          try simp only [Act.put, List.setIfInBounds_toArray, List.set_cons_zero, List.set_cons_succ]
          refine rgnOne 10 rfl (by kernel_rfl) (fun K hK => ?_)
          refine (if_pos rfl).mpr ?_
          obtain ⟨i0, hi, hz0, hz1, hz2⟩ := info_parts infoX63
          refine wp_append_own W3 (.tmp 31) (.tmp 36) 64 rfl (w.heap.size + 1) 70 i0 _ 2 32 Tryd.underlying64 hi hz0 hz1 hz2 rfl (by decide) x k _ rfl M3.out.own ⟨W2.heap.size, 0, none⟩ 1 1 [.slice (some ⟨wr.heap.size, 0, none⟩) s s, .map (some (wr.heap.size + 1))] rfl rfl ?_ ?_ ?_ ?_ M3.out.size ?_
          · intro j u hj
            rw [Addr.add_mid, RB.out.cell, Nat.zero_add]; exact hj
          · intro u hu
            simp only [List.mem_cons, List.not_mem_nil, or_false] at hu
            rcases hu with rfl | rfl <;> rfl
          · unfold maxLen; omega
          · omega
          intro v' w4 hown hgr _
          have HO := Lib.hid hown
          obtain ⟨g4, c4, e4⟩ : ∃ g4 c4, v' = .slice (some ⟨g4, 0, none⟩) (k + 1) c4 := by
            rcases hown.2 with ⟨_, h⟩ | ⟨g, cap, cur, h, _⟩
            · omega
            · exact ⟨g, cap, h⟩
          subst e4
          have HG := Lib.hid hgr
          have NB4 := Lib.hid (show x.ownBlock ≠ some w.heap.size from fun q => by have := (M3.out.own.lt _ q).1; omega)
          have C4 := Lib.hid (show Chg (fun q => x.ownBlock = some q) W3 w4 from (Chg.refl _ _).grown hgr (fun q e => .inl e))
          have E4 := Lib.hid (C4.out.cell M3.out.ext NB4.out)
          clear hown hgr hi hz0 hz1 hz2
          refine hK.out _ _ trivial (fun hHeld => ?_)
          clear hK K
          try simp only [Act.put, List.setIfInBounds_toArray, List.set_cons_zero, List.set_cons_succ]
          refine rgnTake 11 rfl (by kernel_rfl) (by kernel_rfl) (by kernel_rfl) (fun _ _ _ h => h) (by rfl) (v := ?v103_11) ?hy103_11 hHeld ?rest103_11
          case hy103_11 => (intro v hSw; first | (go_simp; done) | (go_simp; with_reducible rfl))
          try simp only [Act.put, List.setIfInBounds_toArray, List.set_cons_zero, List.set_cons_succ]
          refine rgnTake 12 rfl (by kernel_rfl) (by kernel_rfl) (by kernel_rfl) (fun _ _ _ h => h) (by rfl) (v := ?v103_12) ?hy103_12 hHeld ?rest103_12
          case hy103_12 => (intro v hSw; first | (go_simp; done) | (go_simp; with_reducible rfl))
          try simp only [Act.put, List.setIfInBounds_toArray, List.set_cons_zero, List.set_cons_succ]
          refine rgnOne 13 rfl (by kernel_rfl) (fun K hK => ?_)
          have F4 : w4.frozen? ⟨w.heap.size, 2, none⟩ = false := by rw [frozen_chg C4.out (by have := HL.out; have := S2.out; have := B3.out.size; show w.heap.size < _; omega) NB4.out]; exact M3.out.fz2
          have M5 := Lib.hid (M3.out.step RD3.out RM3.out (by have := HL.out; omega) (by have := HL.out; omega) (fun i hi => ⟨fun q => by have := (MK.out.row i hi).1.lt; omega, fun q => by have := (MK.out.map i hi).1.lt; omega⟩) HG.out HO.out)
          have B5 := Lib.hid (show Below w.heap.size w (w4.setCell ⟨w.heap.size, 2, none⟩ (.slice (some ⟨g4, 0, none⟩) (k + 1) c4)) from (((BB.out.trans (B2.out.mono (Nat.le_of_lt HL.out))).trans (B3.out.mono (by have := S2.out; have := HL.out; omega))).grown HG.out (by have := M3.out.size; omega) (fun q hq => by have := (M3.out.own.lt q hq).1; omega)).setCell (p := ⟨w.heap.size, 2, none⟩) (Nat.le_refl _) _)
          have e4c := E4.out
          go_simp
          refine hK.out _ _ trivial (fun hHeld => ?_)
          clear hK K
          try simp only [Act.put]
          refine wpAnyH_done (by kernel_rfl) ?_ _
          go_wp2_with fail
          go_roundw
          case rel => first | exact ⟨k + 1, _, _, _, by omega, by go_num, M5.out, B5.out⟩ | ((repeat apply Exists.intro); exact ⟨⟨k + 1, _, _, _, by omega, by go_num, M5.out, B5.out⟩, rfl⟩)
          case measure => simp [Go.RowKit.intOf]; omega
        · go_simp
          refine hK.out _ _ trivial (fun hHeld => ?_)
          clear hK K
          try simp only [Act.put, List.setIfInBounds_toArray, List.set_cons_zero, List.set_cons_succ]
          obtain ⟨W2, hW2⟩ : ∃ W2, W2 = ((wr.alloc (.cells CS 85)).alloc (.map #[] 0)).drew := ⟨_, rfl⟩
          rw [← hW2]
          have B2 := Lib.hid (show Below wr.heap.size wr W2 by rw [hW2]; exact (((Below.refl _ _).alloc (Nat.le_refl _) _).alloc (by simp) _).drew)
          have M2 := Lib.hid (MK.out.below B2.out)
          have S2 := Lib.hid (show W2.heap.size = wr.heap.size + 2 by rw [hW2]; simp)
          have RD := Lib.hid (show RowAt W2 (wr.heap.size) (noSecs s) 85 by rw [hW2, HCS.out]; exact (RowAt.new wr (noSecs s) 85).alloc (.map #[] 0))
          have RM := Lib.hid (show W2.ownsMap Tryd.prog 3 secElem (wr.heap.size + 1) 0 (.map []) by rw [hW2]; exact by have q := (World.ownsMap_made (wr.alloc (.cells CS 85)) Tryd.prog 3 secElem).drew; simpa using q)
          clear hW2
          refine rgnTake 8 rfl (by kernel_rfl) (by kernel_rfl) (by kernel_rfl) (fun _ _ _ h => h) (by rfl) (v := ?v104_8) ?hy104_8 hHeld ?rest104_8
          case hy104_8 => (intro v hSw; first | (go_simp; done) | (go_simp; with_reducible rfl))
          try simp only [Act.put, List.setIfInBounds_toArray, List.set_cons_zero, List.set_cons_succ]
          refine wpAnyH_ready (rs := [4, 9]) (by kernel_rfl) (by simp) (AllReadyH.cons rfl (fun K hK => ?_) (AllReadyH.cons rfl (fun K hK => ?_) AllReadyH.nil))
          · have y0 := M2.out.ext
            go_simp
            refine hK.out _ _ trivial (fun hHeld => ?_)
            clear hK K
            try simp only [Act.put, List.setIfInBounds_toArray, List.set_cons_zero, List.set_cons_succ]
            refine rgnOne 9 rfl (by kernel_rfl) (fun K hK => ?_)
            go_simp
            obtain ⟨W3, hW3⟩ : ∃ W3, W3 = W2.alloc (.cells #[.slice (some ⟨wr.heap.size, 0, none⟩) s s, .map (some (wr.heap.size + 1))] 70) := ⟨_, rfl⟩
            rw [← hW3]
            have B3 := Lib.hid (show Below W2.heap.size W2 W3 by rw [hW3]; exact (Below.refl _ _).alloc (Nat.le_refl _) _)
            have RB := Lib.hid (show RowAt W3 W2.heap.size [.slice (some ⟨wr.heap.size, 0, none⟩) s s, .map (some (wr.heap.size + 1))] 70 by rw [hW3]; exact RowAt.new W2 [.slice (some ⟨wr.heap.size, 0, none⟩) s s, .map (some (wr.heap.size + 1))] 70)
            have M3 := Lib.hid (M2.out.below B3.out)
            have RD3 := Lib.hid (RD.out.below B3.out)
            have RM3 := Lib.hid (ownsMap_chg (F := fun _ => False) RM.out (Chg.of_below B3.out) id)
            clear hW3
            refine hK.out _ _ trivial (fun hHeld => ?_)
            clear hK K
            try simp only [Act.put, List.setIfInBounds_toArray, List.set_cons_zero, List.set_cons_succ]
            refine rgnOne 10 rfl (by kernel_rfl) (fun K hK => ?_)
            refine (if_pos rfl).mpr ?_
            obtain ⟨i0, hi, hz0, hz1, hz2⟩ := info_parts infoX63
            refine wp_append_own W3 (.tmp 31) (.tmp 36) 64 rfl (w.heap.size + 1) 70 i0 _ 2 32 Tryd.underlying64 hi hz0 hz1 hz2 rfl (by decide) x k _ rfl M3.out.own ⟨W2.heap.size, 0, none⟩ 1 1 [.slice (some ⟨wr.heap.size, 0, none⟩) s s, .map (some (wr.heap.size + 1))] rfl rfl ?_ ?_ ?_ ?_ M3.out.size ?_
            · intro j u hj
              rw [Addr.add_mid, RB.out.cell, Nat.zero_add]; exact hj
            · intro u hu
              simp only [List.mem_cons, List.not_mem_nil, or_false] at hu
              rcases hu with rfl | rfl <;> rfl
            · unfold maxLen; omega
            · omega
            intro v' w4 hown hgr _
            have HO := Lib.hid hown
            obtain ⟨g4, c4, e4⟩ : ∃ g4 c4, v' = .slice (some ⟨g4, 0, none⟩) (k + 1) c4 := by
              rcases hown.2 with ⟨_, h⟩ | ⟨g, cap, cur, h, _⟩
              · omega
              · exact ⟨g, cap, h⟩
            subst e4
            have HG := Lib.hid hgr
            have NB4 := Lib.hid (show x.ownBlock ≠ some w.heap.size from fun q => by have := (M3.out.own.lt _ q).1; omega)
            have C4 := Lib.hid (show Chg (fun q => x.ownBlock = some q) W3 w4 from (Chg.refl _ _).grown hgr (fun q e => .inl e))
            have E4 := Lib.hid (C4.out.cell M3.out.ext NB4.out)
            clear hown hgr hi hz0 hz1 hz2
            refine hK.out _ _ trivial (fun hHeld => ?_)
            clear hK K
            try simp only [Act.put, List.setIfInBounds_toArray, List.set_cons_zero, List.set_cons_succ]
            refine rgnTake 11 rfl (by kernel_rfl) (by kernel_rfl) (by kernel_rfl) (fun _ _ _ h => h) (by rfl) (v := ?v105_11) ?hy105_11 hHeld ?rest105_11
            case hy105_11 => (intro v hSw; first | (go_simp; done) | (go_simp; with_reducible rfl))
            try simp only [Act.put, List.setIfInBounds_toArray, List.set_cons_zero, List.set_cons_succ]
            refine rgnTake 12 rfl (by kernel_rfl) (by kernel_rfl) (by kernel_rfl) (fun _ _ _ h => h) (by rfl) (v := ?v105_12) ?hy105_12 hHeld ?rest105_12
            case hy105_12 => (intro v hSw; first | (go_simp; done) | (go_simp; with_reducible rfl))
            try simp only [Act.put, List.setIfInBounds_toArray, List.set_cons_zero, List.set_cons_succ]
            refine rgnOne 13 rfl (by kernel_rfl) (fun K hK => ?_)
            have F4 : w4.frozen? ⟨w.heap.size, 2, none⟩ = false := by rw [frozen_chg C4.out (by have := HL.out; have := S2.out; have := B3.out.size; show w.heap.size < _; omega) NB4.out]; exact M3.out.fz2
            have M5 := Lib.hid (M3.out.step RD3.out RM3.out (by have := HL.out; omega) (by have := HL.out; omega) (fun i hi => ⟨fun q => by have := (MK.out.row i hi).1.lt; omega, fun q => by have := (MK.out.map i hi).1.lt; omega⟩) HG.out HO.out)
            have B5 := Lib.hid (show Below w.heap.size w (w4.setCell ⟨w.heap.size, 2, none⟩ (.slice (some ⟨g4, 0, none⟩) (k + 1) c4)) from (((BB.out.trans (B2.out.mono (Nat.le_of_lt HL.out))).trans (B3.out.mono (by have := S2.out; have := HL.out; omega))).grown HG.out (by have := M3.out.size; omega) (fun q hq => by have := (M3.out.own.lt q hq).1; omega)).setCell (p := ⟨w.heap.size, 2, none⟩) (Nat.le_refl _) _)
            have e4c := E4.out
            go_simp
            refine hK.out _ _ trivial (fun hHeld => ?_)
            clear hK K
            try simp only [Act.put]
            refine wpAnyH_done (by kernel_rfl) ?_ _
            go_wp2_with fail
            go_roundw
            case rel => first | exact ⟨k + 1, _, _, _, by omega, by go_num, M5.out, B5.out⟩ | ((repeat apply Exists.intro); exact ⟨⟨k + 1, _, _, _, by omega, by go_num, M5.out, B5.out⟩, rfl⟩)
            case measure => simp [Go.RowKit.intOf]; omega
          · go_simp
            obtain ⟨W3, hW3⟩ : ∃ W3, W3 = W2.alloc (.cells #[.slice (some ⟨wr.heap.size, 0, none⟩) s s, .map (some (wr.heap.size + 1))] 70) := ⟨_, rfl⟩
            rw [← hW3]
            have B3 := Lib.hid (show Below W2.heap.size W2 W3 by rw [hW3]; exact (Below.refl _ _).alloc (Nat.le_refl _) _)
            have RB := Lib.hid (show RowAt W3 W2.heap.size [.slice (some ⟨wr.heap.size, 0, none⟩) s s, .map (some (wr.heap.size + 1))] 70 by rw [hW3]; exact RowAt.new W2 [.slice (some ⟨wr.heap.size, 0, none⟩) s s, .map (some (wr.heap.size + 1))] 70)
            have M3 := Lib.hid (M2.out.below B3.out)
            have RD3 := Lib.hid (RD.out.below B3.out)
            have RM3 := Lib.hid (ownsMap_chg (F := fun _ => False) RM.out (Chg.of_below B3.out) id)
            clear hW3
            refine hK.out _ _ trivial (fun hHeld => ?_)
            clear hK K
            try simp only [Act.put, List.setIfInBounds_toArray, List.set_cons_zero, List.set_cons_succ]
            refine rgnOne 4 rfl (by kernel_rfl) (fun K hK => ?_)
            have y0 := M3.out.ext
            go_simp
            refine hK.out _ _ trivial (fun hHeld => ?_)
            clear hK K
            try simp only [Act.put, List.setIfInBounds_toArray, List.set_cons_zero, List.set_cons_succ]
            refine rgnOne 10 rfl (by kernel_rfl) (fun K hK => ?_)
            refine (if_pos rfl).mpr ?_
            obtain ⟨i0, hi, hz0, hz1, hz2⟩ := info_parts infoX63
            refine wp_append_own W3 (.tmp 31) (.tmp 36) 64 rfl (w.heap.size + 1) 70 i0 _ 2 32 Tryd.underlying64 hi hz0 hz1 hz2 rfl (by decide) x k _ rfl M3.out.own ⟨W2.heap.size, 0, none⟩ 1 1 [.slice (some ⟨wr.heap.size, 0, none⟩) s s, .map (some (wr.heap.size + 1))] rfl rfl ?_ ?_ ?_ ?_ M3.out.size ?_
            · intro j u hj
              rw [Addr.add_mid, RB.out.cell, Nat.zero_add]; exact hj
            · intro u hu
              simp only [List.mem_cons, List.not_mem_nil, or_false] at hu
              rcases hu with rfl | rfl <;> rfl
            · unfold maxLen; omega
            · omega
            intro v' w4 hown hgr _
            have HO := Lib.hid hown
            obtain ⟨g4, c4, e4⟩ : ∃ g4 c4, v' = .slice (some ⟨g4, 0, none⟩) (k + 1) c4 := by
              rcases hown.2 with ⟨_, h⟩ | ⟨g, cap, cur, h, _⟩
              · omega
              · exact ⟨g, cap, h⟩
            subst e4
            have HG := Lib.hid hgr
            have NB4 := Lib.hid (show x.ownBlock ≠ some w.heap.size from fun q => by have := (M3.out.own.lt _ q).1; omega)
            have C4 := Lib.hid (show Chg (fun q => x.ownBlock = some q) W3 w4 from (Chg.refl _ _).grown hgr (fun q e => .inl e))
            have E4 := Lib.hid (C4.out.cell M3.out.ext NB4.out)
            clear hown hgr hi hz0 hz1 hz2
            refine hK.out _ _ trivial (fun hHeld => ?_)
            clear hK K
            try simp only [Act.put, List.setIfInBounds_toArray, List.set_cons_zero, List.set_cons_succ]
            refine rgnTake 11 rfl (by kernel_rfl) (by kernel_rfl) (by kernel_rfl) (fun _ _ _ h => h) (by rfl) (v := ?v106_11) ?hy106_11 hHeld ?rest106_11
            case hy106_11 => (intro v hSw; first | (go_simp; done) | (go_simp; with_reducible rfl))
            try simp only [Act.put, List.setIfInBounds_toArray, List.set_cons_zero, List.set_cons_succ]
            refine rgnTake 12 rfl (by kernel_rfl) (by kernel_rfl) (by kernel_rfl) (fun _ _ _ h => h) (by rfl) (v := ?v106_12) ?hy106_12 hHeld ?rest106_12
            case hy106_12 => (intro v hSw; first | (go_simp; done) | (go_simp; with_reducible rfl))
            try simp only [Act.put, List.setIfInBounds_toArray, List.set_cons_zero, List.set_cons_succ]
            refine rgnOne 13 rfl (by kernel_rfl) (fun K hK => ?_)
            have F4 : w4.frozen? ⟨w.heap.size, 2, none⟩ = false := by rw [frozen_chg C4.out (by have := HL.out; have := S2.out; have := B3.out.size; show w.heap.size < _; omega) NB4.out]; exact M3.out.fz2
            have M5 := Lib.hid (M3.out.step RD3.out RM3.out (by have := HL.out; omega) (by have := HL.out; omega) (fun i hi => ⟨fun q => by have := (MK.out.row i hi).1.lt; omega, fun q => by have := (MK.out.map i hi).1.lt; omega⟩) HG.out HO.out)
            have B5 := Lib.hid (show Below w.heap.size w (w4.setCell ⟨w.heap.size, 2, none⟩ (.slice (some ⟨g4, 0, none⟩) (k + 1) c4)) from (((BB.out.trans (B2.out.mono (Nat.le_of_lt HL.out))).trans (B3.out.mono (by have := S2.out; have := HL.out; omega))).grown HG.out (by have := M3.out.size; omega) (fun q hq => by have := (M3.out.own.lt q hq).1; omega)).setCell (p := ⟨w.heap.size, 2, none⟩) (Nat.le_refl _) _)
            have e4c := E4.out
            go_simp
            refine hK.out _ _ trivial (fun hHeld => ?_)
            clear hK K
            try simp only [Act.put]
            refine wpAnyH_done (by kernel_rfl) ?_ _
            go_wp2_with fail
            go_roundw
            case rel => first | exact ⟨k + 1, _, _, _, by omega, by go_num, M5.out, B5.out⟩ | ((repeat apply Exists.intro); exact ⟨⟨k + 1, _, _, _, by omega, by go_num, M5.out, B5.out⟩, rfl⟩)
            case measure => simp [Go.RowKit.intOf]; omega
      · go_simp
        refine hK.out _ _ trivial (fun hHeld => ?_)
        clear hK K
        try simp only [Act.put, List.setIfInBounds_toArray, List.set_cons_zero, List.set_cons_succ]
        have MQ1 := Lib.hid (MK.out.below (w' := (wr.alloc (.map #[] 0)).drew) (((Below.refl _ _).alloc (Nat.le_refl _) _).drew))
        refine wpAnyH_ready (rs := [4, 6]) (by kernel_rfl) (by simp) (AllReadyH.cons rfl (fun K hK => ?_) (AllReadyH.cons rfl (fun K hK => ?_) (AllReadyH.nil)))
        · have y0 := MQ1.out.ext
          go_simp
          refine hK.out _ _ trivial (fun hHeld => ?_)
          clear hK K
          try simp only [Act.put, List.setIfInBounds_toArray, List.set_cons_zero, List.set_cons_succ]
          have MQ2 := Lib.hid (MK.out.below (w' := (wr.alloc (.map #[] 0)).drew) (((Below.refl _ _).alloc (Nat.le_refl _) _).drew))
          refine rgnOne 6 rfl (by kernel_rfl) (fun K hK => ?_)
          go_simp
          refine hK.out _ _ trivial (fun hHeld => ?_)
          clear hK K
          try simp only [Act.put, List.setIfInBounds_toArray, List.set_cons_zero, List.set_cons_succ]
          obtain ⟨W2, hW2⟩ : ∃ W2, W2 = ((wr.alloc (.map #[] 0)).alloc (.cells CS 85)).drew := ⟨_, rfl⟩
          rw [← hW2]
          have B2 := Lib.hid (show Below wr.heap.size wr W2 by rw [hW2]; exact (((Below.refl _ _).alloc (Nat.le_refl _) _).alloc (by simp) _).drew)
          have M2 := Lib.hid (MK.out.below B2.out)
          have S2 := Lib.hid (show W2.heap.size = wr.heap.size + 2 by rw [hW2]; simp)
          have RD := Lib.hid (show RowAt W2 (wr.heap.size + 1) (noSecs s) 85 by rw [hW2, HCS.out]; exact by have q := RowAt.new (wr.alloc (.map #[] 0)) (noSecs s) 85; rw [show (wr.alloc (.map #[] 0)).heap.size = wr.heap.size + 1 by simp] at q; exact q)
          have RM := Lib.hid (show W2.ownsMap Tryd.prog 3 secElem (wr.heap.size) 0 (.map []) by rw [hW2]; exact ((World.ownsMap_made wr Tryd.prog 3 secElem).alloc _).drew)
          clear hW2
          refine rgnTake 8 rfl (by kernel_rfl) (by kernel_rfl) (by kernel_rfl) (fun _ _ _ h => h) (by rfl) (v := ?v107_8) ?hy107_8 hHeld ?rest107_8
          case hy107_8 => (intro v hSw; first | (go_simp; done) | (go_simp; with_reducible rfl))
          try simp only [Act.put, List.setIfInBounds_toArray, List.set_cons_zero, List.set_cons_succ]
          refine rgnOne 9 rfl (by kernel_rfl) (fun K hK => ?_)
          go_simp
          obtain ⟨W3, hW3⟩ : ∃ W3, W3 = W2.alloc (.cells #[.slice (some ⟨wr.heap.size + 1, 0, none⟩) s s, .map (some (wr.heap.size))] 70) := ⟨_, rfl⟩
          rw [← hW3]
          have B3 := Lib.hid (show Below W2.heap.size W2 W3 by rw [hW3]; exact (Below.refl _ _).alloc (Nat.le_refl _) _)
          have RB := Lib.hid (show RowAt W3 W2.heap.size [.slice (some ⟨wr.heap.size + 1, 0, none⟩) s s, .map (some (wr.heap.size))] 70 by rw [hW3]; exact RowAt.new W2 [.slice (some ⟨wr.heap.size + 1, 0, none⟩) s s, .map (some (wr.heap.size))] 70)
          have M3 := Lib.hid (M2.out.below B3.out)
          have RD3 := Lib.hid (RD.out.below B3.out)
          have RM3 := Lib.hid (ownsMap_chg (F := fun _ => False) RM.out (Chg.of_below B3.out) id)
          clear hW3
          refine hK.out _ _ trivial (fun hHeld => ?_)
          clear hK K
          try simp only [Act.put, List.setIfInBounds_toArray, List.set_cons_zero, List.set_cons_succ]
          refine rgnOne 10 rfl (by kernel_rfl) (fun K hK => ?_)
          refine (if_pos rfl).mpr ?_
          obtain ⟨i0, hi, hz0, hz1, hz2⟩ := info_parts infoX63
          refine wp_append_own W3 (.tmp 31) (.tmp 36) 64 rfl (w.heap.size + 1) 70 i0 _ 2 32 Tryd.underlying64 hi hz0 hz1 hz2 rfl (by decide) x k _ rfl M3.out.own ⟨W2.heap.size, 0, none⟩ 1 1 [.slice (some ⟨wr.heap.size + 1, 0, none⟩) s s, .map (some (wr.heap.size))] rfl rfl ?_ ?_ ?_ ?_ M3.out.size ?_
          · intro j u hj
            rw [Addr.add_mid, RB.out.cell, Nat.zero_add]; exact hj
          · intro u hu
            simp only [List.mem_cons, List.not_mem_nil, or_false] at hu
            rcases hu with rfl | rfl <;> rfl
          · unfold maxLen; omega
          · omega
          intro v' w4 hown hgr _
          have HO := Lib.hid hown
          obtain ⟨g4, c4, e4⟩ : ∃ g4 c4, v' = .slice (some ⟨g4, 0, none⟩) (k + 1) c4 := by
            rcases hown.2 with ⟨_, h⟩ | ⟨g, cap, cur, h, _⟩
            · omega
            · exact ⟨g, cap, h⟩
          subst e4
          have HG := Lib.hid hgr
          have NB4 := Lib.hid (show x.ownBlock ≠ some w.heap.size from fun q => by have := (M3.out.own.lt _ q).1; omega)
          have C4 := Lib.hid (show Chg (fun q => x.ownBlock = some q) W3 w4 from (Chg.refl _ _).grown hgr (fun q e => .inl e))
          have E4 := Lib.hid (C4.out.cell M3.out.ext NB4.out)
          clear hown hgr hi hz0 hz1 hz2
          refine hK.out _ _ trivial (fun hHeld => ?_)
          clear hK K
          try simp only [Act.put, List.setIfInBounds_toArray, List.set_cons_zero, List.set_cons_succ]
          refine rgnTake 11 rfl (by kernel_rfl) (by kernel_rfl) (by kernel_rfl) (fun _ _ _ h => h) (by rfl) (v := ?v107_11) ?hy107_11 hHeld ?rest107_11
          case hy107_11 => (intro v hSw; first | (go_simp; done) | (go_simp; with_reducible rfl))
          try simp only [Act.put, List.setIfInBounds_toArray, List.set_cons_zero, List.set_cons_succ]
          refine rgnTake 12 rfl (by kernel_rfl) (by kernel_rfl) (by kernel_rfl) (fun _ _ _ h => h) (by rfl) (v := ?v107_12) ?hy107_12 hHeld ?rest107_12
          case hy107_12 => (intro v hSw; first | (go_simp; done) | (go_simp; with_reducible rfl))
          try simp only [Act.put, List.setIfInBounds_toArray, List.set_cons_zero, List.set_cons_succ]
          refine rgnOne 13 rfl (by kernel_rfl) (fun K hK => ?_)
          have F4 : w4.frozen? ⟨w.heap.size, 2, none⟩ = false := by rw [frozen_chg C4.out (by have := HL.out; have := S2.out; have := B3.out.size; show w.heap.size < _; omega) NB4.out]; exact M3.out.fz2
          have M5 := Lib.hid (M3.out.step RD3.out RM3.out (by have := HL.out; omega) (by have := HL.out; omega) (fun i hi => ⟨fun q => by have := (MK.out.row i hi).1.lt; omega, fun q => by have := (MK.out.map i hi).1.lt; omega⟩) HG.out HO.out)
          have B5 := Lib.hid (show Below w.heap.size w (w4.setCell ⟨w.heap.size, 2, none⟩ (.slice (some ⟨g4, 0, none⟩) (k + 1) c4)) from (((BB.out.trans (B2.out.mono (Nat.le_of_lt HL.out))).trans (B3.out.mono (by have := S2.out; have := HL.out; omega))).grown HG.out (by have := M3.out.size; omega) (fun q hq => by have := (M3.out.own.lt q hq).1; omega)).setCell (p := ⟨w.heap.size, 2, none⟩) (Nat.le_refl _) _)
          have e4c := E4.out
          go_simp
          refine hK.out _ _ trivial (fun hHeld => ?_)
          clear hK K
          try simp only [Act.put]
          refine wpAnyH_done (by kernel_rfl) ?_ _
          go_wp2_with fail
          go_roundw
          case rel => first | exact ⟨k + 1, _, _, _, by omega, by go_num, M5.out, B5.out⟩ | ((repeat apply Exists.intro); exact ⟨⟨k + 1, _, _, _, by omega, by go_num, M5.out, B5.out⟩, rfl⟩)
          case measure => simp [Go.RowKit.intOf]; omega
        · go_simp
          refine hK.out _ _ trivial (fun hHeld => ?_)
          clear hK K
          try simp only [Act.put, List.setIfInBounds_toArray, List.set_cons_zero, List.set_cons_succ]
          obtain ⟨W2, hW2⟩ : ∃ W2, W2 = ((wr.alloc (.map #[] 0)).alloc (.cells CS 85)).drew := ⟨_, rfl⟩
          rw [← hW2]
          have B2 := Lib.hid (show Below wr.heap.size wr W2 by rw [hW2]; exact (((Below.refl _ _).alloc (Nat.le_refl _) _).alloc (by simp) _).drew)
          have M2 := Lib.hid (MK.out.below B2.out)
          have S2 := Lib.hid (show W2.heap.size = wr.heap.size + 2 by rw [hW2]; simp)
          have RD := Lib.hid (show RowAt W2 (wr.heap.size + 1) (noSecs s) 85 by rw [hW2, HCS.out]; exact by have q := RowAt.new (wr.alloc (.map #[] 0)) (noSecs s) 85; rw [show (wr.alloc (.map #[] 0)).heap.size = wr.heap.size + 1 by simp] at q; exact q)
          have RM := Lib.hid (show W2.ownsMap Tryd.prog 3 secElem (wr.heap.size) 0 (.map []) by rw [hW2]; exact ((World.ownsMap_made wr Tryd.prog 3 secElem).alloc _).drew)
          clear hW2
          refine rgnTake 8 rfl (by kernel_rfl) (by kernel_rfl) (by kernel_rfl) (fun _ _ _ h => h) (by rfl) (v := ?v108_8) ?hy108_8 hHeld ?rest108_8
          case hy108_8 => (intro v hSw; first | (go_simp; done) | (go_simp; with_reducible rfl))
          try simp only [Act.put, List.setIfInBounds_toArray, List.set_cons_zero, List.set_cons_succ]
          refine wpAnyH_ready (rs := [4, 9]) (by kernel_rfl) (by simp) (AllReadyH.cons rfl (fun K hK => ?_) (AllReadyH.cons rfl (fun K hK => ?_) AllReadyH.nil))
          · have y0 := M2.out.ext
            go_simp
            refine hK.out _ _ trivial (fun hHeld => ?_)
            clear hK K
            try simp only [Act.put, List.setIfInBounds_toArray, List.set_cons_zero, List.set_cons_succ]
            refine rgnOne 9 rfl (by kernel_rfl) (fun K hK => ?_)
            go_simp
            obtain ⟨W3, hW3⟩ : ∃ W3, W3 = W2.alloc (.cells #[.slice (some ⟨wr.heap.size + 1, 0, none⟩) s s, .map (some (wr.heap.size))] 70) := ⟨_, rfl⟩
            rw [← hW3]
            have B3 := Lib.hid (show Below W2.heap.size W2 W3 by rw [hW3]; exact (Below.refl _ _).alloc (Nat.le_refl _) _)
            have RB := Lib.hid (show RowAt W3 W2.heap.size [.slice (some ⟨wr.heap.size + 1, 0, none⟩) s s, .map (some (wr.heap.size))] 70 by rw [hW3]; exact RowAt.new W2 [.slice (some ⟨wr.heap.size + 1, 0, none⟩) s s, .map (some (wr.heap.size))] 70)
            have M3 := Lib.hid (M2.out.below B3.out)
            have RD3 := Lib.hid (RD.out.below B3.out)
            have RM3 := Lib.hid (ownsMap_chg (F := fun _ => False) RM.out (Chg.of_below B3.out) id)
            clear hW3
            refine hK.out _ _ trivial (fun hHeld => ?_)
            clear hK K
            try simp only [Act.put, List.setIfInBounds_toArray, List.set_cons_zero, List.set_cons_succ]
            refine rgnOne 10 rfl (by kernel_rfl) (fun K hK => ?_)
            refine (if_pos rfl).mpr ?_
            obtain ⟨i0, hi, hz0, hz1, hz2⟩ := info_parts infoX63
            refine wp_append_own W3 (.tmp 31) (.tmp 36) 64 rfl (w.heap.size + 1) 70 i0 _ 2 32 Tryd.underlying64 hi hz0 hz1 hz2 rfl (by decide) x k _ rfl M3.out.own ⟨W2.heap.size, 0, none⟩ 1 1 [.slice (some ⟨wr.heap.size + 1, 0, none⟩) s s, .map (some (wr.heap.size))] rfl rfl ?_ ?_ ?_ ?_ M3.out.size ?_
            · intro j u hj
              rw [Addr.add_mid, RB.out.cell, Nat.zero_add]; exact hj
            · intro u hu
              simp only [List.mem_cons, List.not_mem_nil, or_false] at hu
              rcases hu with rfl | rfl <;> rfl
            · unfold maxLen; omega
            · omega
            intro v' w4 hown hgr _
            have HO := Lib.hid hown
            obtain ⟨g4, c4, e4⟩ : ∃ g4 c4, v' = .slice (some ⟨g4, 0, none⟩) (k + 1) c4 := by
              rcases hown.2 with ⟨_, h⟩ | ⟨g, cap, cur, h, _⟩
              · omega
              · exact ⟨g, cap, h⟩
            subst e4
            have HG := Lib.hid hgr
            have NB4 := Lib.hid (show x.ownBlock ≠ some w.heap.size from fun q => by have := (M3.out.own.lt _ q).1; omega)
            have C4 := Lib.hid (show Chg (fun q => x.ownBlock = some q) W3 w4 from (Chg.refl _ _).grown hgr (fun q e => .inl e))
            have E4 := Lib.hid (C4.out.cell M3.out.ext NB4.out)
            clear hown hgr hi hz0 hz1 hz2
            refine hK.out _ _ trivial (fun hHeld => ?_)
            clear hK K
            try simp only [Act.put, List.setIfInBounds_toArray, List.set_cons_zero, List.set_cons_succ]
            refine rgnTake 11 rfl (by kernel_rfl) (by kernel_rfl) (by kernel_rfl) (fun _ _ _ h => h) (by rfl) (v := ?v109_11) ?hy109_11 hHeld ?rest109_11
            case hy109_11 => (intro v hSw; first | (go_simp; done) | (go_simp; with_reducible rfl))
            try simp only [Act.put, List.setIfInBounds_toArray, List.set_cons_zero, List.set_cons_succ]
            refine rgnTake 12 rfl (by kernel_rfl) (by kernel_rfl) (by kernel_rfl) (fun _ _ _ h => h) (by rfl) (v := ?v109_12) ?hy109_12 hHeld ?rest109_12
            case hy109_12 => (intro v hSw; first | (go_simp; done) | (go_simp; with_reducible rfl))
            try simp only [Act.put, List.setIfInBounds_toArray, List.set_cons_zero, List.set_cons_succ]
            refine rgnOne 13 rfl (by kernel_rfl) (fun K hK => ?_)
            have F4 : w4.frozen? ⟨w.heap.size, 2, none⟩ = false := by rw [frozen_chg C4.out (by have := HL.out; have := S2.out; have := B3.out.size; show w.heap.size < _; omega) NB4.out]; exact M3.out.fz2
            have M5 := Lib.hid (M3.out.step RD3.out RM3.out (by have := HL.out; omega) (by have := HL.out; omega) (fun i hi => ⟨fun q => by have := (MK.out.row i hi).1.lt; omega, fun q => by have := (MK.out.map i hi).1.lt; omega⟩) HG.out HO.out)
            have B5 := Lib.hid (show Below w.heap.size w (w4.setCell ⟨w.heap.size, 2, none⟩ (.slice (some ⟨g4, 0, none⟩) (k + 1) c4)) from (((BB.out.trans (B2.out.mono (Nat.le_of_lt HL.out))).trans (B3.out.mono (by have := S2.out; have := HL.out; omega))).grown HG.out (by have := M3.out.size; omega) (fun q hq => by have := (M3.out.own.lt q hq).1; omega)).setCell (p := ⟨w.heap.size, 2, none⟩) (Nat.le_refl _) _)
            have e4c := E4.out
            go_simp
            refine hK.out _ _ trivial (fun hHeld => ?_)
            clear hK K
            try simp only [Act.put]
            refine wpAnyH_done (by kernel_rfl) ?_ _
            go_wp2_with fail
            go_roundw
            case rel => first | exact ⟨k + 1, _, _, _, by omega, by go_num, M5.out, B5.out⟩ | ((repeat apply Exists.intro); exact ⟨⟨k + 1, _, _, _, by omega, by go_num, M5.out, B5.out⟩, rfl⟩)
            case measure => simp [Go.RowKit.intOf]; omega
          · go_simp
            obtain ⟨W3, hW3⟩ : ∃ W3, W3 = W2.alloc (.cells #[.slice (some ⟨wr.heap.size + 1, 0, none⟩) s s, .map (some (wr.heap.size))] 70) := ⟨_, rfl⟩
            rw [← hW3]
            have B3 := Lib.hid (show Below W2.heap.size W2 W3 by rw [hW3]; exact (Below.refl _ _).alloc (Nat.le_refl _) _)
            have RB := Lib.hid (show RowAt W3 W2.heap.size [.slice (some ⟨wr.heap.size + 1, 0, none⟩) s s, .map (some (wr.heap.size))] 70 by rw [hW3]; exact RowAt.new W2 [.slice (some ⟨wr.heap.size + 1, 0, none⟩) s s, .map (some (wr.heap.size))] 70)
            have M3 := Lib.hid (M2.out.below B3.out)
            have RD3 := Lib.hid (RD.out.below B3.out)
            have RM3 := Lib.hid (ownsMap_chg (F := fun _ => False) RM.out (Chg.of_below B3.out) id)
            clear hW3
            refine hK.out _ _ trivial (fun hHeld => ?_)
            clear hK K
            try simp only [Act.put, List.setIfInBounds_toArray, List.set_cons_zero, List.set_cons_succ]
            refine rgnOne 4 rfl (by kernel_rfl) (fun K hK => ?_)
            have y0 := M3.out.ext
            go_simp
            refine hK.out _ _ trivial (fun hHeld => ?_)
            clear hK K
            try simp only [Act.put, List.setIfInBounds_toArray, List.set_cons_zero, List.set_cons_succ]
            refine rgnOne 10 rfl (by kernel_rfl) (fun K hK => ?_)
            refine (if_pos rfl).mpr ?_
            obtain ⟨i0, hi, hz0, hz1, hz2⟩ := info_parts infoX63
            refine wp_append_own W3 (.tmp 31) (.tmp 36) 64 rfl (w.heap.size + 1) 70 i0 _ 2 32 Tryd.underlying64 hi hz0 hz1 hz2 rfl (by decide) x k _ rfl M3.out.own ⟨W2.heap.size, 0, none⟩ 1 1 [.slice (some ⟨wr.heap.size + 1, 0, none⟩) s s, .map (some (wr.heap.size))] rfl rfl ?_ ?_ ?_ ?_ M3.out.size ?_
            · intro j u hj
              rw [Addr.add_mid, RB.out.cell, Nat.zero_add]; exact hj
            · intro u hu
              simp only [List.mem_cons, List.not_mem_nil, or_false] at hu
              rcases hu with rfl | rfl <;> rfl
            · unfold maxLen; omega
            · omega
            intro v' w4 hown hgr _
            have HO := Lib.hid hown
            obtain ⟨g4, c4, e4⟩ : ∃ g4 c4, v' = .slice (some ⟨g4, 0, none⟩) (k + 1) c4 := by
              rcases hown.2 with ⟨_, h⟩ | ⟨g, cap, cur, h, _⟩
              · omega
              · exact ⟨g, cap, h⟩
            subst e4
            have HG := Lib.hid hgr
            have NB4 := Lib.hid (show x.ownBlock ≠ some w.heap.size from fun q => by have := (M3.out.own.lt _ q).1; omega)
            have C4 := Lib.hid (show Chg (fun q => x.ownBlock = some q) W3 w4 from (Chg.refl _ _).grown hgr (fun q e => .inl e))
            have E4 := Lib.hid (C4.out.cell M3.out.ext NB4.out)
            clear hown hgr hi hz0 hz1 hz2
            refine hK.out _ _ trivial (fun hHeld => ?_)
            clear hK K
            try simp only [Act.put, List.setIfInBounds_toArray, List.set_cons_zero, List.set_cons_succ]
            refine rgnTake 11 rfl (by kernel_rfl) (by kernel_rfl) (by kernel_rfl) (fun _ _ _ h => h) (by rfl) (v := ?v110_11) ?hy110_11 hHeld ?rest110_11
            case hy110_11 => (intro v hSw; first | (go_simp; done) | (go_simp; with_reducible rfl))
            try simp only [Act.put, List.setIfInBounds_toArray, List.set_cons_zero, List.set_cons_succ]
            refine rgnTake 12 rfl (by kernel_rfl) (by kernel_rfl) (by kernel_rfl) (fun _ _ _ h => h) (by rfl) (v := ?v110_12) ?hy110_12 hHeld ?rest110_12
            case hy110_12 => (intro v hSw; first | (go_simp; done) | (go_simp; with_reducible rfl))
            try simp only [Act.put, List.setIfInBounds_toArray, List.set_cons_zero, List.set_cons_succ]
            refine rgnOne 13 rfl (by kernel_rfl) (fun K hK => ?_)
            have F4 : w4.frozen? ⟨w.heap.size, 2, none⟩ = false := by rw [frozen_chg C4.out (by have := HL.out; have := S2.out; have := B3.out.size; show w.heap.size < _; omega) NB4.out]; exact M3.out.fz2
            have M5 := Lib.hid (M3.out.step RD3.out RM3.out (by have := HL.out; omega) (by have := HL.out; omega) (fun i hi => ⟨fun q => by have := (MK.out.row i hi).1.lt; omega, fun q => by have := (MK.out.map i hi).1.lt; omega⟩) HG.out HO.out)
            have B5 := Lib.hid (show Below w.heap.size w (w4.setCell ⟨w.heap.size, 2, none⟩ (.slice (some ⟨g4, 0, none⟩) (k + 1) c4)) from (((BB.out.trans (B2.out.mono (Nat.le_of_lt HL.out))).trans (B3.out.mono (by have := S2.out; have := HL.out; omega))).grown HG.out (by have := M3.out.size; omega) (fun q hq => by have := (M3.out.own.lt q hq).1; omega)).setCell (p := ⟨w.heap.size, 2, none⟩) (Nat.le_refl _) _)
            have e4c := E4.out
            go_simp
            refine hK.out _ _ trivial (fun hHeld => ?_)
            clear hK K
            try simp only [Act.put]
            refine wpAnyH_done (by kernel_rfl) ?_ _
            go_wp2_with fail
            go_roundw
            case rel => first | exact ⟨k + 1, _, _, _, by omega, by go_num, M5.out, B5.out⟩ | ((repeat apply Exists.intro); exact ⟨⟨k + 1, _, _, _, by omega, by go_num, M5.out, B5.out⟩, rfl⟩)
            case measure => simp [Go.RowKit.intOf]; omega
    · have hke : k = e := by omega
      subst hke
      obtain ⟨g, cap, rfl, hgB, hrep⟩ := MK.out.rep HFI.out
      have LTS := Lib.hid (⟨hrep.lt_b, hrep.lt_g, fun i hi => ⟨hrep.lt_row hi, hrep.lt_map hi⟩⟩ : w.heap.size < wr.heap.size ∧ g < wr.heap.size ∧ ∀ i, i < (Ext.new k s).ext → ds i < wr.heap.size ∧ ms i < wr.heap.size)
      have HRP := Lib.hid hrep
      have HGB := Lib.hid hgB
      clear hrep hgB
      go_wp2_with fail
      go_ret2
      refine ⟨BB.out, w.heap.size, fun q => q = w.heap.size ∨ q = g ∨ ∃ i, i < k ∧ (q = ds i ∨ q = ms i), rfl, ⟨g, cap, ds, ms, _, HRP.out, .inl rfl, .inr (.inl rfl), fun i hi => ⟨.inr (.inr ⟨i, hi, .inl rfl⟩), .inr (.inr ⟨i, hi, .inr rfl⟩)⟩, ?_⟩, ?_⟩
      · rintro q (rfl | rfl | ⟨i, hi, rfl | rfl⟩)
        · exact LTS.out.1
        · exact LTS.out.2.1
        · exact (LTS.out.2.2 i hi).1
        · exact (LTS.out.2.2 i hi).2
      · rintro q (rfl | rfl | ⟨i, hi, rfl | rfl⟩)
        · exact Nat.le_refl _
        · exact Nat.le_of_succ_le HGB.out
        · exact Nat.le_of_succ_le (MK.out.row i hi).2
        · exact Nat.le_of_succ_le (MK.out.map i hi).2

set_option maxRecDepth 100000 in
set_option maxHeartbeats 1000000 in
/-- New -/
theorem xNew (e s : Int) (w : World) (_ : In64 e) (_ : In64 s) : Calls Tryd.prog 8 #[.int .i64 e, .int .i64 s] w fun x w' => Below w.heap.size w w' ∧
    ((Ext.fits e s = true ∧ ∃ b F, x = .returned (.tuple #[.pointer (some ⟨b, 0, none⟩), .int .i64 0]) ∧ RelX w' b F (Ext.new e.toNat s.toNat) ∧ ∀ k, F k → w.heap.size ≤ k) ∨
      (Ext.fits e s = false ∧ x = .returned (.tuple #[.pointer none, .int .i64 1]))) := by
  cases hf : Ext.fits e s with
  | true =>
    have hf2 := hf
    unfold Ext.fits at hf2
    simp only [Bool.and_eq_true, decide_eq_true_eq] at hf2
    obtain ⟨E, rfl⟩ := Int.eq_ofNat_of_zero_le (show 0 ≤ e by omega)
    obtain ⟨S, rfl⟩ := Int.eq_ofNat_of_zero_le (show 0 ≤ s by omega)
    exact (xNewYes E S w hf).mono fun x w' h => ⟨h.1, .inl ⟨rfl, h.2⟩⟩
  | false =>
    have C : e < 1 ∨ (1 ≤ e ∧ 32 < e) ∨ (1 ≤ e ∧ e ≤ 32 ∧ s < 1) ∨ (1 ≤ e ∧ e ≤ 32 ∧ 1 ≤ s ∧ 128 < s) := by
      unfold Ext.fits at hf
      simp only [Bool.and_eq_false_iff, decide_eq_false_iff_not] at hf
      omega
    refine Calls.mono (R := fun x w' => x = .returned (.tuple #[.pointer none, .int .i64 1]) ∧ w' = w) ?_ (fun x w' h => ⟨by rw [h.2]; exact Below.refl _ _, .inr ⟨rfl, h.1⟩⟩)
    clear hf
    rcases C with C | ⟨C0, C⟩ | ⟨C0, C1, C⟩ | ⟨C0, C1, C2, C⟩
    all_goals
      go_enter Tryd.func8, Tryd.ntmps8
      go_wp2_with fail
      go_ret2
      exact ⟨rfl, rfl⟩

end Go.Proofs.YtfodclafkdkjbaaDoor
