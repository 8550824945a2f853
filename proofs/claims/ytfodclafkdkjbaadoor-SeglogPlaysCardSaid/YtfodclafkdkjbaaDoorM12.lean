/- Proved parts: S6b. Conditions: each theorem's own. -/
import Derived.Test.YtfodclafkdkjbaaDoorM11
import Derived.Lib.LazyBuf
import Derived.StillTailTactics
namespace Go.Proofs.YtfodclafkdkjbaaDoor
open Go.RowKit

def bytesOver (f : Nat → Int) (o : Nat) (vs : List UInt8) (j : Nat) : Int := if o ≤ j ∧ j < o + vs.length then ((vs.getD (j - o) 0).toNat : Int) else f j
theorem RowF.setCells {g : Nat} : ∀ (vs : List UInt8) (o : Nat) (f : Nat → Int) (w : World), RowF w g f → o + vs.length ≤ 64 → RowF (w.setCells g o (vs.map fun x => Value.int .u8 (x.toNat : Int))) g (bytesOver f o vs) ∧ Below g w (w.setCells g o (vs.map fun x => Value.int .u8 (x.toNat : Int)))
  | [], o, f, w, h, _ => by
    refine ⟨h.congr fun j _ => ?_, Below.refl _ _⟩
    unfold bytesOver; rw [if_neg (by simp)]
  | v :: vs, o, f, w, h, hl => by
    simp only [List.length_cons] at hl
    have k := RowF.setCells vs (o + 1) _ _ (h.set o (v.toNat : Int)) (by omega)
    refine ⟨k.1.congr fun j _ => ?_, ((Below.refl g w).setCell (p := ⟨g, o, none⟩) (Nat.le_refl _) _).trans k.2⟩
    unfold bytesOver upd
    simp only [List.length_cons]
    by_cases e : j = o
    · subst e
      rw [if_neg (by omega), if_pos rfl, if_pos (by omega), Nat.sub_self]; rfl
    · rw [if_neg e]
      by_cases hj : o + 1 ≤ j ∧ j < o + 1 + vs.length
      · rw [if_pos hj, if_pos (by omega), show j - o = (j - (o + 1)) + 1 by omega]; rfl
      · rw [if_neg hj, if_neg (by omega)]

theorem sizeU8 (w : World) : (sizeOf 5).run Tryd.prog w = .ok 1 w := by
  have h : (Tryd.prog.info? 5).map (·.size) = some 1 := by kernel_rfl
  cases hq : Tryd.prog.info? 5 with
  | none => rw [hq] at h; simp at h
  | some i => rw [hq] at h; simp at h; simp [sizeOf, typeInfo, hq, h]
def f193 (j : Nat) : Int := if j = 0 then 193 else 0
/-- the row behind all puts -/
def packF (x : Stp) (d : ByteArray) : Nat → Int := putF (putF (putF (putF (putF (putF f193 1 4 x.gen) 5 2 x.index) 7 4 x.life) 11 1 x.part) 12 1 x.parts) 13 1 (d.size : Int)
theorem packF_all (x : Stp) (d : ByteArray) (hx : x.ok = true) (hd : d.size ≤ 50) (j : Nat) (hj : j < 64) : bytesOver (packF x d) 14 d.data.toList j = secF x d j := by
  have h := (Stp.ok_iff x).1 hx
  have hl : d.data.toList.length = d.size := by simp
  by_cases h14 : 14 ≤ j
  · have e : packF x d j = 0 := by
      unfold packF putF f193
      rw [if_neg (by omega), if_neg (by omega), if_neg (by omega), if_neg (by omega), if_neg (by omega), if_neg (by omega), if_neg (by omega)]
    unfold bytesOver
    rw [e, hl]
    unfold secF
    rw [if_neg (show ¬ j = 0 by omega), if_neg (show ¬ j = 1 by omega), if_neg (show ¬ j = 2 by omega), if_neg (show ¬ j = 3 by omega), if_neg (show ¬ j = 4 by omega), if_neg (show ¬ j = 5 by omega), if_neg (show ¬ j = 6 by omega), if_neg (show ¬ j = 7 by omega), if_neg (show ¬ j = 8 by omega), if_neg (show ¬ j = 9 by omega), if_neg (show ¬ j = 10 by omega), if_neg (show ¬ j = 11 by omega), if_neg (show ¬ j = 12 by omega), if_neg (show ¬ j = 13 by omega)]
    by_cases hn : j < 14 + d.size
    · rw [if_pos ⟨h14, hn⟩, if_pos hn]; rfl
    · rw [if_neg (by omega), if_neg hn]
  · have e : bytesOver (packF x d) 14 d.data.toList j = packF x d j := by unfold bytesOver; rw [if_neg (by omega)]
    rw [e]
    have : j = 0 ∨ j = 1 ∨ j = 2 ∨ j = 3 ∨ j = 4 ∨ j = 5 ∨ j = 6 ∨ j = 7 ∨ j = 8 ∨ j = 9 ∨ j = 10 ∨ j = 11 ∨ j = 12 ∨ j = 13 := by omega
    rcases this with rfl | rfl | rfl | rfl | rfl | rfl | rfl | rfl | rfl | rfl | rfl | rfl | rfl | rfl <;> simp [packF, putF, f193, secF] <;> omega

set_option maxRecDepth 100000 in
set_option maxHeartbeats 2000000 in
/-- sector.Pack -/
theorem pPack_ok (x : Stp) (d : ByteArray) (w : World) (hx : x.ok = true) (hd : d.size ≤ 50) : Calls Tryd.prog 61 #[x.v, .string d] w fun e w' => e = .returned (.tuple #[.string (pack6 x d), .int .i64 0]) ∧ Below w.heap.size w w' := by
  have RT := Lib.hid (fun w => pRight x w (Stp.fits_ok hx))
  rw [hx] at RT
  have PA := Lib.hid (packF_all x d hx hd)
  obtain ⟨g, i, l, p, n⟩ := x
  have h := (Stp.ok_iff _).1 hx
  simp only at h
  obtain ⟨g0, g1, l0, l1, i0, i1, n0, n1, p0, p1⟩ := h
  have HX := Lib.hid hx
  have HD := Lib.hid hd
  clear hx
  change Hid (∀ w, Calls Tryd.prog 66 #[.agg #[.int .i64 g, .int .i64 i, .int .i64 l, .int .i64 p, .int .i64 n]] w fun e w' => e = .returned (.bool true) ∧ Below w.heap.size w w') at RT
  show Calls Tryd.prog 61 #[.agg #[.int .i64 g, .int .i64 i, .int .i64 l, .int .i64 p, .int .i64 n], .string d] w _
  have RB := RowAt.new w [.int .i64 g, .int .i64 i, .int .i64 l, .int .i64 p, .int .i64 n] 110
  have BL := (Below.refl w.heap.size w).alloc (Nat.le_refl _) (.cells #[.int .i64 g, .int .i64 i, .int .i64 l, .int .i64 p, .int .i64 n] 110)
  have X0 := Lib.hid RB
  have B0 := Lib.hid BL
  obtain ⟨b0, b1, b2, b3, b4⟩ := BoxS.of_row RB
  clear RB BL
  obtain ⟨q, hq⟩ : ∃ q, q = w.heap.size := ⟨_, rfl⟩
  have HQ := Lib.hid hq
  go_enter Tryd.func61, Tryd.ntmps61
  go_wp2_with fail
  refine (RT.out _).mono ?_
  rintro e w1 ⟨rfl, hb1⟩
  have X1 := Lib.hid (X0.out.below hb1)
  have B1 := Lib.hid (B0.out.trans (hb1.mono B0.out.size))
  clear hb1 b0 b1 b2 b3 b4
  go_wp2_with fail
  clear X0 B0
  obtain ⟨G, hG⟩ : ∃ G, G = w1.heap.size := ⟨_, rfl⟩
  have R0 := RowAt.new w1 ((List.range 64).map fun j => Value.int .u8 (f193 j)) 83
  have B2 := Lib.hid (B1.out.alloc B1.out.size (.cells ((List.range 64).map fun j => Value.int .u8 (f193 j)).toArray 83))
  have X2 := Lib.hid (X1.out.alloc (.cells ((List.range 64).map fun j => Value.int .u8 (f193 j)).toArray 83))
  have QG : q < G := by rw [hq, hG]; exact X1.out.lt
  change RowAt (w1.alloc (.cells #[.int .u8 193, .int .u8 0, .int .u8 0, .int .u8 0, .int .u8 0, .int .u8 0, .int .u8 0, .int .u8 0, .int .u8 0, .int .u8 0, .int .u8 0, .int .u8 0, .int .u8 0, .int .u8 0, .int .u8 0, .int .u8 0, .int .u8 0, .int .u8 0, .int .u8 0, .int .u8 0, .int .u8 0, .int .u8 0, .int .u8 0, .int .u8 0, .int .u8 0, .int .u8 0, .int .u8 0, .int .u8 0, .int .u8 0, .int .u8 0, .int .u8 0, .int .u8 0, .int .u8 0, .int .u8 0, .int .u8 0, .int .u8 0, .int .u8 0, .int .u8 0, .int .u8 0, .int .u8 0, .int .u8 0, .int .u8 0, .int .u8 0, .int .u8 0, .int .u8 0, .int .u8 0, .int .u8 0, .int .u8 0, .int .u8 0, .int .u8 0, .int .u8 0, .int .u8 0, .int .u8 0, .int .u8 0, .int .u8 0, .int .u8 0, .int .u8 0, .int .u8 0, .int .u8 0, .int .u8 0, .int .u8 0, .int .u8 0, .int .u8 0, .int .u8 0] 83)) _ _ _ at R0
  change Hid (Below _ _ (w1.alloc (.cells #[.int .u8 193, .int .u8 0, .int .u8 0, .int .u8 0, .int .u8 0, .int .u8 0, .int .u8 0, .int .u8 0, .int .u8 0, .int .u8 0, .int .u8 0, .int .u8 0, .int .u8 0, .int .u8 0, .int .u8 0, .int .u8 0, .int .u8 0, .int .u8 0, .int .u8 0, .int .u8 0, .int .u8 0, .int .u8 0, .int .u8 0, .int .u8 0, .int .u8 0, .int .u8 0, .int .u8 0, .int .u8 0, .int .u8 0, .int .u8 0, .int .u8 0, .int .u8 0, .int .u8 0, .int .u8 0, .int .u8 0, .int .u8 0, .int .u8 0, .int .u8 0, .int .u8 0, .int .u8 0, .int .u8 0, .int .u8 0, .int .u8 0, .int .u8 0, .int .u8 0, .int .u8 0, .int .u8 0, .int .u8 0, .int .u8 0, .int .u8 0, .int .u8 0, .int .u8 0, .int .u8 0, .int .u8 0, .int .u8 0, .int .u8 0, .int .u8 0, .int .u8 0, .int .u8 0, .int .u8 0, .int .u8 0, .int .u8 0, .int .u8 0, .int .u8 0] 83))) at B2
  change Hid (RowAt (w1.alloc (.cells #[.int .u8 193, .int .u8 0, .int .u8 0, .int .u8 0, .int .u8 0, .int .u8 0, .int .u8 0, .int .u8 0, .int .u8 0, .int .u8 0, .int .u8 0, .int .u8 0, .int .u8 0, .int .u8 0, .int .u8 0, .int .u8 0, .int .u8 0, .int .u8 0, .int .u8 0, .int .u8 0, .int .u8 0, .int .u8 0, .int .u8 0, .int .u8 0, .int .u8 0, .int .u8 0, .int .u8 0, .int .u8 0, .int .u8 0, .int .u8 0, .int .u8 0, .int .u8 0, .int .u8 0, .int .u8 0, .int .u8 0, .int .u8 0, .int .u8 0, .int .u8 0, .int .u8 0, .int .u8 0, .int .u8 0, .int .u8 0, .int .u8 0, .int .u8 0, .int .u8 0, .int .u8 0, .int .u8 0, .int .u8 0, .int .u8 0, .int .u8 0, .int .u8 0, .int .u8 0, .int .u8 0, .int .u8 0, .int .u8 0, .int .u8 0, .int .u8 0, .int .u8 0, .int .u8 0, .int .u8 0, .int .u8 0, .int .u8 0, .int .u8 0, .int .u8 0] 83)) _ _ _) at X2
  generalize w1.alloc (.cells #[.int .u8 193, .int .u8 0, .int .u8 0, .int .u8 0, .int .u8 0, .int .u8 0, .int .u8 0, .int .u8 0, .int .u8 0, .int .u8 0, .int .u8 0, .int .u8 0, .int .u8 0, .int .u8 0, .int .u8 0, .int .u8 0, .int .u8 0, .int .u8 0, .int .u8 0, .int .u8 0, .int .u8 0, .int .u8 0, .int .u8 0, .int .u8 0, .int .u8 0, .int .u8 0, .int .u8 0, .int .u8 0, .int .u8 0, .int .u8 0, .int .u8 0, .int .u8 0, .int .u8 0, .int .u8 0, .int .u8 0, .int .u8 0, .int .u8 0, .int .u8 0, .int .u8 0, .int .u8 0, .int .u8 0, .int .u8 0, .int .u8 0, .int .u8 0, .int .u8 0, .int .u8 0, .int .u8 0, .int .u8 0, .int .u8 0, .int .u8 0, .int .u8 0, .int .u8 0, .int .u8 0, .int .u8 0, .int .u8 0, .int .u8 0, .int .u8 0, .int .u8 0, .int .u8 0, .int .u8 0, .int .u8 0, .int .u8 0, .int .u8 0, .int .u8 0] 83) = wa at R0 B2 X2 ⊢
  rw [← hG] at R0 ⊢
  rw [← hq] at X2 B2 ⊢
  have RF := Lib.hid (show RowF wa G f193 from ⟨_, R0⟩)
  have XF := Lib.hid X2.out
  have BF := Lib.hid B2.out
  have SZ : Tryd.prog.arrayLen 83 = 64 := by kernel_rfl
  clear R0 B2 X2 X1 B1 hG hq
  obtain ⟨b0, b1, b2, b3, b4⟩ := BoxS.of_row XF.out
  have P0 := Lib.hid (pPut (World.drew wa) G 1 4 63 g _ RF.out (by omega) (by omega) (by omega))
  refine wp_region_still_tail 3 (by kernel_rfl) (by kernel_rfl) ?_
  simp only [List.take_succ_cons, List.take_zero, List.drop_succ_cons, List.drop_zero]
  change wpStill _ _ (World.drew _) (fun a' => wpList _ _ _ _ a' (World.drew _)) _ _
  repeat still_step
  refine wpStill_nil ?_
  go_wp2_with fail
  refine (P0.out).mono ?_
  rintro e w2 ⟨rfl, hr, hb⟩
  have BG := Lib.hid (show Below G wa w2 from (below_drew (Below.refl G wa)).trans hb)
  have RF' := Lib.hid hr
  have BF' := Lib.hid (BF.out.trans (BG.out.mono (Nat.le_of_lt QG)))
  have XF' := Lib.hid (show RowAt w2 q _ _ from (BG.out.block q QG).trans XF.out)
  clear hr hb RF XF BF b0 b1 b2 b3 b4 BG P0
  have RF := RF'
  have XF := XF'
  have BF := BF'
  clear RF' XF' BF'
  go_wp2_with fail
  obtain ⟨b0, b1, b2, b3, b4⟩ := BoxS.of_row XF.out
  have P1 := Lib.hid (pPut (World.drew w2) G 5 2 59 i _ RF.out (by omega) (by omega) (by omega))
  refine wp_region_still_tail 3 (by kernel_rfl) (by kernel_rfl) ?_
  simp only [List.take_succ_cons, List.take_zero, List.drop_succ_cons, List.drop_zero]
  change wpStill _ _ (World.drew _) (fun a' => wpList _ _ _ _ a' (World.drew _)) _ _
  repeat still_step
  refine wpStill_nil ?_
  go_wp2_with fail
  refine (P1.out).mono ?_
  rintro e w3 ⟨rfl, hr, hb⟩
  have BG := Lib.hid (show Below G w2 w3 from (below_drew (Below.refl G w2)).trans hb)
  have RF' := Lib.hid hr
  have BF' := Lib.hid (BF.out.trans (BG.out.mono (Nat.le_of_lt QG)))
  have XF' := Lib.hid (show RowAt w3 q _ _ from (BG.out.block q QG).trans XF.out)
  clear hr hb RF XF BF b0 b1 b2 b3 b4 BG P1
  have RF := RF'
  have XF := XF'
  have BF := BF'
  clear RF' XF' BF'
  go_wp2_with fail
  obtain ⟨b0, b1, b2, b3, b4⟩ := BoxS.of_row XF.out
  have P2 := Lib.hid (pPut (World.drew w3) G 7 4 57 l _ RF.out (by omega) (by omega) (by omega))
  refine wp_region_still_tail 3 (by kernel_rfl) (by kernel_rfl) ?_
  simp only [List.take_succ_cons, List.take_zero, List.drop_succ_cons, List.drop_zero]
  change wpStill _ _ (World.drew _) (fun a' => wpList _ _ _ _ a' (World.drew _)) _ _
  repeat still_step
  refine wpStill_nil ?_
  go_wp2_with fail
  refine (P2.out).mono ?_
  rintro e w4 ⟨rfl, hr, hb⟩
  have BG := Lib.hid (show Below G w3 w4 from (below_drew (Below.refl G w3)).trans hb)
  have RF' := Lib.hid hr
  have BF' := Lib.hid (BF.out.trans (BG.out.mono (Nat.le_of_lt QG)))
  have XF' := Lib.hid (show RowAt w4 q _ _ from (BG.out.block q QG).trans XF.out)
  clear hr hb RF XF BF b0 b1 b2 b3 b4 BG P2
  have RF := RF'
  have XF := XF'
  have BF := BF'
  clear RF' XF' BF'
  go_wp2_with fail
  obtain ⟨b0, b1, b2, b3, b4⟩ := BoxS.of_row XF.out
  have P3 := Lib.hid (pPut (World.drew w4) G 11 1 53 p _ RF.out (by omega) (by omega) (by omega))
  refine wp_region_still_tail 3 (by kernel_rfl) (by kernel_rfl) ?_
  simp only [List.take_succ_cons, List.take_zero, List.drop_succ_cons, List.drop_zero]
  change wpStill _ _ (World.drew _) (fun a' => wpList _ _ _ _ a' (World.drew _)) _ _
  repeat still_step
  refine wpStill_nil ?_
  go_wp2_with fail
  refine (P3.out).mono ?_
  rintro e w5 ⟨rfl, hr, hb⟩
  have BG := Lib.hid (show Below G w4 w5 from (below_drew (Below.refl G w4)).trans hb)
  have RF' := Lib.hid hr
  have BF' := Lib.hid (BF.out.trans (BG.out.mono (Nat.le_of_lt QG)))
  have XF' := Lib.hid (show RowAt w5 q _ _ from (BG.out.block q QG).trans XF.out)
  clear hr hb RF XF BF b0 b1 b2 b3 b4 BG P3
  have RF := RF'
  have XF := XF'
  have BF := BF'
  clear RF' XF' BF'
  go_wp2_with fail
  obtain ⟨b0, b1, b2, b3, b4⟩ := BoxS.of_row XF.out
  have P4 := Lib.hid (pPut (World.drew w5) G 12 1 52 n _ RF.out (by omega) (by omega) (by omega))
  refine wp_region_still_tail 3 (by kernel_rfl) (by kernel_rfl) ?_
  simp only [List.take_succ_cons, List.take_zero, List.drop_succ_cons, List.drop_zero]
  change wpStill _ _ (World.drew _) (fun a' => wpList _ _ _ _ a' (World.drew _)) _ _
  repeat still_step
  refine wpStill_nil ?_
  go_wp2_with fail
  refine (P4.out).mono ?_
  rintro e w6 ⟨rfl, hr, hb⟩
  have BG := Lib.hid (show Below G w5 w6 from (below_drew (Below.refl G w5)).trans hb)
  have RF' := Lib.hid hr
  have BF' := Lib.hid (BF.out.trans (BG.out.mono (Nat.le_of_lt QG)))
  have XF' := Lib.hid (show RowAt w6 q _ _ from (BG.out.block q QG).trans XF.out)
  clear hr hb RF XF BF b0 b1 b2 b3 b4 BG P4
  have RF := RF'
  have XF := XF'
  have BF := BF'
  clear RF' XF' BF'
  go_wp2_with fail
  refine (pPut w6 G 13 1 51 d.size _ RF.out (by omega) (by omega) (by have := HD.out; omega)).mono ?_
  rintro e w7 ⟨rfl, hr, hb⟩
  have BF7 := Lib.hid (BF.out.trans (hb.mono (Nat.le_of_lt QG)))
  have SC := RowF.setCells d.data.toList 14 _ w7 hr (by have := HD.out; simp; omega)
  obtain ⟨w8, hw8⟩ : ∃ w8, w8 = w7.setCells G 14 (d.data.toList.map fun x => Value.int .u8 (x.toNat : Int)) := ⟨_, rfl⟩
  have CP : ∀ ty, (Builtin.copy_ #[113, 9] ty #[.slice (some ⟨G, 14, none⟩) 50 50, .string d]).run Tryd.prog w7 = .ok (.int .i64 d.size) w8 := by
    intro ty
    have hc : ∀ j, j < d.size → _ := fun j hj => hr.cell (j := 14 + j) (by have := HD.out; omega)
    have k := run_copy_string (P := Tryd.prog) w7 113 9 ty 5 G 14 50 50 d Tryd.underlying113 sizeU8 HD.out (fun j hj => by rw [hc j hj]; rfl) (fun j hj => hr.frozen _)
    rw [k, hw8]; rfl
  rw [← hw8] at SC
  have R8 := Lib.hid (show RowF w8 G (secF ⟨g, i, l, p, n⟩ d) from SC.1.congr fun j hj => PA.out j hj)
  have B8 := Lib.hid (BF7.out.trans (SC.2.mono (Nat.le_of_lt QG)))
  have CV := conv64 _ _ _ R8.out
  rw [show strOfNums ((List.range 64).map (secF ⟨g, i, l, p, n⟩ d)) = pack6 ⟨g, i, l, p, n⟩ d from rfl] at CV
  clear hr hb hw8 SC RF XF BF
  go_wp2_with fail
  go_ret2
  exact ⟨rfl, by rw [← HQ.out]; exact B8.out⟩

set_option maxRecDepth 100000 in
set_option maxHeartbeats 2000000 in
theorem pPack_no (x : Stp) (d : ByteArray) (w : World) (hf : x.Fits) (hs : d.size ≤ 1000) (h : x.ok = false ∨ (x.ok = true ∧ 50 < d.size)) : Calls Tryd.prog 61 #[x.v, .string d] w fun e w' => e = .returned (.tuple #[.string ⟨#[]⟩, .int .i64 (if x.ok then 5 else 1)]) ∧ Below w.heap.size w w' := by
  have RT := Lib.hid (fun w => pRight x w hf)
  obtain ⟨o, ho⟩ : ∃ o, o = x.ok := ⟨_, rfl⟩
  rw [← ho] at RT h ⊢
  clear ho
  obtain ⟨g, i, l, p, n⟩ := x
  change Hid (∀ w, Calls Tryd.prog 66 #[.agg #[.int .i64 g, .int .i64 i, .int .i64 l, .int .i64 p, .int .i64 n]] w fun e w' => e = .returned (.bool o) ∧ Below w.heap.size w w') at RT
  show Calls Tryd.prog 61 #[.agg #[.int .i64 g, .int .i64 i, .int .i64 l, .int .i64 p, .int .i64 n], .string d] w _
  have RB := RowAt.new w [.int .i64 g, .int .i64 i, .int .i64 l, .int .i64 p, .int .i64 n] 110
  have B0 := Lib.hid ((Below.refl w.heap.size w).alloc (Nat.le_refl _) (.cells #[.int .i64 g, .int .i64 i, .int .i64 l, .int .i64 p, .int .i64 n] 110))
  obtain ⟨b0, b1, b2, b3, b4⟩ := BoxS.of_row RB
  clear RB hf
  go_enter Tryd.func61, Tryd.ntmps61
  go_wp2_with fail
  refine (RT.out _).mono ?_
  rintro e w1 ⟨rfl, hb1⟩
  have B1 := Lib.hid (B0.out.trans (hb1.mono B0.out.size))
  clear hb1 b0 b1 b2 b3 b4
  rcases h with rfl | ⟨rfl, h⟩
  · go_wp2_with fail
    go_ret2
    exact ⟨rfl, B1.out⟩
  · go_wp2_with fail
    go_ret2
    exact ⟨rfl, B1.out⟩

theorem pPack (x : Stp) (d : ByteArray) (w : World) (hf : x.Fits) (hs : d.size ≤ 1000) : Calls Tryd.prog 61 #[x.v, .string d] w fun e w' => e = .returned (.tuple #[.string (if x.ok && decide (d.size ≤ 50) then pack6 x d else ⟨#[]⟩), .int .i64 (if x.ok then (if d.size ≤ 50 then 0 else 5) else 1)]) ∧ Below w.heap.size w w' := by
  cases ho : x.ok with
  | false =>
    have k := pPack_no x d w hf hs (.inl ho)
    rw [ho] at k
    exact k
  | true =>
    by_cases hd : d.size ≤ 50
    · have k := pPack_ok x d w ho hd
      rw [decide_eq_true hd, if_pos rfl, if_pos hd]
      exact k
    · have k := pPack_no x d w hf hs (.inr ⟨ho, by omega⟩)
      rw [ho] at k
      rw [decide_eq_false hd, if_pos rfl, if_neg hd]
      exact k

end Go.Proofs.YtfodclafkdkjbaaDoor
