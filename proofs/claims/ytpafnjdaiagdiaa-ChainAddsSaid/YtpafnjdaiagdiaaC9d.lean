/- ChainAdds: walked, given what the program's chain does. -/
import Derived.Test.YtpafnjdaiagdiaaC9p
import Derived.Test.YtpafnjdaiagdiaaRgn
import Derived.Lib.SmallJoins
namespace Go.Proofs.Ytpafnjdaiagdiaa.chainAdds
open Go.Proofs.Ytpafnjdaiagdiaa Go.Joins Go.ChangeShapes Go.WideShapes Go.ChangeAt Go.RowKit Go.Deep

theorem row5 {w : World} {g : Nat} {x : Ver} {t : TypeId} (h : RowAt w g x.cs t) : w.cell? ⟨g, 0, none⟩ = some (.int .i64 x.seq) ∧ w.cell? ⟨g, 1, none⟩ = some (.bool x.gone) ∧ w.cell? ⟨g, 2, none⟩ = some (.bool x.val.num) ∧ w.cell? ⟨g, 3, none⟩ = some (.string x.val.txt) ∧ w.cell? ⟨g, 4, none⟩ = some (.int .u64 (x.val.bits : Int)) :=
  ⟨h.cell 0, h.cell 1, h.cell 2, h.cell 3, h.cell 4⟩
theorem slV_row {w : World} {b : Nat} {v : Ver} {t : TypeId} (r : RowAt w b v.cs t) : SlV w (some ⟨b, 0, none⟩) [v] := fun _ => by
  refine ⟨b, 0, rfl, r.lt, fun j hj => ?_⟩
  have e : j = 0 := by simp at hj; exact hj
  subst e
  exact ⟨r.cell 0, r.cell 1, r.cell 2, r.cell 3, r.cell 4⟩
theorem row_new {n : Nat} (w : World) (v : Ver) (t : TypeId) (hn : n = w.heap.size) : RowAt (w.alloc (.cells v.cs.toArray t)) n v.cs t := by
  subst hn; exact RowAt.new w v.cs t
theorem row_grown {w w' : World} {b g : Nat} {cs : List Value} {t : TypeId} (h : RowAt w b cs t) (hg : w.grownBy w' (some g)) (hn : g ≠ b) : RowAt w' b cs t :=
  (hg.block b h.lt (fun e => hn (Option.some.inj e).symm)).trans h
theorem own_made {B n : Nat} (w : World) (hB : B ≤ w.heap.size) (hn : n = w.heap.size) : OwnV (w.alloc (.cells #[] 29)) B (.slice (some ⟨n, 0, none⟩) 0 0) [] := by
  subst hn
  exact OwnV.made w hB

set_option maxRecDepth 100000 in
set_option maxHeartbeats 4000000 in
theorem walk (X : ChainAt) (A : Option Addr) (c : Nat) (l : List Ver) (v : Ver) (w : World) (h : SlV w A l) (hf : FitsL l) (hv : v.val.Fits) (hl : l.length ≤ 9223372036854775807) :
    Calls Try.prog 4 #[.slice A l.length c, v.v] w fun r w' => r = .returned (.bool true) ∧ Below w.heap.size w w' := by
  obtain ⟨n, hn⟩ : ∃ n, n = l.length := ⟨_, rfl⟩
  rw [← hn]
  have HN := Lib.hid hn
  have X' := Lib.hid X
  have HF := Lib.hid hf
  have HV := Lib.hid hv
  obtain ⟨B, hB⟩ : ∃ B, B = w.heap.size := ⟨_, rfl⟩
  have r0 := RowAt.new w v.cs 29
  have b0 : Below w.heap.size w (w.alloc (.cells v.cs.toArray 29)) := (Below.refl _ _).alloc (Nat.le_refl _) _
  have S0 := Lib.hid (h.below b0)
  have AW := Lib.hid (awake9 X (w.alloc (.cells v.cs.toArray 29)))
  rw [← hB] at r0
  have R0 := Lib.hid r0
  have B0 := Lib.hid b0
  have HB := Lib.hid hB
  have FA := Lib.hid (fun W (hs : SlV W A l) => show Calls Try.prog 8 #[.slice A n c] W _ from by rw [hn]; exact xFar9 l A c W hs hl)
  show Calls Try.prog 4 #[.slice A n c, .agg #[.int .i64 v.seq, .bool v.gone, .bool v.val.num, .string v.val.txt, .int .u64 (v.val.bits : Int)]] w _
  clear hn X h hf hv hl r0 b0 hB
  go_enter Try.func4, Try.ntmps4
  go_wp2_with fail
  rw [← HB.out]
  refine AW.out.mono ?_
  rintro r w1 ⟨rfl, hb1⟩
  have B1 := Lib.hid (B0.out.trans (hb1.mono B0.out.size))
  have R1 := Lib.hid (R0.out.below hb1)
  have S1 := Lib.hid (S0.out.below hb1)
  clear hb1 AW
  go_wp2_with fail
  refine (FA.out w1 S1.out).mono ?_
  rintro r w2 ⟨hfar, rfl⟩
  obtain ⟨d0, d1, d2, d3, d4⟩ := row5 R1.out
  rcases hfar with rfl | ⟨rfl, l1, l2⟩
  · go_wp2_with fail
    go_ret
    exact ⟨rfl, B1.out⟩
  by_cases t2 : 200 < v.val.txt.size
  · go_wp2_with fail
    go_ret
    exact ⟨rfl, B1.out⟩
  have nl : n ≤ 100 := by rw [HN.out]; exact l1
  have GV := Lib.hid (show GoodL (l ++ [v]) from ⟨fun x hx => by
      rcases List.mem_append.1 hx with q | q
      · exact HF.out x q
      · rw [List.mem_singleton.1 q]; exact HV.out, fun x hx => by
      rcases List.mem_append.1 hx with q | q
      · have := l2 x q; omega
      · rw [List.mem_singleton.1 q]; omega, by simp; omega⟩)
  have GL := Lib.hid (show GoodL l from ⟨HF.out, fun x hx => by have := l2 x hx; omega, by omega⟩)
  obtain ⟨Z, hZ⟩ : ∃ Z, Z = l ++ [v] := ⟨_, rfl⟩
  obtain ⟨R, hR⟩ : ∃ R, R = rightL Z := ⟨_, rfl⟩
  obtain ⟨T, hT⟩ : ∃ T, T = (if R = true then Z else []) := ⟨_, rfl⟩
  obtain ⟨N, hN⟩ : ∃ N, N = T.length := ⟨_, rfl⟩
  obtain ⟨E, hE⟩ : ∃ E : Int, E = (if R = true then 0 else 1) := ⟨_, rfl⟩
  obtain ⟨M, hM⟩ : ∃ M, M = Z.length := ⟨_, rfl⟩
  have CA := Lib.hid (show ∀ W, SlV W A l → Calls Try.prog 18 #[.slice A n c, .agg #[.int .i64 v.seq, .bool v.gone, .bool v.val.num, .string v.val.txt, .int .u64 (v.val.bits : Int)]] W fun e w' => ∃ A' c', e = .returned (.tuple #[.slice A' N c', .int .i64 E]) ∧ SlV w' A' T ∧ Below W.heap.size W w' from fun W hs => by
    have := X'.out.add l v A c W hs GV.out
    rw [← hZ, ← hR, ← hT, ← hE, ← hN, ← HN.out] at this
    exact this)
  have C1 := Lib.hid (show ∀ A3 A4 c3 c4 W, SlV W A3 l → SlV W A4 l → Calls Try.prog 19 #[.slice A3 n c3, .slice A4 n c4] W fun e w' => e = .returned (.bool true) ∧ ∃ m, w' = W.drewN m from fun A3 A4 c3 c4 W h3 h4 => by
    rw [HN.out]; exact rSameYes l l A3 A4 c3 c4 W h3 h4 GL.out.len GL.out.len rfl)
  have C2 := Lib.hid (show ∀ A3 c3 W, SlV W A3 Z → Calls Try.prog 9 #[.slice A3 M c3] W fun e w' => e = .returned (.bool R) ∧ Below W.heap.size W w' from fun A3 c3 W h3 => by
    rw [hM, hR]; exact rRight9 Z A3 c3 W h3 (by rw [hZ]; exact GV.out.fits) (by rw [hZ]; exact GV.out.len))
  have C3 := Lib.hid (show R = true → ∀ A3 A4 c3 c4 W, SlV W A3 T → SlV W A4 Z → Calls Try.prog 19 #[.slice A3 N c3, .slice A4 M c4] W fun e w' => e = .returned (.bool true) ∧ ∃ m, w' = W.drewN m from fun q A3 A4 c3 c4 W h3 h4 => by
    have e : T = Z := by rw [hT, if_pos q]
    rw [hN, hM]; exact rSameYes T Z A3 A4 c3 c4 W h3 h4 (by rw [e, hZ]; exact GV.out.len) (by rw [hZ]; exact GV.out.len) e)
  have EN := Lib.hid (show R = false → N = 0 ∧ E = 1 from fun q => ⟨by rw [hN, hT, q]; rfl, by rw [hE, q]; rfl⟩)
  have EY := Lib.hid (show R = true → E = 0 from fun q => by rw [hE, q]; rfl)
  have HZ := Lib.hid hZ
  have HM := Lib.hid hM
  clear l1 l2 FA hZ hR hT hN hE hM X' GV GL HF HV
  go_wp2_with (at_builtin; refine wp_appV rfl (.tmp 20) (.tmp 21) rfl w2.heap.size _ [] l rfl (OwnV.made w2 (Nat.le_refl _)) A c n HN.out rfl (S1.out.below ((Below.refl _ _).alloc (Nat.le_refl _) _)) (by rw [← HN.out]; simp; omega) (by simp) ?_; intro v3 w3 ho hgr hb; rw [List.nil_append] at ho; have b3 := Lib.hid (show Below w2.heap.size w2 w3 from ((Below.refl _ _).alloc (Nat.le_refl _) _).trans hb); have O3 := Lib.hid ho; obtain ⟨e0, e1, e2, e3, e4⟩ := row5 (R1.out.below b3.out); clear ho hgr hb d0 d1 d2 d3 d4)
  have R3 := Lib.hid (R1.out.below b3.out)
  have S3 := Lib.hid (S1.out.below b3.out)
  have B3 := Lib.hid (B1.out.trans (b3.out.mono B1.out.size))
  obtain ⟨A3, c3, rfl, sl3, _⟩ := O3.out.sl
  rw [← HN.out] at O3 ⊢
  have Y3 := Lib.hid sl3
  clear sl3 e0 e1 e2 e3 e4
  refine (CA.out w3 S3.out).mono ?_
  rintro r w4 ⟨A4, c4, rfl, sl4, hb4⟩
  have R4 := Lib.hid (R3.out.below hb4)
  have S4 := Lib.hid (S3.out.below hb4)
  have Y4 := Lib.hid (Y3.out.below hb4)
  have X4 := Lib.hid sl4
  have B4 := Lib.hid (B3.out.trans (hb4.mono B3.out.size))
  clear sl4 hb4
  go_wp2_with fail
  have RD := Lib.hid (show RowAt w4.drew B v.cs 29 from R4.out)
  have SD := Lib.hid (show SlV w4.drew A l from S4.out)
  have HD := Lib.hid (show w4.drew.heap.size = w4.heap.size from rfl)
  have BD := Lib.hid (show Below w4.heap.size w4 w4.drew from (Below.refl _ _).drew)
  refine wp_region_held_drew (S := (fun w' => w'.cell? ⟨B, 0, none⟩ = some (.int .i64 v.seq) ∧ w'.cell? ⟨B, 1, none⟩ = some (.bool v.gone) ∧ w'.cell? ⟨B, 2, none⟩ = some (.bool v.val.num) ∧ w'.cell? ⟨B, 3, none⟩ = some (.string v.val.txt) ∧ w'.cell? ⟨B, 4, none⟩ = some (.int .u64 (v.val.bits : Int)))) (by kernel_rfl) ((row5 RD.out)) (fun hHeld => ?_)
  refine rgnTake 1 rfl (by kernel_rfl) (by kernel_rfl) (by kernel_rfl) (fun _ _ _ h => h) (by rfl) (v := ?v1) ?hy1 hHeld ?rest1
  case hy1 => (intro v hSw; obtain ⟨y0, y1, y2, y3, y4⟩ := hSw; first | (go_simp; done) | (go_simp; with_reducible rfl))
  try simp only [Act.put, List.setIfInBounds_toArray, List.set_cons_zero, List.set_cons_succ]
  refine rgnTake 3 rfl (by kernel_rfl) (by kernel_rfl) (by kernel_rfl) (fun _ _ _ h => h) (by rfl) (v := ?v2) ?hy2 hHeld ?rest2
  case hy2 => (intro v hSw; obtain ⟨y0, y1, y2, y3, y4⟩ := hSw; first | (go_simp; done) | (go_simp; with_reducible rfl))
  try simp only [Act.put, List.setIfInBounds_toArray, List.set_cons_zero, List.set_cons_succ]
  refine rgnTwo 0 4 rfl rfl (by kernel_rfl) (fun K hK => ?_) (fun K hK => ?_)
  · go_simp
    refine hK.out _ _ ((row5 (RD.out.alloc _))) (fun hHeld => ?_)
    clear hK K
    try simp only [Act.put, List.setIfInBounds_toArray, List.set_cons_zero, List.set_cons_succ]
    have b6 : Below w4.heap.size w4 (w4.drew.alloc (.cells #[] 29)) := BD.out.alloc (Nat.le_refl _) _
    have R6 := Lib.hid (RD.out.alloc (.cells #[] 29))
    have O6 := Lib.hid (own_made (B := w4.heap.size) (n := w4.heap.size) w4.drew (Nat.le_refl _) rfl)
    have B6 := Lib.hid b6
    have S6 := Lib.hid (S4.out.below b6)
    clear b6
    refine rgnTwo 2 4 rfl rfl (by kernel_rfl) (fun K hK => ?_) (fun K hK => ?_)
    · refine step_appV rfl (.tmp 29) (.tmp 30) rfl w4.heap.size _ [] l rfl O6.out A c (by rw [← HN.out]; rfl) S6.out (by rw [← HN.out]; simp; omega) B6.out.size ?_
      intro v7 w7 ho hgr hb7
      rw [List.nil_append] at ho
      have R7 := Lib.hid (R4.out.below (B6.out.trans hb7))
      have B7 := Lib.hid (B6.out.trans hb7)
      have O7 := Lib.hid ho
      clear ho hgr hb7
      refine hK.out _ _ (row5 R7.out) (fun hHeld => ?_)
      clear hK K
      try simp only [Act.put, List.setIfInBounds_toArray, List.set_cons_zero, List.set_cons_succ]
      refine rgnOne 4 rfl (by kernel_rfl) (fun K hK => ?_)
      go_simp
      refine hK.out _ _ ((row5 (R7.out.alloc _))) (fun hHeld => ?_)
      clear hK K
      try simp only [Act.put, List.setIfInBounds_toArray, List.set_cons_zero, List.set_cons_succ]
      have B8 := Lib.hid (B7.out.alloc B7.out.size (.cells v.cs.toArray 29))
      have O8 := Lib.hid (O7.out.alloc (.cells v.cs.toArray 29))
      have V8 := Lib.hid (slV_row (row_new w7 v 29 rfl))
      refine rgnOne 5 rfl (by kernel_rfl) (fun K hK => ?_)
      refine step_appV rfl (.tmp 31) (.tmp 33) rfl w4.heap.size v7 l [v] rfl O8.out _ 1 rfl V8.out (by rw [← HN.out]; simp; omega) B8.out.size ?_
      intro v9 w9 ho hgr hb9
      have R9 := Lib.hid (R4.out.below (B8.out.trans hb9))
      have B9 := Lib.hid (B8.out.trans hb9)
      have O9 := Lib.hid ho
      clear ho hgr hb9
      refine hK.out _ _ (row5 R9.out) (fun hHeld => ?_)
      clear hK K
      try simp only [Act.put, List.setIfInBounds_toArray, List.set_cons_zero, List.set_cons_succ]
      refine rgnTake 6 rfl (by kernel_rfl) (by kernel_rfl) (by kernel_rfl) (fun _ _ _ h => h) (by rfl) (v := ?v3) ?hy3 hHeld ?rest3
      case hy3 => (intro v hSw; obtain ⟨y0, y1, y2, y3, y4⟩ := hSw; first | (go_simp; done) | (go_simp; with_reducible rfl))
      try simp only [Act.put, List.setIfInBounds_toArray, List.set_cons_zero, List.set_cons_succ]
      refine wpAnyH_done (by kernel_rfl) ?_ _
      obtain ⟨A9, c9, rfl, sl9, _⟩ := O9.out.sl
      rw [← HZ.out, ← HM.out]
      rw [← HZ.out] at sl9
      have X9 := Lib.hid sl9
      have Y9 := Lib.hid (Y4.out.below B9.out)
      have S9 := Lib.hid (S4.out.below B9.out)
      have T9 := Lib.hid (X4.out.below B9.out)
      have C9 := Lib.hid (B4.out.trans (B9.out.mono B4.out.size))
      clear sl9
      go_wp2_with fail
      refine (C1.out A3 A c3 c w9 Y9.out S9.out).mono ?_
      rintro r w10 ⟨rfl, m10, h10⟩
      have b10 : Below w9.heap.size w9 w10 := by rw [h10]; exact below_drewN (Below.refl _ _) _
      have X10 := Lib.hid (X9.out.below b10)
      have T10 := Lib.hid (T9.out.below b10)
      have C10 := Lib.hid (C9.out.trans (b10.mono C9.out.size))
      clear b10 h10
      go_wp2_with fail
      refine (C2.out A9 c9 w10 X10.out).mono ?_
      rintro r w11 ⟨rfl, hb11⟩
      have X11 := Lib.hid (X10.out.below hb11)
      have T11 := Lib.hid (T10.out.below hb11)
      have C11 := Lib.hid (C10.out.trans (hb11.mono C10.out.size))
      clear hb11
      cases R with
      | false =>
        obtain ⟨n0, e1⟩ := EN.out rfl
        subst n0
        subst e1
        go_wp2_with fail
        go_ret
        exact ⟨rfl, C11.out⟩
      | true =>
        have e0 := EY.out rfl
        subst e0
        go_wp2_with fail
        refine (C3.out (by simp) A4 A9 c4 c9 w11 T11.out X11.out).mono ?_
        rintro r w12 ⟨rfl, m12, h12⟩
        have b12 : Below w11.heap.size w11 w12 := by rw [h12]; exact below_drewN (Below.refl _ _) _
        have C12 := Lib.hid (C11.out.trans (b12.mono C11.out.size))
        clear b12 h12
        go_wp2_with fail
        go_ret
        exact ⟨rfl, C12.out⟩
    · go_simp
      refine hK.out _ _ ((row5 (R6.out.alloc _))) (fun hHeld => ?_)
      clear hK K
      try simp only [Act.put, List.setIfInBounds_toArray, List.set_cons_zero, List.set_cons_succ]
      have B7 := Lib.hid (B6.out.alloc B6.out.size (.cells v.cs.toArray 29))
      have O7 := Lib.hid (O6.out.alloc (.cells v.cs.toArray 29))
      have V7 := Lib.hid (row_new (n := w4.heap.size + 1) (w4.drew.alloc (.cells #[] 29)) v 29 (by simp))
      have S7 := Lib.hid (S6.out.below ((Below.refl _ _).alloc (Nat.le_refl _) (.cells v.cs.toArray 29)))
      refine rgnOne 2 rfl (by kernel_rfl) (fun K hK => ?_)
      refine step_appV rfl (.tmp 29) (.tmp 30) rfl w4.heap.size _ [] l rfl O7.out A c (by rw [← HN.out]; rfl) S7.out (by rw [← HN.out]; simp; omega) B7.out.size ?_
      intro v7 w7 ho hgr hb7
      rw [List.nil_append] at ho
      have R7 := Lib.hid (R4.out.below (B7.out.trans hb7))
      have B8 := Lib.hid (B7.out.trans hb7)
      have O8 := Lib.hid ho
      have V8 := Lib.hid (slV_row (row_grown V7.out hgr (by simp)))
      clear ho hgr hb7
      refine hK.out _ _ (row5 R7.out) (fun hHeld => ?_)
      clear hK K
      try simp only [Act.put, List.setIfInBounds_toArray, List.set_cons_zero, List.set_cons_succ]
      refine rgnOne 5 rfl (by kernel_rfl) (fun K hK => ?_)
      refine step_appV rfl (.tmp 31) (.tmp 33) rfl w4.heap.size v7 l [v] rfl O8.out _ 1 rfl V8.out (by rw [← HN.out]; simp; omega) B8.out.size ?_
      intro v9 w9 ho hgr hb9
      have R9 := Lib.hid (R4.out.below (B8.out.trans hb9))
      have B9 := Lib.hid (B8.out.trans hb9)
      have O9 := Lib.hid ho
      clear ho hgr hb9
      refine hK.out _ _ (row5 R9.out) (fun hHeld => ?_)
      clear hK K
      try simp only [Act.put, List.setIfInBounds_toArray, List.set_cons_zero, List.set_cons_succ]
      refine rgnTake 6 rfl (by kernel_rfl) (by kernel_rfl) (by kernel_rfl) (fun _ _ _ h => h) (by rfl) (v := ?v4) ?hy4 hHeld ?rest4
      case hy4 => (intro v hSw; obtain ⟨y0, y1, y2, y3, y4⟩ := hSw; first | (go_simp; done) | (go_simp; with_reducible rfl))
      try simp only [Act.put, List.setIfInBounds_toArray, List.set_cons_zero, List.set_cons_succ]
      refine wpAnyH_done (by kernel_rfl) ?_ _
      obtain ⟨A9, c9, rfl, sl9, _⟩ := O9.out.sl
      rw [← HZ.out, ← HM.out]
      rw [← HZ.out] at sl9
      have X9 := Lib.hid sl9
      have Y9 := Lib.hid (Y4.out.below B9.out)
      have S9 := Lib.hid (S4.out.below B9.out)
      have T9 := Lib.hid (X4.out.below B9.out)
      have C9 := Lib.hid (B4.out.trans (B9.out.mono B4.out.size))
      clear sl9
      go_wp2_with fail
      refine (C1.out A3 A c3 c w9 Y9.out S9.out).mono ?_
      rintro r w10 ⟨rfl, m10, h10⟩
      have b10 : Below w9.heap.size w9 w10 := by rw [h10]; exact below_drewN (Below.refl _ _) _
      have X10 := Lib.hid (X9.out.below b10)
      have T10 := Lib.hid (T9.out.below b10)
      have C10 := Lib.hid (C9.out.trans (b10.mono C9.out.size))
      clear b10 h10
      go_wp2_with fail
      refine (C2.out A9 c9 w10 X10.out).mono ?_
      rintro r w11 ⟨rfl, hb11⟩
      have X11 := Lib.hid (X10.out.below hb11)
      have T11 := Lib.hid (T10.out.below hb11)
      have C11 := Lib.hid (C10.out.trans (hb11.mono C10.out.size))
      clear hb11
      cases R with
      | false =>
        obtain ⟨n0, e1⟩ := EN.out rfl
        subst n0
        subst e1
        go_wp2_with fail
        go_ret
        exact ⟨rfl, C11.out⟩
      | true =>
        have e0 := EY.out rfl
        subst e0
        go_wp2_with fail
        refine (C3.out (by simp) A4 A9 c4 c9 w11 T11.out X11.out).mono ?_
        rintro r w12 ⟨rfl, m12, h12⟩
        have b12 : Below w11.heap.size w11 w12 := by rw [h12]; exact below_drewN (Below.refl _ _) _
        have C12 := Lib.hid (C11.out.trans (b12.mono C11.out.size))
        clear b12 h12
        go_wp2_with fail
        go_ret
        exact ⟨rfl, C12.out⟩
  · go_simp
    refine hK.out _ _ ((row5 (RD.out.alloc _))) (fun hHeld => ?_)
    clear hK K
    try simp only [Act.put, List.setIfInBounds_toArray, List.set_cons_zero, List.set_cons_succ]
    have b6 : Below w4.heap.size w4 (w4.drew.alloc (.cells v.cs.toArray 29)) := BD.out.alloc (Nat.le_refl _) _
    have R6 := Lib.hid (RD.out.alloc (.cells v.cs.toArray 29))
    have B6 := Lib.hid b6
    have S6 := Lib.hid (S4.out.below b6)
    have V6 := Lib.hid (row_new (n := w4.heap.size) w4.drew v 29 rfl)
    clear b6
    refine rgnOne 0 rfl (by kernel_rfl) (fun K hK => ?_)
    go_simp
    refine hK.out _ _ ((row5 (R6.out.alloc _))) (fun hHeld => ?_)
    clear hK K
    try simp only [Act.put, List.setIfInBounds_toArray, List.set_cons_zero, List.set_cons_succ]
    have B7 := Lib.hid (B6.out.alloc B6.out.size (.cells #[] 29))
    have O7 := Lib.hid (own_made (B := w4.heap.size) (n := w4.heap.size + 1) (w4.drew.alloc (.cells v.cs.toArray 29)) B6.out.size (by simp))
    have V7 := Lib.hid (V6.out.alloc (.cells #[] 29))
    have S7 := Lib.hid (S6.out.below ((Below.refl _ _).alloc (Nat.le_refl _) (.cells #[] 29)))
    refine rgnOne 2 rfl (by kernel_rfl) (fun K hK => ?_)
    refine step_appV rfl (.tmp 29) (.tmp 30) rfl w4.heap.size _ [] l rfl O7.out A c (by rw [← HN.out]; rfl) S7.out (by rw [← HN.out]; simp; omega) B7.out.size ?_
    intro v7 w7 ho hgr hb7
    rw [List.nil_append] at ho
    have R7 := Lib.hid (R4.out.below (B7.out.trans hb7))
    have B8 := Lib.hid (B7.out.trans hb7)
    have O8 := Lib.hid ho
    have V8 := Lib.hid (slV_row (row_grown V7.out hgr (by simp)))
    clear ho hgr hb7
    refine hK.out _ _ (row5 R7.out) (fun hHeld => ?_)
    clear hK K
    try simp only [Act.put, List.setIfInBounds_toArray, List.set_cons_zero, List.set_cons_succ]
    refine rgnOne 5 rfl (by kernel_rfl) (fun K hK => ?_)
    refine step_appV rfl (.tmp 31) (.tmp 33) rfl w4.heap.size v7 l [v] rfl O8.out _ 1 rfl V8.out (by rw [← HN.out]; simp; omega) B8.out.size ?_
    intro v9 w9 ho hgr hb9
    have R9 := Lib.hid (R4.out.below (B8.out.trans hb9))
    have B9 := Lib.hid (B8.out.trans hb9)
    have O9 := Lib.hid ho
    clear ho hgr hb9
    refine hK.out _ _ (row5 R9.out) (fun hHeld => ?_)
    clear hK K
    try simp only [Act.put, List.setIfInBounds_toArray, List.set_cons_zero, List.set_cons_succ]
    refine rgnTake 6 rfl (by kernel_rfl) (by kernel_rfl) (by kernel_rfl) (fun _ _ _ h => h) (by rfl) (v := ?v5) ?hy5 hHeld ?rest5
    case hy5 => (intro v hSw; obtain ⟨y0, y1, y2, y3, y4⟩ := hSw; first | (go_simp; done) | (go_simp; with_reducible rfl))
    try simp only [Act.put, List.setIfInBounds_toArray, List.set_cons_zero, List.set_cons_succ]
    refine wpAnyH_done (by kernel_rfl) ?_ _
    obtain ⟨A9, c9, rfl, sl9, _⟩ := O9.out.sl
    rw [← HZ.out, ← HM.out]
    rw [← HZ.out] at sl9
    have X9 := Lib.hid sl9
    have Y9 := Lib.hid (Y4.out.below B9.out)
    have S9 := Lib.hid (S4.out.below B9.out)
    have T9 := Lib.hid (X4.out.below B9.out)
    have C9 := Lib.hid (B4.out.trans (B9.out.mono B4.out.size))
    clear sl9
    go_wp2_with fail
    refine (C1.out A3 A c3 c w9 Y9.out S9.out).mono ?_
    rintro r w10 ⟨rfl, m10, h10⟩
    have b10 : Below w9.heap.size w9 w10 := by rw [h10]; exact below_drewN (Below.refl _ _) _
    have X10 := Lib.hid (X9.out.below b10)
    have T10 := Lib.hid (T9.out.below b10)
    have C10 := Lib.hid (C9.out.trans (b10.mono C9.out.size))
    clear b10 h10
    go_wp2_with fail
    refine (C2.out A9 c9 w10 X10.out).mono ?_
    rintro r w11 ⟨rfl, hb11⟩
    have X11 := Lib.hid (X10.out.below hb11)
    have T11 := Lib.hid (T10.out.below hb11)
    have C11 := Lib.hid (C10.out.trans (hb11.mono C10.out.size))
    clear hb11
    cases R with
    | false =>
      obtain ⟨n0, e1⟩ := EN.out rfl
      subst n0
      subst e1
      go_wp2_with fail
      go_ret
      exact ⟨rfl, C11.out⟩
    | true =>
      have e0 := EY.out rfl
      subst e0
      go_wp2_with fail
      refine (C3.out (by simp) A4 A9 c4 c9 w11 T11.out X11.out).mono ?_
      rintro r w12 ⟨rfl, m12, h12⟩
      have b12 : Below w11.heap.size w11 w12 := by rw [h12]; exact below_drewN (Below.refl _ _) _
      have C12 := Lib.hid (C11.out.trans (b12.mono C11.out.size))
      clear b12 h12
      go_wp2_with fail
      go_ret
      exact ⟨rfl, C12.out⟩

end Go.Proofs.Ytpafnjdaiagdiaa.chainAdds
