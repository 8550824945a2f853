/- Proved parts: B5w B5x B5y. Conditions: each theorem's own. -/
import Derived.Test.YtiiokmfnohifmaaGreatM50
import Derived.StillTailTactics
import Derived.Test.YtiiokmfnohifmaaGreatM13
import Derived.Test.YtiiokmfnohifmaaGreatM17
import Derived.Lib.SliceRun
namespace Go.Proofs.YtiiokmfnohifmaaGreat
open Go.RowKit

section
variable {w0 w : World} {N : Nat → Prop} {b : Nat} {s : Sh} {L : Ch} {P : Nat} {os2 : List Ob}
theorem since_eq {L : Ch} {k : ByteArray} {q : Int} (hq : 0 ≤ q) : since L k q = decide (q < (if decide (0 < (L.of k).length) = true then lastL (L.of k) else Ver.Z).seq) := by
  unfold since
  by_cases z : 0 < (L.of k).length
  · rw [decide_eq_true z, if_pos rfl, Bool.true_and]
  · rw [decide_eq_false z, if_neg (by decide)]
    rw [decide_eq_false (show ¬ q < Ver.Z.seq from by show ¬ q < 0; omega)]; rfl
set_option maxRecDepth 100000 in
set_option maxHeartbeats 2000000 in
/-- behind's closure -/
theorem xBehind1R {b3 b5 : Nat} {q : Int} (x : Wr) (W : World) (h : Side w0 N W (s.os b ++ os2)) (a : s.AtF L P) (hq : 0 ≤ q) (h3 : W.cell? ⟨b3, 0, none⟩ = some (PtrM b)) (h5 : W.cell? ⟨b5, 0, none⟩ = some (.int .i64 q)) :
    Calls Tryz.prog 105 #[x.v, .pointer (some ⟨b3, 0, none⟩), .pointer (some ⟨b5, 0, none⟩)] W fun e w' => e = .returned (.bool (since L x.key q)) ∧ Below W.heap.size W w' := by
  have E0 := since_eq (L := L) (k := x.key) hq
  obtain ⟨g1, g2, _⟩ := good_of a.good a.right x.key
  have KC := Lib.hid (fun W' (hb : Below W.heap.size W W') => show Calls Tryz.prog 68 #[PtrS b, .string x.key] W' fun e w' => ∃ A c, e = .returned (.slice A (L.of x.key).length c) ∧ SlV w' A (L.of x.key) ∧ Below W'.heap.size W' w' from (xChainR (h.below hb) a x.key).mono fun e w' ⟨A', c', h1, _, h3, h4⟩ => ⟨A', c', h1, h3, h4⟩)
  have KL0 := fun W' A' c' (hs : SlV W' A' (L.of x.key)) => xLast9 (L.of x.key) A' c' W' hs g1
  simp only [g2, Bool.true_and] at KL0
  obtain ⟨y, hy⟩ : ∃ y, y = (if decide (0 < (L.of x.key).length) = true then lastL (L.of x.key) else Ver.Z) := ⟨_, rfl⟩
  obtain ⟨D, hD⟩ : ∃ D, D = decide (0 < (L.of x.key).length) := ⟨_, rfl⟩
  obtain ⟨m, hm⟩ : ∃ m, m = (L.of x.key).length := ⟨_, rfl⟩
  simp only [← hy] at KL0
  rw [← hy] at E0
  simp only [← hD] at KL0
  simp only [← hm] at KL0 KC
  obtain ⟨T, hT⟩ : ∃ T, T = since L x.key q := ⟨_, rfl⟩
  rw [← hT] at E0 ⊢
  obtain ⟨k, gx, v⟩ := x
  obtain ⟨nx, tx, bx⟩ := v
  obtain ⟨sq, gn, u⟩ := y
  obtain ⟨nu, t, bt⟩ := u
  have KL := Lib.hid (show ∀ W' A' c', SlV W' A' (L.of k) → Calls Tryz.prog 106 #[.slice A' m c'] W' fun e w' => e = .returned (.tuple #[.agg #[.int .i64 sq, .bool gn, .bool nu, .string t, .int .u64 (bt : Int)], .bool D]) ∧ Below W'.heap.size W' w' from KL0)
  have E := Lib.hid E0
  obtain ⟨w1, hw1⟩ : ∃ w1, w1 = W.alloc (.cells #[.string k, .bool gx, .bool nx, .string tx, .int .u64 (bx : Int)] 74) := ⟨_, rfl⟩
  obtain ⟨X, hX⟩ : ∃ X, X = W.heap.size := ⟨_, rfl⟩
  have R1 : RowAt w1 X [.string k, .bool gx, .bool nx, .string tx, .int .u64 (bx : Int)] 74 := by rw [hw1, hX]; exact RowAt.new W _ _
  have b1 : Below W.heap.size W w1 := by rw [hw1]; exact (Below.refl _ _).alloc (Nat.le_refl _) _
  have CF := Lib.hid (fun W' (hb : Below W.heap.size W W') (hr : RowAt W' X [.string k, .bool gx, .bool nx, .string tx, .int .u64 (bx : Int)] 74) => show W'.cell? ⟨b3, 0, none⟩ = some (PtrM b) ∧ W'.cell? ⟨X, 0, none⟩ = some (.string k) from ⟨(hb.cell (p := ⟨b3, 0, none⟩) (World.block_lt_of_cell? W _ h3)).trans h3, hr.cell 0⟩)
  have C5 := Lib.hid (fun W' (hb : Below W.heap.size W W') => show W'.cell? ⟨b5, 0, none⟩ = some (.int .i64 q) from (hb.cell (p := ⟨b5, 0, none⟩) (World.block_lt_of_cell? W _ h5)).trans h5)
  have CF := Lib.hid (fun W' (hb : Below w1.heap.size w1 W') => CF.out W' (below_then b1 hb) (R1.below hb))
  have KC := Lib.hid (fun W' (hb : Below w1.heap.size w1 W') => KC.out W' (below_then b1 hb))
  have HW1 := Lib.hid hw1
  have HX := Lib.hid hX
  have BW := Lib.hid b1
  obtain ⟨wd, hwd⟩ : ∃ wd, wd = w1.drew := ⟨_, rfl⟩
  have BX := Lib.hid (show Below w1.heap.size w1 wd from by rw [hwd]; exact (Below.refl _ _).drew)
  have HWD := Lib.hid hwd
  have LW := Lib.hid b1.size
  clear h a hq h3 h5 g1 g2 hy hD hm hT hw1 hX R1 b1 hwd E0 KL0
  show Calls Tryz.prog 105 #[.agg #[.string k, .bool gx, .bool nx, .string tx, .int .u64 (bx : Int)], .pointer (some ⟨b3, 0, none⟩), .pointer (some ⟨b5, 0, none⟩)] W _
  go_enter Tryz.func105, Tryz.ntmps105
  go_wp2_with fail
  rw [← HW1.out, ← HX.out]
  refine wp_region_held_drew (S := (fun w' => w'.cell? ⟨b3, 0, none⟩ = some (PtrM b) ∧ w'.cell? ⟨X, 0, none⟩ = some (.string k))) (by kernel_rfl) (by have := CF.out _ BX.out; rw [HWD.out] at this; exact this) (fun hHeld => ?_)
  rw [← HWD.out] at hHeld ⊢
  refine rgnTake 0 rfl (by kernel_rfl) (by kernel_rfl) (by kernel_rfl) (fun _ _ _ h => h) (by rfl) (v := ?v1) ?hy1 hHeld ?rest1
  case hy1 => (intro v hSw; obtain ⟨y0, y1⟩ := hSw; first | (go_simp; done) | (go_simp; with_reducible rfl))
  try simp only [Act.put, List.setIfInBounds_toArray, List.set_cons_zero, List.set_cons_succ]
  refine rgnTake 1 rfl (by kernel_rfl) (by kernel_rfl) (by kernel_rfl) (fun _ _ _ h => h) (by rfl) (v := ?v2) ?hy2 hHeld ?rest2
  case hy2 => (intro v hSw; obtain ⟨y0, y1⟩ := hSw; first | (go_simp; done) | (go_simp; with_reducible rfl))
  try simp only [Act.put, List.setIfInBounds_toArray, List.set_cons_zero, List.set_cons_succ]
  refine rgnTake 2 rfl (by kernel_rfl) (by kernel_rfl) (by kernel_rfl) (fun _ _ _ h => h) (by rfl) (v := ?v3) ?hy3 hHeld ?rest3
  case hy3 => (intro v hSw; obtain ⟨y0, y1⟩ := hSw; first | (go_simp; done) | (go_simp; with_reducible rfl))
  try simp only [Act.put, List.setIfInBounds_toArray, List.set_cons_zero, List.set_cons_succ]
  refine rgnTake 3 rfl (by kernel_rfl) (by kernel_rfl) (by kernel_rfl) (fun _ _ _ h => h) (by rfl) (v := ?v4) ?hy4 hHeld ?rest4
  case hy4 => (intro v hSw; obtain ⟨y0, y1⟩ := hSw; first | (go_simp; done) | (go_simp; with_reducible rfl))
  try simp only [Act.put, List.setIfInBounds_toArray, List.set_cons_zero, List.set_cons_succ]
  refine rgnTake 4 rfl (by kernel_rfl) (by kernel_rfl) (by kernel_rfl) (fun _ _ _ h => h) (by rfl) (v := ?v5) ?hy5 hHeld ?rest5
  case hy5 => (intro v hSw; obtain ⟨y0, y1⟩ := hSw; first | (go_simp; done) | (go_simp; with_reducible rfl))
  try simp only [Act.put, List.setIfInBounds_toArray, List.set_cons_zero, List.set_cons_succ]
  refine rgnTwo 5 10 rfl rfl (by kernel_rfl) (fun K hK => ?_) (fun K hK => ?_)
  · go_simp
    refine (KC.out _ BX.out).mono ?_
    rintro r W1 ⟨A1, c1, rfl, hs1, hb1⟩
    have S1 := Lib.hid hs1
    have B1 := Lib.hid (below_then BX.out hb1)
    refine hK.out _ _ (CF.out _ B1.out) (fun hHeld => ?_)
    clear hK K hs1
    try simp only [Act.put, List.setIfInBounds_toArray, List.set_cons_zero, List.set_cons_succ]
    clear hb1
    refine rgnTwo 6 10 rfl rfl (by kernel_rfl) (fun K hK => ?_) (fun K hK => ?_)
    · go_simp
      refine (KL.out _ _ _ S1.out).mono ?_
      rintro r W2 ⟨rfl, hb2⟩
      have B2 := Lib.hid (below_then B1.out hb2)
      refine hK.out _ _ (CF.out _ B2.out) (fun hHeld => ?_)
      clear hK K
      try simp only [Act.put, List.setIfInBounds_toArray, List.set_cons_zero, List.set_cons_succ]
      clear hb2
      refine rgnTake 7 rfl (by kernel_rfl) (by kernel_rfl) (by kernel_rfl) (fun _ _ _ h => h) (by rfl) (v := ?v6) ?hy6 hHeld ?rest6
      case hy6 => (intro v hSw; obtain ⟨y0, y1⟩ := hSw; first | (go_simp; done) | (go_simp; with_reducible rfl))
      try simp only [Act.put, List.setIfInBounds_toArray, List.set_cons_zero, List.set_cons_succ]
      refine rgnTake 8 rfl (by kernel_rfl) (by kernel_rfl) (by kernel_rfl) (fun _ _ _ h => h) (by rfl) (v := ?v7) ?hy7 hHeld ?rest7
      case hy7 => (intro v hSw; obtain ⟨y0, y1⟩ := hSw; first | (go_simp; done) | (go_simp; with_reducible rfl))
      try simp only [Act.put, List.setIfInBounds_toArray, List.set_cons_zero, List.set_cons_succ]
      refine rgnTake 9 rfl (by kernel_rfl) (by kernel_rfl) (by kernel_rfl) (fun _ _ _ h => h) (by rfl) (v := ?v8) ?hy8 hHeld ?rest8
      case hy8 => (intro v hSw; obtain ⟨y0, y1⟩ := hSw; first | (go_simp; done) | (go_simp; with_reducible rfl))
      try simp only [Act.put, List.setIfInBounds_toArray, List.set_cons_zero, List.set_cons_succ]
      obtain ⟨W3, hW3⟩ : ∃ W3, W3 = W2.alloc (.cells #[.int .i64 0, .bool false, .bool false, .string ⟨#[]⟩, .int .u64 0] 92) := ⟨_, rfl⟩
      obtain ⟨p, hp⟩ : ∃ p, p = W2.heap.size := ⟨_, rfl⟩
      have BK := Lib.hid (show Below w1.heap.size w1 W3 from by rw [hW3]; exact B2.out.alloc B2.out.size _)
      have B3 := Lib.hid (below_then BW.out BK.out)
      have PA := Lib.hid (show RowAt W3 p Ver.Z.cs 92 from by rw [hW3, hp]; exact RowAt.new W2 _ _)
      have PK := Lib.hid (show w1.heap.size ≤ p from by rw [hp]; exact B2.out.size)
      have PL := Lib.hid (Nat.le_trans LW.out PK.out)
      have HW3 := Lib.hid hW3
      have HP := Lib.hid hp
      clear hW3 hp
      refine rgnOne 10 rfl (by kernel_rfl) (fun K hK => ?_)
      go_simp
      rw [← HW3.out, ← HP.out]
      refine hK.out _ _ (CF.out _ BK.out) (fun hHeld => ?_)
      clear hK K HW3 HP
      try simp only [Act.put, List.setIfInBounds_toArray, List.set_cons_zero, List.set_cons_succ]
      refine rgnOne 11 rfl (by kernel_rfl) (fun K hK => ?_)
      have f0 := PA.out.frozen 0
      have f1 := PA.out.frozen 1
      have f2 := PA.out.frozen 2
      have f3 := PA.out.frozen 3
      have f4 := PA.out.frozen 4
      obtain ⟨d0, d1, d2, d3, d4⟩ := row5 PA.out
      go_simp
      have hS := Lib.hid (setV_row (w := W3) (g := p) (x := ⟨sq, gn, ⟨nu, t, bt⟩⟩) (y := Ver.Z) PA.out)
      have hBl := Lib.hid (setV_below (B := W.heap.size) (w := W3) (g := p) (x := ⟨sq, gn, ⟨nu, t, bt⟩⟩) B3.out PL.out)
      have hBk := Lib.hid (setV_below (B := w1.heap.size) (w := W3) (g := p) (x := ⟨sq, gn, ⟨nu, t, bt⟩⟩) BK.out PK.out)
      obtain ⟨W4, hW4⟩ : ∃ W4, W4 = setV W3 p ⟨sq, gn, ⟨nu, t, bt⟩⟩ := ⟨_, rfl⟩
      rw [← hW4] at hS hBl hBk
      refine hK.out _ _ (by have := CF.out _ hBk.out; rw [hW4] at this; exact this) (fun hHeld => ?_)
      have hW5 : W4 = ((((W3.setCell ⟨p, 0, none⟩ (.int .i64 sq)).setCell ⟨p, 1, none⟩ (.bool gn)).setCell ⟨p, 2, none⟩ (.bool nu)).setCell ⟨p, 3, none⟩ (.string t)).setCell ⟨p, 4, none⟩ (.int .u64 (bt : Int)) := hW4
      rw [← hW5] at hHeld ⊢
      clear hK K f0 f1 f2 f3 f4 d0 d1 d2 d3 d4 hW5 hW4
      try simp only [Act.put, List.setIfInBounds_toArray, List.set_cons_zero, List.set_cons_succ]
      refine rgnTake 12 rfl (by kernel_rfl) (by kernel_rfl) (by kernel_rfl) (fun _ _ _ h => h) (by rfl) (v := ?v9) ?hy9 hHeld ?rest9
      case hy9 => (intro v hSw; obtain ⟨y0, y1⟩ := hSw; first | (go_simp; done) | (go_simp; with_reducible rfl))
      try simp only [Act.put, List.setIfInBounds_toArray, List.set_cons_zero, List.set_cons_succ]
      refine wpAnyH_done (by kernel_rfl) ?_ _
      clear hHeld
      have s0 : W4.cell? ⟨p, 0, none⟩ = some (.int .i64 sq) := hS.out.cell 0
      have c5 := C5.out _ hBl.out
      go_wp2_with fail
      go_ret
      exact ⟨by rw [E.out]; rfl, hBl.out⟩
    · obtain ⟨V1, hV1⟩ : ∃ W3, W3 = W1.alloc (.cells #[.int .i64 0, .bool false, .bool false, .string ⟨#[]⟩, .int .u64 0] 92) := ⟨_, rfl⟩
      obtain ⟨p, hp⟩ : ∃ p, p = W1.heap.size := ⟨_, rfl⟩
      have bv : Below W1.heap.size W1 V1 := by rw [hV1]; exact (Below.refl _ _).alloc (Nat.le_refl _) _
      have PA1 := Lib.hid (show RowAt V1 p Ver.Z.cs 92 from by rw [hV1, hp]; exact RowAt.new W1 _ _)
      have PK := Lib.hid (show w1.heap.size ≤ p from by rw [hp]; exact B1.out.size)
      have PL := Lib.hid (Nat.le_trans LW.out PK.out)
      have S1' := Lib.hid (S1.out.below bv)
      have B1' := Lib.hid (below_then B1.out bv)
      have HV1 := Lib.hid hV1
      have HP := Lib.hid hp
      clear hV1 hp bv S1 B1
      go_simp
      rw [← HV1.out, ← HP.out]
      refine hK.out _ _ (CF.out _ B1'.out) (fun hHeld => ?_)
      clear hK K HV1 HP
      try simp only [Act.put, List.setIfInBounds_toArray, List.set_cons_zero, List.set_cons_succ]
      have S1 := S1'
      have B1 := B1'
      refine rgnOne 6 rfl (by kernel_rfl) (fun K hK => ?_)
      go_simp
      refine (KL.out _ _ _ S1.out).mono ?_
      rintro r W2 ⟨rfl, hb2⟩
      have B2 := Lib.hid (below_then B1.out hb2)
      refine hK.out _ _ (CF.out _ B2.out) (fun hHeld => ?_)
      clear hK K
      try simp only [Act.put, List.setIfInBounds_toArray, List.set_cons_zero, List.set_cons_succ]
      refine rgnTake 7 rfl (by kernel_rfl) (by kernel_rfl) (by kernel_rfl) (fun _ _ _ h => h) (by rfl) (v := ?v10) ?hy10 hHeld ?rest10
      case hy10 => (intro v hSw; obtain ⟨y0, y1⟩ := hSw; first | (go_simp; done) | (go_simp; with_reducible rfl))
      try simp only [Act.put, List.setIfInBounds_toArray, List.set_cons_zero, List.set_cons_succ]
      refine rgnTake 8 rfl (by kernel_rfl) (by kernel_rfl) (by kernel_rfl) (fun _ _ _ h => h) (by rfl) (v := ?v11) ?hy11 hHeld ?rest11
      case hy11 => (intro v hSw; obtain ⟨y0, y1⟩ := hSw; first | (go_simp; done) | (go_simp; with_reducible rfl))
      try simp only [Act.put, List.setIfInBounds_toArray, List.set_cons_zero, List.set_cons_succ]
      refine rgnTake 9 rfl (by kernel_rfl) (by kernel_rfl) (by kernel_rfl) (fun _ _ _ h => h) (by rfl) (v := ?v12) ?hy12 hHeld ?rest12
      case hy12 => (intro v hSw; obtain ⟨y0, y1⟩ := hSw; first | (go_simp; done) | (go_simp; with_reducible rfl))
      try simp only [Act.put, List.setIfInBounds_toArray, List.set_cons_zero, List.set_cons_succ]
      have PA := Lib.hid (PA1.out.below hb2)
      have BK := B2
      have B3 := Lib.hid (below_then BW.out BK.out)
      clear hb2
      obtain ⟨W3, hW3⟩ : ∃ W3, W3 = W2 := ⟨_, rfl⟩
      rw [← hW3] at PA BK B3 ⊢
      clear hW3
      refine rgnOne 11 rfl (by kernel_rfl) (fun K hK => ?_)
      have f0 := PA.out.frozen 0
      have f1 := PA.out.frozen 1
      have f2 := PA.out.frozen 2
      have f3 := PA.out.frozen 3
      have f4 := PA.out.frozen 4
      obtain ⟨d0, d1, d2, d3, d4⟩ := row5 PA.out
      go_simp
      have hS := Lib.hid (setV_row (w := W3) (g := p) (x := ⟨sq, gn, ⟨nu, t, bt⟩⟩) (y := Ver.Z) PA.out)
      have hBl := Lib.hid (setV_below (B := W.heap.size) (w := W3) (g := p) (x := ⟨sq, gn, ⟨nu, t, bt⟩⟩) B3.out PL.out)
      have hBk := Lib.hid (setV_below (B := w1.heap.size) (w := W3) (g := p) (x := ⟨sq, gn, ⟨nu, t, bt⟩⟩) BK.out PK.out)
      obtain ⟨W4, hW4⟩ : ∃ W4, W4 = setV W3 p ⟨sq, gn, ⟨nu, t, bt⟩⟩ := ⟨_, rfl⟩
      rw [← hW4] at hS hBl hBk
      refine hK.out _ _ (by have := CF.out _ hBk.out; rw [hW4] at this; exact this) (fun hHeld => ?_)
      have hW5 : W4 = ((((W3.setCell ⟨p, 0, none⟩ (.int .i64 sq)).setCell ⟨p, 1, none⟩ (.bool gn)).setCell ⟨p, 2, none⟩ (.bool nu)).setCell ⟨p, 3, none⟩ (.string t)).setCell ⟨p, 4, none⟩ (.int .u64 (bt : Int)) := hW4
      rw [← hW5] at hHeld ⊢
      clear hK K f0 f1 f2 f3 f4 d0 d1 d2 d3 d4 hW5 hW4
      try simp only [Act.put, List.setIfInBounds_toArray, List.set_cons_zero, List.set_cons_succ]
      refine rgnTake 12 rfl (by kernel_rfl) (by kernel_rfl) (by kernel_rfl) (fun _ _ _ h => h) (by rfl) (v := ?v13) ?hy13 hHeld ?rest13
      case hy13 => (intro v hSw; obtain ⟨y0, y1⟩ := hSw; first | (go_simp; done) | (go_simp; with_reducible rfl))
      try simp only [Act.put, List.setIfInBounds_toArray, List.set_cons_zero, List.set_cons_succ]
      refine wpAnyH_done (by kernel_rfl) ?_ _
      clear hHeld
      have s0 : W4.cell? ⟨p, 0, none⟩ = some (.int .i64 sq) := hS.out.cell 0
      have c5 := C5.out _ hBl.out
      go_wp2_with fail
      go_ret
      exact ⟨by rw [E.out]; rfl, hBl.out⟩
  · obtain ⟨V1, hV1⟩ : ∃ W3, W3 = wd.alloc (.cells #[.int .i64 0, .bool false, .bool false, .string ⟨#[]⟩, .int .u64 0] 92) := ⟨_, rfl⟩
    obtain ⟨p, hp⟩ : ∃ p, p = wd.heap.size := ⟨_, rfl⟩
    have bv : Below wd.heap.size wd V1 := by rw [hV1]; exact (Below.refl _ _).alloc (Nat.le_refl _) _
    have PA1 := Lib.hid (show RowAt V1 p Ver.Z.cs 92 from by rw [hV1, hp]; exact RowAt.new wd _ _)
    have PK := Lib.hid (show w1.heap.size ≤ p from by rw [hp]; exact BX.out.size)
    have PL := Lib.hid (Nat.le_trans LW.out PK.out)
    have BX' := Lib.hid (below_then BX.out bv)
    have HV1 := Lib.hid hV1
    have HP := Lib.hid hp
    clear hV1 hp bv BX
    go_simp
    rw [← HV1.out, ← HP.out]
    refine hK.out _ _ (CF.out _ BX'.out) (fun hHeld => ?_)
    clear hK K HV1 HP
    try simp only [Act.put, List.setIfInBounds_toArray, List.set_cons_zero, List.set_cons_succ]
    have BX := BX'
    refine rgnOne 5 rfl (by kernel_rfl) (fun K hK => ?_)
    go_simp
    refine (KC.out _ BX.out).mono ?_
    rintro r W1 ⟨A1, c1, rfl, hs1, hb1⟩
    have S1 := Lib.hid hs1
    have B1 := Lib.hid (below_then BX.out hb1)
    refine hK.out _ _ (CF.out _ B1.out) (fun hHeld => ?_)
    clear hK K hs1
    try simp only [Act.put, List.setIfInBounds_toArray, List.set_cons_zero, List.set_cons_succ]
    have PA2 := Lib.hid (PA1.out.below hb1)
    clear hb1
    refine rgnOne 6 rfl (by kernel_rfl) (fun K hK => ?_)
    go_simp
    refine (KL.out _ _ _ S1.out).mono ?_
    rintro r W2 ⟨rfl, hb2⟩
    have B2 := Lib.hid (below_then B1.out hb2)
    refine hK.out _ _ (CF.out _ B2.out) (fun hHeld => ?_)
    clear hK K
    try simp only [Act.put, List.setIfInBounds_toArray, List.set_cons_zero, List.set_cons_succ]
    refine rgnTake 7 rfl (by kernel_rfl) (by kernel_rfl) (by kernel_rfl) (fun _ _ _ h => h) (by rfl) (v := ?v14) ?hy14 hHeld ?rest14
    case hy14 => (intro v hSw; obtain ⟨y0, y1⟩ := hSw; first | (go_simp; done) | (go_simp; with_reducible rfl))
    try simp only [Act.put, List.setIfInBounds_toArray, List.set_cons_zero, List.set_cons_succ]
    refine rgnTake 8 rfl (by kernel_rfl) (by kernel_rfl) (by kernel_rfl) (fun _ _ _ h => h) (by rfl) (v := ?v15) ?hy15 hHeld ?rest15
    case hy15 => (intro v hSw; obtain ⟨y0, y1⟩ := hSw; first | (go_simp; done) | (go_simp; with_reducible rfl))
    try simp only [Act.put, List.setIfInBounds_toArray, List.set_cons_zero, List.set_cons_succ]
    refine rgnTake 9 rfl (by kernel_rfl) (by kernel_rfl) (by kernel_rfl) (fun _ _ _ h => h) (by rfl) (v := ?v16) ?hy16 hHeld ?rest16
    case hy16 => (intro v hSw; obtain ⟨y0, y1⟩ := hSw; first | (go_simp; done) | (go_simp; with_reducible rfl))
    try simp only [Act.put, List.setIfInBounds_toArray, List.set_cons_zero, List.set_cons_succ]
    have PA := Lib.hid (PA2.out.below hb2)
    have BK := B2
    have B3 := Lib.hid (below_then BW.out BK.out)
    clear hb2
    obtain ⟨W3, hW3⟩ : ∃ W3, W3 = W2 := ⟨_, rfl⟩
    rw [← hW3] at PA BK B3 ⊢
    clear hW3
    refine rgnOne 11 rfl (by kernel_rfl) (fun K hK => ?_)
    have f0 := PA.out.frozen 0
    have f1 := PA.out.frozen 1
    have f2 := PA.out.frozen 2
    have f3 := PA.out.frozen 3
    have f4 := PA.out.frozen 4
    obtain ⟨d0, d1, d2, d3, d4⟩ := row5 PA.out
    go_simp
    have hS := Lib.hid (setV_row (w := W3) (g := p) (x := ⟨sq, gn, ⟨nu, t, bt⟩⟩) (y := Ver.Z) PA.out)
    have hBl := Lib.hid (setV_below (B := W.heap.size) (w := W3) (g := p) (x := ⟨sq, gn, ⟨nu, t, bt⟩⟩) B3.out PL.out)
    have hBk := Lib.hid (setV_below (B := w1.heap.size) (w := W3) (g := p) (x := ⟨sq, gn, ⟨nu, t, bt⟩⟩) BK.out PK.out)
    obtain ⟨W4, hW4⟩ : ∃ W4, W4 = setV W3 p ⟨sq, gn, ⟨nu, t, bt⟩⟩ := ⟨_, rfl⟩
    rw [← hW4] at hS hBl hBk
    refine hK.out _ _ (by have := CF.out _ hBk.out; rw [hW4] at this; exact this) (fun hHeld => ?_)
    have hW5 : W4 = ((((W3.setCell ⟨p, 0, none⟩ (.int .i64 sq)).setCell ⟨p, 1, none⟩ (.bool gn)).setCell ⟨p, 2, none⟩ (.bool nu)).setCell ⟨p, 3, none⟩ (.string t)).setCell ⟨p, 4, none⟩ (.int .u64 (bt : Int)) := hW4
    rw [← hW5] at hHeld ⊢
    clear hK K f0 f1 f2 f3 f4 d0 d1 d2 d3 d4 hW5 hW4
    try simp only [Act.put, List.setIfInBounds_toArray, List.set_cons_zero, List.set_cons_succ]
    refine rgnTake 12 rfl (by kernel_rfl) (by kernel_rfl) (by kernel_rfl) (fun _ _ _ h => h) (by rfl) (v := ?v17) ?hy17 hHeld ?rest17
    case hy17 => (intro v hSw; obtain ⟨y0, y1⟩ := hSw; first | (go_simp; done) | (go_simp; with_reducible rfl))
    try simp only [Act.put, List.setIfInBounds_toArray, List.set_cons_zero, List.set_cons_succ]
    refine wpAnyH_done (by kernel_rfl) ?_ _
    clear hHeld
    have s0 : W4.cell? ⟨p, 0, none⟩ = some (.int .i64 sq) := hS.out.cell 0
    have c5 := C5.out _ hBl.out
    go_wp2_with fail
    go_ret
    exact ⟨by rw [E.out]; rfl, hBl.out⟩
set_option maxRecDepth 100000 in
set_option maxHeartbeats 2000000 in
/-- slices.IndexFunc, of behind's closure -/
theorem xIndexFuncR {b3 b5 : Nat} {q : Int} (ws : List Wr) (A : Option Addr) (c : Nat) (hw : SlWr w A ws) (hl : ws.length ≤ 1000) (h : Side w0 N w (s.os b ++ os2)) (a : s.AtF L P) (hq : 0 ≤ q) (h3 : w.cell? ⟨b3, 0, none⟩ = some (PtrM b)) (h5 : w.cell? ⟨b5, 0, none⟩ = some (.int .i64 q)) :
    Calls Tryz.prog 128 #[.slice A ws.length c, .func (.func 105) #[] #[.pointer (some ⟨b3, 0, none⟩), .pointer (some ⟨b5, 0, none⟩)]] w fun e w' => ∃ z : Int, e = .returned (.int .i64 z) ∧ decide (0 ≤ z) = ws.any (fun x => since L x.key q) ∧ Below w.heap.size w w' := by
  have KB := Lib.hid (fun i W (hb : Below w.heap.size w W) => xBehind1R (b3 := b3) (b5 := b5) (ws.getD i Wr.Z) W (h.below hb) a hq ((hb.cell (p := ⟨b3, 0, none⟩) (World.block_lt_of_cell? w _ h3)).trans h3) ((hb.cell (p := ⟨b5, 0, none⟩) (World.block_lt_of_cell? w _ h5)).trans h5))
  obtain ⟨T, hT⟩ : ∃ T, T = ws.any (fun x => since L x.key q) := ⟨_, rfl⟩
  rw [← hT]
  have AY := Lib.hid (fun i (hi : i < ws.length) (hh : since L (ws.getD i Wr.Z).key q = true) => show T = true from by
    rw [hT, List.any_eq_true]
    refine ⟨ws[i], List.getElem_mem hi, ?_⟩
    rwa [List.getD_eq_getElem?_getD, List.getElem?_eq_getElem hi] at hh)
  have AN := Lib.hid (fun (hh : ∀ i, i < ws.length → since L (ws.getD i Wr.Z).key q = false) => show T = false from by
    rw [hT, List.any_eq_false]
    intro x hx
    obtain ⟨i, hi, rfl⟩ := List.getElem_of_mem hx
    have := hh i hi
    rw [List.getD_eq_getElem?_getD, List.getElem?_eq_getElem hi] at this
    exact Bool.eq_false_iff.1 this)
  obtain ⟨n, hn⟩ : ∃ n, n = ws.length := ⟨_, rfl⟩
  rw [← hn] at hl AY AN ⊢
  have HN := Lib.hid hn
  have HS := Lib.hid hw
  clear h a hq h3 h5 hT hn hw
  go_enter Tryz.func128, Tryz.ntmps128
  go_wp2_with fail
  go_loopw [8] (fun vi wr => ∃ i : Nat, i ≤ n ∧ vi = .int .i64 i ∧ Hid (∀ j, j < i → since L (ws.getD j Wr.Z).key q = false) ∧ Hid (Below w.heap.size w wr)) (fun vi _ => n - (intOf vi).toNat)
  case atStart => exact ⟨0, Nat.zero_le _, rfl, Lib.hid (fun j hj => by cases hj), Lib.hid (Below.refl _ _)⟩
  case round =>
    obtain ⟨i, hi, rfl, HM, HB⟩ := hrel
    by_cases z : i < n
    · obtain ⟨bb, o, rfl, hb, c0, c1, c2, c3, c4⟩ := (HS.out.below HB.out).at (j := i) (by rw [← HN.out]; exact z)
      have KB1 := KB.out i wr HB.out
      have AY1 := Lib.hid (AY.out i z)
      have HM2 := Lib.hid (fun (hf : since L (ws.getD i Wr.Z).key q = false) j (hj : j < i + 1) => show since L (ws.getD j Wr.Z).key q = false from by
        by_cases e : j = i
        · rw [e]; exact hf
        · exact HM.out j (by omega))
      obtain ⟨x, hx⟩ : ∃ x, x = ws.getD i Wr.Z := ⟨_, rfl⟩
      rw [← hx] at c0 c1 c2 c3 c4 KB1 AY1 HM2
      obtain ⟨S, hS⟩ : ∃ S, S = since L x.key q := ⟨_, rfl⟩
      rw [← hS] at KB1 AY1 HM2
      obtain ⟨k, g, v⟩ := x
      obtain ⟨nm, t, bt⟩ := v
      have KB1 := Lib.hid KB1
      have KB1 : Hid (Calls Tryz.prog 105 #[.agg #[.string k, .bool g, .bool nm, .string t, .int .u64 (bt : Int)], .pointer (some ⟨b3, 0, none⟩), .pointer (some ⟨b5, 0, none⟩)] wr fun e w' => e = .returned (.bool S) ∧ Below wr.heap.size wr w') := KB1
      have i0 : (0 : Int) ≤ (i : Int) := by omega
      have i1 : (i : Int) < (n : Int) := by omega
      have c0 : wr.cell? ⟨bb, o + i * 5, none⟩ = some (.string k) := c0
      have c1 : wr.cell? ⟨bb, o + i * 5 + 1, none⟩ = some (.bool g) := c1
      have c2 : wr.cell? ⟨bb, o + i * 5 + 2, none⟩ = some (.bool nm) := c2
      have c3 : wr.cell? ⟨bb, o + i * 5 + 3, none⟩ = some (.string t) := c3
      have c4 : wr.cell? ⟨bb, o + i * 5 + 4, none⟩ = some (.int .u64 (bt : Int)) := c4
      clear hx hS hb
      go_wp2_with fail
      refine KB1.out.mono ?_
      rintro r w2 ⟨rfl, hb2⟩
      have B2 := Lib.hid (below_then HB.out hb2)
      clear hb2 c0 c1 c2 c3 c4
      cases S with
      | true =>
        have e := Lib.hid (AY1.out rfl)
        go_wp2_with fail
        go_ret
        exact ⟨_, rfl, by rw [e.out]; exact decide_eq_true i0, B2.out⟩
      | false =>
        have HM3 := Lib.hid (HM2.out rfl)
        go_wp2_with fail
        go_roundw
        case rel => exact ⟨i + 1, by omega, by go_num, HM3, B2⟩
        case measure => simp [intOf]; omega
    · obtain rfl : i = n := by omega
      have e := Lib.hid (AN.out HM.out)
      go_wp2_with fail
      go_ret
      exact ⟨_, rfl, by rw [e.out]; rfl, HB.out⟩
set_option maxRecDepth 100000 in
set_option maxHeartbeats 1000000 in
/-- behind -/
theorem xBehindR (ws : List Wr) (A : Option Addr) (c : Nat) (q : Int) (hw : SlWr w A ws) (hl : ws.length ≤ 1000) (h : Side w0 N w (s.os b ++ os2)) (a : s.AtF L P) (hq : 0 ≤ q) :
    Calls Tryz.prog 71 #[PtrM b, .slice A ws.length c, .int .i64 q] w fun e w' => e = .returned (.bool (ws.any (fun x => since L x.key q))) ∧ Below w.heap.size w w' := by
  obtain ⟨X, hX⟩ : ∃ X, X = w.heap.size := ⟨_, rfl⟩
  obtain ⟨w2, hw2⟩ : ∃ w2, w2 = (w.alloc (.cells #[PtrM b] 28)).alloc (.cells #[.int .i64 q] 3) := ⟨_, rfl⟩
  have r1 : RowAt w2 X [PtrM b] 28 := by rw [hw2, hX]; exact (RowAt.new w [PtrM b] _).alloc _
  have r2 : RowAt w2 (X + 1) [.int .i64 q] 3 := by
    have := RowAt.new (w.alloc (.cells #[PtrM b] 28)) [.int .i64 q] 3
    rw [World.size_alloc, ← hX] at this
    rw [hw2]; exact this
  have hb : Below w.heap.size w w2 := by rw [hw2]; exact ((Below.refl _ _).alloc (Nat.le_refl _) _).alloc (by simp) _
  have KI := Lib.hid (xIndexFuncR (b3 := X) (b5 := X + 1) ws A c (hw.below hb) hl (h.below hb) a hq (r1.cell 0) (r2.cell 0))
  obtain ⟨T, hT⟩ : ∃ T, T = ws.any (fun x => since L x.key q) := ⟨_, rfl⟩
  rw [← hT] at KI ⊢
  obtain ⟨n, hn⟩ : ∃ n, n = ws.length := ⟨_, rfl⟩
  rw [← hn] at KI ⊢
  have HW2 := Lib.hid hw2
  have HX := Lib.hid hX
  have HB := Lib.hid hb
  have CC := Lib.hid (show Calls Tryz.prog 104 #[.slice A n c, .func (.func 105) #[] #[.pointer (some ⟨X, 0, none⟩), .pointer (some ⟨X + 1, 0, none⟩)]] w2 fun e w' => e = .returned (.bool T) ∧ Below w2.heap.size w2 w' from by
    clear h a hq hw hl hX hw2 r1 r2 hb hT hn
    go_enter Tryz.func104, Tryz.ntmps104
    go_wp2_with fail
    refine KI.out.mono ?_
    rintro e w3 ⟨z, rfl, hz, hb3⟩
    have HZ := Lib.hid hz
    have B3 := Lib.hid hb3
    clear hz hb3
    go_wp2_with fail
    go_ret
    exact ⟨by rw [← HZ.out]; rfl, B3.out⟩)
  clear h a hq hw hl hX hw2 r1 r2 hb hT hn KI
  go_enter Tryz.func71, Tryz.ntmps71
  go_wp2_with fail
  rw [← HW2.out, ← HX.out]
  refine CC.out.mono ?_
  rintro e w3 ⟨rfl, hb3⟩
  have B3 := Lib.hid (below_then HB.out hb3)
  clear hb3
  go_wp2_with fail
  go_ret
  exact ⟨rfl, B3.out⟩
end

end Go.Proofs.YtiiokmfnohifmaaGreat

namespace Go.Proofs.YtiiokmfnohifmaaGreat
open Go.RowKit

section
variable {w0 w : World} {N : Nat → Prop} {b : Nat} {s : Sh} {L : Ch} {P : Nat} {os2 : List Ob}
set_option maxRecDepth 100000 in
set_option maxHeartbeats 2000000 in
/-- Check -/
theorem xCheckR (h : Side w0 N w (s.os b ++ os2)) (a : s.At L P) (ws : List Wr) (A : Option Addr) (c : Nat) (q : Int) (hw : SlWr w A ws) (hf : FitsW ws) (ht : ∀ x, x ∈ ws → x.val.txt.size ≤ 1000) (hl : ws.length ≤ 1000)
    (hG : mayW ws = true → (s.r.seq : Int) < s.g3 → ∀ i, i ≤ ws.length → GoodC (L.withW (ws.take i) ((s.r.seq : Int) + 1)) ∧ (L.withW (ws.take i) ((s.r.seq : Int) + 1)).length ≤ 10000) :
    Calls Tryz.prog 29 #[PtrM b, .slice A ws.length c, .int .i64 q] w fun e w' => e = .returned (.int .i64 (chkE s.r L ws q s.g2 s.g3)) ∧ Below w.heap.size w w' := by
  have MY := Lib.hid (fun W (hb : Below w.heap.size w W) => xMayR ws A c W (hw.below hb) hf)
  have FL := Lib.hid (fun W (hb : Below w.heap.size w W) => xFloorR (h.below hb))
  have SQ := Lib.hid (fun W (hb : Below w.heap.size w W) => xSeqR (h.below hb))
  have BH := Lib.hid (fun (hq : 0 ≤ q) W (hb : Below w.heap.size w W) => xBehindR ws A c q (hw.below hb) hl (h.below hb) a.f hq)
  have FT := Lib.hid (fun (hm : mayW ws = true) W (hb : Below w.heap.size w W) => xFitsR (h.below hb) a ws A c (hw.below hb) hf ht hm (hG hm))
  obtain ⟨n, hn⟩ : ∃ n, n = ws.length := ⟨_, rfl⟩
  obtain ⟨M, hM⟩ : ∃ n, n = mayW ws := ⟨_, rfl⟩
  obtain ⟨f, hfl⟩ : ∃ n, n = s.r.floor := ⟨_, rfl⟩
  obtain ⟨y, hy⟩ : ∃ n, n = s.r.seq := ⟨_, rfl⟩
  obtain ⟨S, hS⟩ : ∃ n, n = ws.any (fun x => since L x.key q) := ⟨_, rfl⟩
  obtain ⟨Z, hZ⟩ : ∃ n, n = spcE s.r L ws s.g2 s.g3 := ⟨_, rfl⟩
  obtain ⟨T, hT⟩ : ∃ n, n = chkE s.r L ws q s.g2 s.g3 := ⟨_, rfl⟩
  have ET := Lib.hid (show T = if M = false then 1 else if q < (f : Int) ∨ (y : Int) < q then 14 else if S = true then 13 else Z from by rw [hT, hM, hfl, hy, hS, hZ]; rfl)
  rw [← hT]
  simp only [← hn, ← hM] at MY
  simp only [← hfl] at FL
  simp only [← hy] at SQ
  simp only [← hn, ← hS] at BH
  simp only [← hn, ← hZ, ← hM] at FT
  rw [← hn]
  clear h a hw hf ht hl hG hn hM hfl hy hS hZ hT
  go_enter Tryz.func29, Tryz.ntmps29
  go_wp2_with fail
  refine (MY.out _ (Below.refl _ _)).mono ?_
  rintro e w1 ⟨rfl, hb1⟩
  have B1 := Lib.hid hb1
  clear hb1
  cases M with
  | false =>
    have e : T = 1 := ET.out
    subst e
    go_wp2_with fail
    go_ret
    exact ⟨rfl, B1.out⟩
  | true =>
    go_wp2_with fail
    refine (FL.out _ B1.out).mono ?_
    rintro e w2 ⟨rfl, hb2⟩
    have B2 := Lib.hid (below_then B1.out hb2)
    clear hb2
    by_cases z1 : q < (f : Int)
    · have e : T = 14 := by rw [ET.out, if_neg (by decide), if_pos (.inl z1)]
      subst e
      go_wp2_with fail
      go_ret
      exact ⟨rfl, B2.out⟩
    · go_wp2_with fail
      refine (SQ.out _ B2.out).mono ?_
      rintro e w3 ⟨rfl, hb3⟩
      have B3 := Lib.hid (below_then B2.out hb3)
      clear hb3
      by_cases z2 : (y : Int) < q
      · have e : T = 14 := by rw [ET.out, if_neg (by decide), if_pos (.inr z2)]
        subst e
        go_wp2_with fail
        go_ret
        exact ⟨rfl, B3.out⟩
      · have E := Lib.hid (show T = if S = true then 13 else Z from by rw [ET.out, if_neg (by decide), if_neg (by rintro (z | z) <;> omega)])
        have BH' := Lib.hid (BH.out (by omega) _ B3.out)
        go_wp2_with fail
        refine BH'.out.mono ?_
        rintro e w4 ⟨rfl, hb4⟩
        have B4 := Lib.hid (below_then B3.out hb4)
        clear hb4
        cases S with
        | true =>
          have e : T = 13 := E.out
          subst e
          go_wp2_with fail
          go_ret
          exact ⟨rfl, B4.out⟩
        | false =>
          have e : T = Z := E.out
          subst e
          have FT' := Lib.hid (FT.out (by simp) _ B4.out)
          go_wp2_with fail
          refine FT'.out.mono ?_
          rintro e w5 ⟨rfl, hb5⟩
          have B5 := Lib.hid (below_then B4.out hb5)
          clear hb5
          go_wp2_with fail
          go_ret
          exact ⟨rfl, B5.out⟩
theorem SlWr.side {W : World} {A : Option Addr} {ws : List Wr} {os : List Ob} (hw : SlWr w0 A ws) (hA : 0 < ws.length → ∀ a, A = some a → N a.block) (h : Side w0 N W os) : SlWr W A ws := fun hp => by
  obtain ⟨g, o, rfl, hlt, hc⟩ := hw hp
  have hN := hA hp _ rfl
  have e : ∀ j, W.cell? ⟨g, j, none⟩ = w0.cell? ⟨g, j, none⟩ := fun j => World.cell?_of_block (h.chg.block g hlt fun z => z hN)
  refine ⟨g, o, rfl, Nat.lt_of_lt_of_le hlt h.size, fun j hj => ?_⟩
  rw [e, e, e, e, e]
  exact hc j hj
/-- the ring turned -/
def Sh.ringTo (s : Sh) (r : Rg) : Sh := { s with r := r }
theorem Sh.At.ring (a : s.At L P) (r : Rg) : (s.ringTo r).At L P := ⟨⟨a.f.fine, a.f.t0, a.f.n1, a.f.n2, a.f.n3, a.f.n4, a.f.good, a.f.right, a.f.n5⟩, a.x1, a.x2, a.x3⟩
theorem Sh.Hd.trans {a b c : Sh} (h : Sh.Hd a b) (k : Sh.Hd b c) : Sh.Hd a c := ⟨k.1.trans h.1, k.2.1.trans h.2.1, k.2.2.1.trans h.2.2.1, k.2.2.2.1.trans h.2.2.2.1, k.2.2.2.2.1.trans h.2.2.2.2.1, k.2.2.2.2.2.1.trans h.2.2.2.2.2.1, k.2.2.2.2.2.2.trans h.2.2.2.2.2.2⟩
end

end Go.Proofs.YtiiokmfnohifmaaGreat

namespace Go.Proofs.YtiiokmfnohifmaaGreat
open Go.RowKit

set_option maxRecDepth 100000 in
set_option maxHeartbeats 1000000 in
/-- Right -/
theorem xRightR (A : Option Addr) (c : Nat) (zs : List Int) (g1 g2 g3 : Int) (w : World) (h : Sl w A zs) (hm : zs.length ≤ maxLen) :
    Calls Tryz.prog 9 #[.agg #[.slice A zs.length c, .int .i64 g1, .int .i64 g2, .int .i64 g3]] w fun e w' => e = .returned (.bool (stOk zs g1 g2 g3)) ∧ Below w.heap.size w w' := by
  have b0 : Below w.heap.size w (w.alloc (.cells #[.slice A zs.length c, .int .i64 g1, .int .i64 g2, .int .i64 g3] 24)) := (Below.refl _ _).alloc (Nat.le_refl _) _
  have CR := Lib.hid (lright A c zs _ (h.below b0) hm)
  have B0 := Lib.hid b0
  obtain ⟨n, hn⟩ : ∃ n, n = zs.length := ⟨_, rfl⟩
  obtain ⟨R, hR⟩ : ∃ R, R = La.right zs := ⟨_, rfl⟩
  obtain ⟨T, hT⟩ : ∃ T, T = stOk zs g1 g2 g3 := ⟨_, rfl⟩
  have eT : T = (R && (decide (1 ≤ g1) && (decide (g1 ≤ 16) && (decide (0 ≤ g2) && (decide (g2 ≤ 1048576) && (decide (1 ≤ g3) && decide (g3 ≤ 1073741824))))))) := by rw [hT, hR]; rfl
  rw [← hT]
  rw [← hR, ← hn] at CR
  rw [← hn] at B0 ⊢
  have ET := Lib.hid eT
  clear h hm hn hR hT eT b0
  go_enter Tryz.func9, Tryz.ntmps9
  go_wp2_with fail
  refine CR.out.mono ?_
  rintro e w1 ⟨rfl, rfl⟩
  have B1 := B0
  clear CR
  cases R with
  | false =>
    have e := Lib.hid (show T = false from ET.out)
    go_wp2_with fail
    go_ret
    exact ⟨by rw [e.out]; rfl, B1.out⟩
  | true =>
  by_cases p1 : (1 : Int) ≤ g1
  case neg =>
    have d1 : decide ((1 : Int) ≤ g1) = false := decide_eq_false p1
    have e := Lib.hid (show T = false by rw [ET.out, d1]; simp)
    clear p1
    go_wp2_with fail
    go_ret
    exact ⟨by rw [e.out]; rfl, B1.out⟩
  have d1 : decide ((1 : Int) ≤ g1) = true := decide_eq_true p1
  by_cases p2 : g1 ≤ (16 : Int)
  case neg =>
    have d2 : decide (g1 ≤ (16 : Int)) = false := decide_eq_false p2
    have e := Lib.hid (show T = false by rw [ET.out, d2]; simp)
    clear p1 p2
    go_wp2_with fail
    go_ret
    exact ⟨by rw [e.out]; rfl, B1.out⟩
  have d2 : decide (g1 ≤ (16 : Int)) = true := decide_eq_true p2
  by_cases p3 : (0 : Int) ≤ g2
  case neg =>
    have d3 : decide ((0 : Int) ≤ g2) = false := decide_eq_false p3
    have e := Lib.hid (show T = false by rw [ET.out, d3]; simp)
    clear p1 p2 p3
    go_wp2_with fail
    go_ret
    exact ⟨by rw [e.out]; rfl, B1.out⟩
  have d3 : decide ((0 : Int) ≤ g2) = true := decide_eq_true p3
  by_cases p4 : g2 ≤ (1048576 : Int)
  case neg =>
    have d4 : decide (g2 ≤ (1048576 : Int)) = false := decide_eq_false p4
    have e := Lib.hid (show T = false by rw [ET.out, d4]; simp)
    clear p1 p2 p3 p4
    go_wp2_with fail
    go_ret
    exact ⟨by rw [e.out]; rfl, B1.out⟩
  have d4 : decide (g2 ≤ (1048576 : Int)) = true := decide_eq_true p4
  by_cases p5 : (1 : Int) ≤ g3
  case neg =>
    have d5 : decide ((1 : Int) ≤ g3) = false := decide_eq_false p5
    have e := Lib.hid (show T = false by rw [ET.out, d5]; simp)
    clear p1 p2 p3 p4 p5
    go_wp2_with fail
    go_ret
    exact ⟨by rw [e.out]; rfl, B1.out⟩
  have d5 : decide ((1 : Int) ≤ g3) = true := decide_eq_true p5
  clear p1 p2 p3 p4 p5
  cases d6 : decide (g3 ≤ (1073741824 : Int)) with
  | false =>
    have e := Lib.hid (show T = false by rw [ET.out, d6]; simp)
    go_wp2_with fail
    go_ret
    exact ⟨by rw [e.out]; rfl, B1.out⟩
  | true =>
    have e := Lib.hid (show T = true by rw [ET.out, d1, d2, d3, d4, d5, d6]; rfl)
    go_wp2_with fail
    go_ret
    exact ⟨by rw [e.out]; rfl, B1.out⟩

set_option maxHeartbeats 1000000 in
set_option maxRecDepth 100000 in
/-- slices.Clone of a label -/
theorem scloneA (A : Option Addr) (c : Nat) (zs : List Int) (w : World) (h : Sl w A zs) (hl : zs.length ≤ 1024) :
    Calls Tryz.prog 56 #[.slice A zs.length c] w fun e w' => ∃ v, e = .returned v ∧ Own w' w.heap.size v zs ∧ Below w.heap.size w w' := by
  have RUN := fun w' : World => Lib.run_eql_slice_nil (P := Tryz.prog) w' 22 26 A zs.length c 0 0 Tryz.underlying22
  cases A with
  | none =>
    have e : zs = [] := by
      cases zs with
      | nil => rfl
      | cons z l => obtain ⟨_, _, e, _⟩ := h (by simp); cases e
    subst e
    simp only [Option.isNone_none, List.length_nil] at RUN
    have HO := Lib.hid (show Own w w.heap.size (.slice none 0 0) [] from ⟨by simp, .inl ⟨rfl, rfl⟩⟩)
    clear h hl
    go_enter Tryz.func56, Tryz.ntmps56
    go_wp2_with fail
    go_ret
    exact ⟨_, rfl, HO.out, Below.refl _ _⟩
  | some a =>
    have HA := Lib.hid h
    have OM := Lib.hid (Own.made w w.heap.size (Nat.le_refl _) [] (by simp))
    have BM := Lib.hid ((Below.refl w.heap.size w).alloc (Nat.le_refl _) (.cells (([] : List Int).map (Value.int .u64)).toArray 26))
    simp only [Option.isNone_some] at RUN
    clear h
    go_enter Tryz.func56, Tryz.ntmps56
    go_wp2_with (at_builtin; refine wp_putN rfl (.tmp 5) (.tmp 6) rfl w.heap.size _ [] rfl OM.out (some a) c zs rfl (HA.out.alloc _) (fun e => by cases e) (by simp; omega) (by simp) ?_; intro v2 w2 hown2 hb2; have HO2 := Lib.hid hown2; have HB2 := Lib.hid (BM.out.trans hb2); clear hown2 hb2)
    go_ret
    exact ⟨v2, rfl, by simpa using HO2.out, HB2.out⟩

end Go.Proofs.YtiiokmfnohifmaaGreat
