/- agg's Tally, Of: walked. -/
import Derived.Test.YtoljhoabbaigdaaI1a
import Derived.Test.YtoljhoabbaigdaaG1s
import Derived.Laws.ResultCell
namespace Go.Proofs.Ytoljhoabbaigdaa
open Go.RowKit Ex Fl Ag Ieee
attribute [local go_sem] Oper.semAt_some

theorem results_cell_one15 {P : Program} {fn : Func} {p : Tmp} {ty : TypeId} (h : fn.results = #[.cell p ty]) (tmps : Array Value) (w : World) (g : Nat) (t : TypeId) (cs : List Value) (d : TypeDesc)
    (hp : tmps.getD p undef = .pointer (some ⟨g, 0, none⟩)) (hg : RowAt w g cs t)
    (hu : P.underlying ty = some d) (hd : (match d with | .struct _ | .array _ _ => true | _ => false) = true) (hi : (P.info? ty).map (·.size) = some cs.toArray.size) :
    (results fn tmps).run P w = .ok (.agg cs.toArray) w :=
  results_cell_row h tmps w g t cs.toArray _ d hp hg hu hd hi

theorem mBits (x : Nat) (w : World) : Calls Try.prog 24 #[.float .f64 x] w fun e w' => e = .returned (.int .u64 (Fl.bitsOf x : Nat)) ∧ w' = w :=
  (nbits x w).mono (by rintro e w' ⟨rfl, rfl⟩; exact ⟨rfl, rfl⟩)

abbrev zT : List Value := [.int .i64 0, .int .u64 0, .int .u64 0, .int .u64 0, .int .u64 0]
theorem xTallyNil (w : World) : Calls Try.prog 11 #[.pointer none] w fun e w' => e = .returned (tal []) ∧ Below w.heap.size w w' := by
  have B0 := Lib.hid ((Below.refl w.heap.size w).alloc (Nat.le_refl _) (.cells zT.toArray 28))
  have R0 := Lib.hid (RowAt.new w zT 28)
  go_enter Try.func11, Try.ntmps11
  go_wp2_with fail
  refine bodyPost_ret (results_cell_one15 rfl _ _ w.heap.size _ zT _ rfl R0.out Try.underlying28 rfl (by kernel_rfl)) rfl ?_
  exact ⟨rfl, B0.out⟩

set_option maxRecDepth 100000 in
set_option maxHeartbeats 2000000 in
theorem xTally (b : Nat) (zs : List Nat) (w : World) (h : AdrAt w b zs) (hl : zs.length ≤ 1099511627776) :
    Calls Try.prog 11 #[PtrA b] w fun e w' => e = .returned (tal zs) ∧ Below w.heap.size w w' := by
  obtain ⟨s, l, m, row, hs, hlm⟩ := h
  obtain ⟨B, hB⟩ : ∃ B, B = w.heap.size := ⟨_, rfl⟩
  obtain ⟨n, hn⟩ : ∃ n, n = zs.length := ⟨_, rfl⟩
  rw [← hn] at row hl
  have row1 := row.alloc (.cells zT.toArray 28)
  have B0 := Lib.hid ((Below.refl w.heap.size w).alloc (Nat.le_refl _) (.cells zT.toArray 28))
  have R0 := RowAt.new w zT 28
  have blt := row.lt
  by_cases hz : zs = []
  · subst hz
    obtain rfl : n = 0 := hn
    have c0 := row1.cell 0
    simp only [List.getElem?_cons_zero] at c0
    have R0 := Lib.hid R0
    clear row row1 hs hlm hB blt hl
    go_enter Try.func11, Try.ntmps11
    go_wp2_with fail
    refine bodyPost_ret (results_cell_one15 rfl _ _ w.heap.size _ zT _ rfl R0.out Try.underlying28 rfl (by kernel_rfl)) rfl ?_
    exact ⟨rfl, B0.out⟩
  · obtain ⟨h1, h2⟩ := hlm hz
    have n0 : ((n : Int) == 0) = false := by
      have : n ≠ 0 := by rw [hn]; exact fun e => hz (List.eq_nil_of_length_eq_zero e)
      simp; omega
    have k0 := row1.cell 0
    simp only [List.getElem?_cons_zero] at k0
    obtain ⟨W1, hW1⟩ : ∃ W, W = w.alloc (.cells zT.toArray 28) := ⟨_, rfl⟩
    rw [← hW1] at row1 R0 B0
    rw [← hB] at R0
    have FI : floatOfInt .f64 (n : Int) = ofI (n : Int) := rfl
    obtain ⟨r, wq, hrun, hr, hw⟩ := wl_float (P := Try.prog) W1.drew .quo 36 s (floatOfInt .f64 (n : Int)) (by simp)
    have er : bitsOf r = mean zs := by
      rw [hr]
      show fopB (double.div s (ofI (n : Int))) = _
      rw [div_bits, hs, hn]; rfl
    have e1 : tal zs = .agg #[.int .i64 (n : Nat), .int .u64 (bitsOf s : Nat), .int .u64 (bitsOf l : Nat), .int .u64 (bitsOf m : Nat), .int .u64 (bitsOf r : Nat)] := by
      unfold tal
      rw [if_neg hz, hn, hs, h1, h2, er]
    rw [e1]
    have SQ : RowAt wq b [.int .i64 (n : Nat), .float .f64 s, .float .f64 l, .float .f64 m] 58 ∧ RowAt wq B zT 28 ∧ Below w.heap.size w wq := by
      rcases hw with rfl | rfl
      · exact ⟨row1, R0, B0.out.drew⟩
      · exact ⟨row1, R0, B0.out.drew.drew⟩
    obtain ⟨S1, S2, S3⟩ := SQ
    have c0 := row1.cell 0
    have c1 := row1.cell 1
    have c2 := row1.cell 2
    have c3 := row1.cell 3
    have x0 := S1.cell 0
    have x1 := S1.cell 1
    have x2 := S1.cell 2
    have x3 := S1.cell 3
    simp only [List.getElem?_cons_zero, List.getElem?_cons_succ] at c0 c1 c2 c3 x0 x1 x2 x3
    have z0 := S2.frozen 0
    have z1 := S2.frozen 1
    have z2 := S2.frozen 2
    have z3 := S2.frozen 3
    have z4 := S2.frozen 4
    have y0 := S2.cell 0
    have y1 := S2.cell 1
    have y2 := S2.cell 2
    have y3 := S2.cell 3
    have y4 := S2.cell 4
    simp only [List.getElem?_cons_zero, List.getElem?_cons_succ] at y0 y1 y2 y3 y4
    have HC := Lib.hid (And.intro c0 (And.intro c1 (And.intro c2 c3)))
    have HX := Lib.hid (And.intro x0 (And.intro x1 (And.intro x2 x3)))
    obtain ⟨Wf, hWf⟩ : ∃ W, W = ((((wq.setCell ⟨B, 0, none⟩ (.int .i64 (n : Nat))).setCell ⟨B, 1, none⟩ (.int .u64 (bitsOf s : Nat))).setCell ⟨B, 2, none⟩ (.int .u64 (bitsOf l : Nat))).setCell ⟨B, 3, none⟩ (.int .u64 (bitsOf m : Nat))).setCell ⟨B, 4, none⟩ (.int .u64 (bitsOf r : Nat)) := ⟨_, rfl⟩
    have RF : RowAt Wf B [.int .i64 (n : Nat), .int .u64 (bitsOf s : Nat), .int .u64 (bitsOf l : Nat), .int .u64 (bitsOf m : Nat), .int .u64 (bitsOf r : Nat)] 28 := by
      rw [hWf]; exact ((((S2.set 0 _).set 1 _).set 2 _).set 3 _).set 4 _
    have BF : Below w.heap.size w Wf := by
      have hb : w.heap.size ≤ B := by omega
      rw [hWf]; exact ((((S3.setCell (p := ⟨B, 0, none⟩) hb _).setCell (p := ⟨B, 1, none⟩) hb _).setCell (p := ⟨B, 2, none⟩) hb _).setCell (p := ⟨B, 3, none⟩) hb _).setCell (p := ⟨B, 4, none⟩) hb _
    have hbb : b ≠ B := by omega
    have SF : Wf.cell? ⟨b, 0, none⟩ = some (.int .i64 (n : Nat)) ∧ Wf.cell? ⟨b, 1, none⟩ = some (.float .f64 s) ∧ Wf.cell? ⟨b, 2, none⟩ = some (.float .f64 l) ∧ Wf.cell? ⟨b, 3, none⟩ = some (.float .f64 m) := by
      have S5 : RowAt Wf b [.int .i64 (n : Nat), .float .f64 s, .float .f64 l, .float .f64 m] 58 := by
        have nb : ∀ k, (⟨B, k, none⟩ : Addr).block ≠ b := fun k => fun e => hbb e.symm
        rw [hWf]; exact ((((S1.other (nb 0) _).other (nb 1) _).other (nb 2) _).other (nb 3) _).other (nb 4) _
      exact ⟨S5.cell 0, S5.cell 1, S5.cell 2, S5.cell 3⟩
    have SFH := Lib.hid SF
    have RFH := Lib.hid RF
    have BFH := Lib.hid BF
    have HWf := Lib.hid hWf
    have HB := Lib.hid hB
    have HW1 := Lib.hid hW1
    have CL := Lib.hid (mBits l)
    have CS := Lib.hid (mBits s)
    have CM := Lib.hid (mBits m)
    have CR := Lib.hid (nbits r)
    clear row row1 hs hlm hl hz h1 h2 hn hr hw er e1 S1 S2 S3 R0 RF BF SF hWf hB hW1 FI x0 x1 x2 x3 hbb blt
    go_enter Try.func11, Try.ntmps11
    go_wp2_with fail
    rw [← HB.out]
    rw [show w.alloc (.cells #[.int .i64 0, .int .u64 0, .int .u64 0, .int .u64 0, .int .u64 0] 28) = W1 from HW1.out.symm]
    refine wp_region_held_drew (S := (fun w' => w'.cell? ⟨b, 0, none⟩ = some (.int .i64 (n : Nat)) ∧ w'.cell? ⟨b, 1, none⟩ = some (.float .f64 s) ∧ w'.cell? ⟨b, 2, none⟩ = some (.float .f64 l) ∧ w'.cell? ⟨b, 3, none⟩ = some (.float .f64 m))) (by kernel_rfl) (HC.out) (fun hHeld => ?_)
    refine rgnTake 0 rfl (by kernel_rfl) (by kernel_rfl) (by kernel_rfl) (fun _ _ _ h => h) (by rfl) (v := ?v1) ?hy1 hHeld ?rest1
    case hy1 => (intro v hSw; obtain ⟨q0, q1, q2, q3⟩ := hSw; first | (go_simp; done) | (go_simp; with_reducible rfl))
    try simp only [Act.put, List.setIfInBounds_toArray, List.set_cons_zero, List.set_cons_succ]
    refine rgnTake 1 rfl (by kernel_rfl) (by kernel_rfl) (by kernel_rfl) (fun _ _ _ h => h) (by rfl) (v := ?v2) ?hy2 hHeld ?rest2
    case hy2 => (intro v hSw; obtain ⟨q0, q1, q2, q3⟩ := hSw; first | (go_simp; done) | (go_simp; with_reducible rfl))
    try simp only [Act.put, List.setIfInBounds_toArray, List.set_cons_zero, List.set_cons_succ]
    refine rgnTake 2 rfl (by kernel_rfl) (by kernel_rfl) (by kernel_rfl) (fun _ _ _ h => h) (by rfl) (v := ?v3) ?hy3 hHeld ?rest3
    case hy3 => (intro v hSw; obtain ⟨q0, q1, q2, q3⟩ := hSw; first | (go_simp; done) | (go_simp; with_reducible rfl))
    try simp only [Act.put, List.setIfInBounds_toArray, List.set_cons_zero, List.set_cons_succ]
    refine rgnTake 3 rfl (by kernel_rfl) (by kernel_rfl) (by kernel_rfl) (fun _ _ _ h => h) (by rfl) (v := ?v4) ?hy4 hHeld ?rest4
    case hy4 => (intro v hSw; obtain ⟨q0, q1, q2, q3⟩ := hSw; first | (go_simp; done) | (go_simp; with_reducible rfl))
    try simp only [Act.put, List.setIfInBounds_toArray, List.set_cons_zero, List.set_cons_succ]
    refine rgnTake 4 rfl (by kernel_rfl) (by kernel_rfl) (by kernel_rfl) (fun _ _ _ h => h) (by rfl) (v := ?v5) ?hy5 hHeld ?rest5
    case hy5 => (intro v hSw; obtain ⟨q0, q1, q2, q3⟩ := hSw; first | (go_simp; done) | (go_simp; with_reducible rfl))
    try simp only [Act.put, List.setIfInBounds_toArray, List.set_cons_zero, List.set_cons_succ]
    refine rgnTake 5 rfl (by kernel_rfl) (by kernel_rfl) (by kernel_rfl) (fun _ _ _ h => h) (by rfl) (v := ?v6) ?hy6 hHeld ?rest6
    case hy6 => (intro v hSw; obtain ⟨q0, q1, q2, q3⟩ := hSw; first | (go_simp; done) | (go_simp; with_reducible rfl))
    try simp only [Act.put, List.setIfInBounds_toArray, List.set_cons_zero, List.set_cons_succ]
    refine rgnTake 6 rfl (by kernel_rfl) (by kernel_rfl) (by kernel_rfl) (fun _ _ _ h => h) (by rfl) (v := ?v7) ?hy7 hHeld ?rest7
    case hy7 => (intro v hSw; obtain ⟨q0, q1, q2, q3⟩ := hSw; first | (go_simp; done) | (go_simp; with_reducible rfl))
    try simp only [Act.put, List.setIfInBounds_toArray, List.set_cons_zero, List.set_cons_succ]
    refine rgnTake 7 rfl (by kernel_rfl) (by kernel_rfl) (by kernel_rfl) (fun _ _ _ h => h) (by rfl) (v := ?v8) ?hy8 hHeld ?rest8
    case hy8 => (intro v hSw; obtain ⟨q0, q1, q2, q3⟩ := hSw; first | (go_simp; done) | (go_simp; with_reducible rfl))
    try simp only [Act.put, List.setIfInBounds_toArray, List.set_cons_zero, List.set_cons_succ]
    refine rgnCall 8 rfl (by kernel_rfl) (by kernel_rfl) (by kernel_rfl) (fun _ _ _ h => h) (by rfl) (v := .int .u64 (bitsOf s : Nat)) (fun v hSw => ⟨_, _, ?hx8, CS.out v⟩) hHeld ?restc8
    case hx8 => (first | (go_simp; done) | (go_simp; with_reducible rfl))
    try simp only [Act.put, List.setIfInBounds_toArray, List.set_cons_zero, List.set_cons_succ]
    refine rgnTake 9 rfl (by kernel_rfl) (by kernel_rfl) (by kernel_rfl) (fun _ _ _ h => h) (by rfl) (v := ?v9) ?hy9 hHeld ?rest9
    case hy9 => (intro v hSw; obtain ⟨q0, q1, q2, q3⟩ := hSw; first | (go_simp; done) | (go_simp; with_reducible rfl))
    try simp only [Act.put, List.setIfInBounds_toArray, List.set_cons_zero, List.set_cons_succ]
    refine rgnTake 10 rfl (by kernel_rfl) (by kernel_rfl) (by kernel_rfl) (fun _ _ _ h => h) (by rfl) (v := ?v10) ?hy10 hHeld ?rest10
    case hy10 => (intro v hSw; obtain ⟨q0, q1, q2, q3⟩ := hSw; first | (go_simp; done) | (go_simp; with_reducible rfl))
    try simp only [Act.put, List.setIfInBounds_toArray, List.set_cons_zero, List.set_cons_succ]
    refine rgnTake 11 rfl (by kernel_rfl) (by kernel_rfl) (by kernel_rfl) (fun _ _ _ h => h) (by rfl) (v := ?v11) ?hy11 hHeld ?rest11
    case hy11 => (intro v hSw; obtain ⟨q0, q1, q2, q3⟩ := hSw; first | (go_simp; done) | (go_simp; with_reducible rfl))
    try simp only [Act.put, List.setIfInBounds_toArray, List.set_cons_zero, List.set_cons_succ]
    refine rgnTake 12 rfl (by kernel_rfl) (by kernel_rfl) (by kernel_rfl) (fun _ _ _ h => h) (by rfl) (v := ?v12) ?hy12 hHeld ?rest12
    case hy12 => (intro v hSw; obtain ⟨q0, q1, q2, q3⟩ := hSw; first | (go_simp; done) | (go_simp; with_reducible rfl))
    try simp only [Act.put, List.setIfInBounds_toArray, List.set_cons_zero, List.set_cons_succ]
    refine rgnCall 13 rfl (by kernel_rfl) (by kernel_rfl) (by kernel_rfl) (fun _ _ _ h => h) (by rfl) (v := .int .u64 (bitsOf l : Nat)) (fun v hSw => ⟨_, _, ?hx13, CL.out v⟩) hHeld ?restc13
    case hx13 => (first | (go_simp; done) | (go_simp; with_reducible rfl))
    try simp only [Act.put, List.setIfInBounds_toArray, List.set_cons_zero, List.set_cons_succ]
    refine rgnTake 14 rfl (by kernel_rfl) (by kernel_rfl) (by kernel_rfl) (fun _ _ _ h => h) (by rfl) (v := ?v13) ?hy13 hHeld ?rest13
    case hy13 => (intro v hSw; obtain ⟨q0, q1, q2, q3⟩ := hSw; first | (go_simp; done) | (go_simp; with_reducible rfl))
    try simp only [Act.put, List.setIfInBounds_toArray, List.set_cons_zero, List.set_cons_succ]
    refine rgnTake 15 rfl (by kernel_rfl) (by kernel_rfl) (by kernel_rfl) (fun _ _ _ h => h) (by rfl) (v := ?v14) ?hy14 hHeld ?rest14
    case hy14 => (intro v hSw; obtain ⟨q0, q1, q2, q3⟩ := hSw; first | (go_simp; done) | (go_simp; with_reducible rfl))
    try simp only [Act.put, List.setIfInBounds_toArray, List.set_cons_zero, List.set_cons_succ]
    refine rgnTake 16 rfl (by kernel_rfl) (by kernel_rfl) (by kernel_rfl) (fun _ _ _ h => h) (by rfl) (v := ?v15) ?hy15 hHeld ?rest15
    case hy15 => (intro v hSw; obtain ⟨q0, q1, q2, q3⟩ := hSw; first | (go_simp; done) | (go_simp; with_reducible rfl))
    try simp only [Act.put, List.setIfInBounds_toArray, List.set_cons_zero, List.set_cons_succ]
    refine rgnTake 17 rfl (by kernel_rfl) (by kernel_rfl) (by kernel_rfl) (fun _ _ _ h => h) (by rfl) (v := ?v16) ?hy16 hHeld ?rest16
    case hy16 => (intro v hSw; obtain ⟨q0, q1, q2, q3⟩ := hSw; first | (go_simp; done) | (go_simp; with_reducible rfl))
    try simp only [Act.put, List.setIfInBounds_toArray, List.set_cons_zero, List.set_cons_succ]
    refine rgnCall 18 rfl (by kernel_rfl) (by kernel_rfl) (by kernel_rfl) (fun _ _ _ h => h) (by rfl) (v := .int .u64 (bitsOf m : Nat)) (fun v hSw => ⟨_, _, ?hx18, CM.out v⟩) hHeld ?restc18
    case hx18 => (first | (go_simp; done) | (go_simp; with_reducible rfl))
    try simp only [Act.put, List.setIfInBounds_toArray, List.set_cons_zero, List.set_cons_succ]
    refine rgnTake 19 rfl (by kernel_rfl) (by kernel_rfl) (by kernel_rfl) (fun _ _ _ h => h) (by rfl) (v := ?v17) ?hy17 hHeld ?rest17
    case hy17 => (intro v hSw; obtain ⟨q0, q1, q2, q3⟩ := hSw; first | (go_simp; done) | (go_simp; with_reducible rfl))
    try simp only [Act.put, List.setIfInBounds_toArray, List.set_cons_zero, List.set_cons_succ]
    refine rgnTake 20 rfl (by kernel_rfl) (by kernel_rfl) (by kernel_rfl) (fun _ _ _ h => h) (by rfl) (v := ?v18) ?hy18 hHeld ?rest18
    case hy18 => (intro v hSw; obtain ⟨q0, q1, q2, q3⟩ := hSw; first | (go_simp; done) | (go_simp; with_reducible rfl))
    try simp only [Act.put, List.setIfInBounds_toArray, List.set_cons_zero, List.set_cons_succ]
    refine rgnTake 21 rfl (by kernel_rfl) (by kernel_rfl) (by kernel_rfl) (fun _ _ _ h => h) (by rfl) (v := ?v19) ?hy19 hHeld ?rest19
    case hy19 => (intro v hSw; obtain ⟨q0, q1, q2, q3⟩ := hSw; first | (go_simp; done) | (go_simp; with_reducible rfl))
    try simp only [Act.put, List.setIfInBounds_toArray, List.set_cons_zero, List.set_cons_succ]
    refine rgnTake 22 rfl (by kernel_rfl) (by kernel_rfl) (by kernel_rfl) (fun _ _ _ h => h) (by rfl) (v := ?v20) ?hy20 hHeld ?rest20
    case hy20 => (intro v hSw; obtain ⟨q0, q1, q2, q3⟩ := hSw; first | (go_simp; done) | (go_simp; with_reducible rfl))
    try simp only [Act.put, List.setIfInBounds_toArray, List.set_cons_zero, List.set_cons_succ]
    refine rgnTake 23 rfl (by kernel_rfl) (by kernel_rfl) (by kernel_rfl) (fun _ _ _ h => h) (by rfl) (v := ?v21) ?hy21 hHeld ?rest21
    case hy21 => (intro v hSw; obtain ⟨q0, q1, q2, q3⟩ := hSw; first | (go_simp; done) | (go_simp; with_reducible rfl))
    try simp only [Act.put, List.setIfInBounds_toArray, List.set_cons_zero, List.set_cons_succ]
    refine rgnTake 24 rfl (by kernel_rfl) (by kernel_rfl) (by kernel_rfl) (fun _ _ _ h => h) (by rfl) (v := ?v22) ?hy22 hHeld ?rest22
    case hy22 => (intro v hSw; obtain ⟨q0, q1, q2, q3⟩ := hSw; first | (go_simp; done) | (go_simp; with_reducible rfl))
    try simp only [Act.put, List.setIfInBounds_toArray, List.set_cons_zero, List.set_cons_succ]
    refine rgnTake 25 rfl (by kernel_rfl) (by kernel_rfl) (by kernel_rfl) (fun _ _ _ h => h) (by rfl) (v := ?v23) ?hy23 hHeld ?rest23
    case hy23 => (intro v hSw; obtain ⟨q0, q1, q2, q3⟩ := hSw; first | (go_simp; done) | (go_simp; with_reducible rfl))
    try simp only [Act.put, List.setIfInBounds_toArray, List.set_cons_zero, List.set_cons_succ]
    refine rgnTake 26 rfl (by kernel_rfl) (by kernel_rfl) (by kernel_rfl) (fun _ _ _ h => h) (by rfl) (v := ?v24) ?hy24 hHeld ?rest24
    case hy24 => (intro v hSw; obtain ⟨q0, q1, q2, q3⟩ := hSw; first | (go_simp; done) | (go_simp; with_reducible rfl))
    try simp only [Act.put, List.setIfInBounds_toArray, List.set_cons_zero, List.set_cons_succ]
    refine rgnTake 27 rfl (by kernel_rfl) (by kernel_rfl) (by kernel_rfl) (fun _ _ _ h => h) (by rfl) (v := ?v25) ?hy25 hHeld ?rest25
    case hy25 => (intro v hSw; obtain ⟨q0, q1, q2, q3⟩ := hSw; first | (go_simp; done) | (go_simp; with_reducible rfl))
    try simp only [Act.put, List.setIfInBounds_toArray, List.set_cons_zero, List.set_cons_succ]
    refine rgnOne 28 rfl (by kernel_rfl) (fun K hK => ?_)
    go_simp
    refine hK.out _ _ (HX.out) (fun hHeld => ?_)
    clear hK K
    try simp only [Act.put, List.setIfInBounds_toArray, List.set_cons_zero, List.set_cons_succ]
    refine rgnOne 29 rfl (by kernel_rfl) (fun K hK => ?_)
    go_simp
    refine (CR.out _).mono ?_
    rintro e w5 ⟨rfl, rfl⟩
    refine hK.out _ _ (HX.out) (fun hHeld => ?_)
    clear hK K
    try simp only [Act.put, List.setIfInBounds_toArray, List.set_cons_zero, List.set_cons_succ]
    refine rgnOne 30 rfl (by kernel_rfl) (fun K hK => ?_)
    go_simp
    refine hK.out _ _ (HX.out) (fun hHeld => ?_)
    clear hK K
    try simp only [Act.put, List.setIfInBounds_toArray, List.set_cons_zero, List.set_cons_succ]
    refine rgnOne 31 rfl (by kernel_rfl) (fun K hK => ?_)
    go_simp
    rw [← HWf.out]
    refine hK.out _ _ SFH.out (fun hHeld => ?_)
    clear hK K
    try simp only [Act.put, List.setIfInBounds_toArray, List.set_cons_zero, List.set_cons_succ]
    refine wpAnyH_done (by kernel_rfl) ?_ _
    go_wp2_with fail
    refine bodyPost_ret (results_cell_one15 rfl _ _ B _ _ _ rfl RFH.out Try.underlying28 rfl (by kernel_rfl)) rfl ?_
    exact ⟨rfl, BFH.out⟩

end Go.Proofs.Ytoljhoabbaigdaa
