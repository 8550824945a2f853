/- Proved parts: D3d. Conditions: each theorem's own. -/
import Derived.Test.YtnbkekbgedioeaaM31
import Derived.Test.YtnbkekbgedioeaaM6
namespace Go.Proofs.Ytnbkekbgedioeaa
open Go.RowKit

set_option maxRecDepth 100000 in
set_option maxHeartbeats 4000000 in
/-- does: a call on both -/
theorem lDoesW {w0 w : World} {N : Nat → Prop} {os : List Ob} {i j s r : Nat} {a m : Ws} (h : Side w0 N w os) (hi : os[i]? = some (obS TS s a)) (hj : os[j]? = some (obS TR r m)) (hij : i ≠ j) (x : AcW) (hf : x.val.Fits) (hk : x.key.size ≤ 1000000) :
    Calls Try.prog 10 #[PtrW s, PtrW r, .agg #[.int .i64 x.kind, .string x.key, .bool x.val.num, .string x.val.txt, .int .u64 (x.val.bits : Int), .int .i64 x.n]] w fun e w' => e = .returned (.bool (decide (a.ans x = m.ans x))) ∧ Side w0 N w' ((os.set i (obS TS s (a.step x))).set j (obS TR r (m.step x))) := by
  obtain ⟨kd, k, v, n⟩ := x
  obtain ⟨B, hB⟩ : ∃ B, B = w.heap.size := ⟨_, rfl⟩
  obtain ⟨W0, hW0⟩ : ∃ W, W = w.alloc (.cells #[.int .i64 kd, .string k, .bool v.num, .string v.txt, .int .u64 (v.bits : Int), .int .i64 n] 36) := ⟨_, rfl⟩
  have h1 : Side w0 N W0 (os ++ [Ob.row B (AcW.cs ⟨kd, k, v, n⟩) 36]) := by rw [hW0, hB]; exact h.rowNew (AcW.cs ⟨kd, k, v, n⟩) 36
  obtain ⟨os1, ho1⟩ : ∃ os1, os1 = os ++ [Ob.row B (AcW.cs ⟨kd, k, v, n⟩) 36] := ⟨_, rfl⟩
  rw [← ho1] at h1
  have il : i < os.length := (List.getElem?_eq_some_iff.1 hi).1
  have jl : j < os.length := (List.getElem?_eq_some_iff.1 hj).1
  have i1 : os1[i]? = some (obS TS s a) := by rw [ho1]; exact Side.idx hi
  have j1 : os1[j]? = some (obS TR r m) := by rw [ho1]; exact Side.idx hj
  have j2 : ∀ o, (os1.set i o)[j]? = some (obS TR r m) := fun o => by rw [List.getElem?_set_ne hij]; exact j1
  have r1 : ∀ o, (os1.set i o)[os.length]? = some (Ob.row B (AcW.cs ⟨kd, k, v, n⟩) 36) := fun o => by rw [List.getElem?_set_ne (by omega), ho1]; exact Side.last
  have r2 : ∀ o o', ((os1.set i o).set j o')[os.length]? = some (Ob.row B (AcW.cs ⟨kd, k, v, n⟩) 36) := fun o o' => by rw [List.getElem?_set_ne (by omega)]; exact r1 o
  have BK := Lib.hid (fun W {o o' : Ob} (hh : Side w0 N W ((os1.set i o).set j o')) => show Side w0 N W ((os.set i o).set j o') from by
    have e : (os1.set i o).set j o' = ((os.set i o).set j o') ++ [Ob.row B (AcW.cs ⟨kd, k, v, n⟩) 36] := by
      rw [ho1, List.set_append_left _ _ il, List.set_append_left _ _ (by rw [List.length_set]; exact jl)]
    rw [e] at hh
    exact hh.drop)
  have RA := Lib.hid (fun W (l : List Ob) (hh : Side w0 N W l) (hl : l[os.length]? = some (Ob.row B (AcW.cs ⟨kd, k, v, n⟩) 36)) => show W.cell? ⟨B, 0, none⟩ = some (.int .i64 kd) ∧ W.cell? ⟨B, 1, none⟩ = some (.string k) ∧ W.cell? ⟨B, 2, none⟩ = some (.bool v.num) ∧ W.cell? ⟨B, 3, none⟩ = some (.string v.txt) ∧ W.cell? ⟨B, 4, none⟩ = some (.int .u64 (v.bits : Int)) ∧ W.cell? ⟨B, 5, none⟩ = some (.int .i64 n) from
    ⟨(hh.rowAt hl).cell 0, (hh.rowAt hl).cell 1, (hh.rowAt hl).cell 2, (hh.rowAt hl).cell 3, (hh.rowAt hl).cell 4, (hh.rowAt hl).cell 5⟩)
  have R1 := Lib.hid r1
  have R2 := Lib.hid r2
  have J2 := Lib.hid j2
  have RL := Lib.hid (show os1[os.length]? = some (Ob.row B (AcW.cs ⟨kd, k, v, n⟩) 36) from by rw [ho1]; exact Side.last)
  have H0 := Lib.hid h1
  have HB := Lib.hid hB
  have HW := Lib.hid hW0
  have PP := Lib.hid (fun W (hh : Side w0 N W os1) => sPut hh i1 k v hf)
  have PD := Lib.hid (fun W (hh : Side w0 N W os1) => sDel hh i1 k)
  have PM := Lib.hid (fun W (hh : Side w0 N W os1) => sMark hh i1)
  have PB := Lib.hid (fun W (hh : Side w0 N W os1) => sBack hh i1 n)
  have MW := Lib.hid (fun W (o : Ob) (g : Bool) (y : Val) (hy : y.Fits) (hh : Side w0 N W (os1.set i o)) => mWrite hh (j2 o) ⟨k, g, y⟩ hy hk)
  have MM := Lib.hid (fun W (o : Ob) (hh : Side w0 N W (os1.set i o)) => mMark hh (j2 o))
  have MB := Lib.hid (fun W (o : Ob) (hh : Side w0 N W (os1.set i o)) => mBack hh (j2 o) n)
  have SM := Lib.hid (show Side w0 N W0 ((os1.set i (obS TS s a)).set j (obS TR r m)) from by rw [set_same i1, set_same j1]; exact h1)
  have HF := Lib.hid hf
  have d := RA.out _ _ h1 RL.out
  obtain ⟨d0, d1, d2, d3, d4, d5⟩ := d
  clear h hi hj hij hf hk hB hW0 h1 ho1 il jl i1 j1 j2 r1 r2
  obtain ⟨vm, vt, vb⟩ := v
  by_cases k1 : kd = 1
  · subst k1
    have EA := Lib.hid (show decide (a.ans ⟨1, k, ⟨vm, vt, vb⟩, n⟩ = m.ans ⟨1, k, ⟨vm, vt, vb⟩, n⟩) = (a.L.wE ⟨k, false, ⟨vm, vt, vb⟩⟩ == m.L.wE ⟨k, false, ⟨vm, vt, vb⟩⟩) from by
      unfold Ws.ans
      rw [if_pos rfl, if_pos rfl]
      by_cases z : a.L.wE ⟨k, false, ⟨vm, vt, vb⟩⟩ = m.L.wE ⟨k, false, ⟨vm, vt, vb⟩⟩
      · rw [z]; simp
      · rw [decide_eq_false (fun e => z (Prod.mk.inj e).2), beq_eq_false_iff_ne.2 z])
    have ES1 := Lib.hid (show a.step ⟨1, k, ⟨vm, vt, vb⟩, n⟩ = a.wr ⟨k, false, ⟨vm, vt, vb⟩⟩ from if_pos rfl)
    have ES2 := Lib.hid (show m.step ⟨1, k, ⟨vm, vt, vb⟩, n⟩ = m.wr ⟨k, false, ⟨vm, vt, vb⟩⟩ from if_pos rfl)
    have QP : Hid (∀ W, Side w0 N W os1 → Calls Try.prog 22 #[PtrW s, .string k, .agg #[.bool vm, .string vt, .int .u64 (vb : Int)]] W fun e w' => e = .returned (.int .i64 (a.L.wE ⟨k, false, ⟨vm, vt, vb⟩⟩)) ∧ Side w0 N w' (os1.set i (obS TS s (a.wr ⟨k, false, ⟨vm, vt, vb⟩⟩)))) := PP
    have QW := Lib.hid (fun W (hh : Side w0 N W (os1.set i (obS TS s (a.wr ⟨k, false, ⟨vm, vt, vb⟩⟩)))) => show Calls Try.prog 24 #[PtrW r, .agg #[.string k, .bool false, .bool vm, .string vt, .int .u64 (vb : Int)]] W _ from MW.out W _ false ⟨vm, vt, vb⟩ HF.out hh)
    obtain ⟨E1, hE1⟩ : ∃ E, E = a.L.wE ⟨k, false, ⟨vm, vt, vb⟩⟩ := ⟨_, rfl⟩
    obtain ⟨E2, hE2⟩ : ∃ E, E = m.L.wE ⟨k, false, ⟨vm, vt, vb⟩⟩ := ⟨_, rfl⟩
    rw [← hE1, ← hE2] at EA
    simp only [← hE1] at QP
    simp only [← hE2] at QW
    obtain ⟨A1, hA1⟩ : ∃ A, A = a.wr ⟨k, false, ⟨vm, vt, vb⟩⟩ := ⟨_, rfl⟩
    obtain ⟨M1, hM1⟩ : ∃ A, A = m.wr ⟨k, false, ⟨vm, vt, vb⟩⟩ := ⟨_, rfl⟩
    simp only [← hA1] at ES1 QP QW
    simp only [← hM1] at ES2 QW
    clear hE1 hE2 hA1 hM1 PP PD PM PB MW MM MB SM HF
    go_enter Try.func10, Try.ntmps10
    go_upto_region 1 with fail
    rw [← HW.out, ← HB.out]
    go_wp2_with fail
    refine wp_region_held_drew (S := (fun w' => w'.cell? ⟨B, 0, none⟩ = some (.int .i64 1) ∧ w'.cell? ⟨B, 1, none⟩ = some (.string k) ∧ w'.cell? ⟨B, 2, none⟩ = some (.bool vm) ∧ w'.cell? ⟨B, 3, none⟩ = some (.string vt) ∧ w'.cell? ⟨B, 4, none⟩ = some (.int .u64 (vb : Int)) ∧ w'.cell? ⟨B, 5, none⟩ = some (.int .i64 n))) (by kernel_rfl) (⟨d0, d1, d2, d3, d4, d5⟩) (fun hHeld => ?_)
    refine rgnTake 0 rfl (by kernel_rfl) (by kernel_rfl) (by kernel_rfl) (fun _ _ _ h => h) (by rfl) (v := ?v1) ?hy1 hHeld ?rest1
    case hy1 => (intro v hSw; obtain ⟨y0, y1, y2, y3, y4, y5⟩ := hSw; first | (go_simp; done) | (go_simp; with_reducible rfl))
    try simp only [Act.put, List.setIfInBounds_toArray, List.set_cons_zero, List.set_cons_succ]
    refine rgnTake 1 rfl (by kernel_rfl) (by kernel_rfl) (by kernel_rfl) (fun _ _ _ h => h) (by rfl) (v := ?v2) ?hy2 hHeld ?rest2
    case hy2 => (intro v hSw; obtain ⟨y0, y1, y2, y3, y4, y5⟩ := hSw; first | (go_simp; done) | (go_simp; with_reducible rfl))
    try simp only [Act.put, List.setIfInBounds_toArray, List.set_cons_zero, List.set_cons_succ]
    refine rgnTake 2 rfl (by kernel_rfl) (by kernel_rfl) (by kernel_rfl) (fun _ _ _ h => h) (by rfl) (v := ?v3) ?hy3 hHeld ?rest3
    case hy3 => (intro v hSw; obtain ⟨y0, y1, y2, y3, y4, y5⟩ := hSw; first | (go_simp; done) | (go_simp; with_reducible rfl))
    try simp only [Act.put, List.setIfInBounds_toArray, List.set_cons_zero, List.set_cons_succ]
    refine rgnTake 3 rfl (by kernel_rfl) (by kernel_rfl) (by kernel_rfl) (fun _ _ _ h => h) (by rfl) (v := ?v4) ?hy4 hHeld ?rest4
    case hy4 => (intro v hSw; obtain ⟨y0, y1, y2, y3, y4, y5⟩ := hSw; first | (go_simp; done) | (go_simp; with_reducible rfl))
    try simp only [Act.put, List.setIfInBounds_toArray, List.set_cons_zero, List.set_cons_succ]
    refine rgnTake 4 rfl (by kernel_rfl) (by kernel_rfl) (by kernel_rfl) (fun _ _ _ h => h) (by rfl) (v := ?v5) ?hy5 hHeld ?rest5
    case hy5 => (intro v hSw; obtain ⟨y0, y1, y2, y3, y4, y5⟩ := hSw; first | (go_simp; done) | (go_simp; with_reducible rfl))
    try simp only [Act.put, List.setIfInBounds_toArray, List.set_cons_zero, List.set_cons_succ]
    refine rgnTake 6 rfl (by kernel_rfl) (by kernel_rfl) (by kernel_rfl) (fun _ _ _ h => h) (by rfl) (v := ?v6) ?hy6 hHeld ?rest6
    case hy6 => (intro v hSw; obtain ⟨y0, y1, y2, y3, y4, y5⟩ := hSw; first | (go_simp; done) | (go_simp; with_reducible rfl))
    try simp only [Act.put, List.setIfInBounds_toArray, List.set_cons_zero, List.set_cons_succ]
    refine rgnTake 7 rfl (by kernel_rfl) (by kernel_rfl) (by kernel_rfl) (fun _ _ _ h => h) (by rfl) (v := ?v7) ?hy7 hHeld ?rest7
    case hy7 => (intro v hSw; obtain ⟨y0, y1, y2, y3, y4, y5⟩ := hSw; first | (go_simp; done) | (go_simp; with_reducible rfl))
    try simp only [Act.put, List.setIfInBounds_toArray, List.set_cons_zero, List.set_cons_succ]
    refine rgnTake 8 rfl (by kernel_rfl) (by kernel_rfl) (by kernel_rfl) (fun _ _ _ h => h) (by rfl) (v := ?v8) ?hy8 hHeld ?rest8
    case hy8 => (intro v hSw; obtain ⟨y0, y1, y2, y3, y4, y5⟩ := hSw; first | (go_simp; done) | (go_simp; with_reducible rfl))
    try simp only [Act.put, List.setIfInBounds_toArray, List.set_cons_zero, List.set_cons_succ]
    refine rgnTake 9 rfl (by kernel_rfl) (by kernel_rfl) (by kernel_rfl) (fun _ _ _ h => h) (by rfl) (v := ?v9) ?hy9 hHeld ?rest9
    case hy9 => (intro v hSw; obtain ⟨y0, y1, y2, y3, y4, y5⟩ := hSw; first | (go_simp; done) | (go_simp; with_reducible rfl))
    try simp only [Act.put, List.setIfInBounds_toArray, List.set_cons_zero, List.set_cons_succ]
    refine rgnTake 10 rfl (by kernel_rfl) (by kernel_rfl) (by kernel_rfl) (fun _ _ _ h => h) (by rfl) (v := ?v10) ?hy10 hHeld ?rest10
    case hy10 => (intro v hSw; obtain ⟨y0, y1, y2, y3, y4, y5⟩ := hSw; first | (go_simp; done) | (go_simp; with_reducible rfl))
    try simp only [Act.put, List.setIfInBounds_toArray, List.set_cons_zero, List.set_cons_succ]
    refine rgnTake 11 rfl (by kernel_rfl) (by kernel_rfl) (by kernel_rfl) (fun _ _ _ h => h) (by rfl) (v := ?v11) ?hy11 hHeld ?rest11
    case hy11 => (intro v hSw; obtain ⟨y0, y1, y2, y3, y4, y5⟩ := hSw; first | (go_simp; done) | (go_simp; with_reducible rfl))
    try simp only [Act.put, List.setIfInBounds_toArray, List.set_cons_zero, List.set_cons_succ]
    refine rgnOne 5 rfl (by kernel_rfl) (fun K hK => ?_)
    go_simp
    refine Calls.mono (by with_reducible exact QP.out _ (H0.out.below (below_drew (Below.refl _ _)))) ?_
    rintro e w1 ⟨rfl, h1⟩
    have H1 := Lib.hid h1
    clear h1
    refine hK.out _ _ (RA.out _ _ H1.out (R1.out _)) (fun hHeld => ?_)
    clear hK K
    try simp only [Act.put, List.setIfInBounds_toArray, List.set_cons_zero, List.set_cons_succ]
    refine rgnOne 12 rfl (by kernel_rfl) (fun K hK => ?_)
    go_simp
    refine (QW.out _ H1.out).mono ?_
    rintro e w2 ⟨rfl, h2⟩
    have H2 := Lib.hid h2
    clear h2
    refine hK.out _ _ (RA.out _ _ H2.out (R2.out _ _)) (fun hHeld => ?_)
    clear hK K
    try simp only [Act.put, List.setIfInBounds_toArray, List.set_cons_zero, List.set_cons_succ]
    refine rgnTake 13 rfl (by kernel_rfl) (by kernel_rfl) (by kernel_rfl) (fun _ _ _ h => h) (by rfl) (v := ?v12) ?hy12 hHeld ?rest12
    case hy12 => (intro v hSw; obtain ⟨y0, y1, y2, y3, y4, y5⟩ := hSw; first | (go_simp; done) | (go_simp; with_reducible rfl))
    try simp only [Act.put, List.setIfInBounds_toArray, List.set_cons_zero, List.set_cons_succ]
    refine rgnTake 14 rfl (by kernel_rfl) (by kernel_rfl) (by kernel_rfl) (fun _ _ _ h => h) (by rfl) (v := ?v13) ?hy13 hHeld ?rest13
    case hy13 => (intro v hSw; obtain ⟨y0, y1, y2, y3, y4, y5⟩ := hSw; first | (go_simp; done) | (go_simp; with_reducible rfl))
    try simp only [Act.put, List.setIfInBounds_toArray, List.set_cons_zero, List.set_cons_succ]
    refine wpAnyH_done (by kernel_rfl) ?_ _
    clear d0 d1 d2 d3 d4 d5
    have H3 := Lib.hid (BK.out _ H2.out)
    go_wp2_with fail
    go_ret
    exact ⟨by rw [EA.out]; first | rfl | simp, by rw [ES1.out, ES2.out]; exact H3.out⟩
  have s1 : a.step ⟨kd, k, ⟨vm, vt, vb⟩, n⟩ = if kd = 2 then a.wr ⟨k, true, Val.V0⟩ else if kd = 3 then a.mk' else if kd = 4 then a.bk n else a := if_neg k1
  have s2 : m.step ⟨kd, k, ⟨vm, vt, vb⟩, n⟩ = if kd = 2 then m.wr ⟨k, true, Val.V0⟩ else if kd = 3 then m.mk' else if kd = 4 then m.bk n else m := if_neg k1
  have t1 : a.ans ⟨kd, k, ⟨vm, vt, vb⟩, n⟩ = if kd = 2 then (0, a.L.wE ⟨k, true, Val.V0⟩) else if kd = 3 then (a.mkN, a.mkE) else if kd = 4 then (0, a.bkE n) else (0, 0) := if_neg k1
  have t2 : m.ans ⟨kd, k, ⟨vm, vt, vb⟩, n⟩ = if kd = 2 then (0, m.L.wE ⟨k, true, Val.V0⟩) else if kd = 3 then (m.mkN, m.mkE) else if kd = 4 then (0, m.bkE n) else (0, 0) := if_neg k1
  rw [s1, s2, t1, t2]
  clear s1 s2 t1 t2
  by_cases k2 : kd = 2
  · subst k2
    rw [if_pos rfl, if_pos rfl, if_pos rfl, if_pos rfl]
    have QP := PD
    have QW := Lib.hid (fun W (hh : Side w0 N W (os1.set i (obS TS s (a.wr ⟨k, true, Val.V0⟩)))) => show Calls Try.prog 24 #[PtrW r, .agg #[.string k, .bool true, .bool false, .string ⟨#[]⟩, .int .u64 0]] W _ from MW.out W _ true Val.V0 ⟨by decide, by decide⟩ hh)
    obtain ⟨E1, hE1⟩ : ∃ E, E = a.L.wE ⟨k, true, Val.V0⟩ := ⟨_, rfl⟩
    obtain ⟨E2, hE2⟩ : ∃ E, E = m.L.wE ⟨k, true, Val.V0⟩ := ⟨_, rfl⟩
    rw [← hE1, ← hE2]
    simp only [← hE1] at QP
    simp only [← hE2] at QW
    obtain ⟨A1, hA1⟩ : ∃ A, A = a.wr ⟨k, true, Val.V0⟩ := ⟨_, rfl⟩
    obtain ⟨M1, hM1⟩ : ∃ A, A = m.wr ⟨k, true, Val.V0⟩ := ⟨_, rfl⟩
    rw [← hA1, ← hM1]
    simp only [← hA1] at QP QW
    simp only [← hM1] at QW
    obtain ⟨D, hD⟩ : ∃ D : Bool, D = decide (((0 : Int), E1) = ((0 : Int), E2)) := ⟨_, rfl⟩
    have EA := Lib.hid (show D = (E1 == E2) from by
      rw [hD]
      by_cases z : E1 = E2
      · rw [z]; simp
      · rw [decide_eq_false (fun e => z (Prod.mk.inj e).2), beq_eq_false_iff_ne.2 z])
    rw [← hD]
    clear hE1 hE2 hA1 hM1 hD PP PD PM PB MW MM MB SM HF k1
    go_enter Try.func10, Try.ntmps10
    go_upto_region 1 with fail
    rw [← HW.out, ← HB.out]
    go_wp2_with fail
    refine wp_region_held_drew (S := (fun w' => w'.cell? ⟨B, 0, none⟩ = some (.int .i64 2) ∧ w'.cell? ⟨B, 1, none⟩ = some (.string k) ∧ w'.cell? ⟨B, 2, none⟩ = some (.bool vm) ∧ w'.cell? ⟨B, 3, none⟩ = some (.string vt) ∧ w'.cell? ⟨B, 4, none⟩ = some (.int .u64 (vb : Int)) ∧ w'.cell? ⟨B, 5, none⟩ = some (.int .i64 n))) (by kernel_rfl) (⟨d0, d1, d2, d3, d4, d5⟩) (fun hHeld => ?_)
    refine rgnTake 0 rfl (by kernel_rfl) (by kernel_rfl) (by kernel_rfl) (fun _ _ _ h => h) (by rfl) (v := ?v14) ?hy14 hHeld ?rest14
    case hy14 => (intro v hSw; obtain ⟨y0, y1, y2, y3, y4, y5⟩ := hSw; first | (go_simp; done) | (go_simp; with_reducible rfl))
    try simp only [Act.put, List.setIfInBounds_toArray, List.set_cons_zero, List.set_cons_succ]
    refine rgnTake 1 rfl (by kernel_rfl) (by kernel_rfl) (by kernel_rfl) (fun _ _ _ h => h) (by rfl) (v := ?v15) ?hy15 hHeld ?rest15
    case hy15 => (intro v hSw; obtain ⟨y0, y1, y2, y3, y4, y5⟩ := hSw; first | (go_simp; done) | (go_simp; with_reducible rfl))
    try simp only [Act.put, List.setIfInBounds_toArray, List.set_cons_zero, List.set_cons_succ]
    refine rgnTake 2 rfl (by kernel_rfl) (by kernel_rfl) (by kernel_rfl) (fun _ _ _ h => h) (by rfl) (v := ?v16) ?hy16 hHeld ?rest16
    case hy16 => (intro v hSw; obtain ⟨y0, y1, y2, y3, y4, y5⟩ := hSw; first | (go_simp; done) | (go_simp; with_reducible rfl))
    try simp only [Act.put, List.setIfInBounds_toArray, List.set_cons_zero, List.set_cons_succ]
    refine rgnTake 4 rfl (by kernel_rfl) (by kernel_rfl) (by kernel_rfl) (fun _ _ _ h => h) (by rfl) (v := ?v17) ?hy17 hHeld ?rest17
    case hy17 => (intro v hSw; obtain ⟨y0, y1, y2, y3, y4, y5⟩ := hSw; first | (go_simp; done) | (go_simp; with_reducible rfl))
    try simp only [Act.put, List.setIfInBounds_toArray, List.set_cons_zero, List.set_cons_succ]
    refine rgnTake 5 rfl (by kernel_rfl) (by kernel_rfl) (by kernel_rfl) (fun _ _ _ h => h) (by rfl) (v := ?v18) ?hy18 hHeld ?rest18
    case hy18 => (intro v hSw; obtain ⟨y0, y1, y2, y3, y4, y5⟩ := hSw; first | (go_simp; done) | (go_simp; with_reducible rfl))
    try simp only [Act.put, List.setIfInBounds_toArray, List.set_cons_zero, List.set_cons_succ]
    refine rgnTake 6 rfl (by kernel_rfl) (by kernel_rfl) (by kernel_rfl) (fun _ _ _ h => h) (by rfl) (v := ?v19) ?hy19 hHeld ?rest19
    case hy19 => (intro v hSw; obtain ⟨y0, y1, y2, y3, y4, y5⟩ := hSw; first | (go_simp; done) | (go_simp; with_reducible rfl))
    try simp only [Act.put, List.setIfInBounds_toArray, List.set_cons_zero, List.set_cons_succ]
    refine rgnTake 7 rfl (by kernel_rfl) (by kernel_rfl) (by kernel_rfl) (fun _ _ _ h => h) (by rfl) (v := ?v20) ?hy20 hHeld ?rest20
    case hy20 => (intro v hSw; obtain ⟨y0, y1, y2, y3, y4, y5⟩ := hSw; first | (go_simp; done) | (go_simp; with_reducible rfl))
    try simp only [Act.put, List.setIfInBounds_toArray, List.set_cons_zero, List.set_cons_succ]
    refine rgnOne 3 rfl (by kernel_rfl) (fun K hK => ?_)
    go_simp
    refine Calls.mono (by with_reducible exact QP.out _ (H0.out.below (below_drew (Below.refl _ _)))) ?_
    rintro e w1 ⟨rfl, h1⟩
    have H1 := Lib.hid h1
    clear h1
    refine hK.out _ _ (RA.out _ _ H1.out (R1.out _)) (fun hHeld => ?_)
    clear hK K
    try simp only [Act.put, List.setIfInBounds_toArray, List.set_cons_zero, List.set_cons_succ]
    refine rgnOne 8 rfl (by kernel_rfl) (fun K hK => ?_)
    go_simp
    refine (QW.out _ H1.out).mono ?_
    rintro e w2 ⟨rfl, h2⟩
    have H2 := Lib.hid h2
    clear h2
    refine hK.out _ _ (RA.out _ _ H2.out (R2.out _ _)) (fun hHeld => ?_)
    clear hK K
    try simp only [Act.put, List.setIfInBounds_toArray, List.set_cons_zero, List.set_cons_succ]
    refine rgnTake 9 rfl (by kernel_rfl) (by kernel_rfl) (by kernel_rfl) (fun _ _ _ h => h) (by rfl) (v := ?v21) ?hy21 hHeld ?rest21
    case hy21 => (intro v hSw; obtain ⟨y0, y1, y2, y3, y4, y5⟩ := hSw; first | (go_simp; done) | (go_simp; with_reducible rfl))
    try simp only [Act.put, List.setIfInBounds_toArray, List.set_cons_zero, List.set_cons_succ]
    refine rgnTake 10 rfl (by kernel_rfl) (by kernel_rfl) (by kernel_rfl) (fun _ _ _ h => h) (by rfl) (v := ?v22) ?hy22 hHeld ?rest22
    case hy22 => (intro v hSw; obtain ⟨y0, y1, y2, y3, y4, y5⟩ := hSw; first | (go_simp; done) | (go_simp; with_reducible rfl))
    try simp only [Act.put, List.setIfInBounds_toArray, List.set_cons_zero, List.set_cons_succ]
    refine wpAnyH_done (by kernel_rfl) ?_ _
    clear d0 d1 d2 d3 d4 d5
    have H3 := Lib.hid (BK.out _ H2.out)
    go_wp2_with fail
    go_ret
    exact ⟨by rw [EA.out]; first | rfl | trivial | simp, H3.out⟩
  rw [if_neg k2, if_neg k2, if_neg k2, if_neg k2]
  by_cases k3 : kd = 3
  · subst k3
    rw [if_pos rfl, if_pos rfl, if_pos rfl, if_pos rfl]
    obtain ⟨E1, hE1⟩ : ∃ E, E = a.mkE := ⟨_, rfl⟩
    obtain ⟨E2, hE2⟩ : ∃ E, E = m.mkE := ⟨_, rfl⟩
    obtain ⟨N1, hN1⟩ : ∃ E, E = a.mkN := ⟨_, rfl⟩
    obtain ⟨N2, hN2⟩ : ∃ E, E = m.mkN := ⟨_, rfl⟩
    rw [← hE1, ← hE2, ← hN1, ← hN2]
    simp only [← hE1, ← hN1] at PM
    simp only [← hE2, ← hN2] at MM
    obtain ⟨A1, hA1⟩ : ∃ A, A = a.mk' := ⟨_, rfl⟩
    obtain ⟨M1, hM1⟩ : ∃ A, A = m.mk' := ⟨_, rfl⟩
    rw [← hA1, ← hM1]
    simp only [← hA1] at PM
    simp only [← hM1] at MM
    obtain ⟨D, hD⟩ : ∃ D : Bool, D = decide ((N1, E1) = (N2, E2)) := ⟨_, rfl⟩
    rw [← hD]
    have EA := Lib.hid (fun (h : N1 = N2) => show D = (E1 == E2) from by
      rw [hD, h]
      by_cases z : E1 = E2
      · rw [z]; simp
      · rw [decide_eq_false (fun e => z (Prod.mk.inj e).2), beq_eq_false_iff_ne.2 z])
    have EN := Lib.hid (fun (h : ¬ N1 = N2) => show D = false from by rw [hD]; exact decide_eq_false fun e => h (Prod.mk.inj e).1)
    clear hE1 hE2 hN1 hN2 hA1 hM1 hD PP PD PB MW MB SM HF k1 k2
    go_enter Try.func10, Try.ntmps10
    go_upto_region 1 with fail
    rw [← HW.out, ← HB.out]
    go_wp2_with fail
    refine (PM.out _ H0.out).mono ?_
    rintro e w1 ⟨rfl, h1⟩
    have H1 := Lib.hid h1
    clear h1 d0 d1 d2 d3 d4 d5
    go_wp2_with fail
    refine (MM.out _ _ H1.out).mono ?_
    rintro e w2 ⟨rfl, h2⟩
    have H3 := Lib.hid (BK.out _ h2)
    clear h2
    by_cases z : N1 = N2
    · have EA := Lib.hid (EA.out z)
      subst z
      clear EN
      go_wp2_with fail
      go_ret
      refine ⟨?_, H3.out⟩
      simp [EA.out]
    · have EA := Lib.hid (EN.out z)
      clear EN
      go_wp2_with fail
      go_ret
      exact ⟨by rw [EA.out]; first | rfl | trivial | simp, H3.out⟩
  rw [if_neg k3, if_neg k3, if_neg k3, if_neg k3]
  by_cases k4 : kd = 4
  · subst k4
    rw [if_pos rfl, if_pos rfl, if_pos rfl, if_pos rfl]
    obtain ⟨E1, hE1⟩ : ∃ E, E = a.bkE n := ⟨_, rfl⟩
    obtain ⟨E2, hE2⟩ : ∃ E, E = m.bkE n := ⟨_, rfl⟩
    rw [← hE1, ← hE2]
    simp only [← hE1] at PB
    simp only [← hE2] at MB
    obtain ⟨A1, hA1⟩ : ∃ A, A = a.bk n := ⟨_, rfl⟩
    obtain ⟨M1, hM1⟩ : ∃ A, A = m.bk n := ⟨_, rfl⟩
    rw [← hA1, ← hM1]
    simp only [← hA1] at PB
    simp only [← hM1] at MB
    obtain ⟨D, hD⟩ : ∃ D : Bool, D = decide (((0 : Int), E1) = ((0 : Int), E2)) := ⟨_, rfl⟩
    have EA := Lib.hid (show D = (E1 == E2) from by
      rw [hD]
      by_cases z : E1 = E2
      · rw [z]; simp
      · rw [decide_eq_false (fun e => z (Prod.mk.inj e).2), beq_eq_false_iff_ne.2 z])
    rw [← hD]
    clear hE1 hE2 hA1 hM1 hD PP PD PM MW MM SM HF k1 k2 k3
    go_enter Try.func10, Try.ntmps10
    go_upto_region 1 with fail
    rw [← HW.out, ← HB.out]
    go_wp2_with fail
    refine wp_region_held_drew (S := (fun w' => w'.cell? ⟨B, 0, none⟩ = some (.int .i64 4) ∧ w'.cell? ⟨B, 1, none⟩ = some (.string k) ∧ w'.cell? ⟨B, 2, none⟩ = some (.bool vm) ∧ w'.cell? ⟨B, 3, none⟩ = some (.string vt) ∧ w'.cell? ⟨B, 4, none⟩ = some (.int .u64 (vb : Int)) ∧ w'.cell? ⟨B, 5, none⟩ = some (.int .i64 n))) (by kernel_rfl) (⟨d0, d1, d2, d3, d4, d5⟩) (fun hHeld => ?_)
    refine rgnTake 0 rfl (by kernel_rfl) (by kernel_rfl) (by kernel_rfl) (fun _ _ _ h => h) (by rfl) (v := ?v23) ?hy23 hHeld ?rest23
    case hy23 => (intro v hSw; obtain ⟨y0, y1, y2, y3, y4, y5⟩ := hSw; first | (go_simp; done) | (go_simp; with_reducible rfl))
    try simp only [Act.put, List.setIfInBounds_toArray, List.set_cons_zero, List.set_cons_succ]
    refine rgnTake 1 rfl (by kernel_rfl) (by kernel_rfl) (by kernel_rfl) (fun _ _ _ h => h) (by rfl) (v := ?v24) ?hy24 hHeld ?rest24
    case hy24 => (intro v hSw; obtain ⟨y0, y1, y2, y3, y4, y5⟩ := hSw; first | (go_simp; done) | (go_simp; with_reducible rfl))
    try simp only [Act.put, List.setIfInBounds_toArray, List.set_cons_zero, List.set_cons_succ]
    refine rgnTake 2 rfl (by kernel_rfl) (by kernel_rfl) (by kernel_rfl) (fun _ _ _ h => h) (by rfl) (v := ?v25) ?hy25 hHeld ?rest25
    case hy25 => (intro v hSw; obtain ⟨y0, y1, y2, y3, y4, y5⟩ := hSw; first | (go_simp; done) | (go_simp; with_reducible rfl))
    try simp only [Act.put, List.setIfInBounds_toArray, List.set_cons_zero, List.set_cons_succ]
    refine rgnTake 4 rfl (by kernel_rfl) (by kernel_rfl) (by kernel_rfl) (fun _ _ _ h => h) (by rfl) (v := ?v26) ?hy26 hHeld ?rest26
    case hy26 => (intro v hSw; obtain ⟨y0, y1, y2, y3, y4, y5⟩ := hSw; first | (go_simp; done) | (go_simp; with_reducible rfl))
    try simp only [Act.put, List.setIfInBounds_toArray, List.set_cons_zero, List.set_cons_succ]
    refine rgnTake 5 rfl (by kernel_rfl) (by kernel_rfl) (by kernel_rfl) (fun _ _ _ h => h) (by rfl) (v := ?v27) ?hy27 hHeld ?rest27
    case hy27 => (intro v hSw; obtain ⟨y0, y1, y2, y3, y4, y5⟩ := hSw; first | (go_simp; done) | (go_simp; with_reducible rfl))
    try simp only [Act.put, List.setIfInBounds_toArray, List.set_cons_zero, List.set_cons_succ]
    refine rgnTake 6 rfl (by kernel_rfl) (by kernel_rfl) (by kernel_rfl) (fun _ _ _ h => h) (by rfl) (v := ?v28) ?hy28 hHeld ?rest28
    case hy28 => (intro v hSw; obtain ⟨y0, y1, y2, y3, y4, y5⟩ := hSw; first | (go_simp; done) | (go_simp; with_reducible rfl))
    try simp only [Act.put, List.setIfInBounds_toArray, List.set_cons_zero, List.set_cons_succ]
    refine rgnOne 3 rfl (by kernel_rfl) (fun K hK => ?_)
    go_simp
    refine Calls.mono (by with_reducible exact PB.out _ (H0.out.below (below_drew (Below.refl _ _)))) ?_
    rintro e w1 ⟨rfl, h1⟩
    have H1 := Lib.hid h1
    clear h1
    refine hK.out _ _ (RA.out _ _ H1.out (R1.out _)) (fun hHeld => ?_)
    clear hK K
    try simp only [Act.put, List.setIfInBounds_toArray, List.set_cons_zero, List.set_cons_succ]
    refine rgnOne 7 rfl (by kernel_rfl) (fun K hK => ?_)
    go_simp
    refine (MB.out _ _ H1.out).mono ?_
    rintro e w2 ⟨rfl, h2⟩
    have H2 := Lib.hid h2
    clear h2
    refine hK.out _ _ (RA.out _ _ H2.out (R2.out _ _)) (fun hHeld => ?_)
    clear hK K
    try simp only [Act.put, List.setIfInBounds_toArray, List.set_cons_zero, List.set_cons_succ]
    refine rgnTake 8 rfl (by kernel_rfl) (by kernel_rfl) (by kernel_rfl) (fun _ _ _ h => h) (by rfl) (v := ?v29) ?hy29 hHeld ?rest29
    case hy29 => (intro v hSw; obtain ⟨y0, y1, y2, y3, y4, y5⟩ := hSw; first | (go_simp; done) | (go_simp; with_reducible rfl))
    try simp only [Act.put, List.setIfInBounds_toArray, List.set_cons_zero, List.set_cons_succ]
    refine rgnTake 9 rfl (by kernel_rfl) (by kernel_rfl) (by kernel_rfl) (fun _ _ _ h => h) (by rfl) (v := ?v30) ?hy30 hHeld ?rest30
    case hy30 => (intro v hSw; obtain ⟨y0, y1, y2, y3, y4, y5⟩ := hSw; first | (go_simp; done) | (go_simp; with_reducible rfl))
    try simp only [Act.put, List.setIfInBounds_toArray, List.set_cons_zero, List.set_cons_succ]
    refine wpAnyH_done (by kernel_rfl) ?_ _
    clear d0 d1 d2 d3 d4 d5
    have H3 := Lib.hid (BK.out _ H2.out)
    go_wp2_with fail
    go_ret
    exact ⟨by rw [EA.out]; first | rfl | trivial | simp, H3.out⟩
  · rw [if_neg k4, if_neg k4, if_neg k4, if_neg k4, decide_eq_true rfl]
    have H3 := Lib.hid (BK.out _ SM.out)
    clear PP PD PM PB MW MM MB HF SM
    go_enter Try.func10, Try.ntmps10
    go_upto_region 1 with fail
    rw [← HW.out, ← HB.out]
    go_wp2_with fail
    go_ret
    exact ⟨rfl, H3.out⟩

end Go.Proofs.Ytnbkekbgedioeaa
