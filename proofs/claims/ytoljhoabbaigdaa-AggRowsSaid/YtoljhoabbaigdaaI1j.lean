/- AggRows: walked. -/
import Derived.Test.YtoljhoabbaigdaaI1i
namespace Go.Proofs.Ytoljhoabbaigdaa.aggRows
open Go.Proofs.Ytoljhoabbaigdaa Go.Joins Go.ChangeShapes Go.WideShapes Go.ChangeAt Go.RowKit Ex Fl Ag Ieee
attribute [local go_sem] Oper.semAt_some

set_option maxRecDepth 100000 in
set_option maxHeartbeats 4000000 in
theorem walk (l : List Ro) (A : Option Addr) (c : Nat) (w : World) (h : SlRo w A l) (hf : FitsRo l) (hl : l.length ≤ 9223372036854775807) :
    Calls Try.prog 4 #[.slice A l.length c] w fun e w' => e = .returned (.bool true) ∧ Below w.heap.size w w' := by
  have AW := Lib.hid (awake15 w)
  obtain ⟨n, hn⟩ : ∃ n, n = l.length := ⟨_, rfl⟩
  rw [← hn] at hl ⊢
  by_cases q0 : 200 < n
  · clear h hf hn
    go_enter Try.func4, Try.ntmps4
    go_wp2_with fail
    refine AW.out.mono ?_
    rintro e w1 ⟨rfl, hb1⟩
    have B1 := Lib.hid hb1
    clear hb1
    go_wp2_with fail
    go_ret
    exact ⟨rfl, B1.out⟩
  have HN := Lib.hid hn
  have HS := Lib.hid h
  obtain ⟨k, hk⟩ : ∃ k, k = (nums l).length := ⟨_, rfl⟩
  obtain ⟨D, hD⟩ : ∃ D : Int, D = (n : Int) - (k : Int) := ⟨_, rfl⟩
  obtain ⟨t0, t1, t2, t3, t4, ht⟩ := tal_parts (nums l)
  have kn : k ≤ n := by rw [hk, hn]; exact nums_len l
  have XR := Lib.hid (fun W (hb : Below w.heap.size w W) => xRows l A c W (h.below hb) hf (by omega))
  have XN := Lib.hid (fun W (hb : Below w.heap.size w W) => rNumbers l A c W (h.below hb) hf (by omega))
  have XO := Lib.hid (fun A' c' W (h' : SlF W A' (nums l)) => rOf15 (nums l) A' c' W h' (nums_fits hf) (by omega))
  rw [← hn, ← hk, ← hD, ht] at XR
  rw [← hn, ← hk] at XN
  rw [← hk, ht] at XO
  have ET := eql_tal t0 t1 t2 t3 t4
  have ED : (n : Int) - (k : Int) = D := hD.symm
  have D0 : 0 ≤ D := by omega
  have D1 : D ≤ 200 := by omega
  have EW : IntKind.i64.wrap D = D := by rw [IntKind.wrap_i64]; omega
  have EB : (D == D) = true := by simp
  have XTX := Lib.hid (fun i (hi : i < n) W (hb : Below w.heap.size w W) => show ∃ b o, A = some ⟨b, o, none⟩ ∧ W.cell? ⟨b, o + i * 5 + 3, none⟩ = some (.string (l.getD i Ro.Z).val.txt) by
    obtain ⟨b, o, e, hlt, _, _, _, k3, _⟩ := (h.below hb).at (j := i) (by omega)
    exact ⟨b, o, e, k3⟩)
  have HK := Lib.hid hk
  clear h hf hn hk hD ht
  go_enter Try.func4, Try.ntmps4
  go_wp2_with fail
  refine AW.out.mono ?_
  rintro e w1 ⟨rfl, hb1⟩
  have B1 := Lib.hid hb1
  clear hb1
  go_wp2_with fail
  go_loopw [3] (fun vi wr => ∃ i : Nat, i ≤ n ∧ vi = .int .i64 i ∧ Hid (Below w.heap.size w wr)) (fun vi _ => n - (intOf vi).toNat)
  case atStart => exact ⟨0, Nat.zero_le _, rfl, B1⟩
  case round =>
    obtain ⟨i, hi, rfl, HB⟩ := hrel
    by_cases q : i < n
    · obtain ⟨b, o, rfl, k3⟩ := XTX.out i q _ HB.out
      obtain ⟨tx, htx⟩ : ∃ t, t = (l.getD i Ro.Z).val.txt := ⟨_, rfl⟩
      rw [← htx] at k3
      obtain ⟨z, hz⟩ : ∃ z, z = tx.size := ⟨_, rfl⟩
      clear htx
      by_cases q2 : 200 < tx.size
      · go_wp2_with fail
        go_ret
        exact ⟨rfl, HB.out⟩
      · go_wp2_with fail
        go_roundw
        case rel => exact ⟨i + 1, by omega, by go_num, HB⟩
        case measure => simp [intOf]; omega
    · go_wp2_with fail
      refine (XR.out _ HB.out).mono ?_
      rintro e w2 ⟨rfl, hb2⟩
      obtain ⟨C, hC⟩ : ∃ C, C = w2.heap.size := ⟨_, rfl⟩
      obtain ⟨W2, hW2⟩ : ∃ W, W = w2.alloc (.cells #[.int .i64 t0, .int .u64 t1, .int .u64 t2, .int .u64 t3, .int .u64 t4] 28) := ⟨_, rfl⟩
      have R2 := RowAt.new w2 [.int .i64 t0, .int .u64 t1, .int .u64 t2, .int .u64 t3, .int .u64 t4] 28
      have B2x := (below_then HB.out hb2)
      have B2 := Lib.hid (show Below w.heap.size w W2 by rw [hW2]; exact B2x.alloc B2x.size _)
      rw [show (w2.alloc (.cells (List.toArray [.int .i64 t0, .int .u64 t1, .int .u64 t2, .int .u64 t3, .int .u64 t4]) 28)) = W2 from hW2.symm, ← hC] at R2
      have HR2 := Lib.hid R2
      have HW2 := Lib.hid hW2
      have HC := Lib.hid hC
      clear hb2 B2x R2 hW2 hC hi q
      go_wp2_with fail
      rw [← HW2.out, ← HC.out]
      refine (XN.out _ B2.out).mono ?_
      rintro e w3 ⟨⟨A3, c3, rfl, s3⟩, hb3⟩
      have S3 := Lib.hid s3
      have B3 := Lib.hid (below_then B2.out hb3)
      have R3 := Lib.hid (HR2.out.below hb3)
      clear s3 hb3
      go_wp2_with fail
      have CF := Lib.hid (fun W (r : RowAt W C [.int .i64 t0, .int .u64 t1, .int .u64 t2, .int .u64 t3, .int .u64 t4] 28) => show W.cell? ⟨C, 0, none⟩ = some (.int .i64 t0) ∧ W.cell? ⟨C, 1, none⟩ = some (.int .u64 t1) ∧ W.cell? ⟨C, 2, none⟩ = some (.int .u64 t2) ∧ W.cell? ⟨C, 3, none⟩ = some (.int .u64 t3) ∧ W.cell? ⟨C, 4, none⟩ = some (.int .u64 t4) from ⟨r.cell 0, r.cell 1, r.cell 2, r.cell 3, r.cell 4⟩)
      have BD := Lib.hid B3.out.drew
      have RD := Lib.hid (R3.out.drewN 1)
      have SD := Lib.hid S3.out.drew
      refine wp_region_held_drew (S := (fun W => W.cell? ⟨C, 0, none⟩ = some (.int .i64 t0) ∧ W.cell? ⟨C, 1, none⟩ = some (.int .u64 t1) ∧ W.cell? ⟨C, 2, none⟩ = some (.int .u64 t2) ∧ W.cell? ⟨C, 3, none⟩ = some (.int .u64 t3) ∧ W.cell? ⟨C, 4, none⟩ = some (.int .u64 t4))) (by kernel_rfl) (CF.out _ RD.out) (fun hHeld => ?_)
      refine rgnTake 0 rfl (by kernel_rfl) (by kernel_rfl) (by kernel_rfl) (fun _ _ _ h => h) (by rfl) (v := ?v1) ?hy1 hHeld ?rest1
      case hy1 => (intro v hSw; obtain ⟨x0, x1, x2, x3, x4⟩ := hSw; first | (go_simp; done) | (go_simp; with_reducible rfl))
      try simp only [Act.put, List.setIfInBounds_toArray, List.set_cons_zero, List.set_cons_succ]
      refine rgnTake 1 rfl (by kernel_rfl) (by kernel_rfl) (by kernel_rfl) (fun _ _ _ h => h) (by rfl) (v := ?v2) ?hy2 hHeld ?rest2
      case hy2 => (intro v hSw; obtain ⟨x0, x1, x2, x3, x4⟩ := hSw; first | (go_simp; done) | (go_simp; with_reducible rfl))
      try simp only [Act.put, List.setIfInBounds_toArray, List.set_cons_zero, List.set_cons_succ]
      refine rgnOne 2 rfl (by kernel_rfl) (fun K hK => ?_)
      go_simp
      refine (XO.out A3 c3 _ SD.out).mono ?_
      rintro e w5 ⟨rfl, hb5⟩
      have R5 := Lib.hid (RD.out.below hb5)
      have B5 := Lib.hid (below_then BD.out hb5)
      clear hb5
      refine hK.out _ _ (CF.out _ R5.out) (fun hHeld => ?_)
      clear hK K
      try simp only [Act.put, List.setIfInBounds_toArray, List.set_cons_zero, List.set_cons_succ]
      refine rgnTake 3 rfl (by kernel_rfl) (by kernel_rfl) (by kernel_rfl) (fun _ _ _ h => h) (by rfl) (v := ?v3) ?hy3 hHeld ?rest3
      case hy3 => (intro v hSw; obtain ⟨x0, x1, x2, x3, x4⟩ := hSw; first | (go_simp; done) | (go_simp; with_reducible rfl))
      try simp only [Act.put, List.setIfInBounds_toArray, List.set_cons_zero, List.set_cons_succ]
      refine rgnTake 4 rfl (by kernel_rfl) (by kernel_rfl) (by kernel_rfl) (fun _ _ _ h => h) (by rfl) (v := ?v4) ?hy4 hHeld ?rest4
      case hy4 => (intro v hSw; obtain ⟨x0, x1, x2, x3, x4⟩ := hSw; first | (go_simp; done) | (go_simp; with_reducible rfl))
      try simp only [Act.put, List.setIfInBounds_toArray, List.set_cons_zero, List.set_cons_succ]
      refine rgnTake 5 rfl (by kernel_rfl) (by kernel_rfl) (by kernel_rfl) (fun _ _ _ h => h) (by rfl) (v := ?v5) ?hy5 hHeld ?rest5
      case hy5 => (intro v hSw; obtain ⟨x0, x1, x2, x3, x4⟩ := hSw; first | (go_simp; done) | (go_simp; with_reducible rfl))
      try simp only [Act.put, List.setIfInBounds_toArray, List.set_cons_zero, List.set_cons_succ]
      refine rgnTake 6 rfl (by kernel_rfl) (by kernel_rfl) (by kernel_rfl) (fun _ _ _ h => h) (by rfl) (v := ?v6) ?hy6 hHeld ?rest6
      case hy6 => (intro v hSw; obtain ⟨x0, x1, x2, x3, x4⟩ := hSw; first | (go_simp; done) | (go_simp; with_reducible rfl))
      try simp only [Act.put, List.setIfInBounds_toArray, List.set_cons_zero, List.set_cons_succ]
      refine rgnTake 7 rfl (by kernel_rfl) (by kernel_rfl) (by kernel_rfl) (fun _ _ _ h => h) (by rfl) (v := ?v7) ?hy7 hHeld ?rest7
      case hy7 => (intro v hSw; obtain ⟨x0, x1, x2, x3, x4⟩ := hSw; first | (go_simp; done) | (go_simp; with_reducible rfl))
      try simp only [Act.put, List.setIfInBounds_toArray, List.set_cons_zero, List.set_cons_succ]
      refine rgnTake 8 rfl (by kernel_rfl) (by kernel_rfl) (by kernel_rfl) (fun _ _ _ h => h) (by rfl) (v := ?v8) ?hy8 hHeld ?rest8
      case hy8 => (intro v hSw; obtain ⟨x0, x1, x2, x3, x4⟩ := hSw; first | (go_simp; done) | (go_simp; with_reducible rfl))
      try simp only [Act.put, List.setIfInBounds_toArray, List.set_cons_zero, List.set_cons_succ]
      refine rgnTake 9 rfl (by kernel_rfl) (by kernel_rfl) (by kernel_rfl) (fun _ _ _ h => h) (by rfl) (v := ?v9) ?hy9 hHeld ?rest9
      case hy9 => (intro v hSw; obtain ⟨x0, x1, x2, x3, x4⟩ := hSw; first | (go_simp; done) | (go_simp; with_reducible rfl))
      try simp only [Act.put, List.setIfInBounds_toArray, List.set_cons_zero, List.set_cons_succ]
      refine rgnTake 10 rfl (by kernel_rfl) (by kernel_rfl) (by kernel_rfl) (fun _ _ _ h => h) (by rfl) (v := ?v10) ?hy10 hHeld ?rest10
      case hy10 => (intro v hSw; obtain ⟨x0, x1, x2, x3, x4⟩ := hSw; first | (go_simp; done) | (go_simp; with_reducible rfl))
      try simp only [Act.put, List.setIfInBounds_toArray, List.set_cons_zero, List.set_cons_succ]
      refine rgnTake 11 rfl (by kernel_rfl) (by kernel_rfl) (by kernel_rfl) (fun _ _ _ h => h) (by rfl) (v := ?v11) ?hy11 hHeld ?rest11
      case hy11 => (intro v hSw; obtain ⟨x0, x1, x2, x3, x4⟩ := hSw; first | (go_simp; done) | (go_simp; with_reducible rfl))
      try simp only [Act.put, List.setIfInBounds_toArray, List.set_cons_zero, List.set_cons_succ]
      refine rgnTake 12 rfl (by kernel_rfl) (by kernel_rfl) (by kernel_rfl) (fun _ _ _ h => h) (by rfl) (v := ?v12) ?hy12 hHeld ?rest12
      case hy12 => (intro v hSw; obtain ⟨x0, x1, x2, x3, x4⟩ := hSw; first | (go_simp; done) | (go_simp; with_reducible rfl))
      try simp only [Act.put, List.setIfInBounds_toArray, List.set_cons_zero, List.set_cons_succ]
      refine rgnTake 13 rfl (by kernel_rfl) (by kernel_rfl) (by kernel_rfl) (fun _ _ _ h => h) (by rfl) (v := ?v13) ?hy13 hHeld ?rest13
      case hy13 => (intro v hSw; obtain ⟨x0, x1, x2, x3, x4⟩ := hSw; first | (go_simp; done) | (go_simp; with_reducible rfl))
      try simp only [Act.put, List.setIfInBounds_toArray, List.set_cons_zero, List.set_cons_succ]
      refine wpAnyH_done (by kernel_rfl) ?_ _
      go_wp2_with fail
      go_ret
      exact ⟨rfl, B5.out⟩

end Go.Proofs.Ytoljhoabbaigdaa.aggRows
