/- Proved parts: S7xa1. Conditions: each theorem's own. -/
import Derived.Test.YtfodclafkdkjbaaDoorM19
namespace Go.Proofs.YtfodclafkdkjbaaDoor
open Go.RowKit

set_option maxRecDepth 100000 in
set_option maxHeartbeats 8000000 in
theorem rMove_a1 (p g pl px gp cp : Nat) (m : Ext) (lf la lu k : Nat) (lg ll : Int) (lb : Bool) (LZ : List ByteArray) (w : World)  (h : RefE w p g m) (hl : RowAt w pl (logCells p ⟨lf, la, lg, lu, ll, lb⟩) 44) (hx : RowAt w px (wrCells pl gp cp ⟨false, LZ, k⟩) 107)
    (ho : OwnS w gp (.slice (some ⟨gp, 0, none⟩) LZ.length cp) LZ) (ap : Apart p g pl px gp) (hbd : lf ≤ 100 ∧ la ≤ 100 ∧ lu ≤ 1000 ∧ 0 ≤ lg ∧ lg ≤ 2147483647 ∧ LZ.length ≤ 1000) (kk : k < LZ.length)
    (hM : k < LZ.length → (⟨lg, (lu + k : Nat), ll, k, LZ.length⟩ : Stp).ok = true ∧ (LZ.getD k ⟨#[]⟩).size ≤ 50) :
    Calls Tryd.prog 30 #[.pointer (some ⟨px, 0, none⟩)] w (MvPost p g pl px gp (Go.Proofs.YtfodclafkdkjbaaDoor.move m ⟨lf, la, lg, lu, ll, lb⟩ ⟨false, LZ, k⟩) w) := by
  obtain ⟨hf, ha, hu, g0, g1, hn⟩ := hbd
  have HE := Lib.hid h
  have HL := Lib.hid hl
  have HX := Lib.hid hx
  have HO := Lib.hid ho
  have AP := Lib.hid ap
  have HF := Lib.hid (show True from trivial)
  have x0 := RowAt.cell hx 0
  have x1 := RowAt.cell hx 1
  have x2 := RowAt.cell hx 2
  have x3 := RowAt.cell hx 3
  have z3 := RowAt.frozen hx 3
  have l0 := RowAt.cell hl 0
  have l1 := RowAt.cell hl 1
  have l2 := RowAt.cell hl 2
  have l3 := RowAt.cell hl 3
  have l4 := RowAt.cell hl 4
  have l5 := RowAt.cell hl 5
  simp only [wrCells, logCells, List.getElem?_cons_zero, List.getElem?_cons_succ] at x0 x1 x2 x3 l0 l1 l2 l3 l4 l5
  have in64 := Lib.hid (show ∀ n : Nat, n ≤ 5000 → In64 (n : Int) from fun n hn => ⟨by omega, by omega⟩)
  obtain ⟨n, hnn⟩ : ∃ n, n = LZ.length := ⟨_, rfl⟩
  rw [← hnn] at x2 hn kk hM
  have HN := Lib.hid hnn
  have HM := Lib.hid hM
  have HU := Lib.hid hu
  clear h hl hx ho ap hM hnn
  have gc : w.cell? ⟨gp, k, none⟩ = some (.string (LZ.getD k ⟨#[]⟩)) := HO.out.cell (by rw [← HN.out]; exact kk)
  obtain ⟨D, hD⟩ : ∃ D, D = LZ.getD k ⟨#[]⟩ := ⟨_, rfl⟩
  obtain ⟨mo, ms⟩ := HM.out kk
  rw [← hD] at gc ms
  obtain ⟨sec, hsec⟩ : ∃ sec, sec = pack6 ⟨lg, (lu + k : Nat), ll, k, n⟩ D := ⟨_, rfl⟩
  obtain ⟨o, hoo⟩ : ∃ o, o = m.write ((la : Nat) : Int) (((lu + k : Nat) : Nat) : Int) sec := ⟨_, rfl⟩
  have SX := Lib.hid (show Wr.sector ⟨false, LZ, k⟩ ⟨lf, la, lg, lu, ll, lb⟩ = sec by rw [hsec, hD, HN.out]; unfold Wr.sector newS Lg.gn Lg.fr; rfl)
  have TO := Lib.hid (show Lg.to ⟨lf, la, lg, lu, ll, lb⟩ false = la from rfl)
  have MV := Lib.hid (show Go.Proofs.YtfodclafkdkjbaaDoor.move m ⟨lf, la, lg, lu, ll, lb⟩ ⟨false, LZ, k⟩ = if o.2 = 0 then (o.1, ⟨lf, la, lg, lu, ll, lb⟩, ⟨false, LZ, k + 1⟩, 1, 0) else (m, ⟨lf, la, lg, lu, ll, lb⟩, ⟨false, LZ, k⟩, 0, o.2) by
    unfold Go.Proofs.YtfodclafkdkjbaaDoor.move
    simp only
    rw [if_neg (by rw [← HN.out]; omega), if_pos (by rw [← HN.out]; exact kk), SX.out, TO.out]
    rw [show Lg.fr ⟨lf, la, lg, lu, ll, lb⟩ false + k = (lu + k : Nat) from rfl, ← hoo])
  have SAME := Lib.hid (show o.2 ≠ 0 → o.1 = m by
    rw [hoo]; intro q; unfold Ext.write at q ⊢
    split at q
    · rename_i q1; rw [if_pos q1]
    · rename_i q1; rw [if_neg q1]; split at q
      · rename_i q2; rw [if_pos q2]; split at q
        · rename_i q3; rw [if_pos q3]
        · exact absurd rfl q
      · rename_i q2; rw [if_neg q2])
  have PK := Lib.hid (fun w => srPack ⟨lg, (lu + k : Nat), ll, k, n⟩ D w mo ms)
  rw [← hsec] at PK
  have PK' := Lib.hid (show ∀ w, Calls Tryd.prog 54 #[.agg #[.int .i64 lg, .int .i64 ((lu : Int) + (k : Int)), .int .i64 ll, .int .i64 (k : Int), .int .i64 (n : Int)], .string D] w fun e w' => e = .returned (.string sec) ∧ Below w.heap.size w w' from fun w => by
    have q := PK.out w
    unfold Stp.v at q
    simp only [Int.natCast_add] at q
    exact q)
  have EW := Lib.hid (show ∀ w, RefE w p g m → Calls Tryd.prog 53 #[.pointer (some ⟨p, 0, none⟩), .int .i64 (la : Int), .int .i64 ((lu : Int) + (k : Int)), .string sec] w (RefPost p g w o) from fun w hr => by
    have q := eWrite p g m ((la : Nat) : Int) (((lu + k : Nat) : Nat) : Int) sec w hr (in64.out _ (by omega)) (in64.out _ (by omega)) (by rw [hsec, pack6_size]; omega)
    rw [← hoo] at q
    simp only [Int.natCast_add] at q
    exact q)
  clear hD mo ms hsec hoo PK SX TO
  have WRK : IntKind.i64.wrap ((lu : Int) + (k : Int)) = (lu : Int) + (k : Int) := by rw [IntKind.wrap_i64]; omega
  go_enter Tryd.func30, Tryd.ntmps30
  go_wp2_with fail
  go_quiet (fail)
  go_wp2_with fail
  refine wp_region_held_drew (S := (fun v => v.cell? ⟨px, 0, none⟩ = some (.pointer (some ⟨pl, 0, none⟩)) ∧ v.cell? ⟨px, 2, none⟩ = some (.slice (some ⟨gp, 0, none⟩) n cp) ∧ v.cell? ⟨px, 3, none⟩ = some (.int .i64 (k : Int)) ∧ v.cell? ⟨pl, 0, none⟩ = some (.pointer (some ⟨p, 0, none⟩)) ∧ v.cell? ⟨pl, 5, none⟩ = some (.int .i64 ll) ∧ v.cell? ⟨gp, k, none⟩ = some (.string D))) (by kernel_rfl) (by exact ⟨x0, x2, x3, l0, l5, gc⟩) (fun hHeld => ?_)
  refine rgnTake 0 rfl (by kernel_rfl) (by kernel_rfl) (by kernel_rfl) (fun _ _ _ h => h) (by rfl) (v := ?v0q) ?hy0q hHeld ?rest0q
  case hy0q => (intro v hSw; obtain ⟨y0, y2, y3, m0, m5, yc⟩ := hSw; first | (go_simp; done) | (go_simp; with_reducible rfl))
  try simp only [Act.put, List.setIfInBounds_toArray, List.set_cons_zero, List.set_cons_succ]
  refine rgnTake 1 rfl (by kernel_rfl) (by kernel_rfl) (by kernel_rfl) (fun _ _ _ h => h) (by rfl) (v := ?v1q) ?hy1q hHeld ?rest1q
  case hy1q => (intro v hSw; obtain ⟨y0, y2, y3, m0, m5, yc⟩ := hSw; first | (go_simp; done) | (go_simp; with_reducible rfl))
  try simp only [Act.put, List.setIfInBounds_toArray, List.set_cons_zero, List.set_cons_succ]
  refine rgnTake 2 rfl (by kernel_rfl) (by kernel_rfl) (by kernel_rfl) (fun _ _ _ h => h) (by rfl) (v := ?v2q) ?hy2q hHeld ?rest2q
  case hy2q => (intro v hSw; obtain ⟨y0, y2, y3, m0, m5, yc⟩ := hSw; first | (go_simp; done) | (go_simp; with_reducible rfl))
  try simp only [Act.put, List.setIfInBounds_toArray, List.set_cons_zero, List.set_cons_succ]
  refine rgnTake 3 rfl (by kernel_rfl) (by kernel_rfl) (by kernel_rfl) (fun _ _ _ h => h) (by rfl) (v := ?v3q) ?hy3q hHeld ?rest3q
  case hy3q => (intro v hSw; obtain ⟨y0, y2, y3, m0, m5, yc⟩ := hSw; first | (go_simp; done) | (go_simp; with_reducible rfl))
  try simp only [Act.put, List.setIfInBounds_toArray, List.set_cons_zero, List.set_cons_succ]
  refine rgnTake 4 rfl (by kernel_rfl) (by kernel_rfl) (by kernel_rfl) (fun _ _ _ h => h) (by rfl) (v := ?v4q) ?hy4q hHeld ?rest4q
  case hy4q => (intro v hSw; obtain ⟨y0, y2, y3, m0, m5, yc⟩ := hSw; first | (go_simp; done) | (go_simp; with_reducible rfl))
  try simp only [Act.put, List.setIfInBounds_toArray, List.set_cons_zero, List.set_cons_succ]
  refine rgnTake 5 rfl (by kernel_rfl) (by kernel_rfl) (by kernel_rfl) (fun _ _ _ h => h) (by rfl) (v := ?v5q) ?hy5q hHeld ?rest5q
  case hy5q => (intro v hSw; obtain ⟨y0, y2, y3, m0, m5, yc⟩ := hSw; first | (go_simp; done) | (go_simp; with_reducible rfl))
  try simp only [Act.put, List.setIfInBounds_toArray, List.set_cons_zero, List.set_cons_succ]
  refine rgnTake 6 rfl (by kernel_rfl) (by kernel_rfl) (by kernel_rfl) (fun _ _ _ h => h) (by rfl) (v := ?v6q) ?hy6q hHeld ?rest6q
  case hy6q => (intro v hSw; obtain ⟨y0, y2, y3, m0, m5, yc⟩ := hSw; first | (go_simp; done) | (go_simp; with_reducible rfl))
  try simp only [Act.put, List.setIfInBounds_toArray, List.set_cons_zero, List.set_cons_succ]
  refine rgnTake 7 rfl (by kernel_rfl) (by kernel_rfl) (by kernel_rfl) (fun _ _ _ h => h) (by rfl) (v := ?v7q) ?hy7q hHeld ?rest7q
  case hy7q => (intro v hSw; obtain ⟨y0, y2, y3, m0, m5, yc⟩ := hSw; first | (go_simp; done) | (go_simp; with_reducible rfl))
  try simp only [Act.put, List.setIfInBounds_toArray, List.set_cons_zero, List.set_cons_succ]
  refine rgnTake 8 rfl (by kernel_rfl) (by kernel_rfl) (by kernel_rfl) (fun _ _ _ h => h) (by rfl) (v := ?v8q) ?hy8q hHeld ?rest8q
  case hy8q => (intro v hSw; obtain ⟨y0, y2, y3, m0, m5, yc⟩ := hSw; first | (go_simp; done) | (go_simp; with_reducible rfl))
  try simp only [Act.put, List.setIfInBounds_toArray, List.set_cons_zero, List.set_cons_succ]
  refine rgnTake 9 rfl (by kernel_rfl) (by kernel_rfl) (by kernel_rfl) (fun _ _ _ h => h) (by rfl) (v := ?v9q) ?hy9q hHeld ?rest9q
  case hy9q => (intro v hSw; obtain ⟨y0, y2, y3, m0, m5, yc⟩ := hSw; first | (go_simp; done) | (go_simp; with_reducible rfl))
  try simp only [Act.put, List.setIfInBounds_toArray, List.set_cons_zero, List.set_cons_succ]
  refine rgnTake 10 rfl (by kernel_rfl) (by kernel_rfl) (by kernel_rfl) (fun _ _ _ h => h) (by rfl) (v := ?v10q) ?hy10q hHeld ?rest10q
  case hy10q => (intro v hSw; obtain ⟨y0, y2, y3, m0, m5, yc⟩ := hSw; first | (go_simp; done) | (go_simp; with_reducible rfl))
  try simp only [Act.put, List.setIfInBounds_toArray, List.set_cons_zero, List.set_cons_succ]
  refine rgnTake 11 rfl (by kernel_rfl) (by kernel_rfl) (by kernel_rfl) (fun _ _ _ h => h) (by rfl) (v := ?v11q) ?hy11q hHeld ?rest11q
  case hy11q => (intro v hSw; obtain ⟨y0, y2, y3, m0, m5, yc⟩ := hSw; first | (go_simp; done) | (go_simp; with_reducible rfl))
  try simp only [Act.put, List.setIfInBounds_toArray, List.set_cons_zero, List.set_cons_succ]
  refine rgnTake 12 rfl (by kernel_rfl) (by kernel_rfl) (by kernel_rfl) (fun _ _ _ h => h) (by rfl) (v := ?v12q) ?hy12q hHeld ?rest12q
  case hy12q => (intro v hSw; obtain ⟨y0, y2, y3, m0, m5, yc⟩ := hSw; first | (go_simp; done) | (go_simp; with_reducible rfl))
  try simp only [Act.put, List.setIfInBounds_toArray, List.set_cons_zero, List.set_cons_succ]
  refine rgnTake 13 rfl (by kernel_rfl) (by kernel_rfl) (by kernel_rfl) (fun _ _ _ h => h) (by rfl) (v := ?v13q) ?hy13q hHeld ?rest13q
  case hy13q => (intro v hSw; obtain ⟨y0, y2, y3, m0, m5, yc⟩ := hSw; first | (go_simp; done) | (go_simp; with_reducible rfl))
  try simp only [Act.put, List.setIfInBounds_toArray, List.set_cons_zero, List.set_cons_succ]
  refine rgnTake 14 rfl (by kernel_rfl) (by kernel_rfl) (by kernel_rfl) (fun _ _ _ h => h) (by rfl) (v := ?v14q) ?hy14q hHeld ?rest14q
  case hy14q => (intro v hSw; obtain ⟨y0, y2, y3, m0, m5, yc⟩ := hSw; first | (go_simp; done) | (go_simp; with_reducible rfl))
  try simp only [Act.put, List.setIfInBounds_toArray, List.set_cons_zero, List.set_cons_succ]
  refine rgnTake 15 rfl (by kernel_rfl) (by kernel_rfl) (by kernel_rfl) (fun _ _ _ h => h) (by rfl) (v := ?v15q) ?hy15q hHeld ?rest15q
  case hy15q => (intro v hSw; obtain ⟨y0, y2, y3, m0, m5, yc⟩ := hSw; first | (go_simp; done) | (go_simp; with_reducible rfl))
  try simp only [Act.put, List.setIfInBounds_toArray, List.set_cons_zero, List.set_cons_succ]
  refine rgnTake 16 rfl (by kernel_rfl) (by kernel_rfl) (by kernel_rfl) (fun _ _ _ h => h) (by rfl) (v := ?v16q) ?hy16q hHeld ?rest16q
  case hy16q => (intro v hSw; obtain ⟨y0, y2, y3, m0, m5, yc⟩ := hSw; first | (go_simp; done) | (go_simp; with_reducible rfl))
  try simp only [Act.put, List.setIfInBounds_toArray, List.set_cons_zero, List.set_cons_succ]
  refine rgnTake 17 rfl (by kernel_rfl) (by kernel_rfl) (by kernel_rfl) (fun _ _ _ h => h) (by rfl) (v := ?v17q) ?hy17q hHeld ?rest17q
  case hy17q => (intro v hSw; obtain ⟨y0, y2, y3, m0, m5, yc⟩ := hSw; first | (go_simp; done) | (go_simp; with_reducible rfl))
  try simp only [Act.put, List.setIfInBounds_toArray, List.set_cons_zero, List.set_cons_succ]
  refine rgnTake 18 rfl (by kernel_rfl) (by kernel_rfl) (by kernel_rfl) (fun _ _ _ h => h) (by rfl) (v := ?v18q) ?hy18q hHeld ?rest18q
  case hy18q => (intro v hSw; obtain ⟨y0, y2, y3, m0, m5, yc⟩ := hSw; first | (go_simp; done) | (go_simp; with_reducible rfl))
  try simp only [Act.put, List.setIfInBounds_toArray, List.set_cons_zero, List.set_cons_succ]
  refine rgnTake 19 rfl (by kernel_rfl) (by kernel_rfl) (by kernel_rfl) (fun _ _ _ h => h) (by rfl) (v := ?v19q) ?hy19q hHeld ?rest19q
  case hy19q => (intro v hSw; obtain ⟨y0, y2, y3, m0, m5, yc⟩ := hSw; first | (go_simp; done) | (go_simp; with_reducible rfl))
  try simp only [Act.put, List.setIfInBounds_toArray, List.set_cons_zero, List.set_cons_succ]
  refine rgnTake 20 rfl (by kernel_rfl) (by kernel_rfl) (by kernel_rfl) (fun _ _ _ h => h) (by rfl) (v := ?v20q) ?hy20q hHeld ?rest20q
  case hy20q => (intro v hSw; obtain ⟨y0, y2, y3, m0, m5, yc⟩ := hSw; first | (go_simp; done) | (go_simp; with_reducible rfl))
  try simp only [Act.put, List.setIfInBounds_toArray, List.set_cons_zero, List.set_cons_succ]
  refine rgnTake 21 rfl (by kernel_rfl) (by kernel_rfl) (by kernel_rfl) (fun _ _ _ h => h) (by rfl) (v := ?v21q) ?hy21q hHeld ?rest21q
  case hy21q => (intro v hSw; obtain ⟨y0, y2, y3, m0, m5, yc⟩ := hSw; first | (go_simp; done) | (go_simp; with_reducible rfl))
  try simp only [Act.put, List.setIfInBounds_toArray, List.set_cons_zero, List.set_cons_succ]
  refine rgnTake 22 rfl (by kernel_rfl) (by kernel_rfl) (by kernel_rfl) (fun _ _ _ h => h) (by rfl) (v := ?v22q) ?hy22q hHeld ?rest22q
  case hy22q => (intro v hSw; obtain ⟨y0, y2, y3, m0, m5, yc⟩ := hSw; first | (go_simp; done) | (go_simp; with_reducible rfl))
  try simp only [Act.put, List.setIfInBounds_toArray, List.set_cons_zero, List.set_cons_succ]
  refine rgnTake 23 rfl (by kernel_rfl) (by kernel_rfl) (by kernel_rfl) (fun _ _ _ h => h) (by rfl) (v := ?v23q) ?hy23q hHeld ?rest23q
  case hy23q => (intro v hSw; obtain ⟨y0, y2, y3, m0, m5, yc⟩ := hSw; first | (go_simp; done) | (go_simp; with_reducible rfl))
  try simp only [Act.put, List.setIfInBounds_toArray, List.set_cons_zero, List.set_cons_succ]
  refine rgnTake 24 rfl (by kernel_rfl) (by kernel_rfl) (by kernel_rfl) (fun _ _ _ h => h) (by rfl) (v := ?v24q) ?hy24q hHeld ?rest24q
  case hy24q => (intro v hSw; obtain ⟨y0, y2, y3, m0, m5, yc⟩ := hSw; first | (go_simp; done) | (go_simp; with_reducible rfl))
  try simp only [Act.put, List.setIfInBounds_toArray, List.set_cons_zero, List.set_cons_succ]
  refine rgnTake 25 rfl (by kernel_rfl) (by kernel_rfl) (by kernel_rfl) (fun _ _ _ h => h) (by rfl) (v := ?v25q) ?hy25q hHeld ?rest25q
  case hy25q => (intro v hSw; obtain ⟨y0, y2, y3, m0, m5, yc⟩ := hSw; first | (go_simp; done) | (go_simp; with_reducible rfl))
  try simp only [Act.put, List.setIfInBounds_toArray, List.set_cons_zero, List.set_cons_succ]
  refine rgnTake 26 rfl (by kernel_rfl) (by kernel_rfl) (by kernel_rfl) (fun _ _ _ h => h) (by rfl) (v := ?v26q) ?hy26q hHeld ?rest26q
  case hy26q => (intro v hSw; obtain ⟨y0, y2, y3, m0, m5, yc⟩ := hSw; first | (go_simp; done) | (go_simp; with_reducible rfl))
  try simp only [Act.put, List.setIfInBounds_toArray, List.set_cons_zero, List.set_cons_succ]
  refine rgnTake 27 rfl (by kernel_rfl) (by kernel_rfl) (by kernel_rfl) (fun _ _ _ h => h) (by rfl) (v := ?v27q) ?hy27q hHeld ?rest27q
  case hy27q => (intro v hSw; obtain ⟨y0, y2, y3, m0, m5, yc⟩ := hSw; first | (go_simp; done) | (go_simp; with_reducible rfl))
  try simp only [Act.put, List.setIfInBounds_toArray, List.set_cons_zero, List.set_cons_succ]
  refine rgnTake 28 rfl (by kernel_rfl) (by kernel_rfl) (by kernel_rfl) (fun _ _ _ h => h) (by rfl) (v := ?v28q) ?hy28q hHeld ?rest28q
  case hy28q => (intro v hSw; obtain ⟨y0, y2, y3, m0, m5, yc⟩ := hSw; first | (go_simp; done) | (go_simp; with_reducible rfl))
  try simp only [Act.put, List.setIfInBounds_toArray, List.set_cons_zero, List.set_cons_succ]
  refine rgnTake 29 rfl (by kernel_rfl) (by kernel_rfl) (by kernel_rfl) (fun _ _ _ h => h) (by rfl) (v := ?v29q) ?hy29q hHeld ?rest29q
  case hy29q => (intro v hSw; obtain ⟨y0, y2, y3, m0, m5, yc⟩ := hSw; first | (go_simp; done) | (go_simp; with_reducible rfl))
  try simp only [Act.put, List.setIfInBounds_toArray, List.set_cons_zero, List.set_cons_succ]
  refine rgnTake 30 rfl (by kernel_rfl) (by kernel_rfl) (by kernel_rfl) (fun _ _ _ h => h) (by rfl) (v := ?v30q) ?hy30q hHeld ?rest30q
  case hy30q => (intro v hSw; obtain ⟨y0, y2, y3, m0, m5, yc⟩ := hSw; first | (go_simp; done) | (go_simp; with_reducible rfl))
  try simp only [Act.put, List.setIfInBounds_toArray, List.set_cons_zero, List.set_cons_succ]
  refine rgnTake 31 rfl (by kernel_rfl) (by kernel_rfl) (by kernel_rfl) (fun _ _ _ h => h) (by rfl) (v := ?v31q) ?hy31q hHeld ?rest31q
  case hy31q => (intro v hSw; obtain ⟨y0, y2, y3, m0, m5, yc⟩ := hSw; first | (go_simp; done) | (go_simp; with_reducible rfl))
  try simp only [Act.put, List.setIfInBounds_toArray, List.set_cons_zero, List.set_cons_succ]
  refine rgnTake 32 rfl (by kernel_rfl) (by kernel_rfl) (by kernel_rfl) (fun _ _ _ h => h) (by rfl) (v := ?v32q) ?hy32q hHeld ?rest32q
  case hy32q => (intro v hSw; obtain ⟨y0, y2, y3, m0, m5, yc⟩ := hSw; first | (go_simp; done) | (go_simp; with_reducible rfl))
  try simp only [Act.put, List.setIfInBounds_toArray, List.set_cons_zero, List.set_cons_succ]
  refine rgnTake 33 rfl (by kernel_rfl) (by kernel_rfl) (by kernel_rfl) (fun _ _ _ h => h) (by rfl) (v := ?v33q) ?hy33q hHeld ?rest33q
  case hy33q => (intro v hSw; obtain ⟨y0, y2, y3, m0, m5, yc⟩ := hSw; first | (go_simp; done) | (go_simp; with_reducible rfl))
  try simp only [Act.put, List.setIfInBounds_toArray, List.set_cons_zero, List.set_cons_succ]
  refine rgnTake 34 rfl (by kernel_rfl) (by kernel_rfl) (by kernel_rfl) (fun _ _ _ h => h) (by rfl) (v := ?v34q) ?hy34q hHeld ?rest34q
  case hy34q => (intro v hSw; obtain ⟨y0, y2, y3, m0, m5, yc⟩ := hSw; first | (go_simp; done) | (go_simp; with_reducible rfl))
  try simp only [Act.put, List.setIfInBounds_toArray, List.set_cons_zero, List.set_cons_succ]
  refine rgnTake 35 rfl (by kernel_rfl) (by kernel_rfl) (by kernel_rfl) (fun _ _ _ h => h) (by rfl) (v := ?v35q) ?hy35q hHeld ?rest35q
  case hy35q => (intro v hSw; obtain ⟨y0, y2, y3, m0, m5, yc⟩ := hSw; first | (go_simp; done) | (go_simp; with_reducible rfl))
  try simp only [Act.put, List.setIfInBounds_toArray, List.set_cons_zero, List.set_cons_succ]
  refine rgnTake 36 rfl (by kernel_rfl) (by kernel_rfl) (by kernel_rfl) (fun _ _ _ h => h) (by rfl) (v := ?v36q) ?hy36q hHeld ?rest36q
  case hy36q => (intro v hSw; obtain ⟨y0, y2, y3, m0, m5, yc⟩ := hSw; first | (go_simp; done) | (go_simp; with_reducible rfl))
  try simp only [Act.put, List.setIfInBounds_toArray, List.set_cons_zero, List.set_cons_succ]
  refine rgnTake 37 rfl (by kernel_rfl) (by kernel_rfl) (by kernel_rfl) (fun _ _ _ h => h) (by rfl) (v := ?v37q) ?hy37q hHeld ?rest37q
  case hy37q => (intro v hSw; obtain ⟨y0, y2, y3, m0, m5, yc⟩ := hSw; first | (go_simp; done) | (go_simp; with_reducible rfl))
  try simp only [Act.put, List.setIfInBounds_toArray, List.set_cons_zero, List.set_cons_succ]
  refine rgnTake 38 rfl (by kernel_rfl) (by kernel_rfl) (by kernel_rfl) (fun _ _ _ h => h) (by rfl) (v := ?v38q) ?hy38q hHeld ?rest38q
  case hy38q => (intro v hSw; obtain ⟨y0, y2, y3, m0, m5, yc⟩ := hSw; first | (go_simp; done) | (go_simp; with_reducible rfl))
  try simp only [Act.put, List.setIfInBounds_toArray, List.set_cons_zero, List.set_cons_succ]
  refine rgnTake 39 rfl (by kernel_rfl) (by kernel_rfl) (by kernel_rfl) (fun _ _ _ h => h) (by rfl) (v := ?v39q) ?hy39q hHeld ?rest39q
  case hy39q => (intro v hSw; obtain ⟨y0, y2, y3, m0, m5, yc⟩ := hSw; first | (go_simp; done) | (go_simp; with_reducible rfl))
  try simp only [Act.put, List.setIfInBounds_toArray, List.set_cons_zero, List.set_cons_succ]
  refine rgnTake 40 rfl (by kernel_rfl) (by kernel_rfl) (by kernel_rfl) (fun _ _ _ h => h) (by rfl) (v := ?v40q) ?hy40q hHeld ?rest40q
  case hy40q => (intro v hSw; obtain ⟨y0, y2, y3, m0, m5, yc⟩ := hSw; first | (go_simp; done) | (go_simp; with_reducible rfl))
  try simp only [Act.put, List.setIfInBounds_toArray, List.set_cons_zero, List.set_cons_succ]
  refine rgnTake 41 rfl (by kernel_rfl) (by kernel_rfl) (by kernel_rfl) (fun _ _ _ h => h) (by rfl) (v := ?v41q) ?hy41q hHeld ?rest41q
  case hy41q => (intro v hSw; obtain ⟨y0, y2, y3, m0, m5, yc⟩ := hSw; first | (go_simp; done) | (go_simp; with_reducible rfl))
  try simp only [Act.put, List.setIfInBounds_toArray, List.set_cons_zero, List.set_cons_succ]
  refine rgnTake 42 rfl (by kernel_rfl) (by kernel_rfl) (by kernel_rfl) (fun _ _ _ h => h) (by rfl) (v := ?v42q) ?hy42q hHeld ?rest42q
  case hy42q => (intro v hSw; obtain ⟨y0, y2, y3, m0, m5, yc⟩ := hSw; first | (go_simp; done) | (go_simp; with_reducible rfl))
  try simp only [Act.put, List.setIfInBounds_toArray, List.set_cons_zero, List.set_cons_succ]
  refine rgnTake 43 rfl (by kernel_rfl) (by kernel_rfl) (by kernel_rfl) (fun _ _ _ h => h) (by rfl) (v := ?v43q) ?hy43q hHeld ?rest43q
  case hy43q => (intro v hSw; obtain ⟨y0, y2, y3, m0, m5, yc⟩ := hSw; first | (go_simp; done) | (go_simp; with_reducible rfl))
  try simp only [Act.put, List.setIfInBounds_toArray, List.set_cons_zero, List.set_cons_succ]
  refine rgnOne 44 rfl (by kernel_rfl) (fun K hK => ?_)
  go_simp
  (with_reducible refine (PK'.out _).mono ?_)
  rintro e1 w1 ⟨rfl, hb1⟩
  have B1 := Lib.hid (show Below w.heap.size w w1 from (below_drewN (Below.refl _ w) _).trans hb1)
  clear hb1
  have X1 := Lib.hid (RowAt.below HX.out B1.out)
  have L1 := Lib.hid (RowAt.below HL.out B1.out)
  have E1 := Lib.hid (HE.out.below B1.out)
  have O1 := Lib.hid (HO.out.below B1.out)
  have S1 : _ := (show w1.cell? ⟨px, 0, none⟩ = _ ∧ w1.cell? ⟨px, 2, none⟩ = _ ∧ w1.cell? ⟨px, 3, none⟩ = _ ∧ w1.cell? ⟨pl, 0, none⟩ = _ ∧ w1.cell? ⟨pl, 5, none⟩ = _ ∧ w1.cell? ⟨gp, k, none⟩ = _ from ⟨(Chg.of_below (F := fun _ => False) B1.out).cell (p := ⟨px, 0, none⟩) x0 id, (Chg.of_below (F := fun _ => False) B1.out).cell (p := ⟨px, 2, none⟩) x2 id, (Chg.of_below (F := fun _ => False) B1.out).cell (p := ⟨px, 3, none⟩) x3 id, (Chg.of_below (F := fun _ => False) B1.out).cell (p := ⟨pl, 0, none⟩) l0 id, (Chg.of_below (F := fun _ => False) B1.out).cell (p := ⟨pl, 5, none⟩) l5 id, (Chg.of_below (F := fun _ => False) B1.out).cell (p := ⟨gp, k, none⟩) gc id⟩)
  refine hK.out _ _ S1 (fun hHeld => ?_)
  clear hK K
  try simp only [Act.put, List.setIfInBounds_toArray, List.set_cons_zero, List.set_cons_succ]
  refine rgnOne 45 rfl (by kernel_rfl) (fun K hK => ?_)
  go_simp
  (with_reducible refine (EW.out w1 E1.out).mono ?_)
  rintro e2 w2 ⟨rfl, hr2, hc2⟩
  have C2 := Lib.hid (show Chg (fun k => k = p ∨ k = g ∨ k = pl ∨ k = px) w w2 from (Chg.of_below B1.out).trans hc2 (fun i hi => .inl (by rcases hi with e | e; exact .inl e; exact .inr (.inl e))))
  have E2 := Lib.hid hr2
  have NN := Lib.hid (show (¬ (px = p ∨ px = g)) ∧ (¬ (pl = p ∨ pl = g)) ∧ ¬ (gp = p ∨ gp = g) from ⟨fun e => e.elim AP.out.a3 AP.out.a4, fun e => e.elim AP.out.a1 AP.out.a2, fun e => e.elim AP.out.a6 AP.out.a7⟩)
  have X2 := Lib.hid (RowAt.keep X1.out hc2 NN.out.1)
  have L2 := Lib.hid (RowAt.keep L1.out hc2 NN.out.2.1)
  have O2 := Lib.hid (O1.out.keepAt hc2 NN.out.2.2)
  obtain ⟨s0, s2, s3, t0, t5, sc⟩ := S1
  refine hK.out _ _ ⟨hc2.cell (p := ⟨px, 0, none⟩) s0 NN.out.1, hc2.cell (p := ⟨px, 2, none⟩) s2 NN.out.1, hc2.cell (p := ⟨px, 3, none⟩) s3 NN.out.1, hc2.cell (p := ⟨pl, 0, none⟩) t0 NN.out.2.1, hc2.cell (p := ⟨pl, 5, none⟩) t5 NN.out.2.1, hc2.cell (p := ⟨gp, k, none⟩) sc NN.out.2.2⟩ (fun hHeld => ?_)
  clear hK K hc2 hr2 s0 s2 s3 t0 t5 sc
  try simp only [Act.put, List.setIfInBounds_toArray, List.set_cons_zero, List.set_cons_succ]
  refine rgnTake 46 rfl (by kernel_rfl) (by kernel_rfl) (by kernel_rfl) (fun _ _ _ h => h) (by rfl) (v := ?v46q) ?hy46q hHeld ?rest46q
  case hy46q => (intro v hSw; obtain ⟨y0, y2, y3, m0, m5, yc⟩ := hSw; first | (go_simp; done) | (go_simp; with_reducible rfl))
  try simp only [Act.put, List.setIfInBounds_toArray, List.set_cons_zero, List.set_cons_succ]
  refine wpAnyH_done (by kernel_rfl) ?_ _
  clear x0 x1 x2 x3 z3 l0 l1 l2 l3 l4 l5 gc hHeld
  obtain ⟨e, he⟩ : ∃ e, e = o.2 := ⟨_, rfl⟩
  have HEo := Lib.hid he
  rw [← he] at MV ⊢
  clear he
  by_cases e0 : e = 0
  · subst e0
    rw [if_pos rfl] at MV
    have x3 := RowAt.cell X2.out 3
    have z3 := RowAt.frozen X2.out 3
    simp only [wrCells, List.getElem?_cons_zero, List.getElem?_cons_succ] at x3
    go_wp2_with fail
    go_ret2
    rw [MV.out]
    refine ⟨rfl, ?_, ?_, ?_, ?_⟩
    · exact E2.out.keep (F := fun k => k = px) ((Chg.refl (fun k => k = px) _).setCell (p := ⟨px, 3, none⟩) (.inl rfl) _) (fun e => AP.out.a3 e.symm) (fun e => AP.out.a4 e.symm)
    · exact RowAt.other L2.out (p := ⟨px, 3, none⟩) AP.out.a5 _
    · refine ⟨AP.out.a9, cp, ?_, ?_⟩
      · have q := RowAt.set X2.out 3 (.int .i64 ((k : Int) + 1))
        unfold wrCells at q ⊢
        simp only [List.set_cons_zero, List.set_cons_succ] at q
        simp only [Int.natCast_add, Int.cast_ofNat_Int]
        exact q
      · exact O2.out.keepAt (F := fun k => k = px) ((Chg.refl (fun k => k = px) _).setCell (p := ⟨px, 3, none⟩) (.inl rfl) _) AP.out.a9
    · exact C2.out.setCell (p := ⟨px, 3, none⟩) (.inl (.inr (.inr (.inr rfl)))) _
  · have EM := Lib.hid (show RefE w2 p g m by have q := E2.out; rwa [SAME.out (by rw [HEo.out] at e0; exact e0)] at q)
    have T16 : (e != 0) = true := by rw [bne_iff_ne]; exact e0
    rw [if_neg e0] at MV
    clear e0
    go_wp2_with fail
    go_ret2
    rw [MV.out]
    exact ⟨rfl, EM.out, L2.out, ⟨AP.out.a9, cp, X2.out, O2.out⟩, C2.out⟩

end Go.Proofs.YtfodclafkdkjbaaDoor
