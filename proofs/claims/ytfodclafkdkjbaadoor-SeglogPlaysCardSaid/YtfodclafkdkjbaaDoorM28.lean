/- Proved parts: E5f. Conditions: each theorem's own. -/
import Derived.Test.YtfodclafkdkjbaaDoorM27
namespace Go.Proofs.YtfodclafkdkjbaaDoor
open Go.RowKit

theorem nums_back (s : ByteArray) : strOfNums ((List.range s.size).map (byE s)) = s := by
  have e : (strOfNums ((List.range s.size).map (byE s))).data.toList = s.data.toList := by
    rw [strOfNums_data]
    apply List.ext_getElem (by simp)
    intro j h1 h2
    rw [List.getElem_map, List.getElem_map, List.getElem_range, byE_lt s j h2]
    simp
  generalize strOfNums ((List.range s.size).map (byE s)) = t at e
  obtain ⟨⟨a⟩⟩ := s
  obtain ⟨⟨b⟩⟩ := t
  simp at e
  rw [e]
theorem convSec (w : World) (g c : Nat) (s : ByteArray) (hs : s.size ≤ 64) (t : TypeId) (h : RowAt w g (secL s) t) : (convert 113 9 (.slice (some ⟨g, 1, none⟩) s.size c)).run Tryd.prog w = .ok (.string s) w := by
  have k := run_convert_bytes_arg (P := Tryd.prog) w 113 5 (by kernel_rfl) (by kernel_rfl) g 1 s.size c ((List.range s.size).map (byE s)) (by simp) (by
    intro i hi
    have hi2 : i < s.size := by simpa using hi
    rw [RowAt.cell h, show 1 + i = i + 1 by omega, secL_at s i (by omega), List.getD_eq_getElem?_getD, List.getElem?_map, List.getElem?_range hi2]; rfl) 9 (by kernel_rfl)
  rw [nums_back] at k
  exact k

theorem sizeB8 (w : World) : (sizeOf 5).run Tryd.prog w = .ok 1 w := by
  have h : (Tryd.prog.info? 5).map (·.size) = some 1 := by kernel_rfl
  cases hq : Tryd.prog.info? 5 with
  | none => rw [hq] at h; simp at h
  | some i => rw [hq] at h; simp at h; simp [sizeOf, typeInfo, hq, h]
theorem len72 : Tryd.prog.arrayLen 83 = 64 := by kernel_rfl
theorem elem72 : Tryd.prog.elem 83 = 5 := by kernel_rfl
theorem und72 : Tryd.prog.underlying 83 = some (.array (Tryd.prog.arrayLen 83) (Tryd.prog.elem 83)) := by kernel_rfl
theorem slice72 (g n : Nat) (h : n ≤ 64) (w : World) : (Instr.sliceAt 83 (.pointer (some ⟨g, 1, none⟩)) none (some (.int .i64 n)) none).run Tryd.prog w = .ok (.slice (some ⟨g, 1, none⟩) n 64) w := by
  have k := run_sliceAt_array_h w 83 ⟨g, 1, none⟩ und72 .i64 n (by omega) (by rw [len72]; omega)
  rw [k, elem72, sizeB8, len72]
  show Result.ok (slicedAt _ _ _ _ _) w = _
  unfold slicedAt
  rw [if_neg (by decide), Nat.zero_mul, Addr.add_mid]
  simp
theorem slice72all (g : Nat) (w : World) : (Instr.sliceAt 83 (.pointer (some ⟨g, 1, none⟩)) none none none).run Tryd.prog w = .ok (.slice (some ⟨g, 1, none⟩) 64 64) w := by
  have k := run_sliceAt_array_all w 83 ⟨g, 1, none⟩ und72
  rw [k, elem72, sizeB8, len72]
  show Result.ok (slicedAt _ _ _ _ _) w = _
  unfold slicedAt
  rw [if_neg (by decide), Nat.zero_mul, Addr.add_mid]

set_option maxRecDepth 100000 in
set_option maxHeartbeats 1000000 in
/-- sector.text -/
theorem xText (s : ByteArray) (w : World) (hs : s.size ≤ 64) : Calls Tryd.prog 38 #[.agg (secL s).toArray] w fun e w' => e = .returned (.string s) ∧ Below w.heap.size w w' := by
  obtain ⟨C, hC⟩ : ∃ C, C = (secL s).toArray := ⟨_, rfl⟩
  have RA := Lib.hid (RowAt.new w (secL s) 85)
  obtain ⟨n, hn⟩ : ∃ n, n = s.size := ⟨_, rfl⟩
  have CV := Lib.hid (convSec (w.alloc (.cells (secL s).toArray 85)) w.heap.size 64 s hs 85 RA.out)
  have c0 : (w.alloc (.cells C 85)).cell? ⟨w.heap.size, 0, none⟩ = some (.int .i64 n) := by
    rw [hC, hn]; exact RA.out.cell 0
  have cv : (convert 113 9 (.slice (some ⟨w.heap.size, 1, none⟩) n 64)).run Tryd.prog (w.alloc (.cells C 85)) = .ok (.string s) (w.alloc (.cells C 85)) := by
    rw [hC, hn]; exact CV.out
  rw [← hC]
  rw [← hn] at hs
  have sl := fun W => slice72 w.heap.size n hs W
  clear hC hn
  have C0 : C[0]? = some (.int .i64 n) := by
    rw [World.cell?_alloc_at _ _ _ _ rfl] at c0; exact c0
  go_enter Tryd.func38, Tryd.ntmps38
  go_wp2_with fail
  go_ret
  exact ⟨rfl, (Below.refl _ _).alloc (Nat.le_refl _) _⟩

set_option maxRecDepth 100000 in
set_option maxHeartbeats 1000000 in
/-- sectorOf -/
theorem xSecOf (s : ByteArray) (w : World) (hs : s.size ≤ 64) : Calls Tryd.prog 50 #[.string s] w fun e w' => e = .returned (.agg (secL s).toArray) ∧ Below w.heap.size w w' := by
  obtain ⟨Z, hZ⟩ : ∃ Z, Z = (rawL 0).toArray := ⟨_, rfl⟩
  have z74 : ∀ W, (zeroValue 85).run Tryd.prog W = .ok (.agg Z) W := fun W => by rw [hZ]; exact zeroS74 W
  have HZ := Lib.hid hZ
  obtain ⟨w1, hw1⟩ : ∃ w1, w1 = w.alloc (.cells Z 85) := ⟨_, rfl⟩
  obtain ⟨N, hN⟩ : ∃ N, N = rawL s.size := ⟨_, rfl⟩
  obtain ⟨C, hC⟩ : ∃ C, C = secL s := ⟨_, rfl⟩
  have HN := Lib.hid hN
  have HC := Lib.hid hC
  have g1 : w1.heap.size = w.heap.size + 1 := by rw [hw1]; simp
  have RN := Lib.hid (RowAt.new w1 N 85)
  have RC := Lib.hid (RowAt.new w1 C 85)
  have RZ := Lib.hid (show RowAt w1 w.heap.size (rawL 0) 85 by rw [hw1, hZ]; exact RowAt.new w _ _)
  have NL := Lib.hid (show N.length = 65 by rw [hN]; exact rawL_len _)
  have CL := Lib.hid (show C.length = 65 by rw [hC]; exact secL_len _)
  have HW := Lib.hid hw1
  have CP : ∀ ty, (Builtin.copy_ #[113, 9] ty #[.slice (some ⟨w.heap.size + 1, 1, none⟩) 64 64, .string s]).run Tryd.prog (w1.alloc (.cells N.toArray 85)) = .ok (.int .i64 s.size) (w1.alloc (.cells C.toArray 85)) := by
    intro ty
    rw [← g1]
    have th : ∀ j, j < s.size → _ := fun j hj => (RN.out.there (o := 1) (n := 64) (by rw [NL.out]; omega)) j (by omega)
    have k := run_copy_string (P := Tryd.prog) (w1.alloc (.cells N.toArray 85)) 113 9 ty 5 w1.heap.size 1 64 64 s Tryd.underlying113 sizeB8 hs (fun j hj => (th j hj).1) (fun j hj => (th j hj).2)
    rw [k]
    show Result.ok _ ((w1.alloc (.cells N.toArray _)).setCells w1.heap.size 1 (bytesV s)) = _
    rw [new_over w1 N (bytesV s) 1 _ (by rw [NL.out, bytesV_len]; omega), HN.out, raw_sec s hs, ← HC.out]
    rfl
  have sl := fun W => slice72all (w.heap.size + 1) W
  have w1e : w.alloc (.cells Z 85) = w1 := hw1.symm
  clear hZ hN hC hw1
  go_enter Tryd.func50, Tryd.ntmps50
  go_wp2_with (first
    | ((with_reducible refine wp_buildS (op := ⟨some 6, _, _, _, _, _⟩) rfl (.tmp 5) rfl s.size ?c1 ?_); (case c1 => rfl); rw [← HN.out])
    | ((with_reducible refine wp_storeN (op := ⟨none, _, _, _, _, _⟩) rfl (.tmp 3) (.tmp 6) rfl w1 (rawL 0) N ?c1 ?c2 ?c3 ?c4 ?c5 ?c6 ?_); (case c1 => (rw [← HZ.out])); (case c2 => (rw [g1]; rfl)); (case c3 => rfl); (case c4 => exact rawL_len _); (case c5 => exact NL.out); (case c6 => (rw [HN.out]; exact rawL_one _)))
    | ((with_reducible refine wp_loadS (op := ⟨some 11, _, _, _, _, _⟩) rfl (.tmp 3) rfl (w.heap.size + 1) 0 ?c1 C ?c2 ?c3 ?_); (case c1 => rfl); (case c2 => (rw [← g1]; exact RC.out.mid (fun j v hv => by rw [Nat.zero_add]; exact hv))); (case c3 => exact CL.out))
    | ((with_reducible refine wp_storeS (op := ⟨none, _, _, _, _, _⟩) rfl (.tmp 2) (.tmp 11) rfl w.heap.size 0 C ?c1 ?c2 ?c3 ?c4 ?c5 ?_); (case c1 => rfl); (case c2 => rfl); (case c3 => exact (RZ.out.alloc _).there (by rw [rawL_len]; omega)); (case c4 => exact CL.out); (case c5 => (rw [HC.out]; exact secL_one _))))
  refine bodyPost_ret (v := .agg C.toArray) ?_ rfl ?_
  · rw [results_cell1 rfl]
    show ((asAddr (.pointer (some ⟨w.heap.size, 0, none⟩))).run _ _).andThen _ = _
    have k := run_loadVar_mid (P := Tryd.prog) ((w1.alloc (.cells C.toArray 85)).setCells w.heap.size 0 C) w.heap.size 0 85 C _
      (World.rangeAt_setCells_same _ _ _ _ ((RZ.out.alloc _).there (by rw [rawL_len, CL.out]; omega))) Tryd.underlying85 rfl (by rw [CL.out]; exact sizeS74)
    simp only [asAddr, Sem.run_pure, Result.andThen_ok]
    exact k
  · refine ⟨by rw [HC.out], ?_⟩
    have hb : Below w.heap.size w w1 := by rw [HW.out]; exact (Below.refl _ _).alloc (Nat.le_refl _) _
    exact (hb.alloc hb.size _).grown (setCells_grown _ _ _ _) (Nat.le_trans hb.size (by simp)) (fun k e => by cases e; exact Nat.le_refl _)

end Go.Proofs.YtfodclafkdkjbaaDoor
