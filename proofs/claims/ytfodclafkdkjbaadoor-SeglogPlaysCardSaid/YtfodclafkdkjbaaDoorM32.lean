/- Proved parts: S6d. Conditions: each theorem's own. -/
import Derived.Test.YtfodclafkdkjbaaDoorM12
import Derived.Test.YtfodclafkdkjbaaDoorM18
import Derived.Test.YtfodclafkdkjbaaDoorM14
import Derived.Test.YtfodclafkdkjbaaDoorM6
namespace Go.Proofs.YtfodclafkdkjbaaDoor
open Go.RowKit

theorem gk_extract (s : ByteArray) (o e : Nat) : ∀ k, k ≤ e - o → gk (s.extract o e) 0 k = gk s o k
  | 0, _ => rfl
  | k + 1, h => by
    simp only [gk]
    rw [gk_extract s o e k (by omega), bN_extract _ _ _ _ (by omega), Nat.zero_add]
theorem pNum (s : ByteArray) (o e : Nat) (w : World) (he : e ≤ s.size) (h4 : e - o ≤ 4) : Calls Tryd.prog 65 #[.string (s.extract o e)] w fun x w' => x = .returned (.int .i64 (gk s o (e - o))) ∧ w' = w := by
  have hs := size_extract s o e he
  have k := pNumber (s.extract o e) w (by omega)
  rw [hs, gk_extract s o e _ (Nat.le_refl _)] at k
  exact k

/-- what it answers -/
def UpPost (s : ByteArray) (w : World) (e : Ending) (w' : World) : Prop :=
  e = .returned (.tuple #[(if isSec s then stp s else Stp.S0).v, .string (if isSec s then dat s else ⟨#[]⟩), .int .i64 (if isSec s then 0 else 4)]) ∧ Below w.heap.size w w'
theorem UpPost.no {s : ByteArray} {w w' : World} (h : isSec s = false) (hb : Below w.heap.size w w') : UpPost s w (.returned (.tuple #[.agg #[.int .i64 0, .int .i64 0, .int .i64 0, .int .i64 0, .int .i64 0], .string ⟨#[]⟩, .int .i64 4])) w' := by
  refine ⟨?_, hb⟩; rw [h]; rfl

set_option maxRecDepth 100000 in
set_option maxHeartbeats 1000000 in
theorem pUnpack_no (s : ByteArray) (w : World) (_hs : s.size ≤ 1000) (h : s.size ≠ 64 ∨ (s.size = 64 ∧ bN s 0 ≠ 193)) :
    Calls Tryd.prog 56 #[.string s] w (UpPost s w) := by
  have R := Lib.hid (show isSec s = false by
    cases k : isSec s with
    | false => rfl
    | true => have := (isSec_iff s).1 k; omega)
  rcases h with h | ⟨h, h0⟩
  · have T : ((s.size : Int) != 64) = true := by rw [bne_iff_ne]; omega
    clear h
    go_enter Tryd.func56, Tryd.ntmps56
    go_wp2_with fail
    refine bodyPost_ret (v := .tuple #[.agg #[.int .i64 0, .int .i64 0, .int .i64 0, .int .i64 0, .int .i64 0], .string ⟨#[]⟩, .int .i64 4]) (by simp [results, Tryd.results56, go_sem]) rfl ?_
    exact UpPost.no R.out ((Below.refl w.heap.size w).alloc (Nat.le_refl _) _)
  · have T : ((s.size : Int) != 64) = false := by rw [bne_eq_false_iff_eq]; omega
    have hp : 0 < s.size := by omega
    have e0 : ((s[0]'hp).toNat : Int) = bN s 0 := byte_bN s 0 hp
    have T0 : ((bN s 0 : Int) != 193) = true := by rw [bne_iff_ne]; omega
    clear h h0
    go_enter Tryd.func56, Tryd.ntmps56
    go_wp2_with fail
    refine bodyPost_ret (v := .tuple #[.agg #[.int .i64 0, .int .i64 0, .int .i64 0, .int .i64 0, .int .i64 0], .string ⟨#[]⟩, .int .i64 4]) (by simp [results, Tryd.results56, go_sem]) rfl ?_
    exact UpPost.no R.out ((Below.refl w.heap.size w).alloc (Nat.le_refl _) _)

set_option maxRecDepth 100000 in
set_option maxHeartbeats 2000000 in
theorem pUnpack_go (s : ByteArray) (w : World) (h : s.size = 64) (h0 : bN s 0 = 193) :
    Calls Tryd.prog 56 #[.string s] w (UpPost s w) := by
  have T : ((s.size : Int) != 64) = false := by rw [bne_eq_false_iff_eq]; omega
  have hp : 0 < s.size := by omega
  have e0 : ((s[0]'hp).toNat : Int) = bN s 0 := byte_bN s 0 hp
  have T0 : ((bN s 0 : Int) != 193) = false := by rw [bne_eq_false_iff_eq]; omega
  have HS := Lib.hid h
  have H0 := Lib.hid h0
  have l5 := bN_lt s 5
  have l6 := bN_lt s 6
  have l11 := bN_lt s 11
  have l12 := bN_lt s 12
  have l13 := bN_lt s 13
  obtain ⟨a, ha⟩ : ∃ a, a = num4 s 1 := ⟨_, rfl⟩
  obtain ⟨b, hb⟩ : ∃ b, b = num4 s 7 := ⟨_, rfl⟩
  obtain ⟨i, hi⟩ : ∃ i, i = (bN s 5 : Int) * 256 + bN s 6 := ⟨_, rfl⟩
  have N1 := Lib.hid (show ∀ w, Calls Tryd.prog 65 #[.string (s.extract 1 5)] w fun x w' => x = .returned (.int .i64 a) ∧ w' = w from fun w => by
    have k := pNum s 1 5 w (by omega) (by omega)
    rw [show gk s 1 (5 - 1) = a by rw [ha, ← gk_four]] at k; exact k)
  have N2 := Lib.hid (show ∀ w, Calls Tryd.prog 65 #[.string (s.extract 5 7)] w fun x w' => x = .returned (.int .i64 i) ∧ w' = w from fun w => by
    have k := pNum s 5 7 w (by omega) (by omega)
    rw [show gk s 5 (7 - 5) = i by rw [hi]; simp [gk]] at k; exact k)
  have N3 := Lib.hid (show ∀ w, Calls Tryd.prog 65 #[.string (s.extract 7 11)] w fun x w' => x = .returned (.int .i64 b) ∧ w' = w from fun w => by
    have k := pNum s 7 11 w (by omega) (by omega)
    rw [show gk s 7 (11 - 7) = b by rw [hb, ← gk_four]] at k; exact k)
  have N4 := Lib.hid (show ∀ w, Calls Tryd.prog 65 #[.string (s.extract 11 12)] w fun x w' => x = .returned (.int .i64 (bN s 11)) ∧ w' = w from fun w => by
    have k := pNum s 11 12 w (by omega) (by omega)
    rw [show gk s 11 (12 - 11) = bN s 11 by simp [gk]] at k; exact k)
  have N5 := Lib.hid (show ∀ w, Calls Tryd.prog 65 #[.string (s.extract 12 13)] w fun x w' => x = .returned (.int .i64 (bN s 12)) ∧ w' = w from fun w => by
    have k := pNum s 12 13 w (by omega) (by omega)
    rw [show gk s 12 (13 - 12) = bN s 12 by simp [gk]] at k; exact k)
  have N6 := Lib.hid (show ∀ w, Calls Tryd.prog 65 #[.string (s.extract 13 14)] w fun x w' => x = .returned (.int .i64 (bN s 13)) ∧ w' = w from fun w => by
    have k := pNum s 13 14 w (by omega) (by omega)
    rw [show gk s 13 (14 - 13) = bN s 13 by simp [gk]] at k; exact k)
  have ES := Lib.hid (show stp s = ⟨a, i, b, bN s 11, bN s 12⟩ by rw [ha, hb, hi]; rfl)
  have FT : (⟨a, i, b, (bN s 11 : Int), (bN s 12 : Int)⟩ : Stp).Fits := by
    have g1 := gk_le s 1 4 (by omega)
    have g2 := gk_le s 7 4 (by omega)
    rw [gk_four] at g1 g2
    unfold Stp.Fits; simp only; omega
  obtain ⟨o, ho⟩ : ∃ o, o = (stp s).ok := ⟨_, rfl⟩
  have RT := Lib.hid (show ∀ w, Calls Tryd.prog 66 #[.agg #[.int .i64 a, .int .i64 i, .int .i64 b, .int .i64 (bN s 11), .int .i64 (bN s 12)]] w fun e w' => e = .returned (.bool o) ∧ Below w.heap.size w w' from fun w => by
    rw [ho, ES.out]; exact pRight ⟨a, i, b, bN s 11, bN s 12⟩ w FT)
  have IS := Lib.hid (show isSec s = (decide (bN s 13 ≤ 50) && zeros s (14 + bN s 13) && o) by
    unfold isSec
    rw [decide_eq_true HS.out, decide_eq_true H0.out, ho]; rfl)
  clear ho
  clear FT ha hb hi h0
  obtain ⟨q, hq⟩ : ∃ q, q = w.heap.size := ⟨_, rfl⟩
  have RA := RowAt.new w [.int .i64 0, .int .i64 0, .int .i64 0, .int .i64 0, .int .i64 0] 110
  have BA := (Below.refl w.heap.size w).alloc (Nat.le_refl _) (.cells #[.int .i64 0, .int .i64 0, .int .i64 0, .int .i64 0, .int .i64 0] 110)
  go_enter Tryd.func56, Tryd.ntmps56
  go_wp2_with fail
  change RowAt (w.alloc (.cells #[.int .i64 0, .int .i64 0, .int .i64 0, .int .i64 0, .int .i64 0] 110)) w.heap.size _ _ at RA
  generalize w.alloc (.cells #[.int .i64 0, .int .i64 0, .int .i64 0, .int .i64 0, .int .i64 0] 110) = wa at RA BA ⊢
  rw [← hq] at RA BA ⊢
  have RA' := Lib.hid RA
  have BA' := Lib.hid BA
  have HQ := Lib.hid hq
  clear RA BA hq T T0 e0 hp
  refine wp_region_held_drew (S := fun _ => True) (by kernel_rfl) trivial (fun hHeld => ?_)
  refine rgnTake 0 rfl (by kernel_rfl) (by kernel_rfl) (by kernel_rfl) (fun _ _ _ h => h) (by rfl) (v := ?v0) ?hy0 hHeld ?rest0
  case hy0 => (intro v hSw; first | (go_simp; done) | (go_simp; with_reducible rfl))
  try simp only [Act.put, List.setIfInBounds_toArray, List.set_cons_zero, List.set_cons_succ]
  refine rgnTake 1 rfl (by kernel_rfl) (by kernel_rfl) (by kernel_rfl) (fun _ _ _ h => h) (by rfl) (v := ?v1) ?hy1 hHeld ?rest1
  case hy1 => (intro v hSw; first | (go_simp; done) | (go_simp; with_reducible rfl))
  try simp only [Act.put, List.setIfInBounds_toArray, List.set_cons_zero, List.set_cons_succ]
  refine rgnCall 2 rfl (by kernel_rfl) (by kernel_rfl) (by kernel_rfl) (fun _ _ _ h => h) (by rfl) (v := .int .i64 a) (fun v hSw => ⟨_, _, ?hx2, N1.out v⟩) hHeld ?rest2
  case hx2 => (first | (go_simp; done) | (go_simp; with_reducible rfl))
  try simp only [Act.put, List.setIfInBounds_toArray, List.set_cons_zero, List.set_cons_succ]
  refine rgnTake 3 rfl (by kernel_rfl) (by kernel_rfl) (by kernel_rfl) (fun _ _ _ h => h) (by rfl) (v := ?v3) ?hy3 hHeld ?rest3
  case hy3 => (intro v hSw; first | (go_simp; done) | (go_simp; with_reducible rfl))
  try simp only [Act.put, List.setIfInBounds_toArray, List.set_cons_zero, List.set_cons_succ]
  refine rgnTake 4 rfl (by kernel_rfl) (by kernel_rfl) (by kernel_rfl) (fun _ _ _ h => h) (by rfl) (v := ?v4) ?hy4 hHeld ?rest4
  case hy4 => (intro v hSw; first | (go_simp; done) | (go_simp; with_reducible rfl))
  try simp only [Act.put, List.setIfInBounds_toArray, List.set_cons_zero, List.set_cons_succ]
  refine rgnCall 5 rfl (by kernel_rfl) (by kernel_rfl) (by kernel_rfl) (fun _ _ _ h => h) (by rfl) (v := .int .i64 i) (fun v hSw => ⟨_, _, ?hx5, N2.out v⟩) hHeld ?rest5
  case hx5 => (first | (go_simp; done) | (go_simp; with_reducible rfl))
  try simp only [Act.put, List.setIfInBounds_toArray, List.set_cons_zero, List.set_cons_succ]
  refine rgnTake 6 rfl (by kernel_rfl) (by kernel_rfl) (by kernel_rfl) (fun _ _ _ h => h) (by rfl) (v := ?v6) ?hy6 hHeld ?rest6
  case hy6 => (intro v hSw; first | (go_simp; done) | (go_simp; with_reducible rfl))
  try simp only [Act.put, List.setIfInBounds_toArray, List.set_cons_zero, List.set_cons_succ]
  refine rgnTake 7 rfl (by kernel_rfl) (by kernel_rfl) (by kernel_rfl) (fun _ _ _ h => h) (by rfl) (v := ?v7) ?hy7 hHeld ?rest7
  case hy7 => (intro v hSw; first | (go_simp; done) | (go_simp; with_reducible rfl))
  try simp only [Act.put, List.setIfInBounds_toArray, List.set_cons_zero, List.set_cons_succ]
  refine rgnCall 8 rfl (by kernel_rfl) (by kernel_rfl) (by kernel_rfl) (fun _ _ _ h => h) (by rfl) (v := .int .i64 b) (fun v hSw => ⟨_, _, ?hx8, N3.out v⟩) hHeld ?rest8
  case hx8 => (first | (go_simp; done) | (go_simp; with_reducible rfl))
  try simp only [Act.put, List.setIfInBounds_toArray, List.set_cons_zero, List.set_cons_succ]
  refine rgnTake 9 rfl (by kernel_rfl) (by kernel_rfl) (by kernel_rfl) (fun _ _ _ h => h) (by rfl) (v := ?v9) ?hy9 hHeld ?rest9
  case hy9 => (intro v hSw; first | (go_simp; done) | (go_simp; with_reducible rfl))
  try simp only [Act.put, List.setIfInBounds_toArray, List.set_cons_zero, List.set_cons_succ]
  refine rgnTake 10 rfl (by kernel_rfl) (by kernel_rfl) (by kernel_rfl) (fun _ _ _ h => h) (by rfl) (v := ?v10) ?hy10 hHeld ?rest10
  case hy10 => (intro v hSw; first | (go_simp; done) | (go_simp; with_reducible rfl))
  try simp only [Act.put, List.setIfInBounds_toArray, List.set_cons_zero, List.set_cons_succ]
  refine rgnCall 11 rfl (by kernel_rfl) (by kernel_rfl) (by kernel_rfl) (fun _ _ _ h => h) (by rfl) (v := .int .i64 (bN s 11)) (fun v hSw => ⟨_, _, ?hx11, N4.out v⟩) hHeld ?rest11
  case hx11 => (first | (go_simp; done) | (go_simp; with_reducible rfl))
  try simp only [Act.put, List.setIfInBounds_toArray, List.set_cons_zero, List.set_cons_succ]
  refine rgnTake 12 rfl (by kernel_rfl) (by kernel_rfl) (by kernel_rfl) (fun _ _ _ h => h) (by rfl) (v := ?v12) ?hy12 hHeld ?rest12
  case hy12 => (intro v hSw; first | (go_simp; done) | (go_simp; with_reducible rfl))
  try simp only [Act.put, List.setIfInBounds_toArray, List.set_cons_zero, List.set_cons_succ]
  refine rgnTake 13 rfl (by kernel_rfl) (by kernel_rfl) (by kernel_rfl) (fun _ _ _ h => h) (by rfl) (v := ?v13) ?hy13 hHeld ?rest13
  case hy13 => (intro v hSw; first | (go_simp; done) | (go_simp; with_reducible rfl))
  try simp only [Act.put, List.setIfInBounds_toArray, List.set_cons_zero, List.set_cons_succ]
  refine rgnCall 14 rfl (by kernel_rfl) (by kernel_rfl) (by kernel_rfl) (fun _ _ _ h => h) (by rfl) (v := .int .i64 (bN s 12)) (fun v hSw => ⟨_, _, ?hx14, N5.out v⟩) hHeld ?rest14
  case hx14 => (first | (go_simp; done) | (go_simp; with_reducible rfl))
  try simp only [Act.put, List.setIfInBounds_toArray, List.set_cons_zero, List.set_cons_succ]
  refine rgnTake 15 rfl (by kernel_rfl) (by kernel_rfl) (by kernel_rfl) (fun _ _ _ h => h) (by rfl) (v := ?v15) ?hy15 hHeld ?rest15
  case hy15 => (intro v hSw; first | (go_simp; done) | (go_simp; with_reducible rfl))
  try simp only [Act.put, List.setIfInBounds_toArray, List.set_cons_zero, List.set_cons_succ]
  refine rgnOne 16 rfl (by kernel_rfl) (fun K hK => ?_)
  go_simp
  refine hK.out _ _ trivial (fun hHeld => ?_)
  clear hK K
  try simp only [Act.put, List.setIfInBounds_toArray, List.set_cons_zero, List.set_cons_succ]
  refine rgnOne 17 rfl (by kernel_rfl) (fun K hK => ?_)
  go_simp
  refine hK.out _ _ trivial (fun hHeld => ?_)
  clear hK K
  try simp only [Act.put, List.setIfInBounds_toArray, List.set_cons_zero, List.set_cons_succ]
  refine wpAnyH_done (by kernel_rfl) ?_ _
  have RX := RowAt.new wa [.int .i64 a, .int .i64 i, .int .i64 b, .int .i64 (bN s 11), .int .i64 (bN s 12)] 110
  have RQ := RA'.out.alloc (.cells #[.int .i64 a, .int .i64 i, .int .i64 b, .int .i64 (bN s 11), .int .i64 (bN s 12)] 110)
  have BX := below_drew (BA'.out.alloc (by have h1 := HQ.out; have h2 := BA'.out.size; omega) (.cells #[.int .i64 a, .int .i64 i, .int .i64 b, .int .i64 (bN s 11), .int .i64 (bN s 12)] 110))
  change RowAt (wa.alloc (.cells #[.int .i64 a, .int .i64 i, .int .i64 b, .int .i64 (bN s 11), .int .i64 (bN s 12)] 110)).drew _ _ _ at RX RQ
  generalize (wa.alloc (.cells #[.int .i64 a, .int .i64 i, .int .i64 b, .int .i64 (bN s 11), .int .i64 (bN s 12)] 110)).drew = wx at RX RQ BX ⊢
  obtain ⟨qx, hqx⟩ : ∃ qx, qx = wa.heap.size := ⟨_, rfl⟩
  have NE := Lib.hid (show q < qx from by rw [hqx]; exact RA'.out.lt)
  rw [← hqx] at RX ⊢
  have RX' := Lib.hid RX
  have RQ' := Lib.hid RQ
  have BX' := Lib.hid BX
  clear RX RQ BX hqx RA' BA'
  go_wp2_with fail
  refine (N6.out _).mono ?_
  rintro e w1 ⟨rfl, rfl⟩
  obtain ⟨d0, d1, d2, d3, d4⟩ := BoxS.of_row RX'.out
  go_wp2_with fail
  refine (RT.out _).mono ?_
  rintro e w2 ⟨rfl, hb2⟩
  have RX2 := Lib.hid (RX'.out.below hb2)
  have RQ2 := Lib.hid (RQ'.out.below hb2)
  have BX2 := Lib.hid (BX'.out.trans (hb2.mono (by have h1 := BX'.out.size; have h2 := HQ.out; omega)))
  clear hb2 d0 d1 d2 d3 d4
  cases o with
  | false =>
    have R := Lib.hid (show isSec s = false by rw [IS.out, Bool.and_false])
    have f0 := RowAt.frozen RQ2.out 0
    have f1 := RowAt.frozen RQ2.out 1
    have f2 := RowAt.frozen RQ2.out 2
    have f3 := RowAt.frozen RQ2.out 3
    have f4 := RowAt.frozen RQ2.out 4
    obtain ⟨c0, c1, c2, c3, c4⟩ : BoxS w2 q 0 0 0 0 0 := BoxS.of_row RQ2.out
    go_wp2_with fail
    refine bodyPost_ret (v := .tuple #[.agg #[.int .i64 0, .int .i64 0, .int .i64 0, .int .i64 0, .int .i64 0], .string ⟨#[]⟩, .int .i64 4]) (by simp [results, Tryd.results56, go_sem, c0, c1, c2, c3, c4]) rfl ?_
    refine UpPost.no R.out ?_
    rw [← HQ.out]
    exact ((((((((((BX2.out).setCell (p := ⟨q, 0, none⟩) (Nat.le_refl q) _)).setCell (p := ⟨q, 1, none⟩) (Nat.le_refl q) _)).setCell (p := ⟨q, 2, none⟩) (Nat.le_refl q) _)).setCell (p := ⟨q, 3, none⟩) (Nat.le_refl q) _)).setCell (p := ⟨q, 4, none⟩) (Nat.le_refl q) _)
  | true =>
  by_cases hn : bN s 13 ≤ 50
  case neg =>
    have R := Lib.hid (show isSec s = false by rw [IS.out, decide_eq_false hn, Bool.false_and, Bool.false_and])
    have T1 : decide (50 < (bN s 13 : Int)) = true := decide_eq_true (by omega)
    have f0 := RowAt.frozen RQ2.out 0
    have f1 := RowAt.frozen RQ2.out 1
    have f2 := RowAt.frozen RQ2.out 2
    have f3 := RowAt.frozen RQ2.out 3
    have f4 := RowAt.frozen RQ2.out 4
    obtain ⟨c0, c1, c2, c3, c4⟩ : BoxS w2 q 0 0 0 0 0 := BoxS.of_row RQ2.out
    go_wp2_with fail
    refine bodyPost_ret (v := .tuple #[.agg #[.int .i64 0, .int .i64 0, .int .i64 0, .int .i64 0, .int .i64 0], .string ⟨#[]⟩, .int .i64 4]) (by simp [results, Tryd.results56, go_sem, c0, c1, c2, c3, c4]) rfl ?_
    refine UpPost.no R.out ?_
    rw [← HQ.out]
    exact ((((((((((BX2.out).setCell (p := ⟨q, 0, none⟩) (Nat.le_refl q) _)).setCell (p := ⟨q, 1, none⟩) (Nat.le_refl q) _)).setCell (p := ⟨q, 2, none⟩) (Nat.le_refl q) _)).setCell (p := ⟨q, 3, none⟩) (Nat.le_refl q) _)).setCell (p := ⟨q, 4, none⟩) (Nat.le_refl q) _)
  have T1 : decide (50 < (bN s 13 : Int)) = false := decide_eq_false (by omega)
  have HN := Lib.hid hn
  have IS2 := Lib.hid (show isSec s = zeros s (14 + bN s 13) by rw [IS.out, decide_eq_true hn, Bool.true_and, Bool.and_true])
  obtain ⟨R, hR⟩ : ∃ R, R = s.extract (14 + bN s 13) 64 := ⟨_, rfl⟩
  have HSL : ∀ W : World, (Instr.slice 9 (.string s) (some (.int .i64 14)) (some (.int .i64 (14 + (bN s 13 : Int)))) none).run Tryd.prog W = .ok (.string (dat s)) W := by
    intro W
    rw [run_slice_string W 9 s .i64 .i64 _ _ Tryd.underlying9 (by omega) (by omega) (by omega), show (14 : Int).toNat = 14 from rfl, show (14 + (bN s 13 : Int)).toNat = 14 + bN s 13 by omega]
    rfl
  have HSL2 : ∀ W : World, (Instr.slice 9 (.string s) (some (.int .i64 (14 + (bN s 13 : Int)))) none none).run Tryd.prog W = .ok (.string (s.extract (14 + bN s 13) 64)) W := by
    intro W
    rw [run_slice_string_from_if W 9 s .i64 _ Tryd.underlying9, if_pos ⟨by omega, by omega⟩, show (14 + (bN s 13 : Int)).toNat = 14 + bN s 13 by omega, h]
  have RS : R.size = 64 - (14 + bN s 13) := by rw [hR, size_extract _ _ _ (by omega)]
  have TR := Lib.hid (fun w => pTrim R w (by omega))
  have TZ := Lib.hid (show (trimmed R).size = 0 ↔ zeros s (14 + bN s 13) = true by
    rw [trimmed_nil, zeros_iff]
    constructor
    · intro k j h1 h2
      have := k (j - (14 + bN s 13)) (by omega)
      rw [hR, bN_extract _ _ _ _ (by omega), show 14 + bN s 13 + (j - (14 + bN s 13)) = j by omega] at this
      exact this
    · intro k j hj
      rw [hR, bN_extract _ _ _ _ (by omega)]
      exact k _ (by omega) (by omega))
  obtain ⟨t, ht⟩ : ∃ t, t = trimmed R := ⟨_, rfl⟩
  rw [← ht, hR] at TR
  rw [← ht] at TZ
  clear ht hR RS R
  have WR : IntKind.i64.wrap (14 + (bN s 13 : Int)) = 14 + (bN s 13 : Int) := by rw [IntKind.wrap_i64]; omega
  clear hn
  go_wp2_with fail
  go_quiet (fail)
  go_wp2_with fail
  refine (TR.out _).mono ?_
  rintro e w3 ⟨rfl, nn, rfl⟩
  rw [World.drewN_drewN]
  obtain ⟨w4, hw4⟩ : ∃ w4, w4 = w2.drewN (nq + nn) := ⟨_, rfl⟩
  have RX4 := Lib.hid (show RowAt w4 qx _ _ from by rw [hw4]; exact RX2.out.drewN _)
  have RQ4 := Lib.hid (show RowAt w4 q _ _ from by rw [hw4]; exact RQ2.out.drewN _)
  have BX4 := Lib.hid (show Below q w w4 from by rw [hw4]; exact below_drewN BX2.out _)
  rw [← hw4]
  clear hw4
  by_cases hz : t.size = 0
  case neg =>
    have T0 : (t.toList == []) = false := by
      rw [beq_eq_false_iff_ne]
      intro e
      have e3 := toList_inj (b := ⟨#[]⟩) (e.trans (by rw [ByteArray.toList_eq]))
      rw [e3] at hz
      exact hz rfl
    have R := Lib.hid (show isSec s = false by
      rw [IS2.out]
      cases z : zeros s (14 + bN s 13) with
      | false => rfl
      | true => exact absurd (TZ.out.2 z) hz)
    clear hz
    have f0 := RowAt.frozen RQ4.out 0
    have f1 := RowAt.frozen RQ4.out 1
    have f2 := RowAt.frozen RQ4.out 2
    have f3 := RowAt.frozen RQ4.out 3
    have f4 := RowAt.frozen RQ4.out 4
    obtain ⟨c0, c1, c2, c3, c4⟩ : BoxS w4 q 0 0 0 0 0 := BoxS.of_row RQ4.out
    go_wp2_with fail
    refine bodyPost_ret (v := .tuple #[.agg #[.int .i64 0, .int .i64 0, .int .i64 0, .int .i64 0, .int .i64 0], .string ⟨#[]⟩, .int .i64 4]) (by simp [results, Tryd.results56, go_sem, c0, c1, c2, c3, c4]) rfl ?_
    refine UpPost.no R.out ?_
    rw [← HQ.out]
    exact ((((((((((BX4.out).setCell (p := ⟨q, 0, none⟩) (Nat.le_refl q) _)).setCell (p := ⟨q, 1, none⟩) (Nat.le_refl q) _)).setCell (p := ⟨q, 2, none⟩) (Nat.le_refl q) _)).setCell (p := ⟨q, 3, none⟩) (Nat.le_refl q) _)).setCell (p := ⟨q, 4, none⟩) (Nat.le_refl q) _)
  have RY := Lib.hid (show isSec s = true by rw [IS2.out]; exact TZ.out.1 hz)
  have e2 : t = ⟨#[]⟩ := bytes_eq (by rw [hz]; rfl) (fun j hj => by omega)
  subst e2
  clear hz
  have DS := Lib.hid (show (dat s).size ≤ 281474976710656 by rw [dat_size RY.out]; have := HN.out; omega)
  have CC := Lib.hid (fun w => lclone (dat s) w DS.out)
  go_wp2_with fail
  refine wp_region_held_drew (S := fun v => RowAt v qx [.int .i64 a, .int .i64 i, .int .i64 b, .int .i64 (bN s 11), .int .i64 (bN s 12)] 110) (by kernel_rfl) (RX4.out.drewN 1) (fun hHeld => ?_)
  refine rgnTake 0 rfl (by kernel_rfl) (by kernel_rfl) (by kernel_rfl) (fun _ _ _ h => h) (by rfl) (v := ?v0q) ?hy0q hHeld ?rest0q
  case hy0q => (intro v hSw; obtain ⟨d0, d1, d2, d3, d4⟩ := BoxS.of_row hSw; first | (go_simp; done) | (go_simp; with_reducible rfl))
  try simp only [Act.put, List.setIfInBounds_toArray, List.set_cons_zero, List.set_cons_succ]
  refine rgnTake 1 rfl (by kernel_rfl) (by kernel_rfl) (by kernel_rfl) (fun _ _ _ h => h) (by rfl) (v := ?v1q) ?hy1q hHeld ?rest1q
  case hy1q => (intro v hSw; first | (go_simp; done) | (go_simp; with_reducible rfl))
  try simp only [Act.put, List.setIfInBounds_toArray, List.set_cons_zero, List.set_cons_succ]
  refine rgnOne 2 rfl (by kernel_rfl) (fun K hK => ?_)
  · go_simp
    refine (CC.out _).mono ?_
    rintro e w5 ⟨rfl, hb5⟩
    have RX5 := Lib.hid (show RowAt w5 qx _ _ from RowAt.below (w := w4.drew) RX4.out hb5)
    have RQ5 := Lib.hid (show RowAt w5 q _ _ from RowAt.below (w := w4.drew) RQ4.out hb5)
    have BX5 := Lib.hid ((below_drew BX4.out).trans (hb5.mono (by have h1 := BX4.out.size; have h2 := HQ.out; show q ≤ w4.heap.size; omega)))
    clear hb5
    refine hK.out _ _ RX5.out (fun hHeld => ?_)
    clear hK K
    try simp only [Act.put, List.setIfInBounds_toArray, List.set_cons_zero, List.set_cons_succ]
    refine rgnOne 3 rfl (by kernel_rfl) (fun K hK => ?_)
    have f0 := RowAt.frozen RQ5.out 0
    have f1 := RowAt.frozen RQ5.out 1
    have f2 := RowAt.frozen RQ5.out 2
    have f3 := RowAt.frozen RQ5.out 3
    have f4 := RowAt.frozen RQ5.out 4
    obtain ⟨c0, c1, c2, c3, c4⟩ : BoxS w5 q 0 0 0 0 0 := BoxS.of_row RQ5.out
    go_simp
    refine hK.out _ _ (RowAt.other ((RowAt.other ((RowAt.other ((RowAt.other ((RowAt.other (RX5.out) (p := ⟨q, 0, none⟩) (show q ≠ qx from Nat.ne_of_lt NE.out) (.int .i64 a))) (p := ⟨q, 1, none⟩) (show q ≠ qx from Nat.ne_of_lt NE.out) (.int .i64 i))) (p := ⟨q, 2, none⟩) (show q ≠ qx from Nat.ne_of_lt NE.out) (.int .i64 b))) (p := ⟨q, 3, none⟩) (show q ≠ qx from Nat.ne_of_lt NE.out) (.int .i64 (bN s 11)))) (p := ⟨q, 4, none⟩) (show q ≠ qx from Nat.ne_of_lt NE.out) (.int .i64 (bN s 12))) (fun hHeld => ?_)
    clear hK K c0 c1 c2 c3 c4 f0 f1 f2 f3 f4
    have RE := Lib.hid (RowAt.set ((RowAt.set ((RowAt.set ((RowAt.set ((RowAt.set (RQ5.out) 0 (.int .i64 a))) 1 (.int .i64 i))) 2 (.int .i64 b))) 3 (.int .i64 (bN s 11)))) 4 (.int .i64 (bN s 12)))
    have BE := Lib.hid ((((((((((BX5.out).setCell (p := ⟨q, 0, none⟩) (Nat.le_refl q) (.int .i64 a))).setCell (p := ⟨q, 1, none⟩) (Nat.le_refl q) (.int .i64 i))).setCell (p := ⟨q, 2, none⟩) (Nat.le_refl q) (.int .i64 b))).setCell (p := ⟨q, 3, none⟩) (Nat.le_refl q) (.int .i64 (bN s 11)))).setCell (p := ⟨q, 4, none⟩) (Nat.le_refl q) (.int .i64 (bN s 12)))
    try simp only [Act.put, List.setIfInBounds_toArray, List.set_cons_zero, List.set_cons_succ]
    refine rgnTake 4 rfl (by kernel_rfl) (by kernel_rfl) (by kernel_rfl) (fun _ _ _ h => h) (by rfl) (v := ?v4r) ?hy4r hHeld ?rest4r
    case hy4r => (intro v hSw; first | (go_simp; done) | (go_simp; with_reducible rfl))
    try simp only [Act.put, List.setIfInBounds_toArray, List.set_cons_zero, List.set_cons_succ]
    refine rgnTake 5 rfl (by kernel_rfl) (by kernel_rfl) (by kernel_rfl) (fun _ _ _ h => h) (by rfl) (v := ?v5r) ?hy5r hHeld ?rest5r
    case hy5r => (intro v hSw; first | (go_simp; done) | (go_simp; with_reducible rfl))
    try simp only [Act.put, List.setIfInBounds_toArray, List.set_cons_zero, List.set_cons_succ]
    refine wpAnyH_done (by kernel_rfl) ?_ _
    obtain ⟨c0, c1, c2, c3, c4⟩ := BoxS.of_row RE.out
    go_wp2_with fail
    refine bodyPost_ret (v := .tuple #[.agg #[.int .i64 a, .int .i64 i, .int .i64 b, .int .i64 (bN s 11), .int .i64 (bN s 12)], .string (dat s), .int .i64 0]) (by simp [results, Tryd.results56, go_sem, c0, c1, c2, c3, c4]) rfl ?_
    refine ⟨?_, ?_⟩
    · rw [RY.out, if_pos rfl, if_pos rfl, if_pos rfl, ES.out]; rfl
    · rw [← HQ.out]; exact BE.out

/-- sector.Unpack -/
theorem pUnpack (s : ByteArray) (w : World) (hs : s.size ≤ 1000) : Calls Tryd.prog 56 #[.string s] w (UpPost s w) := by
  by_cases h : s.size = 64
  · by_cases h0 : bN s 0 = 193
    · exact pUnpack_go s w h h0
    · exact pUnpack_no s w hs (.inr ⟨h, h0⟩)
  · exact pUnpack_no s w hs (.inl h)

/-- all of it -/
theorem theX : SecAt where
  right := fun x w hf => pRight x w hf
  pack := fun x d w hf hs => pPack x d w hf hs
  unpack := fun s w hs => pUnpack s w hs
  count := fun n w h0 h1 => (pCount n w h0 h1).mono fun e w' ⟨he, hw⟩ => ⟨he, by rw [hw]; exact Below.refl _ _⟩

end Go.Proofs.YtfodclafkdkjbaaDoor
