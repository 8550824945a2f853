/- chain's follows, fresh, until: walked. -/
import Derived.Test.YtpafnjdaiagdiaaC9x
import Derived.Test.YtpafnjdaiagdiaaVq
import Derived.Test.YtpafnjdaiagdiaaCo
import Derived.Laws.Rows
import Derived.Shelf.SlSorted.Search
namespace Go.Proofs.Ytpafnjdaiagdiaa
open Go.RowKit Go.Shelf

theorem eql_zero (x : Val) (w : World) : (binOp .eql 27 x.v Val.V0.v).run Try.prog w = .ok (.bool x.isZ) w := by
  unfold Val.v
  rw [run_eql_struct, eqIn_val 9998]
  show Result.ok (Value.bool ((x.num == false) && ((x.txt.toList == (⟨#[]⟩ : ByteArray).toList) && ((x.bits : Int) == 0)))) w = _
  rw [show (⟨#[]⟩ : ByteArray).toList = [] by kernel_rfl]
  rfl
theorem ok_of_isZ {x : Val} (h : x.isZ = true) : x.ok = true := by
  rw [(Val.isZ_iff x).1 h]
  kernel_rfl

set_option maxRecDepth 100000 in
set_option maxHeartbeats 1000000 in
/-- follows -/
theorem xFollows9 (x : Ver) (p : Int) (w : World) (hf : x.val.Fits) : Calls Try.prog 25 #[x.v, .int .i64 p] w fun e w' => e = .returned (.bool (mayV p x)) ∧ Below w.heap.size w w' := by
  obtain ⟨s, g, v⟩ := x
  obtain ⟨m, t, k⟩ := v
  obtain ⟨K, hK⟩ : ∃ K, K = Val.ok ⟨m, t, k⟩ := ⟨_, rfl⟩
  obtain ⟨Y, hY⟩ : ∃ Y, Y = Val.isZ ⟨m, t, k⟩ := ⟨_, rfl⟩
  have EM := Lib.hid (show mayV p ⟨s, g, ⟨m, t, k⟩⟩ = (decide (p < s) && (decide (s ≤ 1073741824) && (K && (!g || Y)))) by rw [hK, hY]; rfl)
  have KY := Lib.hid (fun (h : Y = true) => show K = true by rw [hK]; exact ok_of_isZ (by rw [← hY]; exact h))
  have EZ := eql_zero ⟨m, t, k⟩
  have VR := Lib.hid (fun w => vpRight ⟨m, t, k⟩ w hf)
  rw [← hY] at EZ
  rw [← hK] at VR
  have EZ : ∀ w, (binOp .eql 27 (.agg #[.bool m, .string t, .int .u64 (k : Int)]) (.agg #[.bool false, .string ⟨#[]⟩, .int .u64 0])).run Try.prog w = .ok (.bool Y) w := EZ
  have VR : Hid (∀ w, Calls Try.prog 34 #[.agg #[.bool m, .string t, .int .u64 (k : Int)]] w fun e w' => e = .returned (.bool K) ∧ Below w.heap.size w w') := VR
  have B0 := Lib.hid ((Below.refl w.heap.size w).alloc (Nat.le_refl _) (.cells #[.int .i64 s, .bool g, .bool m, .string t, .int .u64 (k : Int)] 29))
  show Calls Try.prog 25 #[.agg #[.int .i64 s, .bool g, .bool m, .string t, .int .u64 (k : Int)], .int .i64 p] w _
  clear hK hY hf
  rw [EM.out]
  by_cases p1 : p < s
  · by_cases p2 : s ≤ 1073741824
    · have d1 := Lib.hid (decide_eq_true p1)
      have d2 := Lib.hid (decide_eq_true p2)
      cases g with
      | true =>
        go_enter Try.func25, Try.ntmps25
        go_wp2_with fail
        go_ret
        refine ⟨?_, B0.out⟩
        rw [d1.out, d2.out]
        cases Y with
        | false => simp
        | true => rw [KY.out rfl]; rfl
      | false =>
        go_enter Try.func25, Try.ntmps25
        go_wp2_with fail
        refine (VR.out _).mono ?_
        rintro e w1 ⟨rfl, hb1⟩
        have B1 := Lib.hid (below_then B0.out hb1)
        clear hb1
        go_wp2_with fail
        go_ret
        refine ⟨?_, B1.out⟩
        rw [d1.out, d2.out]; simp
    · have d2 := Lib.hid (decide_eq_false p2)
      go_enter Try.func25, Try.ntmps25
      go_wp2_with fail
      go_ret
      exact ⟨by rw [d2.out]; simp, B0.out⟩
  · have d1 := Lib.hid (decide_eq_false p1)
    go_enter Try.func25, Try.ntmps25
    go_wp2_with fail
    go_ret
    exact ⟨by rw [d1.out]; simp, B0.out⟩

theorem results_cell_one {P : Program} {fn : Func} {p : Tmp} {ty : TypeId} (h : fn.results = #[.cell p ty]) (tmps : Array Value) (w : World) (g : Nat) (t : TypeId) (cs : List Value) (d : TypeDesc)
    (hp : tmps.getD p undef = .pointer (some ⟨g, 0, none⟩)) (hg : RowAt w g cs t)
    (hu : P.underlying ty = some d) (hd : (match d with | .struct _ | .array _ _ => true | _ => false) = true) (hi : (P.info? ty).map (·.size) = some cs.toArray.size) :
    (results fn tmps).run P w = .ok (.agg cs.toArray) w :=
  results_cell_row h tmps w g t cs.toArray _ d hp hg hu hd hi

set_option maxRecDepth 100000 in
set_option maxHeartbeats 1000000 in
/-- fresh -/
theorem xFresh9 (x : Ver) (w : World) (ht : x.val.txt.size ≤ 1000) : Calls Try.prog 28 #[x.v] w fun e w' => e = .returned x.v ∧ Below w.heap.size w w' := by
  obtain ⟨s, g, v⟩ := x
  obtain ⟨m, t, k⟩ := v
  obtain ⟨B, hB⟩ : ∃ B, B = w.heap.size := ⟨_, rfl⟩
  rw [← hB]
  have CL := Lib.hid (fun w => lclone t w (Nat.le_trans ht (by decide)))
  have R0 := ((RowAt.new w (Ver.cs ⟨s, g, ⟨m, t, k⟩⟩) 29).alloc (.cells Ver.Z.cs.toArray 29))
  have R1 := RowAt.new (w.alloc (.cells (Ver.cs ⟨s, g, ⟨m, t, k⟩⟩).toArray 29)) Ver.Z.cs 29
  rw [show (w.alloc (.cells (Ver.cs ⟨s, g, ⟨m, t, k⟩⟩).toArray 29)).heap.size = w.heap.size + 1 by simp, ← hB] at R1
  rw [← hB] at R0
  have B0 := Lib.hid (show Below B w ((w.alloc (.cells (Ver.cs ⟨s, g, ⟨m, t, k⟩⟩).toArray 29)).alloc (.cells Ver.Z.cs.toArray 29)) by rw [hB]; exact ((Below.refl _ _).alloc (Nat.le_refl _) _).alloc (by simp) _)
  have R0 := Lib.hid R0
  have R1 := Lib.hid R1
  have HB := Lib.hid hB
  show Calls Try.prog 28 #[.agg #[.int .i64 s, .bool g, .bool m, .string t, .int .u64 (k : Int)]] w _
  clear ht hB
  go_enter Try.func28, Try.ntmps28
  go_wp2_with fail
  rw [← HB.out]
  refine (CL.out _).mono ?_
  rintro e w1 ⟨rfl, hb1⟩
  have B1 := Lib.hid (show Below B w w1 from B0.out.trans (hb1.mono (by rw [HB.out]; exact B0.out.size)))
  have q0 := R0.out.below hb1
  have q1 := R1.out.below hb1
  have Q0 := Lib.hid q0
  have Q1 := Lib.hid q1
  have f3 := q0.frozen 3
  have d0 := q0.cell 0
  have d1 := q0.cell 1
  have d2 := q0.cell 2
  have d3 := q0.cell 3
  have d4 := q0.cell 4
  have g0 := q1.frozen 0
  have g1 := q1.frozen 1
  have g2 := q1.frozen 2
  have g3 := q1.frozen 3
  have g4 := q1.frozen 4
  have e0 := q1.cell 0
  have e1 := q1.cell 1
  have e2 := q1.cell 2
  have e3 := q1.cell 3
  have e4 := q1.cell 4
  simp only [Ver.cs, Ver.Z, Val.V0, List.getElem?_cons_succ, List.getElem?_cons_zero] at d0 d1 d2 d3 d4 e0 e1 e2 e3 e4
  have F1 := Lib.hid (show Below B w (setV (w1.setCell ⟨B, 3, none⟩ (.string t)) (B + 1) ⟨s, g, ⟨m, t, k⟩⟩) from setV_below (B1.out.setCell (Nat.le_refl _) _) (by omega))
  have F2 := Lib.hid (show RowAt (setV (w1.setCell ⟨B, 3, none⟩ (.string t)) (B + 1) ⟨s, g, ⟨m, t, k⟩⟩) (B + 1) (Ver.cs ⟨s, g, ⟨m, t, k⟩⟩) _ from setV_row (Q1.out.other (by show B ≠ B + 1; omega) _))
  clear hb1 q0 q1
  go_wp2_with fail
  refine bodyPost_ret (results_cell_one rfl _ (setV (w1.setCell ⟨B, 3, none⟩ (.string t)) (B + 1) ⟨s, g, ⟨m, t, k⟩⟩) (B + 1) _ _ _ rfl F2.out Try.underlying29 rfl (by kernel_rfl)) rfl ?_
  exact ⟨rfl, F1.out⟩

def searchRen : Ren := { f := fun k => if k = 16 then 32 else k, t := fun k => if k = 3 then 3 else if k = 4 then 4 else if k = 35 then 55 else if k = 38 then 60 else k, g := fun k => k }
set_option maxRecDepth 100000 in
theorem searchLays : SlLaysO.n16 Try.prog searchRen where
  mixed := by kernel_rfl
  f16 := by kernel_rfl
  t3 := by kernel_rfl
  a3 := by intro w; rfl
  z3 := by intro w; rfl
  v3 := by intro w; rfl
  t4 := by kernel_rfl
  a4 := by intro w; rfl
  z4 := by intro w; rfl
  v4 := by intro w; rfl
  t35 := by kernel_rfl
  a35 := by intro w; rfl
  z35 := by intro w; rfl
  v35 := by intro w; rfl
  t38 := by kernel_rfl
  a38 := by intro w; rfl
  z38 := by intro w; rfl
  v38 := by intro w; rfl

theorem count_cnt {l : List Ver} (h : RiseV l) (s : Int) : (List.range l.length).countP (fun i => !decide (s < (l.getD i Ver.Z).seq)) = cnt s l := by
  have hr : ∀ t, t < l.length → (List.range l.length)[t]! = t := fun t ht => by rw [getElem!_pos _ t (by simpa using ht)]; simp
  refine Lib.countP_boundary _ (List.range l.length) (cnt s l) (by simpa using cnt_le s l) (fun t ht => ?_) (fun t h3 h4 => ?_)
  · have hl := cnt_le s l
    rw [hr t (by omega), decide_eq_false (by have := (cnt_iff (f := s) h t (by omega)).1 ht; omega)]; rfl
  · have h4 : t < l.length := by simpa using h4
    rw [hr t h4, decide_eq_true (by
      by_cases q : (l.getD t Ver.Z).seq ≤ s
      · have := (cnt_iff (f := s) h t h4).2 q; omega
      · omega)]; rfl
set_option maxRecDepth 100000 in
set_option maxHeartbeats 1000000 in
/-- until's closure -/
theorem xUntil1 (ba bx b o c n : Nat) (y s : Int) (i : Nat) (W : World) (hi : i < n) (ha : W.cell? ⟨ba, 0, none⟩ = some (.slice (some ⟨b, o, none⟩) n c)) (hx : W.cell? ⟨bx, 0, none⟩ = some (.int .i64 s)) (hc : W.cell? ⟨b, o + i * 5, none⟩ = some (.int .i64 y)) :
    Calls Try.prog 33 (#[.int .i64 i] ++ #[.pointer (some ⟨ba, 0, none⟩), .pointer (some ⟨bx, 0, none⟩)]) W fun e w' => e = .returned (.bool (decide (s < y))) ∧ ∃ q, w' = W.drewN q := by
  have i0 : (0 : Int) ≤ (i : Int) := by omega
  have i1 : (i : Int) < (n : Int) := by omega
  go_enter Try.func33, Try.ntmps33
  go_wp2_with fail
  go_quiet (fail)
  go_wp2_with fail
  go_ret
  exact ⟨rfl, _, rfl⟩
set_option maxRecDepth 100000 in
set_option maxHeartbeats 1000000 in
/-- until -/
theorem xUntil9 (l : List Ver) (A : Option Addr) (c : Nat) (s : Int) (w : World) (h : SlV w A l) (hr : RiseV l) (hl : l.length ≤ 1000) :
    Calls Try.prog 24 #[.slice A l.length c, .int .i64 s] w fun e w' => e = .returned (.int .i64 (cnt s l : Nat)) ∧ Below w.heap.size w w' := by
  obtain ⟨W0, hW0⟩ : ∃ W0, W0 = (w.alloc (.cells #[.slice A l.length c] 22)).alloc (.cells #[.int .i64 s] 3) := ⟨_, rfl⟩
  have hB0 : Below w.heap.size w W0 := by rw [hW0]; exact ((Below.refl _ w).alloc (Nat.le_refl _) _).alloc (by simp) _
  have ca : W0.cell? ⟨w.heap.size, 0, none⟩ = some (.slice A l.length c) := by rw [hW0]; exact cell_alloc_sl _ (cell_new_sl w _ _)
  have cx : W0.cell? ⟨w.heap.size + 1, 0, none⟩ = some (.int .i64 s) := by
    rw [hW0]
    have := cell_new_sl (w.alloc (.cells #[.slice A l.length c] 22)) (.int .i64 s) 3
    rwa [World.size_alloc] at this
  have h0 := h.below hB0
  have eg : ∀ args w, (callFunc 33 args).run Try.prog w = .ok (.enter 33 args) w := enters_of Try.func33 (by kernel_rfl) rfl
  have hS := Any.sort_Search searchLays 33 #[.pointer (some ⟨w.heap.size, 0, none⟩), .pointer (some ⟨w.heap.size + 1, 0, none⟩)] l.length (fun i => decide (s < (l.getD i Ver.Z).seq)) W0 eg (by omega)
    (fun m os i hi => by
      obtain ⟨b, o, rfl, _, cc, _⟩ := h0.at hi
      exact (xUntil1 w.heap.size (w.heap.size + 1) b o c l.length _ s i _ hi (cell_grown (block_lt_of_cell ca) ca m os) (cell_grown (block_lt_of_cell cx) cx m os) (cell_grown (block_lt_of_cell cc) cc m os)).mono
        fun _ _ ⟨he, q, hq⟩ => ⟨he, q, #[], by rw [hq, Sort.grow_empty]⟩)
    (fun a b hab hb h => by
      by_cases e : a = b
      · rw [← e]; exact h
      · have := hr a b (by omega) hb
        have h := of_decide_eq_true h
        exact decide_eq_true (by omega))
  rw [count_cnt hr] at hS
  obtain ⟨n, hn⟩ : ∃ n, n = l.length := ⟨_, rfl⟩
  rw [← hn] at hS hW0 ⊢
  have hS : Calls Try.prog 32 #[.int .i64 n, .func (.func 33) #[] #[.pointer (some ⟨w.heap.size, 0, none⟩), .pointer (some ⟨w.heap.size + 1, 0, none⟩)]] W0 _ := hS
  have HS := Lib.hid hS
  have HW := Lib.hid hW0
  have HB := Lib.hid hB0
  clear hS hW0 hB0 ca cx h0 eg hn hr h
  go_enter Try.func24, Try.ntmps24
  go_wp2_with (go_at_call 32; rw [← HW.out]; refine HS.out.mono ?_; rintro e w' ⟨rfl, q, os, rfl⟩)
  go_ret
  exact ⟨rfl, HB.out.trans (below_grown_sl w.heap.size W0 q os HB.out.size)⟩

end Go.Proofs.Ytpafnjdaiagdiaa
