/- The program's ring: behind, AsOf: walked. -/
import Derived.Test.YtagodofcjnlnbaaA0c
import Derived.Laws.Rows
import Derived.Shelf.SlSorted.Search
namespace Go.Proofs.Ytagodofcjnlnbaa
open Go.RowKit Go.Shelf

def searchRen0 : Ren := { f := fun k => if k = 16 then 22 else k, t := fun k => if k = 3 then 3 else if k = 4 then 4 else if k = 35 then 48 else if k = 38 then 49 else k, g := fun k => k }
set_option maxRecDepth 100000 in
theorem searchLays0 : SlLaysO.n16 Try.prog searchRen0 where
  mixed := by kernel_rfl
  f16 := by kernel_rfl
  t3 := by kernel_rfl
  a3 := by intro w; rfl
  z3 := by intro w; rfl
  v3 := by intro w; rfl
  t4 := by kernel_rfl
  a4 := by intro w; rfl
  z4 := by intro w; rfl
  v4 := by intro w; rfl
  t35 := by kernel_rfl
  a35 := by intro w; rfl
  z35 := by intro w; rfl
  v35 := by intro w; rfl
  t38 := by kernel_rfl
  a38 := by intro w; rfl
  z38 := by intro w; rfl
  v38 := by intro w; rfl

theorem count_at (l : List Int) (x : Int) : (List.range l.length).countP (fun i => !decide (x < l.getD i 0)) = l.countP fun y => decide (y ≤ x) := by
  have e : l = (List.range l.length).map fun i => l.getD i 0 := by
    apply List.ext_getElem
    · simp
    · intro i h1 h2
      rw [List.getElem_map, List.getElem_range, List.getD_eq_getElem?_getD, List.getElem?_eq_getElem h1]; rfl
  have k : (l.countP fun y => decide (y ≤ x)) = ((List.range l.length).map fun i => l.getD i 0).countP fun y => decide (y ≤ x) := by rw [← e]
  rw [k, List.countP_map]
  congr 1
  funext i
  show (!decide (x < l.getD i 0)) = decide (l.getD i 0 ≤ x)
  by_cases a : x < l.getD i 0
  · rw [decide_eq_true a, decide_eq_false (by omega)]; rfl
  · rw [decide_eq_false a, decide_eq_true (by omega)]; rfl
theorem kept_rise {r : Rg} (ok : r.Ok) {i j : Nat} (h : i < j) (hj : j < r.kept.length) : r.kept.getD i 0 < r.kept.getD j 0 := by
  have := r.kept_len
  rw [Rg.kept_at, Rg.kept_at]
  exact ok.rise _ _ (by omega) (by omega)

set_option maxRecDepth 100000 in
set_option maxHeartbeats 1000000 in
/-- behind's closure -/
theorem xBehind1 (ba bx b s o c n : Nat) (y x : Int) (i : Nat) (W : World) (hi : i < n) (ha : W.cell? ⟨ba, 0, none⟩ = some (PtrR b)) (hx : W.cell? ⟨bx, 0, none⟩ = some (.int .u64 x)) (hs : W.cell? ⟨b, 3, none⟩ = some (.slice (some ⟨s, o, none⟩) n c)) (hc : W.cell? ⟨s, o + i, none⟩ = some (.int .u64 y)) :
    Calls Try.prog 23 (#[.int .i64 i] ++ #[.pointer (some ⟨ba, 0, none⟩), .pointer (some ⟨bx, 0, none⟩)]) W fun e w' => e = .returned (.bool (decide (x < y))) ∧ ∃ q, w' = W.drewN q := by
  have i0 : (0 : Int) ≤ (i : Int) := by omega
  have i1 : (i : Int) < (n : Int) := by omega
  go_enter Try.func23, Try.ntmps23
  go_wp2_with fail
  go_quiet (fail)
  go_wp2_with fail
  go_ret
  exact ⟨rfl, _, rfl⟩
set_option maxRecDepth 100000 in
set_option maxHeartbeats 1000000 in
/-- behind -/
theorem xBehind0 (b : Nat) (v : Value) (r : Rg) (x : Int) (w : World) (h : PrW w b v r.size r.beg r.seq r.kept) (ok : r.Ok) :
    Calls Try.prog 21 #[PtrR b, .int .u64 x] w fun e w' => e = .returned (.int .i64 (r.back x : Nat)) ∧ Below w.heap.size w w' := by
  obtain ⟨W0, hW0⟩ : ∃ W0, W0 = (w.alloc (.cells #[PtrR b] 24)).alloc (.cells #[.int .u64 x] 35) := ⟨_, rfl⟩
  have hB0 : Below w.heap.size w W0 := by rw [hW0]; exact ((Below.refl _ w).alloc (Nat.le_refl _) _).alloc (by simp) _
  have ca : W0.cell? ⟨w.heap.size, 0, none⟩ = some (PtrR b) := by rw [hW0]; exact cell_alloc_sl _ (cell_new_sl w _ _)
  have cx : W0.cell? ⟨w.heap.size + 1, 0, none⟩ = some (.int .u64 x) := by
    rw [hW0]
    have := cell_new_sl (w.alloc (.cells #[PtrR b] 24)) (.int .u64 x) 35
    rwa [World.size_alloc] at this
  have h0 := h.below hB0
  obtain ⟨A, c, hv, hc, hsl, _, _⟩ := h0.own.form
  have c3 := h0.row.cell 3
  rw [hv] at c3
  simp only [List.getElem?_cons_succ, List.getElem?_cons_zero] at c3
  have kl := r.kept_len
  have s16 := ok.s16
  have eg : ∀ args w, (callFunc 23 args).run Try.prog w = .ok (.enter 23 args) w := enters_of Try.func23 (by kernel_rfl) rfl
  have hS := Any.sort_Search searchLays0 23 #[.pointer (some ⟨w.heap.size, 0, none⟩), .pointer (some ⟨w.heap.size + 1, 0, none⟩)] r.kept.length (fun i => decide (x < r.kept.getD i 0)) W0 eg (by omega)
    (fun m os i hi => by
      obtain ⟨s, o, rfl, _, cc⟩ := hsl.at_ hi
      have cc := cc i hi
      exact (xBehind1 w.heap.size (w.heap.size + 1) b s o c r.kept.length _ x i _ hi (cell_grown (block_lt_of_cell ca) ca m os) (cell_grown (block_lt_of_cell cx) cx m os) (cell_grown (block_lt_of_cell c3) c3 m os) (cell_grown (block_lt_of_cell cc) cc m os)).mono
        fun _ _ ⟨he, q, hq⟩ => ⟨he, q, #[], by rw [hq, Sort.grow_empty]⟩)
    (fun a b hab hb h => by
      by_cases e : a = b
      · rw [← e]; exact h
      · have := kept_rise ok (show a < b by omega) hb
        have h := of_decide_eq_true h
        exact decide_eq_true (by omega))
  rw [count_at] at hS
  obtain ⟨K, hK⟩ : ∃ K, K = r.kept.countP fun y => decide (y ≤ x) := ⟨_, rfl⟩
  have kn : K ≤ r.kept.length := by rw [hK]; exact List.countP_le_length
  obtain ⟨R, hR⟩ : ∃ R, R = r.back x := ⟨_, rfl⟩
  have eR : R = r.kept.length - K := by rw [hR, hK]; rfl
  obtain ⟨n, hn⟩ : ∃ n, n = r.kept.length := ⟨_, rfl⟩
  rw [← hR]
  rw [← hK] at hS
  rw [← hn] at hS c3 eR kn
  have hS : Calls Try.prog 22 #[.int .i64 n, .func (.func 23) #[] #[.pointer (some ⟨w.heap.size, 0, none⟩), .pointer (some ⟨w.heap.size + 1, 0, none⟩)]] W0 _ := hS
  have HS := Lib.hid hS
  have HW := Lib.hid hW0
  have HB := Lib.hid hB0
  have WR := Lib.hid (show wrap64 ((n : Int) - (K : Int)) = (R : Int) by unfold wrap64; omega)
  have ca := Lib.hid ca
  have c3H := Lib.hid c3
  have d3 := c3
  rw [hW0] at d3
  have cg := fun q os => cell_grown (block_lt_of_cell c3H.out) c3H.out q os
  have ag := fun q os => cell_grown (block_lt_of_cell ca.out) ca.out q os
  have CG := Lib.hid cg
  have AG := Lib.hid ag
  clear hS hW0 hB0 cx h0 eg h ok hsl hv hc kl s16 hK hR hn c3 cg ag kn eR
  go_enter Try.func21, Try.ntmps21
  go_wp2_with (go_at_call 22; rw [← HW.out]; refine HS.out.mono ?_; rintro e w' ⟨rfl, q, os, rfl⟩; have cg := CG.out q os; have ag := AG.out q os)
  go_ret
  exact ⟨by show Ending.returned (.int .i64 (wrap64 ((n : Int) - (K : Int)))) = _; rw [WR.out], HB.out.trans (below_grown_sl w.heap.size W0 q os HB.out.size)⟩

set_option maxRecDepth 100000 in
set_option maxHeartbeats 1000000 in
/-- AsOf -/
theorem xAsOf0 (b : Nat) (v : Value) (r : Rg) (x : Int) (w : World) (h : PrW w b v r.size r.beg r.seq r.kept) (ok : r.Ok) :
    Calls Try.prog 15 #[PtrR b, .int .u64 x] w fun e w' => e = .returned (.tuple #[.int .i64 (r.asOf x : Nat), .int .i64 (r.asNo x)]) ∧ Below w.heap.size w w' := by
  have CB := Lib.hid (xBehind0 b v r x w h ok)
  have bl := r.back_le x
  have EN := Rg.as_no ok x
  have EO := Rg.as_of ok x
  have sq : r.l.length ≤ r.seq := by unfold Rg.seq; omega
  have s16 := ok.s16
  obtain ⟨K, hK⟩ : ∃ K, K = r.back x := ⟨_, rfl⟩
  obtain ⟨N, hN⟩ : ∃ N, N = r.asNo x := ⟨_, rfl⟩
  obtain ⟨O, hO⟩ : ∃ O, O = r.asOf x := ⟨_, rfl⟩
  rw [← hK] at CB bl EN EO
  rw [← hN] at EN
  rw [← hO] at EO
  rw [← hN, ← hO]
  obtain ⟨z, hz⟩ : ∃ z, z = r.size := ⟨_, rfl⟩
  obtain ⟨g, hg⟩ : ∃ g, g = r.beg := ⟨_, rfl⟩
  obtain ⟨s, hs⟩ : ∃ s, s = r.seq := ⟨_, rfl⟩
  rw [← hz] at h EN EO
  rw [← hg, ← hs] at h
  rw [← hs] at EO sq
  have SQ := Lib.hid (show s ≤ 1073741824 by rw [hs]; exact ok.sq)
  have HR := Lib.hid h
  clear h ok s16 hK hN hO hz hg hs
  by_cases p : z ≤ K
  · rw [if_pos p] at EN EO
    subst EN; subst EO
    clear bl sq
    go_enter Try.func15, Try.ntmps15
    go_wp2_with fail
    refine CB.out.mono ?_
    rintro e w1 ⟨rfl, hb1⟩
    have c0 := (HR.out.below hb1).row.cell 0
    simp only [List.getElem?_cons_zero] at c0
    have B1 := Lib.hid hb1
    clear hb1
    go_wp2_with fail
    go_ret2
    exact ⟨rfl, B1.out⟩
  · rw [if_neg p] at EN EO
    subst EN
    have WO := Lib.hid (show wrap64 ((s : Int) - (K : Int)) = (O : Int) by have := SQ.out; unfold wrap64; omega)
    clear bl sq EO
    go_enter Try.func15, Try.ntmps15
    go_wp2_with fail
    refine CB.out.mono ?_
    rintro e w1 ⟨rfl, hb1⟩
    have c0 := (HR.out.below hb1).row.cell 0
    have c2 := (HR.out.below hb1).row.cell 2
    simp only [List.getElem?_cons_succ, List.getElem?_cons_zero] at c0 c2
    have B1 := Lib.hid hb1
    clear hb1
    go_wp2_with fail
    go_ret2
    exact ⟨by show Ending.returned (.tuple #[.int .i64 (wrap64 ((s : Int) - (K : Int))), .int .i64 0]) = _; rw [WO.out], B1.out⟩

end Go.Proofs.Ytagodofcjnlnbaa
