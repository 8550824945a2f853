/- Proved parts: D3i D4n. Conditions: each theorem's own. -/
import Derived.Test.YtnbkekbgedioeaaM31
import Derived.Test.YtnbkekbgedioeaaM32
namespace Go.Proofs.Ytnbkekbgedioeaa
open Go.Joins Go.ChangeShapes Go.WideShapes Go.ChangeAt Go.RowKit

theorem cellsA12 : Try.prog.cellsOf 36 = 6 := by kernel_rfl
theorem four_ofW {α : Type} {l : List α} (h : l.length = 4) : ∃ a b c d, l = [a, b, c, d] := by
  match l, h with
  | [a, b, c, d], _ => exact ⟨a, b, c, d, rfl⟩
theorem six_ofW {α : Type} {l : List α} (h : l.length = 6) : ∃ a b c d e f, l = [a, b, c, d, e, f] := by
  match l, h with
  | [a, b, c, d, e, f], _ => exact ⟨a, b, c, d, e, f, rfl⟩
/-- three cells that were read as a value -/
theorem read_valW {H : Type} {enc : TypeId × Value → H} {W : World} {fuel : Nat} {c2 c3 c4 : Value} {x : DataW H × List MemPlace}
    (h : DataW.trod enc Try.prog W 0 (fun _ => true) true fuel 34 [c2, c3, c4] = some x) : ∃ y : Val, y.Fits ∧ c2 = .bool y.num ∧ c3 = .string y.txt ∧ c4 = .int .u64 (y.bits : Int) := by
  obtain ⟨zs, n'', _, hz, _, hzl, hg⟩ := DataW.trod_struct Try.underlying34 h
  obtain ⟨z0, z1, z2, rfl⟩ := three_of9 (show zs.length = 3 from hzl)
  have g0 : DataW.trod enc Try.prog W 0 (fun _ => true) true n'' 4 (([c2, c3, c4].drop 0).take (Try.prog.cellsOf 4)) = some z0 := hg 0 _ rfl
  have g1 : DataW.trod enc Try.prog W 0 (fun _ => true) true n'' 9 (([c2, c3, c4].drop 1).take (Try.prog.cellsOf 9)) = some z1 := hg 1 _ rfl
  have g2 : DataW.trod enc Try.prog W 0 (fun _ => true) true n'' 32 (([c2, c3, c4].drop 2).take (Try.prog.cellsOf 32)) = some z2 := hg 2 _ rfl
  rw [cells9b] at g0
  rw [cells9s] at g1
  rw [cells9u] at g2
  obtain ⟨m, e2, _⟩ := DataW.trod_bool Try.underlying4 g0
  obtain ⟨t, e3, _, w3⟩ := DataW.trod_string Try.underlying9 g1
  obtain ⟨k, e4, _, w4⟩ := DataW.trod_int Try.underlying32 g2
  simp at e2 e3 e4
  have hb := bounds_u64 w4
  refine ⟨⟨m, t, k.toNat⟩, ⟨by show k.toNat < _; omega, w3⟩, e2, e3, ?_⟩
  rw [e4]
  show _ = Value.int .u64 ((k.toNat : Nat) : Int)
  rw [Int.toNat_of_nonneg hb.1]
def AcW.Ok (y : AcW) : Prop := y.val.Fits ∧ y.key.size ≤ maxLen
theorem read_act12 {H : Type} {enc : TypeId × Value → H} {W : World} {fuel : Nat} {l : List Value} (hl : l.length = 6) {x : DataW H × List MemPlace}
    (h : DataW.trod enc Try.prog W 0 (fun _ => true) true fuel 36 l = some x) : ∃ y : AcW, y.Ok ∧ l = y.cs := by
  obtain ⟨c0, c1, c2, c3, c4, c5, rfl⟩ := six_ofW hl
  obtain ⟨ys, n', _, hy, _, hyl, hf⟩ := DataW.trod_struct Try.underlying36 h
  obtain ⟨y0, y1, y2, y3, rfl⟩ := four_ofW (show ys.length = 4 from hyl)
  have f0 : DataW.trod enc Try.prog W 0 (fun _ => true) true n' 3 (([c0, c1, c2, c3, c4, c5].drop 0).take (Try.prog.cellsOf 3)) = some y0 := hf 0 _ rfl
  have f1 : DataW.trod enc Try.prog W 0 (fun _ => true) true n' 9 (([c0, c1, c2, c3, c4, c5].drop 1).take (Try.prog.cellsOf 9)) = some y1 := hf 1 _ rfl
  have f2 : DataW.trod enc Try.prog W 0 (fun _ => true) true n' 34 (([c0, c1, c2, c3, c4, c5].drop 2).take (Try.prog.cellsOf 34)) = some y2 := hf 2 _ rfl
  have f3 : DataW.trod enc Try.prog W 0 (fun _ => true) true n' 3 (([c0, c1, c2, c3, c4, c5].drop 5).take (Try.prog.cellsOf 3)) = some y3 := hf 3 _ rfl
  rw [cells9j] at f0 f3
  rw [cells9s] at f1
  rw [cells9l] at f2
  obtain ⟨kd, e0, _, _⟩ := DataW.trod_int Try.underlying3 f0
  obtain ⟨k, e1, _, w1⟩ := DataW.trod_string Try.underlying9 f1
  obtain ⟨v, hv, e2, e3, e4⟩ := read_valW (show DataW.trod enc Try.prog W 0 (fun _ => true) true n' 34 [c2, c3, c4] = some y2 from f2)
  obtain ⟨q, e5, _, _⟩ := DataW.trod_int Try.underlying3 f3
  simp at e0 e1 e5
  exact ⟨⟨kd, k, v, q⟩, ⟨hv, w1⟩, by rw [e0, e1, e2, e3, e4, e5]; rfl⟩
/-- the slice at A reads as the acts l -/
def SlAcW (w : World) (A : Option Addr) (l : List AcW) : Prop :=
  0 < l.length → ∃ b o, A = some ⟨b, o, none⟩ ∧ b < w.heap.size ∧ ∀ j, j < l.length → ∀ i, i < 6 → w.cell? ⟨b, o + j * 6 + i, none⟩ = (l.getD j AcW.Z).cs[i]?
theorem SlAcW.at {w w' : World} {A : Option Addr} {l : List AcW} (h : SlAcW w A l) (hb : Below w.heap.size w w') {j : Nat} (hj : j < l.length) : ∃ b o, A = some ⟨b, o, none⟩ ∧ w'.cell? ⟨b, o + j * 6, none⟩ = some (.int .i64 (l.getD j AcW.Z).kind) ∧
    w'.cell? ⟨b, o + j * 6 + 1, none⟩ = some (.string (l.getD j AcW.Z).key) ∧ w'.cell? ⟨b, o + j * 6 + 2, none⟩ = some (.bool (l.getD j AcW.Z).val.num) ∧ w'.cell? ⟨b, o + j * 6 + 3, none⟩ = some (.string (l.getD j AcW.Z).val.txt) ∧
    w'.cell? ⟨b, o + j * 6 + 4, none⟩ = some (.int .u64 ((l.getD j AcW.Z).val.bits : Int)) ∧ w'.cell? ⟨b, o + j * 6 + 5, none⟩ = some (.int .i64 (l.getD j AcW.Z).n) := by
  obtain ⟨b, o, e, lt, hc⟩ := h (by omega)
  have k := fun i (hi : i < 6) => (hb.cell (p := ⟨b, o + j * 6 + i, none⟩) lt).trans (hc j hj i hi)
  exact ⟨b, o, e, k 0 (by decide), k 1 (by decide), k 2 (by decide), k 3 (by decide), k 4 (by decide), k 5 (by decide)⟩
theorem read_acts12 {H : Type} {enc : TypeId × Value → H} {W : World} {fuel : Nat} {us : List Value} {x : DataW H × List MemPlace}
    (h : DataW.trod enc Try.prog W 0 (fun _ => true) true fuel 22 us = some x) : ∃ A c l, us = [.slice A l.length c] ∧ SlAcW W A l ∧ (∀ y, y ∈ l → y.Ok) ∧ l.length ≤ maxLen := by
  rcases Deep.open_slice Try.underlying22 h with ⟨hcs, _⟩ | ⟨a, len, cap, m, n, D, Pl, hcs, _, hl, hm, hmm, hx, hi⟩
  · exact ⟨none, 0, [], hcs, fun hp => absurd hp (by simp), fun x hx => (by cases hx), by simp⟩
  · simp only [if_true] at hmm
    subst hmm
    have hone : ∀ i, i < m → ∃ y : AcW, y.Ok ∧ ∀ j, j < 6 → W.cell? ((a.add (i * 6)).add j) = (y.cs)[j]? := by
      intro i him
      obtain ⟨cs', hc', ht'⟩ := hi i him
      rw [cellsA12] at hc'
      obtain ⟨_, hcl, hat⟩ := World.cells?_some hc'
      obtain ⟨y, hf, hy⟩ := read_act12 hcl ht'
      refine ⟨y, hf, fun j hj => ?_⟩
      rw [hat j hj, ← hy]
    obtain ⟨F, hF⟩ : ∃ F : Nat → AcW, ∀ i, i < m → (F i).Ok ∧ ∀ j, j < 6 → W.cell? ((a.add (i * 6)).add j) = ((F i).cs)[j]? := by
      refine ⟨fun i => if h : i < m then (hone i h).choose else AcW.Z, fun i h => ?_⟩
      simp only [dif_pos h]
      exact (hone i h).choose_spec
    have hlen : ((List.range len).map F).length = len := by simp
    have hget : ∀ j, j < len → ((List.range len).map F).getD j AcW.Z = F j := fun j hj => by
      rw [List.getD_eq_getElem?_getD, List.getElem?_map, List.getElem?_range hj]; rfl
    refine ⟨some a, m, (List.range len).map F, by rw [hlen]; exact hcs, fun hp => ?_, fun y hy => ?_, by rw [hlen]; omega⟩
    · rw [hlen] at hp
      obtain ⟨cs', hc', ht'⟩ := hi 0 (by omega)
      rw [cellsA12] at hc'
      obtain ⟨_, hcl, hat⟩ := World.cells?_some hc'
      have h2 := hat 0 (by decide)
      rw [List.getElem?_eq_getElem (by omega)] at h2
      have h3 : a.block < W.heap.size := by
        have := World.block_lt_of_cell? W _ h2
        simpa [Addr.add] using this
      obtain ⟨b, off, spot⟩ := a
      have hspot : spot = none := by simpa [Addr.add] using World.cell?_spot h2
      subst hspot
      refine ⟨b, off, rfl, h3, fun j hj i hi => ?_⟩
      rw [hlen] at hj
      rw [hget j hj]
      have q := (hF j (by omega)).2 i hi
      rwa [add9, add9] at q
    · obtain ⟨i, hi2, rfl⟩ := List.mem_map.1 hy
      exact (hF i (by have := List.mem_range.1 hi2; omega)).1
set_option maxRecDepth 100000 in
/-- acts that came in -/
theorem open_acts12 {H : Type} {enc : TypeId × Value → H} {W : World} {base : Nat} {v : Value} {D : DataW H} {ps : List MemPlace} (hval : Value.okWide Try.prog W .any base 22 v)
    (h : DataW.Trod enc Try.prog W 0 (fun _ => true) true 22 v D ps) : ∃ A c l, v = .slice A l.length c ∧ SlAcW W A l ∧ (∀ y, y ∈ l → y.Ok) ∧ l.length ≤ maxLen := by
  obtain ⟨a0, len, cap, rfl⟩ := okWide_slice Try.underlying22 hval
  obtain ⟨fuel, hf⟩ := h
  obtain ⟨A, c, xs, hcs, r⟩ := read_acts12 hf
  simp [Value.cells] at hcs
  obtain ⟨rfl, rfl, rfl⟩ := hcs
  exact ⟨_, _, xs, rfl, r⟩
set_option maxRecDepth 100000 in
/-- an act that came in by value -/
theorem open_act12 {H : Type} {enc : TypeId × Value → H} {W : World} {base : Nat} {v : Value} {D : DataW H} {ps : List MemPlace} (hval : Value.okWide Try.prog W .any base 36 v)
    (h : DataW.Trod enc Try.prog W 0 (fun _ => true) true 36 v D ps) : ∃ y : AcW, v = .agg y.cs.toArray ∧ y.Ok := by
  obtain ⟨cs, rfl, hsz⟩ := okWide_struct Try.underlying36 hval
  obtain ⟨l⟩ := cs
  obtain ⟨fuel, hf⟩ := h
  obtain ⟨y, fy, ey⟩ := read_act12 (show l.length = 6 from hsz.trans cellsA12) (show DataW.trod enc Try.prog W 0 (fun _ => true) true fuel 36 l = _ from hf)
  exact ⟨y, by rw [← ey], fy⟩

end Go.Proofs.Ytnbkekbgedioeaa

namespace Go.Proofs.Ytnbkekbgedioeaa.wsetNil
open Go.Proofs.Ytnbkekbgedioeaa Go.Joins Go.ChangeShapes Go.WideShapes Go.ChangeAt Go.RowKit Go.Deep

theorem eql_Z (w : World) : (binOp .eql 42 (.agg #[.string ⟨#[]⟩, .bool false, .bool false, .string ⟨#[]⟩, .int .u64 0]) (.agg #[.string ⟨#[]⟩, .bool false, .bool false, .string ⟨#[]⟩, .int .u64 0])).run Try.prog w = .ok (.bool true) w := by
  rw [run_eql_struct, eqIn_wr 9997]
  simp
set_option maxRecDepth 100000 in
set_option maxHeartbeats 4000000 in
theorem walk (x : AcW) (w : World) : Calls Try.prog 5 #[.agg x.cs.toArray] w fun e w' => e = .returned (.bool true) ∧ Below w.heap.size w w' := by
  obtain ⟨kd, k, v, n⟩ := x
  obtain ⟨vm, vt, vb⟩ := v
  have KP : Hid (∀ W, Calls Try.prog 22 #[.pointer none, .string k, .agg #[.bool vm, .string vt, .int .u64 (vb : Int)]] W fun e w' => e = .returned (.int .i64 2) ∧ Below W.heap.size W w') := Lib.hid (fun W => xPutNil k ⟨vm, vt, vb⟩ W)
  have KG : Hid (∀ W, Calls Try.prog 15 #[.pointer none, .string k] W fun e w' => e = .returned (.tuple #[.agg #[.string ⟨#[]⟩, .bool false, .bool false, .string ⟨#[]⟩, .int .u64 0], .bool false]) ∧ Below W.heap.size W w') := Lib.hid (fun W => xGetNil k W)
  have KA : Hid (∀ W, Calls Try.prog 17 #[.pointer none, .string k] W fun e w' => e = .returned (.tuple #[.agg #[.string ⟨#[]⟩, .bool false, .bool false, .string ⟨#[]⟩, .int .u64 0], .bool false]) ∧ Below W.heap.size W w') := Lib.hid (fun W => xAfterNil k W)
  have KS : Hid (∀ W, Calls Try.prog 19 #[.pointer none, .string k] W fun e w' => e = .returned (.tuple #[.agg #[.string ⟨#[]⟩, .bool false, .bool false, .string ⟨#[]⟩, .int .u64 0], .bool false]) ∧ Below W.heap.size W w') := Lib.hid (fun W => xSeekNil k W)
  obtain ⟨B, hB⟩ : ∃ B, B = w.heap.size := ⟨_, rfl⟩
  obtain ⟨W0, hW0⟩ : ∃ W, W = w.alloc (.cells #[.int .i64 kd, .string k, .bool vm, .string vt, .int .u64 (vb : Int), .int .i64 n] 36) := ⟨_, rfl⟩
  have b0 : Below w.heap.size w W0 := by rw [hW0]; exact (Below.refl _ _).alloc (Nat.le_refl _) _
  have R0 : RowAt W0 B [.int .i64 kd, .string k, .bool vm, .string vt, .int .u64 (vb : Int), .int .i64 n] 36 := by rw [hW0, hB]; exact RowAt.new w [.int .i64 kd, .string k, .bool vm, .string vt, .int .u64 (vb : Int), .int .i64 n] _
  have CF := Lib.hid (fun W (hb : Below W0.heap.size W0 W) => show W.cell? ⟨B, 0, none⟩ = some (.int .i64 kd) ∧ W.cell? ⟨B, 1, none⟩ = some (.string k) ∧ W.cell? ⟨B, 2, none⟩ = some (.bool vm) ∧ W.cell? ⟨B, 3, none⟩ = some (.string vt) ∧ W.cell? ⟨B, 4, none⟩ = some (.int .u64 (vb : Int)) ∧ W.cell? ⟨B, 5, none⟩ = some (.int .i64 n) from
    ⟨(R0.below hb).cell 0, (R0.below hb).cell 1, (R0.below hb).cell 2, (R0.below hb).cell 3, (R0.below hb).cell 4, (R0.below hb).cell 5⟩)
  have B0 := Lib.hid b0
  have HB := Lib.hid hB
  have HW := Lib.hid hW0
  have EZ := eql_Z
  clear hB hW0 b0 R0
  show Calls Try.prog 5 #[.agg #[.int .i64 kd, .string k, .bool vm, .string vt, .int .u64 (vb : Int), .int .i64 n]] w _
  go_enter Try.func5, Try.ntmps5
  go_upto_region 1 with fail
  rw [← HW.out, ← HB.out]
  go_wp2_with fail
  refine (awakeW _).mono ?_
  rintro e w1 ⟨rfl, hb1⟩
  have B1 := Lib.hid hb1
  clear hb1
  obtain ⟨d0, d1, d2, d3, d4, d5⟩ := CF.out _ B1.out
  go_wp2_with fail
  refine (KG.out _).mono ?_
  rintro e w2 ⟨rfl, hb⟩
  have r : RowAt (w2.alloc (.cells #[.string ⟨#[]⟩, .bool false, .bool false, .string ⟨#[]⟩, .int .u64 0] 42)) w2.heap.size Wr.Z.cs 42 := RowAt.new w2 Wr.Z.cs _
  have bb : Below w1.heap.size w1 (w2.alloc (.cells #[.string ⟨#[]⟩, .bool false, .bool false, .string ⟨#[]⟩, .int .u64 0] 42)) := below_then hb ((Below.refl _ _).alloc (Nat.le_refl _) _)
  clear hb d0 d1 d2 d3 d4 d5
  go_upto_region 5 with fail
  generalize w2.alloc (.cells #[.string ⟨#[]⟩, .bool false, .bool false, .string ⟨#[]⟩, .int .u64 0] 42) = w3 at r bb ⊢
  generalize w2.heap.size = g1 at r ⊢
  have Q1 := Lib.hid r
  have B3 := Lib.hid (below_then B1.out bb)
  clear r bb KG
  obtain ⟨d0, d1, d2, d3, d4, d5⟩ := CF.out _ B3.out
  go_wp2_with fail
  refine (KA.out _).mono ?_
  rintro e w4 ⟨rfl, hb⟩
  have r : RowAt (w4.alloc (.cells #[.string ⟨#[]⟩, .bool false, .bool false, .string ⟨#[]⟩, .int .u64 0] 42)) w4.heap.size Wr.Z.cs 42 := RowAt.new w4 Wr.Z.cs _
  have bb : Below w3.heap.size w3 (w4.alloc (.cells #[.string ⟨#[]⟩, .bool false, .bool false, .string ⟨#[]⟩, .int .u64 0] 42)) := below_then hb ((Below.refl _ _).alloc (Nat.le_refl _) _)
  clear hb d0 d1 d2 d3 d4 d5
  go_upto_region 6 with fail
  generalize w4.alloc (.cells #[.string ⟨#[]⟩, .bool false, .bool false, .string ⟨#[]⟩, .int .u64 0] 42) = w5 at r bb ⊢
  generalize w4.heap.size = g2 at r ⊢
  have Q2 := Lib.hid r
  have Q1 := Lib.hid (Q1.out.below bb)
  have B5 := Lib.hid (below_then B3.out bb)
  clear r bb KA
  obtain ⟨d0, d1, d2, d3, d4, d5⟩ := CF.out _ B5.out
  go_wp2_with fail
  refine (KS.out _).mono ?_
  rintro e w6 ⟨rfl, hb⟩
  have r : RowAt (w6.alloc (.cells #[.string ⟨#[]⟩, .bool false, .bool false, .string ⟨#[]⟩, .int .u64 0] 42)) w6.heap.size Wr.Z.cs 42 := RowAt.new w6 Wr.Z.cs _
  have bb : Below w5.heap.size w5 (w6.alloc (.cells #[.string ⟨#[]⟩, .bool false, .bool false, .string ⟨#[]⟩, .int .u64 0] 42)) := below_then hb ((Below.refl _ _).alloc (Nat.le_refl _) _)
  clear hb d0 d1 d2 d3 d4 d5
  go_upto_region 7 with fail
  generalize w6.alloc (.cells #[.string ⟨#[]⟩, .bool false, .bool false, .string ⟨#[]⟩, .int .u64 0] 42) = w7 at r bb ⊢
  generalize w6.heap.size = g3 at r ⊢
  have Q3 := Lib.hid r
  have Q1 := Lib.hid (Q1.out.below bb)
  have Q2 := Lib.hid (Q2.out.below bb)
  have B7 := Lib.hid (below_then B5.out bb)
  clear r bb KS
  go_wp2_with fail
  refine (xMarkNil _).mono ?_
  rintro e w8 ⟨rfl, hb8⟩
  have B8 := Lib.hid (below_then B7.out hb8)
  have C8 := Lib.hid hb8
  clear hb8
  obtain ⟨d0, d1, d2, d3, d4, d5⟩ := CF.out _ B8.out
  go_wp2_with fail
  refine (KP.out _).mono ?_
  rintro e w9 ⟨rfl, hb9⟩
  have B9 := Lib.hid (below_then B8.out hb9)
  have C9 := Lib.hid (below_then C8.out hb9)
  clear hb9 d0 d1 d2 d3 d4 d5 KP
  obtain ⟨d0, d1, d2, d3, d4, d5⟩ := CF.out _ B9.out
  go_wp2_with fail
  refine (xDelNil _ _).mono ?_
  rintro e w10 ⟨rfl, hb10⟩
  have B10 := Lib.hid (below_then B9.out hb10)
  have C10 := Lib.hid (below_then C9.out hb10)
  clear hb10 d0 d1 d2 d3 d4 d5
  obtain ⟨d0, d1, d2, d3, d4, d5⟩ := CF.out _ B10.out
  obtain ⟨x0, x1, x2, x3, x4⟩ := wrF (x := Wr.Z) (Q1.out.below C10.out)
  obtain ⟨y0, y1, y2, y3, y4⟩ := wrF (x := Wr.Z) (Q2.out.below C10.out)
  obtain ⟨z0, z1, z2, z3, z4⟩ := wrF (x := Wr.Z) (Q3.out.below C10.out)
  simp only [Wr.Z, Val.V0] at x0 x1 x2 x3 x4 y0 y1 y2 y3 y4 z0 z1 z2 z3 z4
  go_wp2_with fail
  refine (xBackNil _ _).mono ?_
  rintro e w11 ⟨rfl, hb11⟩
  have B11 := Lib.hid (below_then B10.out hb11)
  clear hb11 d0 d1 d2 d3 d4 d5 x0 x1 x2 x3 x4 y0 y1 y2 y3 y4 z0 z1 z2 z3 z4
  go_wp2_with fail
  refine (xMarksNil _).mono ?_
  rintro e w12 ⟨rfl, hb12⟩
  have B12 := Lib.hid (below_then B11.out hb12)
  clear hb12
  go_wp2_with fail
  refine (xLenNil _).mono ?_
  rintro e w13 ⟨rfl, rfl⟩
  go_wp2_with fail
  refine (xAllNil _).mono ?_
  rintro e w14 ⟨rfl, hb14⟩
  have B14 := Lib.hid (below_then B0.out (below_then B12.out hb14))
  clear hb14
  go_wp2_with fail
  go_ret
  exact ⟨rfl, B14.out⟩

end Go.Proofs.Ytnbkekbgedioeaa.wsetNil
