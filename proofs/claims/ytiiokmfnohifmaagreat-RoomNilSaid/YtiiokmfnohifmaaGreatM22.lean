/- Proved parts: B3i B4n. Conditions: each theorem's own. -/
import Derived.Test.YtiiokmfnohifmaaGreatM19
import Derived.Test.YtiiokmfnohifmaaGreatM21
namespace Go.Proofs.YtiiokmfnohifmaaGreat
open Go.Joins Go.ChangeShapes Go.WideShapes Go.ChangeAt Go.RowKit

theorem cellsWr : Tryz.prog.cellsOf 74 = 5 := by kernel_rfl
theorem cellsWrs : Tryz.prog.cellsOf 35 = 1 := by kernel_rfl
theorem cellsA11 : Tryz.prog.cellsOf 37 = 5 := by kernel_rfl
theorem cellsU8 : Tryz.prog.cellsOf 5 = 1 := by kernel_rfl
/-- three cells that were read as a value -/
theorem read_val {H : Type} {enc : TypeId × Value → H} {W : World} {fuel : Nat} {c2 c3 c4 : Value} {x : DataW H × List MemPlace}
    (h : DataW.trod enc Tryz.prog W 0 (fun _ => true) true fuel 56 [c2, c3, c4] = some x) : ∃ y : Val, y.Fits ∧ c2 = .bool y.num ∧ c3 = .string y.txt ∧ c4 = .int .u64 (y.bits : Int) := by
  obtain ⟨zs, n'', _, hz, _, hzl, hg⟩ := DataW.trod_struct Tryz.underlying56 h
  obtain ⟨z0, z1, z2, rfl⟩ := three_of9 (show zs.length = 3 from hzl)
  have g0 : DataW.trod enc Tryz.prog W 0 (fun _ => true) true n'' 4 (([c2, c3, c4].drop 0).take (Tryz.prog.cellsOf 4)) = some z0 := hg 0 _ rfl
  have g1 : DataW.trod enc Tryz.prog W 0 (fun _ => true) true n'' 9 (([c2, c3, c4].drop 1).take (Tryz.prog.cellsOf 9)) = some z1 := hg 1 _ rfl
  have g2 : DataW.trod enc Tryz.prog W 0 (fun _ => true) true n'' 26 (([c2, c3, c4].drop 2).take (Tryz.prog.cellsOf 26)) = some z2 := hg 2 _ rfl
  rw [cells9b] at g0
  rw [cells9s] at g1
  rw [cells9u] at g2
  obtain ⟨m, e2, _⟩ := DataW.trod_bool Tryz.underlying4 g0
  obtain ⟨t, e3, _, w3⟩ := DataW.trod_string Tryz.underlying9 g1
  obtain ⟨k, e4, _, w4⟩ := DataW.trod_int Tryz.underlying26 g2
  simp at e2 e3 e4
  have hb := bounds_u64 w4
  refine ⟨⟨m, t, k.toNat⟩, ⟨by show k.toNat < _; omega, w3⟩, e2, e3, ?_⟩
  rw [e4]
  show _ = Value.int .u64 ((k.toNat : Nat) : Int)
  rw [Int.toNat_of_nonneg hb.1]
/-- five cells that were read as a write -/
theorem read_wr {H : Type} {enc : TypeId × Value → H} {W : World} {fuel : Nat} {c0 c1 c2 c3 c4 : Value} {x : DataW H × List MemPlace}
    (h : DataW.trod enc Tryz.prog W 0 (fun _ => true) true fuel 74 [c0, c1, c2, c3, c4] = some x) : ∃ y : Wr, (y.key.size ≤ maxLen ∧ y.val.Fits) ∧ [c0, c1, c2, c3, c4] = y.cs := by
  obtain ⟨ys, n', _, hy, _, hyl, hf⟩ := DataW.trod_struct Tryz.underlying74 h
  obtain ⟨y0, y1, y2, rfl⟩ := three_of9 (show ys.length = 3 from hyl)
  have f0 : DataW.trod enc Tryz.prog W 0 (fun _ => true) true n' 9 (([c0, c1, c2, c3, c4].drop 0).take (Tryz.prog.cellsOf 9)) = some y0 := hf 0 _ rfl
  have f1 : DataW.trod enc Tryz.prog W 0 (fun _ => true) true n' 4 (([c0, c1, c2, c3, c4].drop 1).take (Tryz.prog.cellsOf 4)) = some y1 := hf 1 _ rfl
  have f2 : DataW.trod enc Tryz.prog W 0 (fun _ => true) true n' 56 (([c0, c1, c2, c3, c4].drop 2).take (Tryz.prog.cellsOf 56)) = some y2 := hf 2 _ rfl
  rw [cells9s] at f0
  rw [cells9b] at f1
  rw [cells9l] at f2
  obtain ⟨k, e0, _, w0⟩ := DataW.trod_string Tryz.underlying9 f0
  obtain ⟨g, e1, _⟩ := DataW.trod_bool Tryz.underlying4 f1
  obtain ⟨v, hv, e2, e3, e4⟩ := read_val (show DataW.trod enc Tryz.prog W 0 (fun _ => true) true n' 56 [c2, c3, c4] = some y2 from f2)
  simp at e0 e1
  exact ⟨⟨k, g, v⟩, ⟨w0, hv⟩, by rw [e0, e1, e2, e3, e4]; rfl⟩
/-- a slice of elements of five cells that was read -/
theorem read_rows {α : Type} (cs : α → List Value) (Z : α) (G : α → Prop) {H : Type} {enc : TypeId × Value → H} {W : World} {fuel : Nat} {ts t : TypeId} {us : List Value} {x : DataW H × List MemPlace} (hu : Tryz.prog.underlying ts = some (.slice t)) (hc : Tryz.prog.cellsOf t = 5)
    (one : ∀ {fuel : Nat} {c0 c1 c2 c3 c4 : Value} {x : DataW H × List MemPlace}, DataW.trod enc Tryz.prog W 0 (fun _ => true) true fuel t [c0, c1, c2, c3, c4] = some x → ∃ y : α, G y ∧ [c0, c1, c2, c3, c4] = cs y)
    (h : DataW.trod enc Tryz.prog W 0 (fun _ => true) true fuel ts us = some x) :
    ∃ (A : Option Addr) (c : Nat) (xs : List α), us = [.slice A xs.length c] ∧ (0 < xs.length → ∃ b o, A = some ⟨b, o, none⟩ ∧ b < W.heap.size ∧ ∀ j, j < xs.length → ∀ i, i < 5 → W.cell? ⟨b, o + j * 5 + i, none⟩ = (cs (xs.getD j Z))[i]?) ∧ (∀ y, y ∈ xs → G y) ∧ xs.length ≤ maxLen := by
  rcases Deep.open_slice hu h with ⟨hcs, _⟩ | ⟨a, len, cap, m, n, D, Pl, hcs, _, hl, hm, hmm, hx, hi⟩
  · exact ⟨none, 0, [], hcs, fun hp => absurd hp (by simp), fun x hx => (by cases hx), by simp⟩
  · simp only [if_true] at hmm
    subst hmm
    have hone : ∀ i, i < m → ∃ y : α, G y ∧ ∀ j, j < 5 → W.cell? ((a.add (i * 5)).add j) = (cs y)[j]? := by
      intro i him
      obtain ⟨cs', hc', ht'⟩ := hi i him
      rw [hc] at hc'
      obtain ⟨_, hcl, hat⟩ := World.cells?_some hc'
      obtain ⟨c0, c1, c2, c3, c4, rfl⟩ := five_of9 hcl
      obtain ⟨y, hf, hy⟩ := one ht'
      refine ⟨y, hf, fun j hj => ?_⟩
      rw [hat j hj, ← hy]
    obtain ⟨F, hF⟩ : ∃ F : Nat → α, ∀ i, i < m → G (F i) ∧ ∀ j, j < 5 → W.cell? ((a.add (i * 5)).add j) = (cs (F i))[j]? := by
      refine ⟨fun i => if h : i < m then (hone i h).choose else Z, fun i h => ?_⟩
      simp only [dif_pos h]
      exact (hone i h).choose_spec
    have hlen : ((List.range len).map F).length = len := by simp
    have hget : ∀ j, j < len → ((List.range len).map F).getD j Z = F j := fun j hj => by
      rw [List.getD_eq_getElem?_getD, List.getElem?_map, List.getElem?_range hj]; rfl
    refine ⟨some a, m, (List.range len).map F, by rw [hlen]; exact hcs, fun hp => ?_, fun y hy => ?_, by rw [hlen]; omega⟩
    · rw [hlen] at hp
      obtain ⟨cs', hc', ht'⟩ := hi 0 (by omega)
      rw [hc] at hc'
      obtain ⟨_, hcl, hat⟩ := World.cells?_some hc'
      have h2 := hat 0 (by decide)
      rw [List.getElem?_eq_getElem (by omega)] at h2
      have h3 : a.block < W.heap.size := by
        have := World.block_lt_of_cell? W _ h2
        simpa [Addr.add] using this
      obtain ⟨b, off, spot⟩ := a
      have hspot : spot = none := by simpa [Addr.add] using World.cell?_spot h2
      subst hspot
      refine ⟨b, off, rfl, h3, fun j hj i hi => ?_⟩
      rw [hlen] at hj
      rw [hget j hj]
      have q := (hF j (by omega)).2 i hi
      rwa [add9, add9] at q
    · obtain ⟨i, hi2, rfl⟩ := List.mem_map.1 hy
      exact (hF i (by have := List.mem_range.1 hi2; omega)).1
theorem read_wrs {H : Type} {enc : TypeId × Value → H} {W : World} {fuel : Nat} {us : List Value} {x : DataW H × List MemPlace}
    (h : DataW.trod enc Tryz.prog W 0 (fun _ => true) true fuel 35 us = some x) : ∃ A c ws, us = [.slice A ws.length c] ∧ SlWr W A ws ∧ InW ws ∧ ws.length ≤ maxLen ∧ (0 < ws.length → ∀ a, A = some a → a.block < W.heap.size) := by
  obtain ⟨A, c, xs, e, h1, h2, h3⟩ := read_rows Wr.cs Wr.Z (fun y => y.key.size ≤ maxLen ∧ y.val.Fits) Tryz.underlying35 cellsWr (fun h => read_wr h) h
  refine ⟨A, c, xs, e, fun hp => ?_, h2, h3, fun hp a ea => ?_⟩
  · obtain ⟨b, o, e, hl, hd⟩ := h1 hp
    exact ⟨b, o, e, hl, fun j hj => ⟨hd j hj 0 (by decide), hd j hj 1 (by decide), hd j hj 2 (by decide), hd j hj 3 (by decide), hd j hj 4 (by decide)⟩⟩
  · obtain ⟨b, o, e, hl, _⟩ := h1 hp
    rw [e] at ea
    injection ea with ea
    rw [← ea]; exact hl
/-- an act as it came in: its writes in memory -/
structure AcM where
  a : Ac
  A : Option Addr
  c : Nat
def AcM.cs (y : AcM) : List Value := [.int .i64 y.a.kind, .slice y.A y.a.ws.length y.c, .int .u8 y.a.by_, .int .i64 y.a.seq, .string y.a.key]
def AcM.Z : AcM := ⟨⟨0, [], 0, 0, ⟨#[]⟩⟩, none, 0⟩
def AcM.Ok (W : World) (y : AcM) : Prop := SlWr W y.A y.a.ws ∧ InW y.a.ws ∧ y.a.ws.length ≤ maxLen ∧ (0 < y.a.ws.length → ∀ a, y.A = some a → a.block < W.heap.size) ∧ 0 ≤ y.a.by_ ∧ y.a.by_ ≤ 255 ∧ y.a.key.size ≤ maxLen
theorem read_act {H : Type} {enc : TypeId × Value → H} {W : World} {fuel : Nat} {c0 c1 c2 c3 c4 : Value} {x : DataW H × List MemPlace}
    (h : DataW.trod enc Tryz.prog W 0 (fun _ => true) true fuel 37 [c0, c1, c2, c3, c4] = some x) : ∃ y : AcM, y.Ok W ∧ [c0, c1, c2, c3, c4] = y.cs := by
  obtain ⟨ys, n', _, hy, _, hyl, hf⟩ := DataW.trod_struct Tryz.underlying37 h
  obtain ⟨y0, y1, y2, y3, y4, rfl⟩ := five_of9 (show ys.length = 5 from hyl)
  have f0 : DataW.trod enc Tryz.prog W 0 (fun _ => true) true n' 3 (([c0, c1, c2, c3, c4].drop 0).take (Tryz.prog.cellsOf 3)) = some y0 := hf 0 _ rfl
  have f1 : DataW.trod enc Tryz.prog W 0 (fun _ => true) true n' 35 (([c0, c1, c2, c3, c4].drop 1).take (Tryz.prog.cellsOf 35)) = some y1 := hf 1 _ rfl
  have f2 : DataW.trod enc Tryz.prog W 0 (fun _ => true) true n' 5 (([c0, c1, c2, c3, c4].drop 2).take (Tryz.prog.cellsOf 5)) = some y2 := hf 2 _ rfl
  have f3 : DataW.trod enc Tryz.prog W 0 (fun _ => true) true n' 3 (([c0, c1, c2, c3, c4].drop 3).take (Tryz.prog.cellsOf 3)) = some y3 := hf 3 _ rfl
  have f4 : DataW.trod enc Tryz.prog W 0 (fun _ => true) true n' 9 (([c0, c1, c2, c3, c4].drop 4).take (Tryz.prog.cellsOf 9)) = some y4 := hf 4 _ rfl
  rw [cells9j] at f0 f3
  rw [cellsWrs] at f1
  rw [cellsU8] at f2
  rw [cells9s] at f4
  obtain ⟨kd, e0, _, _⟩ := DataW.trod_int Tryz.underlying3 f0
  obtain ⟨A, c, ws, e1, sl, iw, ln, hA⟩ := read_wrs f1
  obtain ⟨b, e2, _, w2⟩ := DataW.trod_int Tryz.underlying5 f2
  obtain ⟨q, e3, _, _⟩ := DataW.trod_int Tryz.underlying3 f3
  obtain ⟨k, e4, _, w4⟩ := DataW.trod_string Tryz.underlying9 f4
  simp at e0 e1 e2 e3 e4
  have hb := bounds_u8 w2
  exact ⟨⟨⟨kd, ws, b, q, k⟩, A, c⟩, ⟨sl, iw, ln, hA, hb.1, hb.2, w4⟩, by rw [e0, e1, e2, e3, e4]; rfl⟩
set_option maxRecDepth 100000 in
/-- an act that came in by value -/
theorem open_act11 {H : Type} {enc : TypeId × Value → H} {W : World} {base : Nat} {v : Value} {D : DataW H} {ps : List MemPlace} (hval : Value.okWide Tryz.prog W .any base 37 v)
    (h : DataW.Trod enc Tryz.prog W 0 (fun _ => true) true 37 v D ps) : ∃ y : AcM, v = .agg y.cs.toArray ∧ y.Ok W := by
  obtain ⟨cs, rfl, hsz⟩ := okWide_struct Tryz.underlying37 hval
  obtain ⟨l⟩ := cs
  obtain ⟨c0, c1, c2, c3, c4, rfl⟩ := five_of9 (show l.length = 5 from hsz.trans cellsA11)
  obtain ⟨fuel, hf⟩ := h
  obtain ⟨y, fy, ey⟩ := read_act (show DataW.trod enc Tryz.prog W 0 (fun _ => true) true fuel 37 [c0, c1, c2, c3, c4] = _ from hf)
  exact ⟨y, by rw [← ey], fy⟩

end Go.Proofs.YtiiokmfnohifmaaGreat

namespace Go.Proofs.YtiiokmfnohifmaaGreat.roomNil
open Go.Proofs.YtiiokmfnohifmaaGreat Go.Joins Go.ChangeShapes Go.WideShapes Go.ChangeAt Go.RowKit Go.Deep

theorem eql_selfV (x : Val) (w : World) : (binOp .eql 56 x.v x.v).run Tryz.prog w = .ok (.bool true) w := by
  unfold Val.v
  rw [run_eql_struct, eqIn_val 9998]
  simp
set_option maxRecDepth 100000 in
set_option maxHeartbeats 1000000 in
theorem walk {R : RelM} (X : RoomAw R) (y : AcM) (x : Int) (w : World) :
    Calls Tryz.prog 6 #[.agg y.cs.toArray, .int .u64 x] w fun e w' => e = .returned (.bool true) ∧ Below w.heap.size w w' := by
  obtain ⟨⟨kd, ws, by_, sq, key⟩, A, c⟩ := y
  obtain ⟨w0, hw0⟩ : ∃ w0, w0 = w.alloc (.cells #[.int .i64 kd, .slice A ws.length c, .int .u8 by_, .int .i64 sq, .string key] 37) := ⟨_, rfl⟩
  have r0 : RowAt w0 w.heap.size [.int .i64 kd, .slice A ws.length c, .int .u8 by_, .int .i64 sq, .string key] 37 := by rw [hw0]; exact RowAt.new _ _ _
  have b0 : Below w.heap.size w w0 := by rw [hw0]; exact (Below.refl _ _).alloc (Nat.le_refl _) _
  have CA := Lib.hid (fun W (b : Below w0.heap.size w0 W) => show W.cell? ⟨w.heap.size, 1, none⟩ = some (.slice A ws.length c) ∧ W.cell? ⟨w.heap.size, 3, none⟩ = some (.int .i64 sq) ∧ W.cell? ⟨w.heap.size, 4, none⟩ = some (.string key) from
    ⟨(r0.below b).cell 1, (r0.below b).cell 3, (r0.below b).cell 4⟩)
  have B0 := Lib.hid b0
  have HW := Lib.hid hw0
  have AW := Lib.hid (lAwake X w0)
  have NL := fun W => X.nil_ ws A c key sq x W
  have KY := Lib.hid (fun W => (NL W).1)
  have KQ := Lib.hid (fun W => (NL W).2.1)
  have KF := Lib.hid (fun W => (NL W).2.2.1)
  have KA := Lib.hid (fun W => (NL W).2.2.2.1)
  have KG := Lib.hid (fun W => (NL W).2.2.2.2.1)
  have KT := Lib.hid (fun W => (NL W).2.2.2.2.2.1)
  have KS := Lib.hid (fun W => (NL W).2.2.2.2.2.2.1)
  have KC := Lib.hid (fun W => (NL W).2.2.2.2.2.2.2.1)
  have KM := Lib.hid (fun W => (NL W).2.2.2.2.2.2.2.2.1)
  have KW := Lib.hid (fun W => (NL W).2.2.2.2.2.2.2.2.2.1)
  have KL := Lib.hid (fun W => (NL W).2.2.2.2.2.2.2.2.2.2.1)
  have KK := Lib.hid (fun W => (NL W).2.2.2.2.2.2.2.2.2.2.2.1)
  have KV := Lib.hid (fun W => (NL W).2.2.2.2.2.2.2.2.2.2.2.2.1)
  have KE := Lib.hid (fun W => (NL W).2.2.2.2.2.2.2.2.2.2.2.2.2)
  have NV : ∀ w, (binOp .eql 56 (.agg #[.bool false, .string ⟨#[]⟩, .int .u64 0]) (.agg #[.bool false, .string ⟨#[]⟩, .int .u64 0])).run Tryz.prog w = .ok (.bool true) w := eql_selfV Val.V0
  have KG : Hid (∀ W, Calls Tryz.prog 27 #[.pointer none, .string key, .int .i64 sq] W fun e w' => e = .returned (.tuple #[.agg #[.bool false, .string ⟨#[]⟩, .int .u64 0], .bool false]) ∧ Below W.heap.size W w') := KG
  have KT : Hid (∀ W, Calls Tryz.prog 28 #[.pointer none, .string key, .int .i64 sq] W fun e w' => e = .returned (.tuple #[.string ⟨#[]⟩, .agg #[.bool false, .string ⟨#[]⟩, .int .u64 0], .bool false]) ∧ Below W.heap.size W w') := KT
  have KS : Hid (∀ W, Calls Tryz.prog 37 #[.pointer none, .string key, .int .i64 sq] W fun e w' => e = .returned (.tuple #[.string ⟨#[]⟩, .agg #[.bool false, .string ⟨#[]⟩, .int .u64 0], .bool false]) ∧ Below W.heap.size W w') := KS
  obtain ⟨n, hn⟩ : ∃ n, n = ws.length := ⟨_, rfl⟩
  show Calls Tryz.prog 6 #[.agg #[.int .i64 kd, .slice A ws.length c, .int .u8 by_, .int .i64 sq, .string key], .int .u64 x] w _
  rw [← hn]
  simp only [← hn] at KC KM CA
  have HW := Lib.hid (show w0 = w.alloc (.cells #[.int .i64 kd, .slice A n c, .int .u8 by_, .int .i64 sq, .string key] 37) by rw [hw0, hn])
  clear NL X r0 b0 hw0 hn
  go_enter Tryz.func6, Tryz.ntmps6
  go_wp2_with fail
  rw [← HW.out]
  refine AW.out.mono ?_
  rintro e w1 ⟨rfl, hb1⟩
  have B1 := Lib.hid hb1
  clear hb1 AW

  go_wp2_with fail
  refine (KA.out _).mono ?_
  rintro e w2 ⟨rfl, hb⟩
  have cw2 := B1.out.trans (hb.mono B1.out.size)
  have Dw2 := Lib.hid cw2
  clear hb cw2 KA
  obtain ⟨a1, a3, a4⟩ := CA.out _ Dw2.out
  go_wp2_with fail
  refine (KG.out _).mono ?_
  rintro e w3 ⟨rfl, hb⟩
  have cw3 := Dw2.out.trans (hb.mono Dw2.out.size)
  have Dw3 := Lib.hid (cw3.alloc cw3.size (.cells #[.bool false, .string ⟨#[]⟩, .int .u64 0] 56))
  have R8 := Lib.hid (RowAt.new w3 [.bool false, .string ⟨#[]⟩, .int .u64 0] 56)
  clear hb cw3 KG
  clear a1 a3 a4
  obtain ⟨a1, a3, a4⟩ := CA.out _ Dw3.out
  go_wp2_with fail
  refine (KT.out _).mono ?_
  rintro e w4 ⟨rfl, hb⟩
  have cw4 := Dw3.out.trans (hb.mono Dw3.out.size)
  have nR8 := R8.out.below hb
  have Dw4 := Lib.hid (cw4.alloc cw4.size (.cells #[.bool false, .string ⟨#[]⟩, .int .u64 0] 56))
  have R8 := Lib.hid (nR8.alloc (.cells #[.bool false, .string ⟨#[]⟩, .int .u64 0] 56))
  have R11 := Lib.hid (RowAt.new w4 [.bool false, .string ⟨#[]⟩, .int .u64 0] 56)
  clear nR8
  clear hb cw4 KT
  clear a1 a3 a4
  obtain ⟨a1, a3, a4⟩ := CA.out _ Dw4.out
  go_wp2_with fail
  refine (KS.out _).mono ?_
  rintro e w5 ⟨rfl, hb⟩
  have cw5 := Dw4.out.trans (hb.mono Dw4.out.size)
  have nR8 := R8.out.below hb
  have nR11 := R11.out.below hb
  have Dw5 := Lib.hid (cw5.alloc cw5.size (.cells #[.bool false, .string ⟨#[]⟩, .int .u64 0] 56))
  have R8 := Lib.hid (nR8.alloc (.cells #[.bool false, .string ⟨#[]⟩, .int .u64 0] 56))
  have R11 := Lib.hid (nR11.alloc (.cells #[.bool false, .string ⟨#[]⟩, .int .u64 0] 56))
  have R14 := Lib.hid (RowAt.new w5 [.bool false, .string ⟨#[]⟩, .int .u64 0] 56)
  clear nR8
  clear nR11
  clear hb cw5 KS
  clear a1 a3 a4
  obtain ⟨a1, a3, a4⟩ := CA.out _ Dw5.out
  go_wp2_with fail
  refine (KM.out _).mono ?_
  rintro e w6 ⟨rfl, hb⟩
  have cw6 := Dw5.out.trans (hb.mono Dw5.out.size)
  have nR8 := R8.out.below hb
  have nR11 := R11.out.below hb
  have nR14 := R14.out.below hb
  have Dw6 := Lib.hid cw6
  have R8 := Lib.hid nR8
  have R11 := Lib.hid nR11
  have R14 := Lib.hid nR14
  clear nR8
  clear nR11
  clear nR14
  clear hb cw6 KM
  clear a1 a3 a4
  go_wp2_with fail
  refine (KY.out _).mono ?_
  rintro e w7 ⟨⟨A9, c9, rfl⟩, hb⟩
  have cw7 := Dw6.out.trans (hb.mono Dw6.out.size)
  have nR8 := R8.out.below hb
  have nR11 := R11.out.below hb
  have nR14 := R14.out.below hb
  have Dw7 := Lib.hid (cw7.alloc cw7.size (.cells #[.slice A9 0 c9, .int .i64 0, .int .i64 0, .int .i64 0] 24))
  have R8 := Lib.hid (nR8.alloc (.cells #[.slice A9 0 c9, .int .i64 0, .int .i64 0, .int .i64 0] 24))
  have R11 := Lib.hid (nR11.alloc (.cells #[.slice A9 0 c9, .int .i64 0, .int .i64 0, .int .i64 0] 24))
  have R14 := Lib.hid (nR14.alloc (.cells #[.slice A9 0 c9, .int .i64 0, .int .i64 0, .int .i64 0] 24))
  have R18 := Lib.hid (RowAt.new w7 [.slice A9 0 c9, .int .i64 0, .int .i64 0, .int .i64 0] 24)
  clear nR8
  clear nR11
  clear nR14
  clear hb cw7 KY

  have r80 := R8.out.cell 0
  have r81 := R8.out.cell 1
  have r82 := R8.out.cell 2
  have r110 := R11.out.cell 0
  have r111 := R11.out.cell 1
  have r112 := R11.out.cell 2
  have r140 := R14.out.cell 0
  have r141 := R14.out.cell 1
  have r142 := R14.out.cell 2
  have r180 := R18.out.cell 0
  have r181 := R18.out.cell 1
  have r182 := R18.out.cell 2
  have r183 := R18.out.cell 3
  simp only [List.getElem?_cons_succ, List.getElem?_cons_zero] at r80 r81 r82 r110 r111 r112 r140 r141 r142 r180 r181 r182 r183
  obtain ⟨a1, a3, a4⟩ := CA.out _ Dw7.out
  go_wp2_with fail
  refine (KC.out _).mono ?_
  rintro e v1 ⟨rfl, hb⟩
  have E1 := Lib.hid hb
  clear hb a1 a3 a4 r80 r81 r82 r110 r111 r112 r140 r141 r142 r180 r181 r182 r183 KC R8 R11 R14
  go_wp2_with fail
  refine (KW.out _).mono ?_
  rintro e v2 ⟨rfl, hb⟩
  have E2 := Lib.hid (E1.out.trans (hb.mono E1.out.size))
  clear hb KW E1
  go_wp2_with fail
  refine (KL.out _).mono ?_
  rintro e v3 ⟨rfl, hb⟩
  have E3 := Lib.hid (E2.out.trans (hb.mono E2.out.size))
  clear hb KL E2
  go_wp2_with fail
  refine (KK.out _).mono ?_
  rintro e v4 ⟨rfl, hb⟩
  have E4 := Lib.hid (E3.out.trans (hb.mono E3.out.size))
  clear hb KK E3
  go_wp2_with fail
  refine (KV.out _).mono ?_
  rintro e v5 ⟨rfl, hb⟩
  have E5 := Lib.hid (E4.out.trans (hb.mono E4.out.size))
  clear hb KV E4
  go_wp2_with fail
  refine (KE.out _).mono ?_
  rintro e v6 ⟨⟨A8, c8, rfl⟩, hb⟩
  have E6 := Lib.hid (E5.out.trans (hb.mono E5.out.size))
  clear hb KE E5
  go_wp2_with fail
  refine (KQ.out _).mono ?_
  rintro e v7 ⟨rfl, hb⟩
  have E7 := Lib.hid (E6.out.trans (hb.mono E6.out.size))
  clear hb KQ E6
  go_wp2_with fail
  refine (KF.out _).mono ?_
  rintro e v8 ⟨rfl, hb⟩
  have E8 := Lib.hid (E7.out.trans (hb.mono E7.out.size))
  clear hb KF E7
  have r18 := R18.out.below E8.out
  have q0 := r18.cell 0
  have q1 := r18.cell 1
  have q2 := r18.cell 2
  have q3 := r18.cell 3
  simp only [List.getElem?_cons_succ, List.getElem?_cons_zero] at q0 q1 q2 q3
  have BB := Lib.hid (B0.out.trans ((Dw7.out.trans (E8.out.mono Dw7.out.size)).mono B0.out.size))
  clear r18
  go_wp2_with fail
  go_ret
  exact ⟨rfl, BB.out⟩

end Go.Proofs.YtiiokmfnohifmaaGreat.roomNil
