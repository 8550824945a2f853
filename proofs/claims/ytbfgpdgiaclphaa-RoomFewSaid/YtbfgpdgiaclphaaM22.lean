/- Proved parts: B3i B3j B4g. Conditions: each theorem's own. -/
import Derived.Test.YtbfgpdgiaclphaaM19
import Derived.Test.YtbfgpdgiaclphaaM21
import Derived.Test.YtbfgpdgiaclphaaM8
namespace Go.Proofs.Ytbfgpdgiaclphaa
open Go.Joins Go.ChangeShapes Go.WideShapes Go.ChangeAt Go.RowKit

theorem cellsWr : Try.prog.cellsOf 45 = 5 := by kernel_rfl
theorem cellsWrs : Try.prog.cellsOf 33 = 1 := by kernel_rfl
theorem cellsA11 : Try.prog.cellsOf 35 = 5 := by kernel_rfl
theorem cellsU8 : Try.prog.cellsOf 5 = 1 := by kernel_rfl
/-- three cells that were read as a value -/
theorem read_val {H : Type} {enc : TypeId × Value → H} {W : World} {fuel : Nat} {c2 c3 c4 : Value} {x : DataW H × List MemPlace}
    (h : DataW.trod enc Try.prog W 0 (fun _ => true) true fuel 43 [c2, c3, c4] = some x) : ∃ y : Val, y.Fits ∧ c2 = .bool y.num ∧ c3 = .string y.txt ∧ c4 = .int .u64 (y.bits : Int) := by
  obtain ⟨zs, n'', _, hz, _, hzl, hg⟩ := DataW.trod_struct Try.underlying43 h
  obtain ⟨z0, z1, z2, rfl⟩ := three_of9 (show zs.length = 3 from hzl)
  have g0 : DataW.trod enc Try.prog W 0 (fun _ => true) true n'' 4 (([c2, c3, c4].drop 0).take (Try.prog.cellsOf 4)) = some z0 := hg 0 _ rfl
  have g1 : DataW.trod enc Try.prog W 0 (fun _ => true) true n'' 9 (([c2, c3, c4].drop 1).take (Try.prog.cellsOf 9)) = some z1 := hg 1 _ rfl
  have g2 : DataW.trod enc Try.prog W 0 (fun _ => true) true n'' 31 (([c2, c3, c4].drop 2).take (Try.prog.cellsOf 31)) = some z2 := hg 2 _ rfl
  rw [cells9b] at g0
  rw [cells9s] at g1
  rw [cells9u] at g2
  obtain ⟨m, e2, _⟩ := DataW.trod_bool Try.underlying4 g0
  obtain ⟨t, e3, _, w3⟩ := DataW.trod_string Try.underlying9 g1
  obtain ⟨k, e4, _, w4⟩ := DataW.trod_int Try.underlying31 g2
  simp at e2 e3 e4
  have hb := bounds_u64 w4
  refine ⟨⟨m, t, k.toNat⟩, ⟨by show k.toNat < _; omega, w3⟩, e2, e3, ?_⟩
  rw [e4]
  show _ = Value.int .u64 ((k.toNat : Nat) : Int)
  rw [Int.toNat_of_nonneg hb.1]
/-- five cells that were read as a write -/
theorem read_wr {H : Type} {enc : TypeId × Value → H} {W : World} {fuel : Nat} {c0 c1 c2 c3 c4 : Value} {x : DataW H × List MemPlace}
    (h : DataW.trod enc Try.prog W 0 (fun _ => true) true fuel 45 [c0, c1, c2, c3, c4] = some x) : ∃ y : Wr, (y.key.size ≤ maxLen ∧ y.val.Fits) ∧ [c0, c1, c2, c3, c4] = y.cs := by
  obtain ⟨ys, n', _, hy, _, hyl, hf⟩ := DataW.trod_struct Try.underlying45 h
  obtain ⟨y0, y1, y2, rfl⟩ := three_of9 (show ys.length = 3 from hyl)
  have f0 : DataW.trod enc Try.prog W 0 (fun _ => true) true n' 9 (([c0, c1, c2, c3, c4].drop 0).take (Try.prog.cellsOf 9)) = some y0 := hf 0 _ rfl
  have f1 : DataW.trod enc Try.prog W 0 (fun _ => true) true n' 4 (([c0, c1, c2, c3, c4].drop 1).take (Try.prog.cellsOf 4)) = some y1 := hf 1 _ rfl
  have f2 : DataW.trod enc Try.prog W 0 (fun _ => true) true n' 43 (([c0, c1, c2, c3, c4].drop 2).take (Try.prog.cellsOf 43)) = some y2 := hf 2 _ rfl
  rw [cells9s] at f0
  rw [cells9b] at f1
  rw [cells9l] at f2
  obtain ⟨k, e0, _, w0⟩ := DataW.trod_string Try.underlying9 f0
  obtain ⟨g, e1, _⟩ := DataW.trod_bool Try.underlying4 f1
  obtain ⟨v, hv, e2, e3, e4⟩ := read_val (show DataW.trod enc Try.prog W 0 (fun _ => true) true n' 43 [c2, c3, c4] = some y2 from f2)
  simp at e0 e1
  exact ⟨⟨k, g, v⟩, ⟨w0, hv⟩, by rw [e0, e1, e2, e3, e4]; rfl⟩
/-- a slice of elements of five cells that was read -/
theorem read_rows {α : Type} (cs : α → List Value) (Z : α) (G : α → Prop) {H : Type} {enc : TypeId × Value → H} {W : World} {fuel : Nat} {ts t : TypeId} {us : List Value} {x : DataW H × List MemPlace} (hu : Try.prog.underlying ts = some (.slice t)) (hc : Try.prog.cellsOf t = 5)
    (one : ∀ {fuel : Nat} {c0 c1 c2 c3 c4 : Value} {x : DataW H × List MemPlace}, DataW.trod enc Try.prog W 0 (fun _ => true) true fuel t [c0, c1, c2, c3, c4] = some x → ∃ y : α, G y ∧ [c0, c1, c2, c3, c4] = cs y)
    (h : DataW.trod enc Try.prog W 0 (fun _ => true) true fuel ts us = some x) :
    ∃ (A : Option Addr) (c : Nat) (xs : List α), us = [.slice A xs.length c] ∧ (0 < xs.length → ∃ b o, A = some ⟨b, o, none⟩ ∧ b < W.heap.size ∧ ∀ j, j < xs.length → ∀ i, i < 5 → W.cell? ⟨b, o + j * 5 + i, none⟩ = (cs (xs.getD j Z))[i]?) ∧ (∀ y, y ∈ xs → G y) ∧ xs.length ≤ maxLen := by
  rcases Deep.open_slice hu h with ⟨hcs, _⟩ | ⟨a, len, cap, m, n, D, Pl, hcs, _, hl, hm, hmm, hx, hi⟩
  · exact ⟨none, 0, [], hcs, fun hp => absurd hp (by simp), fun x hx => (by cases hx), by simp⟩
  · simp only [if_true] at hmm
    subst hmm
    have hone : ∀ i, i < m → ∃ y : α, G y ∧ ∀ j, j < 5 → W.cell? ((a.add (i * 5)).add j) = (cs y)[j]? := by
      intro i him
      obtain ⟨cs', hc', ht'⟩ := hi i him
      rw [hc] at hc'
      obtain ⟨_, hcl, hat⟩ := World.cells?_some hc'
      obtain ⟨c0, c1, c2, c3, c4, rfl⟩ := five_of9 hcl
      obtain ⟨y, hf, hy⟩ := one ht'
      refine ⟨y, hf, fun j hj => ?_⟩
      rw [hat j hj, ← hy]
    obtain ⟨F, hF⟩ : ∃ F : Nat → α, ∀ i, i < m → G (F i) ∧ ∀ j, j < 5 → W.cell? ((a.add (i * 5)).add j) = (cs (F i))[j]? := by
      refine ⟨fun i => if h : i < m then (hone i h).choose else Z, fun i h => ?_⟩
      simp only [dif_pos h]
      exact (hone i h).choose_spec
    have hlen : ((List.range len).map F).length = len := by simp
    have hget : ∀ j, j < len → ((List.range len).map F).getD j Z = F j := fun j hj => by
      rw [List.getD_eq_getElem?_getD, List.getElem?_map, List.getElem?_range hj]; rfl
    refine ⟨some a, m, (List.range len).map F, by rw [hlen]; exact hcs, fun hp => ?_, fun y hy => ?_, by rw [hlen]; omega⟩
    · rw [hlen] at hp
      obtain ⟨cs', hc', ht'⟩ := hi 0 (by omega)
      rw [hc] at hc'
      obtain ⟨_, hcl, hat⟩ := World.cells?_some hc'
      have h2 := hat 0 (by decide)
      rw [List.getElem?_eq_getElem (by omega)] at h2
      have h3 : a.block < W.heap.size := by
        have := World.block_lt_of_cell? W _ h2
        simpa [Addr.add] using this
      obtain ⟨b, off, spot⟩ := a
      have hspot : spot = none := by simpa [Addr.add] using World.cell?_spot h2
      subst hspot
      refine ⟨b, off, rfl, h3, fun j hj i hi => ?_⟩
      rw [hlen] at hj
      rw [hget j hj]
      have q := (hF j (by omega)).2 i hi
      rwa [add9, add9] at q
    · obtain ⟨i, hi2, rfl⟩ := List.mem_map.1 hy
      exact (hF i (by have := List.mem_range.1 hi2; omega)).1
theorem read_wrs {H : Type} {enc : TypeId × Value → H} {W : World} {fuel : Nat} {us : List Value} {x : DataW H × List MemPlace}
    (h : DataW.trod enc Try.prog W 0 (fun _ => true) true fuel 33 us = some x) : ∃ A c ws, us = [.slice A ws.length c] ∧ SlWr W A ws ∧ InW ws ∧ ws.length ≤ maxLen ∧ (0 < ws.length → ∀ a, A = some a → a.block < W.heap.size) := by
  obtain ⟨A, c, xs, e, h1, h2, h3⟩ := read_rows Wr.cs Wr.Z (fun y => y.key.size ≤ maxLen ∧ y.val.Fits) Try.underlying33 cellsWr (fun h => read_wr h) h
  refine ⟨A, c, xs, e, fun hp => ?_, h2, h3, fun hp a ea => ?_⟩
  · obtain ⟨b, o, e, hl, hd⟩ := h1 hp
    exact ⟨b, o, e, hl, fun j hj => ⟨hd j hj 0 (by decide), hd j hj 1 (by decide), hd j hj 2 (by decide), hd j hj 3 (by decide), hd j hj 4 (by decide)⟩⟩
  · obtain ⟨b, o, e, hl, _⟩ := h1 hp
    rw [e] at ea
    injection ea with ea
    rw [← ea]; exact hl
/-- an act as it came in: its writes in memory -/
structure AcM where
  a : Ac
  A : Option Addr
  c : Nat
def AcM.cs (y : AcM) : List Value := [.int .i64 y.a.kind, .slice y.A y.a.ws.length y.c, .int .u8 y.a.by_, .int .i64 y.a.seq, .string y.a.key]
def AcM.Z : AcM := ⟨⟨0, [], 0, 0, ⟨#[]⟩⟩, none, 0⟩
def AcM.Ok (W : World) (y : AcM) : Prop := SlWr W y.A y.a.ws ∧ InW y.a.ws ∧ y.a.ws.length ≤ maxLen ∧ (0 < y.a.ws.length → ∀ a, y.A = some a → a.block < W.heap.size) ∧ 0 ≤ y.a.by_ ∧ y.a.by_ ≤ 255 ∧ y.a.key.size ≤ maxLen
theorem read_act {H : Type} {enc : TypeId × Value → H} {W : World} {fuel : Nat} {c0 c1 c2 c3 c4 : Value} {x : DataW H × List MemPlace}
    (h : DataW.trod enc Try.prog W 0 (fun _ => true) true fuel 35 [c0, c1, c2, c3, c4] = some x) : ∃ y : AcM, y.Ok W ∧ [c0, c1, c2, c3, c4] = y.cs := by
  obtain ⟨ys, n', _, hy, _, hyl, hf⟩ := DataW.trod_struct Try.underlying35 h
  obtain ⟨y0, y1, y2, y3, y4, rfl⟩ := five_of9 (show ys.length = 5 from hyl)
  have f0 : DataW.trod enc Try.prog W 0 (fun _ => true) true n' 3 (([c0, c1, c2, c3, c4].drop 0).take (Try.prog.cellsOf 3)) = some y0 := hf 0 _ rfl
  have f1 : DataW.trod enc Try.prog W 0 (fun _ => true) true n' 33 (([c0, c1, c2, c3, c4].drop 1).take (Try.prog.cellsOf 33)) = some y1 := hf 1 _ rfl
  have f2 : DataW.trod enc Try.prog W 0 (fun _ => true) true n' 5 (([c0, c1, c2, c3, c4].drop 2).take (Try.prog.cellsOf 5)) = some y2 := hf 2 _ rfl
  have f3 : DataW.trod enc Try.prog W 0 (fun _ => true) true n' 3 (([c0, c1, c2, c3, c4].drop 3).take (Try.prog.cellsOf 3)) = some y3 := hf 3 _ rfl
  have f4 : DataW.trod enc Try.prog W 0 (fun _ => true) true n' 9 (([c0, c1, c2, c3, c4].drop 4).take (Try.prog.cellsOf 9)) = some y4 := hf 4 _ rfl
  rw [cells9j] at f0 f3
  rw [cellsWrs] at f1
  rw [cellsU8] at f2
  rw [cells9s] at f4
  obtain ⟨kd, e0, _, _⟩ := DataW.trod_int Try.underlying3 f0
  obtain ⟨A, c, ws, e1, sl, iw, ln, hA⟩ := read_wrs f1
  obtain ⟨b, e2, _, w2⟩ := DataW.trod_int Try.underlying5 f2
  obtain ⟨q, e3, _, _⟩ := DataW.trod_int Try.underlying3 f3
  obtain ⟨k, e4, _, w4⟩ := DataW.trod_string Try.underlying9 f4
  simp at e0 e1 e2 e3 e4
  have hb := bounds_u8 w2
  exact ⟨⟨⟨kd, ws, b, q, k⟩, A, c⟩, ⟨sl, iw, ln, hA, hb.1, hb.2, w4⟩, by rw [e0, e1, e2, e3, e4]; rfl⟩
/-- the slice at A reads as the acts l -/
def SlAct (w : World) (A : Option Addr) (l : List AcM) : Prop :=
  0 < l.length → ∃ b o, A = some ⟨b, o, none⟩ ∧ b < w.heap.size ∧ ∀ j, j < l.length → ∀ i, i < 5 → w.cell? ⟨b, o + j * 5 + i, none⟩ = (l.getD j AcM.Z).cs[i]?
theorem read_acts11 {H : Type} {enc : TypeId × Value → H} {W : World} {fuel : Nat} {us : List Value} {x : DataW H × List MemPlace}
    (h : DataW.trod enc Try.prog W 0 (fun _ => true) true fuel 25 us = some x) : ∃ A c l, us = [.slice A l.length c] ∧ SlAct W A l ∧ (∀ y, y ∈ l → y.Ok W) ∧ l.length ≤ maxLen :=
  read_rows AcM.cs AcM.Z (AcM.Ok W) Try.underlying25 cellsA11 (fun h => read_act h) h
set_option maxRecDepth 100000 in
/-- acts that came in -/
theorem open_acts11 {H : Type} {enc : TypeId × Value → H} {W : World} {base : Nat} {v : Value} {D : DataW H} {ps : List MemPlace} (hval : Value.okWide Try.prog W .any base 25 v)
    (h : DataW.Trod enc Try.prog W 0 (fun _ => true) true 25 v D ps) : ∃ A c l, v = .slice A l.length c ∧ SlAct W A l ∧ (∀ y, y ∈ l → y.Ok W) ∧ l.length ≤ maxLen := by
  obtain ⟨a0, len, cap, rfl⟩ := okWide_slice Try.underlying25 hval
  obtain ⟨fuel, hf⟩ := h
  obtain ⟨A, c, xs, hcs, r⟩ := read_acts11 hf
  simp [Value.cells] at hcs
  obtain ⟨rfl, rfl, rfl⟩ := hcs
  exact ⟨_, _, xs, rfl, r⟩
end Go.Proofs.Ytbfgpdgiaclphaa

namespace Go.Proofs.Ytbfgpdgiaclphaa
open Go.Joins Go.ChangeShapes Go.WideShapes Go.ChangeAt Go.RowKit

theorem cellsU64s : Try.prog.cellsOf 22 = 1 := by kernel_rfl
theorem cellsRoom : Try.prog.cellsOf 24 = 4 := by kernel_rfl
theorem four_of11 {α : Type} {l : List α} (h : l.length = 4) : ∃ a b c d, l = [a, b, c, d] := by
  match l, h with
  | [a, b, c, d], _ => exact ⟨a, b, c, d, rfl⟩
set_option maxRecDepth 100000 in
/-- a slice of uint64 that was read -/
theorem read_u64s {H : Type} {enc : TypeId × Value → H} {W : World} {fuel : Nat} {us : List Value} {x : DataW H × List MemPlace}
    (h : DataW.trod enc Try.prog W 0 (fun _ => true) true fuel 22 us = some x) : ∃ A c zs, us = [.slice A zs.length c] ∧ Sl W A zs ∧ La.U64 zs ∧ zs.length ≤ maxLen := by
  rcases open_ints Try.underlying22 Try.underlying31 cellsU h with ⟨hcs, hx⟩ | ⟨a, len', cap', zs, hcs, _, hl, hm, hz, hx, hcell, hwz⟩
  · exact ⟨none, 0, [], hcs, Sl.nil _ _, La.U64.nil, Nat.zero_le _⟩
  · simp only [if_true] at hz
    have hl2 : (zs.take len').length = len' := by rw [List.length_take]; omega
    refine ⟨some a, cap', zs.take len', by rw [hl2]; exact hcs, fun hp => ?_, fun n hn => ?_, by rw [hl2]; omega⟩
    · rw [hl2] at hp
      have h0 := hcell 0 (by omega)
      have h3 : a.block < W.heap.size := by
        have := World.block_lt_of_cell? W _ h0
        simpa [Addr.add] using this
      obtain ⟨b, off, spot⟩ := a
      have hspot : spot = none := by simpa [Addr.add] using World.cell?_spot h0
      subst hspot
      refine ⟨b, off, rfl, h3, fun j hj => ?_⟩
      rw [hl2] at hj
      have h1 := hcell j (by omega)
      rw [add9] at h1
      rw [h1]
      simp only [List.getD]
      rw [List.getElem?_take, if_pos hj]
    · have := bounds_u64 (hwz n (List.mem_of_mem_take hn))
      omega
set_option maxRecDepth 100000 in
/-- a setting that came in by value -/
theorem open_room {H : Type} {enc : TypeId × Value → H} {W : World} {base : Nat} {v : Value} {D : DataW H} {ps : List MemPlace} (hval : Value.okWide Try.prog W .any base 24 v)
    (h : DataW.Trod enc Try.prog W 0 (fun _ => true) true 24 v D ps) : ∃ A c zs g1 g2 g3, v = .agg #[.slice A zs.length c, .int .i64 g1, .int .i64 g2, .int .i64 g3] ∧ Sl W A zs ∧ La.U64 zs ∧ zs.length ≤ maxLen := by
  obtain ⟨cs, rfl, hsz⟩ := okWide_struct Try.underlying24 hval
  obtain ⟨l⟩ := cs
  obtain ⟨c0, c1, c2, c3, rfl⟩ := four_of11 (show l.length = 4 from hsz.trans cellsRoom)
  obtain ⟨fuel, hf⟩ := h
  have h : DataW.trod enc Try.prog W 0 (fun _ => true) true fuel 24 [c0, c1, c2, c3] = _ := hf
  obtain ⟨ys, n', _, hy, _, hyl, hf⟩ := DataW.trod_struct Try.underlying24 h
  obtain ⟨y0, y1, y2, y3, rfl⟩ := four_of11 (show ys.length = 4 from hyl)
  have f0 : DataW.trod enc Try.prog W 0 (fun _ => true) true n' 22 (([c0, c1, c2, c3].drop 0).take (Try.prog.cellsOf 22)) = some y0 := hf 0 _ rfl
  have f1 : DataW.trod enc Try.prog W 0 (fun _ => true) true n' 3 (([c0, c1, c2, c3].drop 1).take (Try.prog.cellsOf 3)) = some y1 := hf 1 _ rfl
  have f2 : DataW.trod enc Try.prog W 0 (fun _ => true) true n' 3 (([c0, c1, c2, c3].drop 2).take (Try.prog.cellsOf 3)) = some y2 := hf 2 _ rfl
  have f3 : DataW.trod enc Try.prog W 0 (fun _ => true) true n' 3 (([c0, c1, c2, c3].drop 3).take (Try.prog.cellsOf 3)) = some y3 := hf 3 _ rfl
  rw [cellsU64s] at f0
  rw [cells9j] at f1 f2 f3
  obtain ⟨A, c, zs, e0, s0, u0, k0⟩ := read_u64s f0
  obtain ⟨g1, e1, _, _⟩ := DataW.trod_int Try.underlying3 f1
  obtain ⟨g2, e2, _, _⟩ := DataW.trod_int Try.underlying3 f2
  obtain ⟨g3, e3, _, _⟩ := DataW.trod_int Try.underlying3 f3
  simp at e0 e1 e2 e3
  exact ⟨A, c, zs, g1, g2, g3, by rw [e0, e1, e2, e3], s0, u0, k0⟩

end Go.Proofs.Ytbfgpdgiaclphaa

namespace Go.Proofs.Ytbfgpdgiaclphaa.roomFew
open Go.Proofs.Ytbfgpdgiaclphaa Go.Joins Go.ChangeShapes Go.WideShapes Go.ChangeAt Go.RowKit Go.Deep

def intsL (l : List Nat) : List Int := l.map fun (n : Nat) => (n : Int)
/-- what holds behind i rounds, in plain words -/
structure Fp (S i : Nat) (m : Rm) (x : Int) (ys : List Nat) (kp sn : Nat) : Prop where
  al : Along 0 i m x
  wrote : Wrote m ys
  size : m.r.size = S
  vers : m.L.vers ≤ kp + sn
  kpb : kp ≤ 16 * i
  snb : sn ≤ 16 * i
  wrb : ys.length ≤ i
  sumb : ys.sum ≤ 16 * i
namespace Fp
variable {S i kp sn : Nat} {m : Rm} {x y : Int} {ys : List Nat} {ws : List Wr}
theorem more (h : Fp S i m x ys kp sn) : Fp S (i + 1) m x ys kp sn :=
  ⟨h.al.more, h.wrote, h.size, h.vers, by have := h.kpb; omega, by have := h.snb; omega, by have := h.wrb; omega, by have := h.sumb; omega⟩
theorem com (h : Fp S i m x ys kp sn) (hf : FitsW ws) (e : m.comE ws y = 0) (y0 : 0 ≤ y) (y1 : y ≤ 256 * (i + 1)) : Fp S (i + 1) (m.com ws y) y (ys ++ [ws.length]) kp (sn + ws.length) := by
  have a := h.al.com hf y y0 y1
  obtain ⟨e1, _, _, _, e5, _⟩ := Rm.com_yes e
  have l := mayW_size e1
  have := h.kpb
  have := h.snb
  have := h.wrb
  have := h.sumb
  have := h.vers
  refine ⟨a, h.wrote.com e a.ok, ?_, ?_, by omega, by omega, ?_, ?_⟩
  · rw [e5]; show (m.r.push y).size = S; rw [Rg.push_size]; exact h.size
  · rw [e5]; show (m.L.withW ws ((m.r.seq : Int) + 1)).vers ≤ _; rw [vers_with]; omega
  · rw [List.length_append, List.length_singleton]; omega
  · rw [List.sum_append]; simp; omega
theorem no (h : Fp S i m x ys kp sn) (e : m.comE ws y ≠ 0) : Fp S (i + 1) (m.com ws y) x ys kp sn := by rw [(Rm.com_no e).1]; exact h.more
theorem sw (h : Fp S i m x ys kp sn) : Fp S (i + 1) m.sw x ys m.sw.L.vers 0 := by
  have a := h.al.sw
  have := h.wrb
  have := h.sumb
  exact ⟨a, h.wrote.sw, h.size, Nat.le_refl _, by have := a.vers; omega, Nat.zero_le _, by omega, by omega⟩
theorem ents (h : Fp S i m x ys kp sn) : m.sw.ents.length = m.ents.length := by
  have hs : Sim m.L (m.L.swept m.floor) m.floor := fun _ => ⟨m.floor, Int.le_refl _, Ch.of_swept h.al.ok.L.rise m.floor⟩
  show ((m.L.swept m.floor).ents m.seq).length = (m.L.ents m.seq).length
  rw [hs.ents h.al.ok.L (h.al.ok.L.swept m.floor) (Rm.floor_seq h.al.ok.r)]
theorem kept (h : Fp S i m x ys kp sn) : m.sw.L.vers ≤ m.sw.ents.length + 2 * (ys.drop (ys.length + 1 - S)).sum := by
  have := h.wrote.kept h.al.ok
  rw [h.ents, ← h.size]; exact this
end Fp
theorem sum_drop_le (l : List Nat) : ∀ n, (l.drop n).sum ≤ l.sum := by
  induction l with
  | nil => intro n; simp
  | cons a l ih =>
    intro n
    cases n with
    | zero => simp
    | succ n => have := ih n; simp; omega
theorem sum_drop_at (l : List Nat) : ∀ n, n < l.length → (l.drop n).sum = l.getD n 0 + (l.drop (n + 1)).sum := by
  induction l with
  | nil => intro n h; simp at h
  | cons a l ih =>
    intro n h
    cases n with
    | zero => simp
    | succ n => have := ih n (by simpa using h); simpa using this

set_option maxRecDepth 100000 in
set_option maxHeartbeats 4000000 in
theorem walk {R : RelM} (X : RoomFe R) (A : Option Addr) (c : Nat) (zs : List Int) (g1 g2 g3 : Int) (A2 : Option Addr) (c2 : Nat) (l : List AcM) (w : World) (sl : Sl w A zs) (hu : La.U64 zs) (hl : zs.length ≤ maxLen) (sa : SlAct w A2 l) (oa : ∀ y, y ∈ l → y.Ok w) (la : l.length ≤ maxLen) :
    Calls Try.prog 3 #[.agg #[.slice A zs.length c, .int .i64 g1, .int .i64 g2, .int .i64 g3], .slice A2 l.length c2] w fun e w' => e = .returned (.bool true) ∧ Below w.heap.size w w' := by
  obtain ⟨z, hz⟩ : ∃ z, z = zs.length := ⟨_, rfl⟩
  obtain ⟨n, hn⟩ : ∃ n, n = l.length := ⟨_, rfl⟩
  obtain ⟨w0, hw0⟩ : ∃ w0, w0 = w.alloc (.cells #[.slice A z c, .int .i64 g1, .int .i64 g2, .int .i64 g3] 24) := ⟨_, rfl⟩
  have r0 : RowAt w0 w.heap.size [.slice A z c, .int .i64 g1, .int .i64 g2, .int .i64 g3] 24 := by rw [hw0]; exact RowAt.new _ _ _
  have b0 : Below w.heap.size w w0 := by rw [hw0]; exact (Below.refl _ _).alloc (Nat.le_refl _) _
  have CB := Lib.hid (fun W (bb : Below w0.heap.size w0 W) => show W.cell? ⟨w.heap.size, 0, none⟩ = some (.slice A z c) ∧ W.cell? ⟨w.heap.size, 1, none⟩ = some (.int .i64 g1) ∧ W.cell? ⟨w.heap.size, 2, none⟩ = some (.int .i64 g2) ∧ W.cell? ⟨w.heap.size, 3, none⟩ = some (.int .i64 g3) from
    ⟨(r0.below bb).cell 0, (r0.below bb).cell 1, (r0.below bb).cell 2, (r0.below bb).cell 3⟩)
  have CN := Lib.hid (fun W (bb : Below w0.heap.size w0 W) (h60 : zs.length ≤ 1000) => X.new A c zs g1 g2 g3 W (sl.below (below_then b0 bb)) h60 hu)
  have B0 := Lib.hid b0
  have HW := Lib.hid hw0
  have AW := Lib.hid (lAwakeF X w0)
  have X' := Lib.hid X
  have SA := Lib.hid sa
  have OA := Lib.hid oa
  have HZ := Lib.hid hz
  have HN := Lib.hid hn
  unfold maxLen at hl la
  rw [← hz] at hl ⊢
  rw [← hn] at la ⊢
  simp only [← hz] at CN
  clear sl hu sa oa r0 b0 hw0 hz hn X
  go_enter Try.func3, Try.ntmps3
  go_wp2_with fail
  rw [← HW.out]
  refine AW.out.mono ?_
  rintro e w1 ⟨rfl, hb1⟩
  obtain ⟨d0, d1, d2, d3⟩ := CB.out _ hb1
  have B1 := Lib.hid hb1
  have BW := Lib.hid (below_then B0.out hb1)
  clear hb1 AW
  by_cases z60 : 60 < z
  · go_wp2_with fail
    go_ret
    exact ⟨rfl, BW.out⟩
  have CN := Lib.hid (CN.out w1 B1.out (by omega))
  go_wp2_with fail
  refine CN.out.mono ?_
  rintro e w2 ⟨hb2, ⟨hst, b, F, rfl, hr, hF⟩ | ⟨_, rfl⟩⟩
  case inr =>
    have B2 := Lib.hid (below_then BW.out hb2)
    clear hb2 CN d0 d1 d2 d3
    go_wp2_with fail
    go_ret
    exact ⟨rfl, B2.out⟩
  have H2 := Lib.hid (show Side w1 (fun k => k < w1.heap.size) w2 [obF X'.out b (Rm.new zs g1 g2 g3 0 [])] from (Side.nil w1).more hb2 (o := obF X'.out b (Rm.new zs g1 g2 g3 0 [])) hr hF)
  have A0 := Lib.hid (Along.new hst)
  have GS := Lib.hid (Rm.st_parts hst)
  clear hb2 hr hF hst CN d0 d1 d2 d3
  go_wp2_with fail
  obtain ⟨S, hS⟩ : ∃ S, S = g1.toNat := ⟨_, rfl⟩
  have gS : g1 = (S : Int) := by have := GS.out.1; omega
  have I0 := Lib.hid (show Fp S 0 (Rm.new zs g1 g2 g3 0 []) 0 [] 0 0 from
    ⟨A0.out, Wrote.new zs g1 g2 g3, hS.symm, Nat.le_refl _, Nat.le_refl _, Nat.le_refl _, Nat.le_refl _, Nat.le_refl _⟩)
  have J0 := Lib.hid (show Side w1 (fun k => k < w1.heap.size) (w2.alloc (.cells #[] 3)) [obF X'.out b (Rm.new zs g1 g2 g3 0 []), Ob.ints (.slice (some ⟨w2.heap.size, 0, none⟩) 0 0) (intsL [])] from H2.out.intsNew)
  have SB := Lib.hid (show (S : Int) ≤ 16 from by have := GS.out.2.1; omega)
  subst gS
  clear hS A0 H2
  go_loopw [7, 8, 9, 10, 11] (fun va vo vk vs vi W => ∃ (i : Nat) (m : Rm) (x : Int) (ys : List Nat) (A3 : Option Addr) (c3 kp sn q : Nat), i ≤ n ∧ i ≤ 120 ∧ va = .int .u64 x ∧ vo = .slice A3 q c3 ∧ vk = .int .i64 kp ∧ vs = .int .i64 sn ∧ vi = .int .i64 i ∧ Hid (q = ys.length) ∧ Hid (Fp S i m x ys kp sn) ∧ Hid (Side w1 (fun k => k < w1.heap.size) W [obF X'.out b m, Ob.ints (.slice A3 ys.length c3) (intsL ys)])) (fun _ _ _ _ vi _ => 120 - (intOf vi).toNat)
  case atStart => exact ⟨0, Rm.new zs S g2 g3 0 [], 0, [], some ⟨w2.heap.size, 0, none⟩, 0, 0, 0, 0, Nat.zero_le _, Nat.zero_le _, rfl, rfl, rfl, rfl, rfl, Lib.hid rfl, I0, J0⟩
  case round =>
    obtain ⟨i, m, x, ys, A3, c3, kp, sn, q, hi, hi2, rfl, rfl, rfl, rfl, rfl, HQ, HP, HI⟩ := hrel
    clear I0 J0
    have BS := Lib.hid (fun W os (h : Side w1 (fun k => k < w1.heap.size) W os) => show Below w1.heap.size w1 W from h.base (Nat.le_refl _) (fun _ e => e))
    by_cases z1 : i < n
    · by_cases z2 : i < 120
      · have bW := below_then BW.out (BS.out _ _ HI.out)
        obtain ⟨ab, ao, ea, hab, hac⟩ := SA.out (by rw [← HN.out]; omega)
        have hc := fun j hj => hac i (by rw [← HN.out]; exact z1) j hj
        have hy : (l.getD i AcM.Z).Ok w := OA.out _ (by rw [List.getD_eq_getElem?_getD, List.getElem?_eq_getElem (by rw [← HN.out]; exact z1)]; exact List.getElem_mem _)
        obtain ⟨y, ey⟩ : ∃ y, y = l.getD i AcM.Z := ⟨_, rfl⟩
        rw [← ey] at hy
        simp only [← ey] at hc
        obtain ⟨⟨kd, ws, by_, sq, key⟩, A4, c4⟩ := y
        obtain ⟨y1, y2, y3, y4, y5, y6, _⟩ := hy
        obtain ⟨nw, hnw⟩ : ∃ nw, nw = ws.length := ⟨_, rfl⟩
        subst ea
        have k0 := (bW.cell (p := ⟨ab, ao + i * 5, none⟩) hab).trans (show w.cell? ⟨ab, ao + i * 5, none⟩ = some (.int .i64 kd) from hc 0 (by decide))
        have k1 := (bW.cell (p := ⟨ab, ao + i * 5 + 1, none⟩) hab).trans (show w.cell? ⟨ab, ao + i * 5 + 1, none⟩ = some (.slice A4 nw c4) from by rw [hnw]; exact hc 1 (by decide))
        have k2 := (bW.cell (p := ⟨ab, ao + i * 5 + 2, none⟩) hab).trans (show w.cell? ⟨ab, ao + i * 5 + 2, none⟩ = some (.int .u8 by_) from hc 2 (by decide))
        have k3 := (bW.cell (p := ⟨ab, ao + i * 5 + 3, none⟩) hab).trans (show w.cell? ⟨ab, ao + i * 5 + 3, none⟩ = some (.int .i64 sq) from hc 3 (by decide))
        have k4 := (bW.cell (p := ⟨ab, ao + i * 5 + 4, none⟩) hab).trans (show w.cell? ⟨ab, ao + i * 5 + 4, none⟩ = some (.string key) from hc 4 (by decide))
        have i0 : (0 : Int) ≤ (i : Int) := by omega
        have i1 : (i : Int) < (n : Int) := by omega
        have hr1 := HI.out.rowNew [.int .i64 kd, .slice A4 nw c4, .int .u8 by_, .int .i64 sq, .string key] 35
        have KF := Lib.hid (fun W os (h : Side w1 (fun k => k < w1.heap.size) W os) => show Calls Try.prog 6 #[.slice A4 nw c4] W _ from by rw [hnw]; exact lFar ws A4 c4 W (y1.below (below_then BW.out (BS.out _ _ h))))
        have IW := Lib.hid y2
        have YB := Lib.hid y5
        have YC := Lib.hid y6
        have YA := Lib.hid y4
        have YS := Lib.hid y1
        have HNW := Lib.hid hnw
        obtain ⟨g, hg⟩ : ∃ g, g = wr.heap.size := ⟨_, rfl⟩
        rw [← hg] at hr1
        have HG := Lib.hid hg
        have HI2 := Lib.hid hr1
        have BT := Lib.hid (fun W W' (h : Below W.heap.size W W') os (hs : Side w1 (fun k => k < w1.heap.size) W os) => show Side w1 (fun k => k < w1.heap.size) W' os from hs.below h)
        have a0 := (hr1.rowAt Side.last).cell 0
        have a1 := (hr1.rowAt Side.last).cell 1
        have a2 := (hr1.rowAt Side.last).cell 2
        simp only [List.getElem?_cons_succ, List.getElem?_cons_zero] at a0 a1 a2
        clear hr1 bW hc hac y1 y2 y3 y4 y5 y6 ey hnw
        clear hg
        have hge := HG.out
        clear HG
        subst hge
        go_wp2_with fail
        refine (KF.out _ _ HI2.out).mono ?_
        rintro e w3 ⟨rfl, hb⟩
        have H3 := Lib.hid (show Side w1 (fun k => k < w1.heap.size) w3 [obF X'.out b m, Ob.ints (.slice A3 ys.length c3) (intsL ys), Ob.row wr.heap.size [.int .i64 kd, .slice A4 nw c4, .int .u8 by_, .int .i64 sq, .string key] 35] from HI2.out.below hb)
        clear hb a0 a1 a2 KF HI2 k0 k1 k2 k3 k4
        by_cases hf : farW ws = true
        · rw [hf]
          have FP := Lib.hid HP.out.more
          have BH := Lib.hid (show Side w1 (fun k => k < w1.heap.size) w3 [obF X'.out b m, Ob.ints (.slice A3 ys.length c3) (intsL ys)] from Side.drop (os2 := [_]) H3.out)
          go_wp2_with fail
          go_roundw
          case rel => exact ⟨i + 1, m, x, ys, A3, c3, kp, sn, q, by omega, by omega, rfl, rfl, rfl, rfl, by go_num, HQ, FP, BH⟩
          case measure => simp [intOf]; omega
        · have hf : farW ws = false := by simpa using hf
          rw [hf]
          obtain ⟨FW, KW⟩ := IW.out.fits hf
          have nf := (farW_no hf).1
          have GW := Lib.hid (fun W os (h : Side w1 (fun k => k < w1.heap.size) W os) F (hn' : ∀ k, F k → ¬ k < w1.heap.size) => show GoodW W F A4 ws from ⟨YS.out.below (below_then BW.out (BS.out _ _ h)), FW, by omega, fun hp q e f => hn' _ f (by have := YA.out hp q e; have := BW.out.size; omega), KW⟩)
          have FW := Lib.hid FW
          have fb := HP.out.kpb
          have sb := HP.out.snb
          have wb := HP.out.wrb
          have ub := HP.out.sumb
          have vb := HP.out.vers
          have x0 := HP.out.al.x0
          have x1 := HP.out.al.x1
          have y0 := YB.out
          have y1 := YC.out
          have hnw : nw ≤ 30 := by rw [HNW.out]; exact nf
          have hq : q ≤ i := by rw [HQ.out]; exact wb
          clear nf KW hf
          have r0 := (H3.out.rowAt (i := 2) rfl).cell 0
          have r1 := (H3.out.rowAt (i := 2) rfl).cell 1
          have r2 := (H3.out.rowAt (i := 2) rfl).cell 2
          simp only [List.getElem?_cons_succ, List.getElem?_cons_zero] at r0 r1 r2
          by_cases k1 : kd = 1
          · subst k1
            obtain ⟨s, hs⟩ : ∃ s, s = x + 1 + by_ := ⟨_, rfl⟩
            have s0 : 0 ≤ s := by omega
            have s1 : s ≤ 256 * (i + 1) := by omega
            have QC : Hid (∀ W, Side w1 (fun k => k < w1.heap.size) W [obF X'.out b m, Ob.ints (.slice A3 ys.length c3) (intsL ys), Ob.row wr.heap.size [.int .i64 1, .slice A4 nw c4, .int .u8 by_, .int .i64 sq, .string key] 35] →
                Calls Try.prog 7 #[PtrM b, .slice A4 nw c4, .int .u64 s] W fun e w' => e = .returned (.tuple #[.int .i64 (m.comN ws s), .int .i64 (m.comE ws s)]) ∧
                  Side w1 (fun k => k < w1.heap.size) w' [obF X'.out b (m.com ws s), Ob.ints (.slice A3 ys.length c3) (intsL ys), Ob.row wr.heap.size [.int .i64 1, .slice A4 nw c4, .int .u8 by_, .int .i64 sq, .string key] 35]) := fun W h => by
              rw [HNW.out] at h ⊢
              exact pCallF X'.out (T := fun e _ => e = .returned (.tuple #[.int .i64 (m.comN ws s), .int .i64 (m.comE ws s)])) (i := 0) h rfl fun F hP hn' => X'.out.commit b F m ws A4 c4 s W hP (HP.out.al.few (by omega) (by omega)) (GW.out W _ h F hn') s0 (by omega)
            have u1 : IntKind.u64.wrap by_ = by_ := by rw [IntKind.wrap_u64]; omega
            have u2 : IntKind.u64.wrap (x + 1) = x + 1 := by rw [IntKind.wrap_u64]; omega
            have u3 : IntKind.u64.wrap (x + 1 + by_) = s := by rw [IntKind.wrap_u64]; omega
            obtain ⟨Nn, hNn⟩ : ∃ a, a = m.comN ws s := ⟨_, rfl⟩
            obtain ⟨E, hE⟩ : ∃ a, a = m.comE ws s := ⟨_, rfl⟩
            simp only [← hNn, ← hE] at QC
            have HE := Lib.hid hE
            clear hE hNn
            go_wp2_with fail
            refine Calls.mono (by rw [← hs]; exact QC.out _ H3.out) ?_
            rintro e w4 ⟨rfl, h4⟩
            have q0 := (h4.rowAt (i := 2) rfl).cell 0
            have q1 := (h4.rowAt (i := 2) rfl).cell 1
            have q2 := (h4.rowAt (i := 2) rfl).cell 2
            simp only [List.getElem?_cons_succ, List.getElem?_cons_zero] at q0 q1 q2
            rw [← HQ.out] at h4
            have H4 := Lib.hid h4
            clear h4 r0 r1 r2 QC
            by_cases e0 : E = 0
            · subst e0
              have FP : Hid (Fp S (i + 1) (m.com ws s) s (ys ++ [ws.length]) kp (sn + nw)) := by rw [HNW.out]; exact Lib.hid (HP.out.com FW.out HE.out.symm s0 s1)
              obtain ⟨M, hM⟩ : ∃ a, a = m.com ws s := ⟨_, rfl⟩
              rw [← hM] at FP H4
              have KV := Lib.hid (fun W os (h : Side w1 (fun k => k < w1.heap.size) W os) (hi : os[0]? = some (obF X'.out b M)) => pAskF X'.out (T := fun e _ => e = .returned (.int .i64 (M.L.vers : Nat))) h hi fun F hP _ => X'.out.vers b F M W hP (FP.out.al.few (by omega) (by omega)))
              have vb := FP.out.vers
              obtain ⟨u, hu⟩ : ∃ u, u = M.L.vers := ⟨_, rfl⟩
              simp only [← hu] at KV vb
              have vb : (u : Int) ≤ (kp : Int) + (sn : Int) + (nw : Int) := by omega
              have EI := Lib.hid (show intsL (ys ++ [ws.length]) = intsL ys ++ [(nw : Int)] from by rw [HNW.out]; simp [intsL])
              have EL := Lib.hid (show (intsL ys).length + 1 = (ys ++ [ws.length]).length from by simp [intsL])
              have LI := Lib.hid (show (intsL ys).length ≤ 1000000 from (show (intsL ys).length = ys.length from by simp [intsL]) ▸ (by rw [← HQ.out]; omega))
              clear hu hM HE
              go_wp2_with (at_builtin; refine wp_sideJ rfl (.tmp 72) (.tmp 76) rfl (nw : Int) H4.out (i := 1) rfl rfl rfl LI.out ?_; intro A5 c5 w5 h5; have H5 := Lib.hid (show Side w1 (fun k => k < w1.heap.size) w5 [obF X'.out b M, Ob.ints (.slice A5 ((intsL ys).length + 1) c5) (intsL ys ++ [(nw : Int)]), Ob.row wr.heap.size [.int .i64 1, .slice A4 nw c4, .int .u8 by_, .int .i64 sq, .string key] 35] from h5); clear h5 q0 q1 q2; have q0 := (H5.out.rowAt (i := 2) rfl).cell 0; have q1 := (H5.out.rowAt (i := 2) rfl).cell 1; simp only [List.getElem?_cons_succ, List.getElem?_cons_zero] at q0 q1)
              refine (KV.out _ _ H5.out rfl).mono ?_
              rintro e w6 ⟨rfl, h6⟩
              have BH := Lib.hid (show Side w1 (fun k => k < w1.heap.size) w6 [obF X'.out b M, Ob.ints (.slice A5 (ys ++ [ws.length]).length c5) (intsL (ys ++ [ws.length]))] from by
                rw [EI.out, ← EL.out]; exact Side.drop (os2 := [_]) h6)
              clear h6 q0 q1
              go_wp2_with fail
              go_roundw
              case rel => exact ⟨i + 1, M, s, ys ++ [ws.length], A5, c5, kp, sn + nw, (intsL ys).length + 1, by omega, by omega, by rw [hs], rfl, rfl, by first | rfl | go_num, by go_num, EL, FP, BH⟩
              case measure => simp [intOf]; omega
            · have FP := Lib.hid (HP.out.no (fun e => e0 (HE.out.trans e)))
              obtain ⟨M, hM⟩ : ∃ a, a = m.com ws s := ⟨_, rfl⟩
              rw [← hM] at FP H4
              have KV := Lib.hid (fun W os (h : Side w1 (fun k => k < w1.heap.size) W os) (hi : os[0]? = some (obF X'.out b M)) => pAskF X'.out (T := fun e _ => e = .returned (.int .i64 (M.L.vers : Nat))) h hi fun F hP _ => X'.out.vers b F M W hP (FP.out.al.few (by omega) (by omega)))
              have vb := FP.out.vers
              obtain ⟨u, hu⟩ : ∃ u, u = M.L.vers := ⟨_, rfl⟩
              simp only [← hu] at KV vb
              clear hu hM HE
              go_wp2_with fail
              refine (KV.out _ _ H4.out rfl).mono ?_
              rintro e w6 ⟨rfl, h6⟩
              have BH := Lib.hid (show Side w1 (fun k => k < w1.heap.size) w6 [obF X'.out b M, Ob.ints (.slice A3 ys.length c3) (intsL ys)] from by
                rw [← HQ.out]; exact Side.drop (os2 := [_]) h6)
              clear h6 q0 q1 q2
              go_wp2_with fail
              go_roundw
              case rel => exact ⟨i + 1, M, x, ys, A3, c3, kp, sn, q, by omega, by omega, rfl, rfl, rfl, rfl, by go_num, HQ, FP, BH⟩
              case measure => simp [intOf]; omega
          · by_cases k2 : kd = 2
            · subst k2
              have FP := Lib.hid HP.out.sw
              have KQ := Lib.hid HP.out.kept
              have GQ := Lib.hid HP.out.al.few
              have FW2 := Lib.hid (HP.out.al.few (by omega) (by omega))
              obtain ⟨M, hM⟩ : ∃ a, a = m.sw := ⟨_, rfl⟩
              rw [← HQ.out] at H3 KQ
              have KS : Hid (∀ W os, Side w1 (fun k => k < w1.heap.size) W os → os[0]? = some (obF X'.out b m) → Calls Try.prog 8 #[PtrM b] W fun e w' => e = .returned (.int .i64 m.gone) ∧ Side w1 (fun k => k < w1.heap.size) w' (os.set 0 (obF X'.out b M))) := fun W os h hi => by
                rw [hM]; exact pCallF X'.out (T := fun e _ => e = .returned (.int .i64 m.gone)) (m' := m.sw) h hi fun F hP _ => X'.out.sweep b F m W hP FW2.out
              rw [← hM] at FP KQ
              have KV := Lib.hid (fun W os (h : Side w1 (fun k => k < w1.heap.size) W os) (hi : os[0]? = some (obF X'.out b M)) => pAskF X'.out (T := fun e _ => e = .returned (.int .i64 (M.L.vers : Nat))) h hi fun F hP _ => X'.out.vers b F M W hP (FP.out.al.few (by omega) (by omega)))
              have KK := Lib.hid (fun W os (h : Side w1 (fun k => k < w1.heap.size) W os) (hi : os[0]? = some (obF X'.out b M)) => pAskF X'.out (T := fun e _ => e = .returned (.int .i64 (M.ents.length : Nat))) h hi fun F hP _ => X'.out.keys b F M W hP (FP.out.al.few (by omega) (by omega)))
              have eb : M.ents.length ≤ 16 * (i + 1) := by have := FP.out.al.bnd.1; have := ents_len M.L M.seq; unfold Rm.ents; omega
              have ub2 := FP.out.kpb
              obtain ⟨u, hu⟩ : ∃ u, u = M.L.vers := ⟨_, rfl⟩
              obtain ⟨ke, hke⟩ : ∃ u, u = M.ents.length := ⟨_, rfl⟩
              simp only [← hu] at KV FP KQ ub2
              simp only [← hke] at KK KQ eb
              clear hu hM hke GQ FW2 GW
              go_wp2_with fail
              refine (KS.out _ _ H3.out rfl).mono ?_
              rintro e w4 ⟨rfl, h4⟩
              have H4 := Lib.hid (show Side w1 (fun k => k < w1.heap.size) w4 [obF X'.out b M, Ob.ints (.slice A3 q c3) (intsL ys), Ob.row wr.heap.size [.int .i64 2, .slice A4 nw c4, .int .u8 by_, .int .i64 sq, .string key] 35] from h4)
              clear h4 r0 r1 r2 KS
              go_wp2_with fail
              refine (KV.out _ _ H4.out rfl).mono ?_
              rintro e w5 ⟨rfl, h5⟩
              have H5 := Lib.hid h5
              clear h5 H4
              go_wp2_with fail
              refine (KK.out _ _ H5.out rfl).mono ?_
              rintro e w6 ⟨rfl, h6⟩
              have H6 := Lib.hid h6
              clear h6 H5 KK
              obtain ⟨d0, d1, d2, d3⟩ := CB.out w6 (below_then B1.out (BS.out _ _ H6.out))
              have sl6 : SlJ w6 A3 (intsL ys) := by
                obtain ⟨A6, c6, e6, h6⟩ := (H6.out.intsAt (i := 1) rfl).form
                injection e6 with e6
                rw [e6]; exact h6
              have SL := Lib.hid sl6
              clear sl6
              go_wp2_with fail
              go_loopw [15, 16] (fun vb vk W => ∃ (k : Nat), 1 ≤ k ∧ k ≤ S ∧ k ≤ q + 1 ∧ vb = .int .i64 ((ke + 2 * (ys.drop (q + 1 - k)).sum : Nat) : Int) ∧ vk = .int .i64 k ∧ W = w6) (fun _ vk _ => S - (intOf vk).toNat)
              case atStart => exact ⟨1, Nat.le_refl _, by have := GS.out.1; omega, by omega, by rw [show (ys.drop (q + 1 - 1)).sum = 0 from by rw [List.drop_of_length_le (by rw [← HQ.out]; omega)]; rfl]; rfl, rfl, rfl⟩
              case round =>
                obtain ⟨k, k1, k2, k3, rfl, rfl, rfl⟩ := hrel
                obtain ⟨T, hT⟩ : ∃ T, T = (ys.drop (q + 1 - k)).sum := ⟨_, rfl⟩
                have tb : T ≤ 16 * i := by rw [hT]; exact Nat.le_trans (sum_drop_le _ _) ub
                rw [← hT]
                obtain ⟨B, hB⟩ : ∃ B, B = ke + 2 * T := ⟨_, rfl⟩
                rw [← hB]
                have bb : B ≤ 10000 := by omega
                have HB := Lib.hid hB
                have HT := Lib.hid hT
                clear hT hB tb
                by_cases z3 : k < S
                · by_cases z4 : k ≤ q
                  · obtain ⟨j, hj⟩ : ∃ j, j + k = q := ⟨q - k, by omega⟩
                    have ej : (q : Int) - (k : Int) = (j : Int) := by omega
                    have jl : j < ys.length := by rw [← HQ.out]; omega
                    obtain ⟨b3, o3, ea, hb3, hc3⟩ := SL.out (by simp [intsL]; omega)
                    have cj := hc3 j (by simpa [intsL] using jl)
                    obtain ⟨y, hy⟩ : ∃ y : Nat, y = ys.getD j 0 := ⟨_, rfl⟩
                    have ey : (intsL ys).getD j 0 = (y : Int) := by
                      rw [hy]; unfold intsL
                      rw [List.getD_eq_getElem?_getD, List.getD_eq_getElem?_getD, List.getElem?_map, List.getElem?_eq_getElem jl]; rfl
                    rw [ey] at cj
                    have es := sum_drop_at ys j jl
                    rw [← hy] at es
                    have yb : y ≤ 16 * i := by have := sum_drop_le ys j; omega
                    have ES := Lib.hid (show ((ke + 2 * (ys.drop (q + 1 - (k + 1))).sum : Nat) : Int) = (B : Int) + 2 * (y : Int) from by
                      rw [show q + 1 - (k + 1) = j from by omega, es, show j + 1 = q + 1 - k from by omega, ← HT.out, HB.out]; omega)
                    have j0 : (0 : Int) ≤ (j : Int) := by omega
                    have j1 : (j : Int) < (q : Int) := by omega
                    clear es hy ey hc3 hb3
                    subst ea
                    go_wp2_with fail
                    go_roundw
                    case rel => exact ⟨k + 1, by omega, by omega, by omega, by rw [ES.out], by go_num, trivial⟩
                    case measure => simp [intOf]; omega
                  · have kb : u ≤ B := by have := KQ.out; rw [show q + 1 - S = q + 1 - k from by omega, ← HT.out, ← HB.out] at this; exact this
                    have kb : (u : Int) ≤ (B : Int) := by omega
                    go_wp2_with fail
                    refine (KV.out _ _ H6.out rfl).mono ?_
                    rintro e w7 ⟨rfl, h7⟩
                    have BH := Lib.hid (show Side w1 (fun k => k < w1.heap.size) w7 [obF X'.out b M, Ob.ints (.slice A3 ys.length c3) (intsL ys)] from by
                      rw [← HQ.out]; exact Side.drop (os2 := [_]) h7)
                    clear h7
                    go_wp2_with fail
                    go_roundw
                    case rel => exact ⟨i + 1, M, x, ys, A3, c3, u, 0, q, by omega, by omega, rfl, rfl, rfl, rfl, by go_num, HQ, FP, BH⟩
                    case measure => simp [intOf]; omega
                · have kb : u ≤ B := by have := KQ.out; rw [show q + 1 - S = q + 1 - k from by omega, ← HT.out, ← HB.out] at this; exact this
                  have kb : (u : Int) ≤ (B : Int) := by omega
                  go_wp2_with fail
                  refine (KV.out _ _ H6.out rfl).mono ?_
                  rintro e w7 ⟨rfl, h7⟩
                  have BH := Lib.hid (show Side w1 (fun k => k < w1.heap.size) w7 [obF X'.out b M, Ob.ints (.slice A3 ys.length c3) (intsL ys)] from by
                    rw [← HQ.out]; exact Side.drop (os2 := [_]) h7)
                  clear h7
                  go_wp2_with fail
                  go_roundw
                  case rel => exact ⟨i + 1, M, x, ys, A3, c3, u, 0, q, by omega, by omega, rfl, rfl, rfl, rfl, by go_num, HQ, FP, BH⟩
                  case measure => simp [intOf]; omega
            · have FP := Lib.hid HP.out.more
              have KV := Lib.hid (fun W (h : Side w1 (fun k => k < w1.heap.size) W [obF X'.out b m, Ob.ints (.slice A3 ys.length c3) (intsL ys), Ob.row wr.heap.size [.int .i64 kd, .slice A4 nw c4, .int .u8 by_, .int .i64 sq, .string key] 35]) => pAskF X'.out (T := fun e _ => e = .returned (.int .i64 (m.L.vers : Nat))) (i := 0) h rfl fun F hP _ => X'.out.vers b F m W hP (HP.out.al.few (by omega) (by omega)))
              obtain ⟨u, hu⟩ : ∃ u, u = m.L.vers := ⟨_, rfl⟩
              simp only [← hu] at KV vb
              clear hu
              go_wp2_with fail
              refine (KV.out _ H3.out).mono ?_
              rintro e w4 ⟨rfl, h4⟩
              have BH := Lib.hid (show Side w1 (fun k => k < w1.heap.size) w4 [obF X'.out b m, Ob.ints (.slice A3 ys.length c3) (intsL ys)] from Side.drop (os2 := [_]) h4)
              clear h4
              go_wp2_with fail
              go_roundw
              case rel => exact ⟨i + 1, m, x, ys, A3, c3, kp, sn, q, by omega, by omega, rfl, rfl, rfl, rfl, by go_num, HQ, FP, BH⟩
              case measure => simp [intOf]; omega
      · obtain rfl : i = 120 := by omega
        have bW := below_then BW.out (BS.out _ _ HI.out)
        have BF := Lib.hid bW
        clear bW
        go_wp2_with fail
        go_ret
        exact ⟨rfl, BF.out⟩
    · obtain rfl : i = n := by omega
      have bW := below_then BW.out (BS.out _ _ HI.out)
      have BF := Lib.hid bW
      clear bW
      go_wp2_with fail
      go_ret
      exact ⟨rfl, BF.out⟩

end Go.Proofs.Ytbfgpdgiaclphaa.roomFew
