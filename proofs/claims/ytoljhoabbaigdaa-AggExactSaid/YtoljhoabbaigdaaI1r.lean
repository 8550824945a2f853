/- Rows of api.Row: in memory, as arguments. -/
import Derived.Test.YtoljhoabbaigdaaI1f
import Derived.Test.YtoljhoabbaigdaaFr
import Derived.Deep.Slices
import Derived.Lib.SmallJoins
namespace Go.Proofs.Ytoljhoabbaigdaa
open Go.Joins Go.ChangeShapes Go.WideShapes Go.ChangeAt Go.RowKit

/-- a row -/
structure Ro where
  room : Int
  key : ByteArray
  val : Val
namespace Ro
def cs (x : Ro) : List Value := [.int .i64 x.room, .string x.key, .bool x.val.num, .string x.val.txt, .int .u64 (x.val.bits : Int)]
def Z : Ro := ⟨0, ⟨#[]⟩, Val.V0⟩
end Ro
def FitsRo (l : List Ro) : Prop := ∀ x, x ∈ l → x.val.Fits
/-- the slice at A reads as the versions l -/
def SlRo (w : World) (A : Option Addr) (l : List Ro) : Prop :=
  0 < l.length → ∃ b o, A = some ⟨b, o, none⟩ ∧ b < w.heap.size ∧ ∀ j, j < l.length →
    w.cell? ⟨b, o + j * 5, none⟩ = some (.int .i64 (l.getD j Ro.Z).room) ∧ w.cell? ⟨b, o + j * 5 + 1, none⟩ = some (.string (l.getD j Ro.Z).key) ∧ w.cell? ⟨b, o + j * 5 + 2, none⟩ = some (.bool (l.getD j Ro.Z).val.num) ∧
    w.cell? ⟨b, o + j * 5 + 3, none⟩ = some (.string (l.getD j Ro.Z).val.txt) ∧ w.cell? ⟨b, o + j * 5 + 4, none⟩ = some (.int .u64 ((l.getD j Ro.Z).val.bits : Int))
theorem SlRo.below {w w' : World} {A : Option Addr} {l : List Ro} (h : SlRo w A l) (hb : Below w.heap.size w w') : SlRo w' A l := fun hp => by
  obtain ⟨b, o, e, hl, hc⟩ := h hp
  refine ⟨b, o, e, Nat.lt_of_lt_of_le hl hb.size, fun j hj => ?_⟩
  obtain ⟨c0, c1, c2, c3, c4⟩ := hc j hj
  exact ⟨(hb.cell (p := ⟨b, o + j * 5, none⟩) hl).trans c0, (hb.cell (p := ⟨b, o + j * 5 + 1, none⟩) hl).trans c1, (hb.cell (p := ⟨b, o + j * 5 + 2, none⟩) hl).trans c2, (hb.cell (p := ⟨b, o + j * 5 + 3, none⟩) hl).trans c3, (hb.cell (p := ⟨b, o + j * 5 + 4, none⟩) hl).trans c4⟩
theorem SlRo.nil (w : World) (A : Option Addr) : SlRo w A [] := fun h => absurd h (by simp)
/-- one of them at hand -/
theorem SlRo.at {w : World} {A : Option Addr} {l : List Ro} (h : SlRo w A l) {j : Nat} (hj : j < l.length) : ∃ b o, A = some ⟨b, o, none⟩ ∧ b < w.heap.size ∧
    w.cell? ⟨b, o + j * 5, none⟩ = some (.int .i64 (l.getD j Ro.Z).room) ∧ w.cell? ⟨b, o + j * 5 + 1, none⟩ = some (.string (l.getD j Ro.Z).key) ∧ w.cell? ⟨b, o + j * 5 + 2, none⟩ = some (.bool (l.getD j Ro.Z).val.num) ∧
    w.cell? ⟨b, o + j * 5 + 3, none⟩ = some (.string (l.getD j Ro.Z).val.txt) ∧ w.cell? ⟨b, o + j * 5 + 4, none⟩ = some (.int .u64 ((l.getD j Ro.Z).val.bits : Int)) := by
  obtain ⟨b, o, e, hl, hc⟩ := h (by omega)
  exact ⟨b, o, e, hl, hc j hj⟩
theorem cells15j : Try.prog.cellsOf 3 = 1 := by kernel_rfl
theorem cells15b : Try.prog.cellsOf 4 = 1 := by kernel_rfl
theorem cells15s : Try.prog.cellsOf 9 = 1 := by kernel_rfl
theorem cells15u : Try.prog.cellsOf 26 = 1 := by kernel_rfl
theorem cells15l : Try.prog.cellsOf 40 = 3 := by kernel_rfl
theorem cells15v : Try.prog.cellsOf 42 = 5 := by kernel_rfl
theorem three_of15 {α : Type} {l : List α} (h : l.length = 3) : ∃ a b c, l = [a, b, c] := by
  match l, h with
  | [a, b, c], _ => exact ⟨a, b, c, rfl⟩
theorem five_of15 {α : Type} {l : List α} (h : l.length = 5) : ∃ a b c d e, l = [a, b, c, d, e] := by
  match l, h with
  | [a, b, c, d, e], _ => exact ⟨a, b, c, d, e, rfl⟩
theorem add15 (b o i : Nat) : (⟨b, o, none⟩ : Addr).add i = ⟨b, o + i, none⟩ := by
  unfold Addr.add
  split
  · rename_i e
    rw [e]; rfl
  · rfl
/-- five cells that were read as a version -/
theorem read_ro {H : Type} {enc : TypeId × Value → H} {W : World} {fuel : Nat} {c0 c1 c2 c3 c4 : Value} {x : DataW H × List MemPlace}
    (h : DataW.trod enc Try.prog W 0 (fun _ => true) true fuel 42 [c0, c1, c2, c3, c4] = some x) : ∃ y : Ro, y.val.Fits ∧ [c0, c1, c2, c3, c4] = y.cs := by
  obtain ⟨ys, n', _, hy, _, hyl, hf⟩ := DataW.trod_struct Try.underlying42 h
  obtain ⟨y0, y1, y2, rfl⟩ := three_of15 (show ys.length = 3 from hyl)
  have f0 : DataW.trod enc Try.prog W 0 (fun _ => true) true n' 3 (([c0, c1, c2, c3, c4].drop 0).take (Try.prog.cellsOf 3)) = some y0 := hf 0 _ rfl
  have f1 : DataW.trod enc Try.prog W 0 (fun _ => true) true n' 9 (([c0, c1, c2, c3, c4].drop 1).take (Try.prog.cellsOf 9)) = some y1 := hf 1 _ rfl
  have f2 : DataW.trod enc Try.prog W 0 (fun _ => true) true n' 40 (([c0, c1, c2, c3, c4].drop 2).take (Try.prog.cellsOf 40)) = some y2 := hf 2 _ rfl
  rw [cells15j] at f0
  rw [cells15s] at f1
  rw [cells15l] at f2
  have f2 : DataW.trod enc Try.prog W 0 (fun _ => true) true n' 40 [c2, c3, c4] = some y2 := f2
  obtain ⟨n0, e0, _, w0⟩ := DataW.trod_int Try.underlying3 f0
  obtain ⟨g, e1, _, _⟩ := DataW.trod_string Try.underlying9 f1
  obtain ⟨zs, n'', _, hz, _, hzl, hg⟩ := DataW.trod_struct Try.underlying40 f2
  obtain ⟨z0, z1, z2, rfl⟩ := three_of15 (show zs.length = 3 from hzl)
  have g0 : DataW.trod enc Try.prog W 0 (fun _ => true) true n'' 4 (([c2, c3, c4].drop 0).take (Try.prog.cellsOf 4)) = some z0 := hg 0 _ rfl
  have g1 : DataW.trod enc Try.prog W 0 (fun _ => true) true n'' 9 (([c2, c3, c4].drop 1).take (Try.prog.cellsOf 9)) = some z1 := hg 1 _ rfl
  have g2 : DataW.trod enc Try.prog W 0 (fun _ => true) true n'' 26 (([c2, c3, c4].drop 2).take (Try.prog.cellsOf 26)) = some z2 := hg 2 _ rfl
  rw [cells15b] at g0
  rw [cells15s] at g1
  rw [cells15u] at g2
  obtain ⟨m, e2, _⟩ := DataW.trod_bool Try.underlying4 g0
  obtain ⟨t, e3, _, w3⟩ := DataW.trod_string Try.underlying9 g1
  obtain ⟨k, e4, _, w4⟩ := DataW.trod_int Try.underlying26 g2
  simp at e0 e1 e2 e3 e4
  subst e0; subst e1; subst e2; subst e3; subst e4
  have hb := bounds_u64 w4
  refine ⟨⟨n0, g, ⟨m, t, k.toNat⟩⟩, ⟨by show k.toNat < _; omega, w3⟩, ?_⟩
  show _ = [Value.int .i64 n0, .string g, .bool m, .string t, .int .u64 ((k.toNat : Nat) : Int)]
  rw [Int.toNat_of_nonneg hb.1]

/-- a slice of versions that was read -/
theorem read_ros {H : Type} {enc : TypeId × Value → H} {W : World} {fuel : Nat} {cs : List Value} {x : DataW H × List MemPlace}
    (h : DataW.trod enc Try.prog W 0 (fun _ => true) true fuel 38 cs = some x) :
    ∃ A c xs, cs = [.slice A xs.length c] ∧ SlRo W A xs ∧ FitsRo xs ∧ xs.length ≤ 9223372036854775807 ∧ xs.length ≤ c := by
  rcases Deep.open_slice Try.underlying38 h with ⟨hcs, _⟩ | ⟨a, len, cap, m, n, D, Pl, hcs, _, hl, hm, hmm, hx, hi⟩
  · exact ⟨none, 0, [], hcs, SlRo.nil _ _, fun x hx => (by cases hx), by simp, Nat.le_refl _⟩
  · simp only [if_true] at hmm
    subst hmm
    have hone : ∀ i, i < m → ∃ y : Ro, y.val.Fits ∧ ∀ j, j < 5 → W.cell? ((a.add (i * 5)).add j) = y.cs[j]? := by
      intro i him
      obtain ⟨cs', hc', ht'⟩ := hi i him
      rw [cells15v] at hc'
      obtain ⟨_, hcl, hat⟩ := World.cells?_some hc'
      obtain ⟨c0, c1, c2, c3, c4, rfl⟩ := five_of15 hcl
      obtain ⟨y, hf, hy⟩ := read_ro ht'
      refine ⟨y, hf, fun j hj => ?_⟩
      rw [hat j hj, ← hy]
    obtain ⟨F, hF⟩ : ∃ F : Nat → Ro, ∀ i, i < m → (F i).val.Fits ∧ ∀ j, j < 5 → W.cell? ((a.add (i * 5)).add j) = (F i).cs[j]? := by
      refine ⟨fun i => if h : i < m then (hone i h).choose else Ro.Z, fun i h => ?_⟩
      simp only [dif_pos h]
      exact (hone i h).choose_spec
    have hlen : ((List.range len).map F).length = len := by simp
    have hget : ∀ j, j < len → ((List.range len).map F).getD j Ro.Z = F j := fun j hj => by
      rw [List.getD_eq_getElem?_getD, List.getElem?_map, List.getElem?_range hj]; rfl
    refine ⟨some a, m, (List.range len).map F, by rw [hlen]; exact hcs, fun hp => ?_, fun y hy => ?_, by rw [hlen]; unfold maxLen at hm; omega, by rw [hlen]; exact hl⟩
    · rw [hlen] at hp
      have h2 := (hF 0 (by omega)).2 0 (by decide)
      have h2 : W.cell? ((a.add (0 * 5)).add 0) = some (.int .i64 (F 0).room) := h2
      have h3 : a.block < W.heap.size := by
        have := World.block_lt_of_cell? W _ h2
        simpa [Addr.add] using this
      obtain ⟨b, off, spot⟩ := a
      have hspot : spot = none := by simpa [Addr.add] using World.cell?_spot h2
      subst hspot
      refine ⟨b, off, rfl, h3, fun j hj => ?_⟩
      rw [hlen] at hj
      rw [hget j hj]
      have q := (hF j (by omega)).2
      have ad : ∀ i, ((⟨b, off, none⟩ : Addr).add (j * 5)).add i = ⟨b, off + j * 5 + i, none⟩ := fun i => by rw [add15, add15]
      simp only [ad] at q
      exact ⟨q 0 (by decide), q 1 (by decide), q 2 (by decide), q 3 (by decide), q 4 (by decide)⟩
    · obtain ⟨i, hi2, rfl⟩ := List.mem_map.1 hy
      exact (hF i (by have := List.mem_range.1 hi2; omega)).1

set_option maxRecDepth 100000 in
/-- a slice of versions that came in -/
theorem open_rows15 {H : Type} {enc : TypeId × Value → H} {W : World} {base : Nat} {v : Value} {D : DataW H} {ps : List MemPlace} (hval : Value.okWide Try.prog W .any base 38 v)
    (h : DataW.Trod enc Try.prog W 0 (fun _ => true) true 38 v D ps) : ∃ A c xs, v = .slice A xs.length c ∧ SlRo W A xs ∧ FitsRo xs ∧ xs.length ≤ 9223372036854775807 ∧ xs.length ≤ c := by
  obtain ⟨a0, len, cap, rfl⟩ := okWide_slice Try.underlying38 hval
  obtain ⟨fuel, hf⟩ := h
  obtain ⟨A, c, xs, hcs, r⟩ := read_ros hf
  simp [Value.cells] at hcs
  obtain ⟨rfl, rfl, rfl⟩ := hcs
  exact ⟨_, _, xs, rfl, r⟩


end Go.Proofs.Ytoljhoabbaigdaa
