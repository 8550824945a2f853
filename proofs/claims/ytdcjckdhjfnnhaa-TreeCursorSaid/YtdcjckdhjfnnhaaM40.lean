/- Proved parts: T8j. Conditions: each theorem's own. -/
import Derived.Test.YtdcjckdhjfnnhaaM39
import Derived.Test.YtdcjckdhjfnnhaaM2
import Derived.Deep.Slices
namespace Go.Proofs.Ytdcjckdhjfnnhaa
open Go.ChangeShapes Go.WideShapes Go.ChangeAt Go.RowKit

theorem cellsT8s : Try.prog.cellsOf 9 = 1 := by kernel_rfl
theorem cellsT8j : Try.prog.cellsOf 3 = 1 := by kernel_rfl
theorem cellsT8a : Try.prog.cellsOf 32 = 3 := by kernel_rfl
theorem three_of {α : Type} {l : List α} (h : l.length = 3) : ∃ a b c, l = [a, b, c] := by
  match l, h with
  | [a, b, c], _ => exact ⟨a, b, c, rfl⟩
/-- a call: kind, key, number -/
structure Act3 where
  k : Int
  s : ByteArray
  n : Int
def At0 : Act3 := ⟨0, ⟨#[]⟩, 0⟩
/-- the slice at A reads as the acts xs, below block B -/
def SlAt (B : Nat) (w : World) (A : Option Addr) (xs : List Act3) : Prop :=
  0 < xs.length → ∃ b o, A = some ⟨b, o, none⟩ ∧ b < B ∧ ∀ j, j < xs.length →
    w.cell? ⟨b, o + j * 3, none⟩ = some (.int .i64 (xs.getD j At0).k) ∧ w.cell? ⟨b, o + j * 3 + 1, none⟩ = some (.string (xs.getD j At0).s) ∧ w.cell? ⟨b, o + j * 3 + 2, none⟩ = some (.int .i64 (xs.getD j At0).n)
theorem SlAt.below {B : Nat} {w w' : World} {A : Option Addr} {xs : List Act3} (h : SlAt B w A xs) (hb : Below B w w') : SlAt B w' A xs := fun hp => by
  obtain ⟨b, o, e, hB, hj⟩ := h hp
  refine ⟨b, o, e, hB, fun j hjl => ?_⟩
  obtain ⟨h0, h1, h2⟩ := hj j hjl
  exact ⟨(hb.cell (p := ⟨b, o + j * 3, none⟩) hB).trans h0, (hb.cell (p := ⟨b, o + j * 3 + 1, none⟩) hB).trans h1, (hb.cell (p := ⟨b, o + j * 3 + 2, none⟩) hB).trans h2⟩

/-- a slice of acts that was read -/
theorem read_acts8 {H : Type} {enc : TypeId × Value → H} {W : World} {fuel : Nat} {cs : List Value} {x : DataW H × List MemPlace}
    (h : DataW.trod enc Try.prog W 0 (fun _ => true) true fuel 22 cs = some x) :
    ∃ A c xs, cs = [.slice A xs.length c] ∧ SlAt W.heap.size W A xs ∧ xs.length ≤ 9223372036854775807 := by
  rcases Deep.open_slice Try.underlying22 h with ⟨hcs, _⟩ | ⟨a, len, cap, m, n, D, Pl, hcs, _, hl, hm, hmm, hx, hi⟩
  · exact ⟨none, 0, [], hcs, fun hp => absurd hp (by simp), by simp⟩
  · simp only [if_true] at hmm
    subst hmm
    have hone : ∀ i, i < m → ∃ y : Act3, W.cell? (a.add (i * 3)) = some (.int .i64 y.k) ∧ W.cell? ((a.add (i * 3)).add 1) = some (.string y.s) ∧ W.cell? ((a.add (i * 3)).add 2) = some (.int .i64 y.n) := by
      intro i him
      obtain ⟨cs', hc', ht'⟩ := hi i him
      rw [cellsT8a] at hc'
      obtain ⟨_, hcl, hat⟩ := World.cells?_some hc'
      obtain ⟨ys, n', _, hy, _, hyl, hf⟩ := DataW.trod_struct Try.underlying32 ht'
      obtain ⟨c0, c1, c2, rfl⟩ := three_of hcl
      obtain ⟨y0, y1, y2, rfl⟩ := three_of (show ys.length = 3 from hyl)
      have f0 : DataW.trod enc Try.prog W 0 (fun _ => true) true n' 3 (([c0, c1, c2].drop 0).take (Try.prog.cellsOf 3)) = some y0 := hf 0 _ rfl
      have f1 : DataW.trod enc Try.prog W 0 (fun _ => true) true n' 9 (([c0, c1, c2].drop 1).take (Try.prog.cellsOf 9)) = some y1 := hf 1 _ rfl
      have f2 : DataW.trod enc Try.prog W 0 (fun _ => true) true n' 3 (([c0, c1, c2].drop 2).take (Try.prog.cellsOf 3)) = some y2 := hf 2 _ rfl
      rw [cellsT8j] at f0 f2
      rw [cellsT8s] at f1
      obtain ⟨n0, e0, _, w0⟩ := DataW.trod_int Try.underlying3 f0
      obtain ⟨ss, e1, _, w1⟩ := DataW.trod_string Try.underlying9 f1
      obtain ⟨n2, e2, _, w2⟩ := DataW.trod_int Try.underlying3 f2
      simp at e0 e1 e2
      subst e0; subst e1; subst e2
      refine ⟨⟨n0, ss, n2⟩, ?_, hat 1 (by omega), hat 2 (by omega)⟩
      have h0 := hat 0 (by omega)
      rw [show (a.add (i * 3)).add 0 = a.add (i * 3) by simp [Addr.add]] at h0
      exact h0
    obtain ⟨F, hF⟩ : ∃ F : Nat → Act3, ∀ i, i < m → W.cell? (a.add (i * 3)) = some (.int .i64 (F i).k) ∧ W.cell? ((a.add (i * 3)).add 1) = some (.string (F i).s) ∧ W.cell? ((a.add (i * 3)).add 2) = some (.int .i64 (F i).n) := by
      refine ⟨fun i => if h : i < m then (hone i h).choose else At0, fun i h => ?_⟩
      simp only [dif_pos h]
      exact (hone i h).choose_spec
    have hlen : ((List.range len).map F).length = len := by simp
    have hget : ∀ j, j < len → ((List.range len).map F).getD j At0 = F j := fun j hj => by
      rw [List.getD_eq_getElem?_getD, List.getElem?_map, List.getElem?_range hj]; rfl
    refine ⟨some a, m, (List.range len).map F, by rw [hlen]; exact hcs, fun hp => ?_, by rw [hlen]; unfold maxLen at hm; omega⟩
    rw [hlen] at hp
    obtain ⟨h2, _⟩ := hF 0 (by omega)
    have h3 : a.block < W.heap.size := by
      have := World.block_lt_of_cell? W _ h2
      simpa [Addr.add] using this
    obtain ⟨b, off, spot⟩ := a
    have hspot : spot = none := by simpa [Addr.add] using World.cell?_spot h2
    subst hspot
    refine ⟨b, off, rfl, h3, fun j hj => ?_⟩
    rw [hlen] at hj
    rw [hget j hj]
    obtain ⟨g0, g1, g2⟩ := hF j (by omega)
    simp only [add_plain] at g0 g1 g2
    exact ⟨g0, g1, g2⟩

set_option maxRecDepth 100000 in
/-- a slice of acts that came in -/
theorem open_acts8 {H : Type} {enc : TypeId × Value → H} {W : World} {base : Nat} {v : Value} {D : DataW H} {ps : List MemPlace} (hval : Value.okWide Try.prog W .any base 22 v)
    (h : DataW.Trod enc Try.prog W 0 (fun _ => true) true 22 v D ps) : ∃ A c xs, v = .slice A xs.length c ∧ SlAt W.heap.size W A xs ∧ xs.length ≤ 9223372036854775807 := by
  obtain ⟨a0, len, cap, rfl⟩ := okWide_slice Try.underlying22 hval
  obtain ⟨fuel, hf⟩ := h
  obtain ⟨A, c, xs, hcs, r⟩ := read_acts8 hf
  simp [Value.cells] at hcs
  obtain ⟨rfl, rfl, rfl⟩ := hcs
  exact ⟨_, _, xs, rfl, r⟩

end Go.Proofs.Ytdcjckdhjfnnhaa
