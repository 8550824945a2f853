/- Picks and acts that came in, opened. -/
import Derived.Test.YtjghpacpeojejaaE5p
import Derived.Test.YtjghpacpeojejaaFr
import Derived.Deep.Slices
namespace Go.Proofs.Ytjghpacpeojejaa
open Go.ChangeShapes Go.WideShapes Go.ChangeAt Go.RowKit

theorem cellsPk : Try.prog.cellsOf 53 = 2 := by kernel_rfl
theorem cellsJ : Try.prog.cellsOf 3 = 1 := by kernel_rfl
theorem cellsSt : Try.prog.cellsOf 9 = 1 := by kernel_rfl
theorem cellsPks : Try.prog.cellsOf 31 = 1 := by kernel_rfl
theorem cellsAc : Try.prog.cellsOf 33 = 5 := by kernel_rfl
theorem two_of {α : Type} {l : List α} (h : l.length = 2) : ∃ a b, l = [a, b] := by
  match l, h with
  | [a, b], _ => exact ⟨a, b, rfl⟩
theorem five_of {α : Type} {l : List α} (h : l.length = 5) : ∃ a b c d e, l = [a, b, c, d, e] := by
  match l, h with
  | [a, b, c, d, e], _ => exact ⟨a, b, c, d, e, rfl⟩

/-- a slice of picks that was read -/
theorem read_picks {H : Type} {enc : TypeId × Value → H} {W : World} {fuel : Nat} {cs : List Value} {x : DataW H × List MemPlace}
    (h : DataW.trod enc Try.prog W 0 (fun _ => true) true fuel 31 cs = some x) :
    ∃ A c ps, cs = [.slice A ps.length c] ∧ SlPk W A ps ∧ (A = none → ps = [] ∧ c = 0) ∧ (0 < ps.length → ∀ q o, A = some ⟨q, o, none⟩ → q < W.heap.size) ∧ PkOk ps := by
  rcases Deep.open_slice Try.underlying31 h with ⟨hcs, _⟩ | ⟨a, len, cap, m, n, D, Pl, hcs, _, hl, hm, hmm, hx, hi⟩
  · exact ⟨none, 0, [], hcs, fun hp => absurd hp (by simp), fun _ => ⟨rfl, rfl⟩, fun hp => absurd hp (by simp), by simp, fun q hq => by cases hq⟩
  · simp only [if_true] at hmm
    subst hmm
    have hone : ∀ i, i < m → ∃ y : Int × Int, In64 y.1 ∧ In64 y.2 ∧ W.cell? (a.add (i * 2)) = some (.int .i64 y.1) ∧ W.cell? ((a.add (i * 2)).add 1) = some (.int .i64 y.2) := by
      intro i him
      obtain ⟨cs', hc', ht'⟩ := hi i him
      rw [cellsPk] at hc'
      obtain ⟨_, hcl, hat⟩ := World.cells?_some hc'
      obtain ⟨ys, n', _, hy, _, hyl, hf⟩ := DataW.trod_struct Try.underlying53 ht'
      obtain ⟨c0, c1, rfl⟩ := two_of hcl
      obtain ⟨y0, y1, rfl⟩ := two_of (show ys.length = 2 from hyl)
      have f0 : DataW.trod enc Try.prog W 0 (fun _ => true) true n' 3 (([c0, c1].drop 0).take (Try.prog.cellsOf 3)) = some y0 := hf 0 _ rfl
      have f1 : DataW.trod enc Try.prog W 0 (fun _ => true) true n' 3 (([c0, c1].drop 1).take (Try.prog.cellsOf 3)) = some y1 := hf 1 _ rfl
      rw [cellsJ] at f0 f1
      obtain ⟨n0, e0, _, w0⟩ := DataW.trod_int Try.underlying3 f0
      obtain ⟨n1, e1, _, w1⟩ := DataW.trod_int Try.underlying3 f1
      simp at e0 e1
      subst e0; subst e1
      have b0 := bounds_i64 w0
      have b1 := bounds_i64 w1
      refine ⟨(n0, n1), ⟨by show _ ≤ n0; omega, by show n0 ≤ _; omega⟩, ⟨by show _ ≤ n1; omega, by show n1 ≤ _; omega⟩, ?_, hat 1 (by omega)⟩
      have h0 := hat 0 (by omega)
      rw [show (a.add (i * 2)).add 0 = a.add (i * 2) by simp [Addr.add]] at h0
      exact h0
    obtain ⟨F, hF⟩ : ∃ F : Nat → Int × Int, ∀ i, i < m → In64 (F i).1 ∧ In64 (F i).2 ∧ W.cell? (a.add (i * 2)) = some (.int .i64 (F i).1) ∧ W.cell? ((a.add (i * 2)).add 1) = some (.int .i64 (F i).2) := by
      refine ⟨fun i => if h : i < m then (hone i h).choose else (0, 0), fun i h => ?_⟩
      simp only [dif_pos h]
      exact (hone i h).choose_spec
    have hlen : ((List.range len).map F).length = len := by simp
    have hget : ∀ j, j < len → ((List.range len).map F).getD j (0, 0) = F j := fun j hj => by
      rw [List.getD_eq_getElem?_getD, List.getElem?_map, List.getElem?_range hj]; rfl
    have hspot : 0 < len → a.spot = none := fun hp => by
      obtain ⟨_, _, h2, _⟩ := hF 0 (by omega)
      simpa [Addr.add] using World.cell?_spot h2
    have hblk : 0 < len → a.block < W.heap.size := fun hp => by
      obtain ⟨_, _, h2, _⟩ := hF 0 (by omega)
      have := World.block_lt_of_cell? W _ h2
      simpa [Addr.add] using this
    refine ⟨some a, m, (List.range len).map F, by rw [hlen]; exact hcs, fun hp => ?_, (fun e => by cases e), fun hp q o e => ?_, by rw [hlen]; unfold maxLen at hm; omega, fun y hy => ?_⟩
    · rw [hlen] at hp
      have h1 := hspot hp
      have h2 := hblk hp
      obtain ⟨b, off, spot⟩ := a
      simp only at h1 h2
      subst h1
      refine ⟨b, off, rfl, h2, fun j hj => ?_⟩
      rw [hlen] at hj
      rw [hget j hj]
      obtain ⟨_, _, h3, h4⟩ := hF j (by omega)
      simp only [add_plain] at h3 h4
      exact ⟨h3, h4⟩
    · rw [hlen] at hp
      have h2 := hblk hp
      injection e with e
      rw [e] at h2; exact h2
    · obtain ⟨i, hi2, rfl⟩ := List.mem_map.1 hy
      have := hF i (by have := List.mem_range.1 hi2; omega)
      exact ⟨this.1, this.2.1⟩

def Ac0 : Act5 := ⟨0, 0, 0, ⟨#[]⟩, []⟩
/-- the slice at A reads as the acts xs, below block B -/
def SlAc (B : Nat) (w : World) (A : Option Addr) (xs : List Act5) : Prop :=
  0 < xs.length → ∃ b o, A = some ⟨b, o, none⟩ ∧ b < B ∧ ∀ j, j < xs.length → ∃ AP cP,
    w.cell? ⟨b, o + j * 5, none⟩ = some (.int .i64 (xs.getD j Ac0).k) ∧ w.cell? ⟨b, o + j * 5 + 1, none⟩ = some (.int .i64 (xs.getD j Ac0).e) ∧ w.cell? ⟨b, o + j * 5 + 2, none⟩ = some (.int .i64 (xs.getD j Ac0).a) ∧
    w.cell? ⟨b, o + j * 5 + 3, none⟩ = some (.string (xs.getD j Ac0).s) ∧ w.cell? ⟨b, o + j * 5 + 4, none⟩ = some (.slice AP (xs.getD j Ac0).ps.length cP) ∧
    SlPk w AP (xs.getD j Ac0).ps ∧ (AP = none → (xs.getD j Ac0).ps = [] ∧ cP = 0) ∧ (0 < (xs.getD j Ac0).ps.length → ∀ q o, AP = some ⟨q, o, none⟩ → q < B)
theorem SlAc.below {B : Nat} {w w' : World} {A : Option Addr} {xs : List Act5} (h : SlAc B w A xs) (hb : Below B w w') : SlAc B w' A xs := fun hp => by
  obtain ⟨b, o, e, hB, hj⟩ := h hp
  refine ⟨b, o, e, hB, fun j hjl => ?_⟩
  obtain ⟨AP, cP, h0, h1, h2, h3, h4, sp, hn, hq⟩ := hj j hjl
  exact ⟨AP, cP, (hb.cell (p := ⟨b, o + j * 5, none⟩) hB).trans h0, (hb.cell (p := ⟨b, o + j * 5 + 1, none⟩) hB).trans h1, (hb.cell (p := ⟨b, o + j * 5 + 2, none⟩) hB).trans h2, (hb.cell (p := ⟨b, o + j * 5 + 3, none⟩) hB).trans h3, (hb.cell (p := ⟨b, o + j * 5 + 4, none⟩) hB).trans h4, sp.belowB hb hq, hn, hq⟩
def AcsOk (xs : List Act5) : Prop := xs.length ≤ 9223372036854775807 ∧ ∀ x ∈ xs, x.Ok

/-- a slice of acts that was read -/
theorem read_acts {H : Type} {enc : TypeId × Value → H} {W : World} {fuel : Nat} {cs : List Value} {x : DataW H × List MemPlace}
    (h : DataW.trod enc Try.prog W 0 (fun _ => true) true fuel 22 cs = some x) :
    ∃ A c xs, cs = [.slice A xs.length c] ∧ SlAc W.heap.size W A xs ∧ AcsOk xs := by
  rcases Deep.open_slice Try.underlying22 h with ⟨hcs, _⟩ | ⟨a, len, cap, m, n, D, Pl, hcs, _, hl, hm, hmm, hx, hi⟩
  · exact ⟨none, 0, [], hcs, fun hp => absurd hp (by simp), by simp, fun q hq => by cases hq⟩
  · simp only [if_true] at hmm
    subst hmm
    have hone : ∀ i, i < m → ∃ y : Act5, y.Ok ∧ ∃ AP cP, W.cell? (a.add (i * 5)) = some (.int .i64 y.k) ∧ W.cell? ((a.add (i * 5)).add 1) = some (.int .i64 y.e) ∧ W.cell? ((a.add (i * 5)).add 2) = some (.int .i64 y.a) ∧
        W.cell? ((a.add (i * 5)).add 3) = some (.string y.s) ∧ W.cell? ((a.add (i * 5)).add 4) = some (.slice AP y.ps.length cP) ∧ SlPk W AP y.ps ∧ (AP = none → y.ps = [] ∧ cP = 0) ∧ (0 < y.ps.length → ∀ q o, AP = some ⟨q, o, none⟩ → q < W.heap.size) := by
      intro i him
      obtain ⟨cs', hc', ht'⟩ := hi i him
      rw [cellsAc] at hc'
      obtain ⟨_, hcl, hat⟩ := World.cells?_some hc'
      obtain ⟨ys, n', _, hy, _, hyl, hf⟩ := DataW.trod_struct Try.underlying33 ht'
      obtain ⟨c0, c1, c2, c3, c4, rfl⟩ := five_of hcl
      obtain ⟨y0, y1, y2, y3, y4, rfl⟩ := five_of (show ys.length = 5 from hyl)
      have f0 : DataW.trod enc Try.prog W 0 (fun _ => true) true n' 3 (([c0, c1, c2, c3, c4].drop 0).take (Try.prog.cellsOf 3)) = some y0 := hf 0 _ rfl
      have f1 : DataW.trod enc Try.prog W 0 (fun _ => true) true n' 3 (([c0, c1, c2, c3, c4].drop 1).take (Try.prog.cellsOf 3)) = some y1 := hf 1 _ rfl
      have f2 : DataW.trod enc Try.prog W 0 (fun _ => true) true n' 3 (([c0, c1, c2, c3, c4].drop 2).take (Try.prog.cellsOf 3)) = some y2 := hf 2 _ rfl
      have f3 : DataW.trod enc Try.prog W 0 (fun _ => true) true n' 9 (([c0, c1, c2, c3, c4].drop 3).take (Try.prog.cellsOf 9)) = some y3 := hf 3 _ rfl
      have f4 : DataW.trod enc Try.prog W 0 (fun _ => true) true n' 31 (([c0, c1, c2, c3, c4].drop 4).take (Try.prog.cellsOf 31)) = some y4 := hf 4 _ rfl
      rw [cellsJ] at f0 f1 f2
      rw [cellsSt] at f3
      rw [cellsPks] at f4
      obtain ⟨n0, e0, _, w0⟩ := DataW.trod_int Try.underlying3 f0
      obtain ⟨n1, e1, _, w1⟩ := DataW.trod_int Try.underlying3 f1
      obtain ⟨n2, e2, _, w2⟩ := DataW.trod_int Try.underlying3 f2
      obtain ⟨ss, e3, _, w3⟩ := DataW.trod_string Try.underlying9 f3
      obtain ⟨AP, cP, ps, e4, sp, hn, hq, hk⟩ := read_picks f4
      simp at e0 e1 e2 e3 e4
      subst e0; subst e1; subst e2; subst e3; subst e4
      have b1 := bounds_i64 w1
      have b2 := bounds_i64 w2
      refine ⟨⟨n0, n1, n2, ss, ps⟩, ⟨⟨by show _ ≤ n1; omega, by show n1 ≤ _; omega⟩, ⟨by show _ ≤ n2; omega, by show n2 ≤ _; omega⟩, by show ss.size ≤ _; unfold maxLen at w3; omega, hk⟩, AP, cP, ?_, hat 1 (by omega), hat 2 (by omega), hat 3 (by omega), hat 4 (by omega), sp, hn, hq⟩
      have h0 := hat 0 (by omega)
      rw [show (a.add (i * 5)).add 0 = a.add (i * 5) by simp [Addr.add]] at h0
      exact h0
    obtain ⟨F, hF⟩ : ∃ F : Nat → Act5, ∀ i, i < m → (F i).Ok ∧ ∃ AP cP, W.cell? (a.add (i * 5)) = some (.int .i64 (F i).k) ∧ W.cell? ((a.add (i * 5)).add 1) = some (.int .i64 (F i).e) ∧ W.cell? ((a.add (i * 5)).add 2) = some (.int .i64 (F i).a) ∧
        W.cell? ((a.add (i * 5)).add 3) = some (.string (F i).s) ∧ W.cell? ((a.add (i * 5)).add 4) = some (.slice AP (F i).ps.length cP) ∧ SlPk W AP (F i).ps ∧ (AP = none → (F i).ps = [] ∧ cP = 0) ∧ (0 < (F i).ps.length → ∀ q o, AP = some ⟨q, o, none⟩ → q < W.heap.size) := by
      refine ⟨fun i => if h : i < m then (hone i h).choose else Ac0, fun i h => ?_⟩
      simp only [dif_pos h]
      exact (hone i h).choose_spec
    have hlen : ((List.range len).map F).length = len := by simp
    have hget : ∀ j, j < len → ((List.range len).map F).getD j Ac0 = F j := fun j hj => by
      rw [List.getD_eq_getElem?_getD, List.getElem?_map, List.getElem?_range hj]; rfl
    refine ⟨some a, m, (List.range len).map F, by rw [hlen]; exact hcs, fun hp => ?_, by rw [hlen]; unfold maxLen at hm; omega, fun y hy => ?_⟩
    · rw [hlen] at hp
      obtain ⟨_, _, _, h2, _⟩ := hF 0 (by omega)
      have h3 : a.block < W.heap.size := by
        have := World.block_lt_of_cell? W _ h2
        simpa [Addr.add] using this
      obtain ⟨b, off, spot⟩ := a
      have hspot : spot = none := by simpa [Addr.add] using World.cell?_spot h2
      subst hspot
      refine ⟨b, off, rfl, h3, fun j hj => ?_⟩
      rw [hlen] at hj
      rw [hget j hj]
      obtain ⟨_, AP, cP, g0, g1, g2, g3, g4, sp, hn, hq⟩ := hF j (by omega)
      simp only [add_plain] at g0 g1 g2 g3 g4
      exact ⟨AP, cP, g0, g1, g2, g3, g4, sp, hn, hq⟩
    · obtain ⟨i, hi2, rfl⟩ := List.mem_map.1 hy
      exact (hF i (by have := List.mem_range.1 hi2; omega)).1

set_option maxRecDepth 100000 in
/-- a slice of acts that came in -/
theorem open_acts {H : Type} {enc : TypeId × Value → H} {W : World} {base : Nat} {v : Value} {D : DataW H} {ps : List MemPlace} (hval : Value.okWide Try.prog W .any base 22 v)
    (h : DataW.Trod enc Try.prog W 0 (fun _ => true) true 22 v D ps) : ∃ A c xs, v = .slice A xs.length c ∧ SlAc W.heap.size W A xs ∧ AcsOk xs := by
  obtain ⟨a0, len, cap, rfl⟩ := okWide_slice Try.underlying22 hval
  obtain ⟨fuel, hf⟩ := h
  obtain ⟨A, c, xs, hcs, r⟩ := read_acts hf
  simp [Value.cells] at hcs
  obtain ⟨rfl, rfl, rfl⟩ := hcs
  exact ⟨_, _, xs, rfl, r⟩
set_option maxRecDepth 100000 in
/-- a slice of picks that came in -/
theorem open_picks {H : Type} {enc : TypeId × Value → H} {W : World} {base : Nat} {v : Value} {D : DataW H} {pl : List MemPlace} (hval : Value.okWide Try.prog W .any base 31 v)
    (h : DataW.Trod enc Try.prog W 0 (fun _ => true) true 31 v D pl) :
    ∃ A c ps, v = .slice A ps.length c ∧ SlPk W A ps ∧ (A = none → ps = [] ∧ c = 0) ∧ (0 < ps.length → ∀ q o, A = some ⟨q, o, none⟩ → q < W.heap.size) ∧ PkOk ps := by
  obtain ⟨a0, len, cap, rfl⟩ := okWide_slice Try.underlying31 hval
  obtain ⟨fuel, hf⟩ := h
  obtain ⟨A, c, xs, hcs, r⟩ := read_picks hf
  simp [Value.cells] at hcs
  obtain ⟨rfl, rfl, rfl⟩ := hcs
  exact ⟨_, _, xs, rfl, r⟩

end Go.Proofs.Ytjghpacpeojejaa
