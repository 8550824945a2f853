/- What every row of layer 3 needs: a slice of items that came in, opened. -/
import Derived.Test.YtmcackghpkegbaaFr
import Derived.Test.YtmcackghpkegbaaIt
import Derived.Deep.Slices
namespace Go.Proofs.Ytmcackghpkegbaa
open Go.ChangeShapes Go.WideShapes Go.ChangeAt Go.RowKit

theorem cellsIt : Try.prog.cellsOf 44 = 4 := by kernel_rfl

/-- a slice of uint64 that was read -/
theorem read_u64s {H : Type} {enc : TypeId × Value → H} {W : World} {fuel : Nat} {cs : List Value} {x : DataW H × List MemPlace}
    (h : DataW.trod enc Try.prog W 0 (fun _ => true) true fuel 42 cs = some x) (hlt : ∀ p ∈ x.2, p.block < W.heap.size) :
    ∃ A c zs, cs = [.slice A zs.length c] ∧ Sl W A zs ∧ (A = none → zs = [] ∧ c = 0) ∧ La.U64 zs ∧ zs.length ≤ maxLen := by
  rcases open_ints Try.underlying42 Try.underlying41 cellsU h with ⟨hcs, hx⟩ | ⟨a, len, cap, zs, hcs, _, hl, hm, hz, hx, hcell, hwz⟩
  · exact ⟨none, 0, [], hcs, Sl.nil _ _, fun _ => ⟨rfl, rfl⟩, La.U64.nil, Nat.zero_le _⟩
  · subst hx
    simp only [if_true] at hz
    have hl2 : (zs.take len).length = len := by rw [List.length_take]; omega
    refine ⟨some a, cap, zs.take len, by rw [hl2]; exact hcs, fun hp => ?_, (fun e => by cases e), fun n hn => ?_, by rw [hl2]; omega⟩
    · rw [hl2] at hp
      obtain ⟨b, off, spot⟩ := a
      have hspot : spot = none := by simpa [Addr.add] using World.cell?_spot (hcell 0 (by omega))
      subst hspot
      refine ⟨b, off, rfl, hlt (.cell b off) (MemPlace.mem_row.2 ⟨0, by omega, by simp⟩), fun j hj => ?_⟩
      rw [hl2] at hj
      have h1 := hcell j (by omega)
      rw [add_plain] at h1
      rw [h1]
      simp only [List.getD]
      rw [List.getElem?_take, if_pos hj]
    · have := bounds_u64 (hwz n (List.mem_of_mem_take hn))
      omega

theorem cellsS9 : Try.prog.cellsOf 9 = 1 := by kernel_rfl
theorem cellsUs : Try.prog.cellsOf 42 = 1 := by kernel_rfl
theorem cellsIs : Try.prog.cellsOf 22 = 1 := by kernel_rfl

theorem four {α : Type} {l : List α} (h : l.length = 4) : ∃ a b c d, l = [a, b, c, d] := by
  match l, h with
  | [a, b, c, d], _ => exact ⟨a, b, c, d, rfl⟩

/-- a slice of items that was read, d deep -/
theorem read_items {H : Type} {enc : TypeId × Value → H} {W : World} (d : Nat) : ∀ {fuel : Nat} {cs : List Value} {x : DataW H × List MemPlace},
    DataW.trod enc Try.prog W 0 (fun _ => true) true fuel 22 cs = some x → (∀ p ∈ x.2, p.block < W.heap.size) →
    ∃ A c xs, cs = [.slice A xs.length c] ∧ SlIt d W A xs ∧ (A = none → xs = [] ∧ c = 0) ∧ FitIt d xs := by
  induction d with
  | zero =>
    intro fuel cs x h _
    rcases Deep.open_slice Try.underlying22 h with ⟨hcs, _⟩ | ⟨a, len, cap, m, n, D, Pl, hcs, _, hl, hm, _, _, _⟩
    · exact ⟨none, 0, [], hcs, trivial, fun _ => ⟨rfl, rfl⟩, Nat.zero_le _⟩
    · exact ⟨some a, cap, List.replicate len It0, by simpa using hcs, trivial, (fun e => by cases e), by show (List.replicate len It0).length ≤ maxLen; simp; omega⟩
  | succ d ih =>
    intro fuel cs x h hlt
    rcases Deep.open_slice Try.underlying22 h with ⟨hcs, _⟩ | ⟨a, len, cap, m, n, D, Pl, hcs, _, hl, hm, hmm, hx, hi⟩
    · exact ⟨none, 0, [], hcs, SlIt.nil _ _ _, fun _ => ⟨rfl, rfl⟩, Nat.zero_le _, fun x hx => by cases hx⟩
    · simp only [if_true] at hmm
      subst hmm
      have hone : ∀ i, i < m → ∃ y : Item, FitOne d y ∧ ∃ AL cL AK cK, W.cell? (a.add (i * 4)) = some (.int .u64 y.n) ∧ W.cell? ((a.add (i * 4)).add 1) = some (.string y.s) ∧ W.cell? ((a.add (i * 4)).add 2) = some (.slice AL y.l.length cL) ∧
          W.cell? ((a.add (i * 4)).add 3) = some (.slice AK y.ks.length cK) ∧ Sl W AL y.l ∧ SlIt d W AK y.ks := by
        intro i him
        obtain ⟨cs', hc', ht'⟩ := hi i him
        rw [cellsIt] at hc'
        obtain ⟨_, hcl, hat⟩ := World.cells?_some hc'
        obtain ⟨ys, n', _, hy, _, hyl, hf⟩ := DataW.trod_struct Try.underlying44 ht'
        obtain ⟨c0, c1, c2, c3, rfl⟩ := four hcl
        obtain ⟨y0, y1, y2, y3, rfl⟩ := four (show ys.length = 4 from hyl)
        have f0 : DataW.trod enc Try.prog W 0 (fun _ => true) true n' 41 (([c0, c1, c2, c3].drop 0).take (Try.prog.cellsOf 41)) = some y0 := hf 0 _ rfl
        have f1 : DataW.trod enc Try.prog W 0 (fun _ => true) true n' 9 (([c0, c1, c2, c3].drop 1).take (Try.prog.cellsOf 9)) = some y1 := hf 1 _ rfl
        have f2 : DataW.trod enc Try.prog W 0 (fun _ => true) true n' 42 (([c0, c1, c2, c3].drop 2).take (Try.prog.cellsOf 42)) = some y2 := hf 2 _ rfl
        have f3 : DataW.trod enc Try.prog W 0 (fun _ => true) true n' 22 (([c0, c1, c2, c3].drop 3).take (Try.prog.cellsOf 22)) = some y3 := hf 3 _ rfl
        rw [cellsU] at f0
        rw [cellsS9] at f1
        rw [cellsUs] at f2
        rw [cellsIs] at f3
        simp only [Prod.mk.injEq] at hy
        have hpl : ∀ p ∈ Pl i, p.block < W.heap.size := fun p hp => hlt p (by
          rw [hx]
          exact List.mem_append_right _ (List.mem_flatMap.2 ⟨i, List.mem_range.2 him, hp⟩))
        rw [hy.2] at hpl
        obtain ⟨nn, e0, _, w0⟩ := DataW.trod_int Try.underlying41 f0
        obtain ⟨ss, e1, _, w1⟩ := DataW.trod_string Try.underlying9 f1
        obtain ⟨AL, cL, ll, e2, sl, _, ul, ml⟩ := read_u64s f2 (fun p hp => hpl p (by simp [hp]))
        obtain ⟨AK, cK, kk, e3, sk, _, fk⟩ := ih f3 (fun p hp => hpl p (by simp [hp]))
        simp at e0 e1 e2 e3
        subst e0; subst e1; subst e2; subst e3
        have hb := bounds_u64 w0
        refine ⟨.mk nn ss ll kk, ⟨hb.1, by have := hb.2; show nn < _; omega, w1, ml, ul, fk⟩, AL, cL, AK, cK, ?_, ?_, ?_, ?_, sl, sk⟩
        · have h0 := hat 0 (by omega)
          rw [show (a.add (i * 4)).add 0 = a.add (i * 4) by simp [Addr.add]] at h0
          exact h0
        · exact hat 1 (by omega)
        · exact hat 2 (by omega)
        · exact hat 3 (by omega)
      obtain ⟨F, hF⟩ : ∃ F : Nat → Item, ∀ i, i < m → FitOne d (F i) ∧ ∃ AL cL AK cK, W.cell? (a.add (i * 4)) = some (.int .u64 (F i).n) ∧ W.cell? ((a.add (i * 4)).add 1) = some (.string (F i).s) ∧ W.cell? ((a.add (i * 4)).add 2) = some (.slice AL (F i).l.length cL) ∧
          W.cell? ((a.add (i * 4)).add 3) = some (.slice AK (F i).ks.length cK) ∧ Sl W AL (F i).l ∧ SlIt d W AK (F i).ks := by
        refine ⟨fun i => if h : i < m then (hone i h).choose else It0, fun i h => ?_⟩
        simp only [dif_pos h]
        exact (hone i h).choose_spec
      have hlen : ((List.range len).map F).length = len := by simp
      have hget : ∀ j, j < len → ((List.range len).map F).getD j It0 = F j := fun j hj => by
        rw [List.getD_eq_getElem?_getD, List.getElem?_map, List.getElem?_range hj]; rfl
      refine ⟨some a, m, (List.range len).map F, by rw [hlen]; exact hcs, fun hp => ?_, (fun e => by cases e), by rw [hlen]; omega, fun y hy => ?_⟩
      · rw [hlen] at hp
        obtain ⟨b, off, spot⟩ := a
        obtain ⟨_, _, _, _, _, hc0, _⟩ := hF 0 (by omega)
        have hspot : spot = none := by simpa [Addr.add] using World.cell?_spot hc0
        subst hspot
        refine ⟨b, off, rfl, hlt (.cell b off) (by
          rw [hx, cellsIt]
          exact List.mem_append_left _ (MemPlace.mem_row.2 ⟨0, by omega, by simp⟩)), fun j hj => ?_⟩
        rw [hlen] at hj
        rw [hget j hj]
        obtain ⟨_, AL, cL, AK, cK, h0, h1, h2, h3, sl, sk⟩ := hF j (by omega)
        simp only [add_plain] at h0 h1 h2 h3
        exact ⟨AL, cL, AK, cK, h0, h1, h2, h3, sl, sk⟩
      · obtain ⟨i, hi2, rfl⟩ := List.mem_map.1 hy
        exact (hF i (by have := List.mem_range.1 hi2; omega)).1

/-- a slice of items that came in -/
theorem open_items {H : Type} {enc : TypeId × Value → H} {W : World} {base : Nat} {v : Value} {D : DataW H} {ps : List MemPlace} (d : Nat) (hval : Value.okWide Try.prog W .any base 22 v)
    (h : DataW.Trod enc Try.prog W 0 (fun _ => true) true 22 v D ps) (hlt : ∀ x ∈ ps, x.block < W.heap.size) :
    ∃ A c xs, v = .slice A xs.length c ∧ SlIt d W A xs ∧ (A = none → xs = [] ∧ c = 0) ∧ FitIt d xs := by
  obtain ⟨a0, len, cap, rfl⟩ := okWide_slice Try.underlying22 hval
  obtain ⟨fuel, hf⟩ := h
  obtain ⟨A, c, xs, hcs, r⟩ := read_items d hf hlt
  simp [Value.cells] at hcs
  obtain ⟨rfl, rfl, rfl⟩ := hcs
  exact ⟨_, _, xs, rfl, r⟩

end Go.Proofs.Ytmcackghpkegbaa
