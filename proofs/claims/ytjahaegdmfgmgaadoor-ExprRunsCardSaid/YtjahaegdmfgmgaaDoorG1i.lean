/- Steps that came in, opened; the table of the steps' heights out of what the row lists. -/
import Derived.Test.YtjahaegdmfgmgaaDoorG1b
import Derived.Test.YtjahaegdmfgmgaaDoorG1c
import Derived.Test.YtjahaegdmfgmgaaDoorRows
import Derived.Test.YtjahaegdmfgmgaaDoorFr
import Derived.Deep.Slices
import Derived.Lib.SmallJoins
import Derived.Lib.LaidTab
import Derived.MakeChecks
namespace Go.Proofs.YtjahaegdmfgmgaaDoor
open Go.Joins Go.ChangeShapes Go.WideShapes Go.ChangeAt Go.RowKit Ex Fl

/-- a step's cells -/
def Ex.Cd.cs (c : Cd) : List Value := [.int .i64 c.op, .int .u64 (c.b : Int)]
theorem cellsI14 : Tryd.prog.cellsOf 3 = 1 := by kernel_rfl
theorem cellsU14 : Tryd.prog.cellsOf 23 = 1 := by kernel_rfl
theorem cellsCd : Tryd.prog.cellsOf 42 = 2 := by kernel_rfl
theorem two_of14 {α : Type} {l : List α} (h : l.length = 2) : ∃ a b, l = [a, b] := by
  match l, h with
  | [a, b], _ => exact ⟨a, b, rfl⟩
theorem addA14 (b o i : Nat) : (⟨b, o, none⟩ : Addr).add i = ⟨b, o + i, none⟩ := by
  unfold Addr.add
  split
  · rename_i e
    rw [e]; rfl
  · rfl
/-- two cells that were read as a step -/
theorem read_code {H : Type} {enc : TypeId × Value → H} {W : World} {fuel : Nat} {c0 c1 : Value} {x : DataW H × List MemPlace}
    (h : DataW.trod enc Tryd.prog W 0 (fun _ => true) true fuel 42 [c0, c1] = some x) : ∃ y : Cd, Fits y.b ∧ [c0, c1] = y.cs := by
  obtain ⟨ys, n', _, hy, _, hyl, hf⟩ := DataW.trod_struct Tryd.underlying42 h
  obtain ⟨y0, y1, rfl⟩ := two_of14 (show ys.length = 2 from hyl)
  have f0 : DataW.trod enc Tryd.prog W 0 (fun _ => true) true n' 3 (([c0, c1].drop 0).take (Tryd.prog.cellsOf 3)) = some y0 := hf 0 _ rfl
  have f1 : DataW.trod enc Tryd.prog W 0 (fun _ => true) true n' 23 (([c0, c1].drop 1).take (Tryd.prog.cellsOf 23)) = some y1 := hf 1 _ rfl
  rw [cellsI14] at f0
  rw [cellsU14] at f1
  obtain ⟨n0, e0, _, w0⟩ := DataW.trod_int Tryd.underlying3 f0
  obtain ⟨n1, e1, _, w1⟩ := DataW.trod_int Tryd.underlying23 f1
  simp at e0 e1
  subst e0; subst e1
  have hb := bounds_u64 w1
  refine ⟨⟨n0, n1.toNat⟩, Fits.mk (by show n1.toNat < _; omega), ?_⟩
  show _ = [Value.int .i64 n0, .int .u64 ((n1.toNat : Nat) : Int)]
  rw [Int.toNat_of_nonneg hb.1]

/-- a slice of steps that was read -/
theorem read_codes {H : Type} {enc : TypeId × Value → H} {W : World} {fuel : Nat} {cs : List Value} {x : DataW H × List MemPlace}
    (h : DataW.trod enc Tryd.prog W 0 (fun _ => true) true fuel 22 cs = some x) :
    ∃ A c xs, cs = [.slice A xs.length c] ∧ SlC W A xs ∧ FitC xs ∧ xs.length ≤ 9223372036854775807 ∧ xs.length ≤ c ∧ (A = none → c = 0) := by
  rcases Deep.open_slice Tryd.underlying22 h with ⟨hcs, _⟩ | ⟨a, len, cap, m, n, D, Pl, hcs, _, hl, hm, hmm, hx, hi⟩
  · exact ⟨none, 0, [], hcs, SlC.nil _ _, fun x hx => (by cases hx), by simp, Nat.le_refl _, fun _ => rfl⟩
  · simp only [if_true] at hmm
    subst hmm
    have hone : ∀ i, i < m → ∃ y : Cd, Fits y.b ∧ ∀ j, j < 2 → W.cell? ((a.add (i * 2)).add j) = y.cs[j]? := by
      intro i him
      obtain ⟨cs', hc', ht'⟩ := hi i him
      rw [cellsCd] at hc'
      obtain ⟨_, hcl, hat⟩ := World.cells?_some hc'
      obtain ⟨c0, c1, rfl⟩ := two_of14 hcl
      obtain ⟨y, hf, hy⟩ := read_code ht'
      refine ⟨y, hf, fun j hj => ?_⟩
      rw [hat j hj, ← hy]
    obtain ⟨F, hF⟩ : ∃ F : Nat → Cd, ∀ i, i < m → Fits (F i).b ∧ ∀ j, j < 2 → W.cell? ((a.add (i * 2)).add j) = (F i).cs[j]? := by
      refine ⟨fun i => if h : i < m then (hone i h).choose else Cd.Z, fun i h => ?_⟩
      simp only [dif_pos h]
      exact (hone i h).choose_spec
    have hlen : ((List.range len).map F).length = len := by simp
    have hget : ∀ j, j < len → ((List.range len).map F).getD j Cd.Z = F j := fun j hj => by
      rw [List.getD_eq_getElem?_getD, List.getElem?_map, List.getElem?_range hj]; rfl
    refine ⟨some a, m, (List.range len).map F, by rw [hlen]; exact hcs, fun hp => ?_, fun y hy => ?_, by rw [hlen]; unfold maxLen at hm; omega, by rw [hlen]; exact hl, fun e => by cases e⟩
    · rw [hlen] at hp
      have h2 := (hF 0 (by omega)).2 0 (by decide)
      have h2 : W.cell? ((a.add (0 * 2)).add 0) = some (.int .i64 (F 0).op) := h2
      have h3 : a.block < W.heap.size := by
        have := World.block_lt_of_cell? W _ h2
        simpa [Addr.add] using this
      obtain ⟨b, off, spot⟩ := a
      have hspot : spot = none := by simpa [Addr.add] using World.cell?_spot h2
      subst hspot
      refine ⟨b, off, rfl, h3, fun j hj => ?_⟩
      rw [hlen] at hj
      rw [hget j hj]
      have q := (hF j (by omega)).2
      have ad : ∀ i, ((⟨b, off, none⟩ : Addr).add (j * 2)).add i = ⟨b, off + j * 2 + i, none⟩ := fun i => by rw [addA14, addA14]
      simp only [ad] at q
      exact ⟨q 0 (by decide), q 1 (by decide)⟩
    · obtain ⟨i, hi2, rfl⟩ := List.mem_map.1 hy
      exact (hF i (by have := List.mem_range.1 hi2; omega)).1

set_option maxRecDepth 100000 in
/-- a slice of steps that came in -/
theorem open_codes {H : Type} {enc : TypeId × Value → H} {W : World} {base : Nat} {v : Value} {D : DataW H} {ps : List MemPlace} (hval : Value.okWide Tryd.prog W .any base 22 v)
    (h : DataW.Trod enc Tryd.prog W 0 (fun _ => true) true 22 v D ps) : ∃ A c xs, v = .slice A xs.length c ∧ SlC W A xs ∧ FitC xs ∧ xs.length ≤ 9223372036854775807 ∧ xs.length ≤ c ∧ (A = none → c = 0) := by
  obtain ⟨a0, len, cap, rfl⟩ := okWide_slice Tryd.underlying22 hval
  obtain ⟨fuel, hf⟩ := h
  obtain ⟨A, c, xs, hcs, r⟩ := read_codes hf
  simp [Value.cells] at hcs
  obtain ⟨rfl, rfl, rfl⟩ := hcs
  exact ⟨_, _, xs, rfl, r⟩


theorem tabName : Tryd.prog.globalNamed "cloisonne/expr.changes" = some 1 := by kernel_rfl
theorem tabType : (Tryd.prog.globals[1]?).map (·.type) = some 62 := by kernel_rfl
theorem cellsTab : Tryd.prog.cellsOf 62 = 34 := by kernel_rfl
theorem cellsCh : Tryd.prog.cellsOf 61 = 2 := by kernel_rfl
def tabL : List (Int × Int) := [(0, 0), (0, 1), (0, 1), (2, 1), (2, 1), (2, 1), (2, 1), (2, 1), (2, 1), (1, 1), (1, 1), (1, 1), (1, 2), (2, 2), (1, 0), (1, 1), (3, 1)]
theorem tabL_at : ∀ k : Nat, k < 17 → 1 ≤ k → tabL[k]? = some (((tk (k : Int) : Nat) : Int), ((pt (k : Int) : Nat) : Int)) := by decide
theorem laid_eq : (Rows.laid_cloisonne_expr_changes : DataW Unit) = .agg (tabL.map fun z => .agg [.lit (.int .i64 z.1), .lit (.int .i64 z.2)]) := rfl
theorem arr_get {H : Type} {enc : TypeId × Value → H} {P : Program} {w : World} {base : Nat} {sp : Nat → Bool} {held : Bool} {fuel : Nat} {t e : TypeId} {n m : Nat} {cs : List Value} {d : DataW H} {p : List MemPlace}
    (ht : P.underlying t = some (.array n e)) (hce : P.cellsOf e = m) (hct : P.cellsOf t = n * m)
    (h : DataW.trod enc P w base sp held fuel t cs = some (d, p)) : ∃ (fuel' : Nat) (xs : List (DataW H × List MemPlace)), xs.length = n ∧ d = .agg (xs.map (·.1)) ∧ cs.length = n * m ∧ ∀ i, i < n → ∃ b, xs[i]? = some b ∧ DataW.trod enc P w base sp held fuel' e ((cs.drop (i * m)).take m) = some b := by
  cases fuel with
  | zero => simp [DataW.trod] at h
  | succ fuel =>
    simp only [DataW.trod, ht, hce, hct] at h
    split at h
    · rename_i hl
      obtain ⟨xs, hm, hx⟩ := Option.map_eq_some_iff.1 h
      injection hx with hx1 hx2
      refine ⟨fuel, xs, by simpa using Lib.mapM_length hm, hx1.symm, hl, fun i hi => ?_⟩
      obtain ⟨b, hb, hf⟩ := Lib.mapM_at hm i i (by simp [hi])
      exact ⟨b, hb, hf⟩
    · cases h
set_option maxRecDepth 100000 in
/-- the table, out of what the row lists -/
theorem tabH_of_laid {W : World} (h : laidMetH Tryd.prog [("cloisonne/expr.changes", Rows.laid_cloisonne_expr_changes)] W) : TabH W := by
  rw [MakeChecks.laidMetH_plain _ _ _ (by kernel_rfl)] at h
  obtain ⟨ps, ⟨g, t, cs, fuel, p, q, hg, ht, hvar, hd, _, _⟩, _⟩ := h
  obtain rfl := Option.some.inj (tabName.symm.trans hg)
  obtain rfl := Option.some.inj (tabType.symm.trans ht)
  obtain ⟨fuel', xs, hxl, hxd, hcl, hat⟩ := arr_get Tryd.underlying62 cellsCh cellsTab hd
  rw [laid_eq] at hxd
  injection hxd with hxd
  have one : ∀ k, k < 17 → 1 ≤ k → cs.toList[k * 2]? = some (.int .i64 ((tk (k : Int) : Nat) : Int)) ∧ cs.toList[k * 2 + 1]? = some (.int .i64 ((pt (k : Int) : Nat) : Int)) := by
    intro k hk hk1
    obtain ⟨b, hb, hf⟩ := hat k hk
    have hb2 : (xs.map (·.1))[k]? = some b.1 := by simp [hb]
    rw [← hxd, List.getElem?_map, tabL_at k hk hk1] at hb2
    simp only [Option.map_some, Option.some.injEq] at hb2
    have hlen : ((cs.toList.drop (k * 2)).take 2).length = 2 := by rw [List.length_take, List.length_drop, hcl]; omega
    obtain ⟨c0, c1, hc⟩ := two_of14 hlen
    rw [hc] at hf
    obtain ⟨ys, n', _, hy, _, hyl, hfs⟩ := DataW.trod_struct Tryd.underlying61 hf
    obtain ⟨y0, y1, rfl⟩ := two_of14 (show ys.length = 2 from hyl)
    have f0 : DataW.trod (fun _ => ()) Tryd.prog W 0 (fun _ => true) false n' 3 (([c0, c1].drop 0).take (Tryd.prog.cellsOf 3)) = some y0 := hfs 0 _ rfl
    have f1 : DataW.trod (fun _ => ()) Tryd.prog W 0 (fun _ => true) false n' 3 (([c0, c1].drop 1).take (Tryd.prog.cellsOf 3)) = some y1 := hfs 1 _ rfl
    rw [cellsI14] at f0 f1
    obtain ⟨n0, e0, z0, w0⟩ := DataW.trod_int Tryd.underlying3 f0
    obtain ⟨n1, e1, z1, w1⟩ := DataW.trod_int Tryd.underlying3 f1
    simp at e0 e1
    rw [hy, z0, z1] at hb2
    injection hb2 with hb2
    injection hb2 with h1 h2
    injection h2 with h2
    injection h1 with h1
    injection h1 with _ h1
    injection h2 with h2
    injection h2 with _ h2
    have q0 : ((cs.toList.drop (k * 2)).take 2)[0]? = some c0 := by rw [hc]; rfl
    have q1 : ((cs.toList.drop (k * 2)).take 2)[1]? = some c1 := by rw [hc]; rfl
    rw [List.getElem?_take, if_pos (by decide), List.getElem?_drop] at q0 q1
    refine ⟨?_, ?_⟩
    · rw [Nat.add_zero] at q0
      rw [q0, e0, h1]
    · rw [q1, e1, h2]
  have cell : ∀ i, W.cell? ⟨1, i, none⟩ = cs.toList[i]? := fun i => by
    rw [World.var?_cell tabName hvar i, Array.getElem?_toList]
  refine ⟨?_, fun k h1 h2 => ?_⟩
  · exact World.block_lt_of_cell? W _ ((cell _).trans (one 1 (by decide) (by decide)).1)
  · obtain ⟨a, b⟩ := one k (by omega) h2
    exact ⟨(cell _).trans a, (cell _).trans b⟩

/-- 64 bits that came in -/
theorem natU {x : Int} (h : (Lit.int .u64 x).wf = true) : ∃ n : Nat, x = (n : Int) ∧ Fits n := by
  have hb := bounds_u64 h
  exact ⟨x.toNat, by omega, Fits.mk (by omega)⟩

end Go.Proofs.YtjahaegdmfgmgaaDoor
