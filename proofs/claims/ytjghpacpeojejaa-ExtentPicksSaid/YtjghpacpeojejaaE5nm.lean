/- The program's World: what New lays, extent by extent. -/
import Derived.Test.YtjghpacpeojejaaE5g
import Derived.Laws.OwnMore
namespace Go.Proofs.Ytjghpacpeojejaa
open Go.RowKit Go.Maps

def rowE (ds ms : Nat → Nat) (s : Nat) (i : Nat) : List Value := [.slice (some ⟨ds i, 0, none⟩) s s, .map (some (ms i))]
def rowsE (ds ms : Nat → Nat) (s k : Nat) : List Value := (List.range k).flatMap (rowE ds ms s)
theorem rowE_len (ds ms : Nat → Nat) (s i : Nat) : (rowE ds ms s i).length = 2 := rfl
theorem rowsE_len (ds ms : Nat → Nat) (s k : Nat) : (rowsE ds ms s k).length = k * 2 := by
  unfold rowsE; rw [flat_len (rowE_len ds ms s), List.length_range]
theorem rowsE_at (ds ms : Nat → Nat) (s k i j : Nat) (hi : i < k) (hj : j < 2) : (rowsE ds ms s k)[i * 2 + j]? = (rowE ds ms s i)[j]? := by
  have h := flat_at (rowE_len ds ms s) (List.range k) i j (by rw [List.length_range]; exact hi) hj
  rw [List.getElem_range] at h
  exact h
def updN (f : Nat → Nat) (k d : Nat) : Nat → Nat := fun i => if i = k then d else f i
theorem updN_same (f : Nat → Nat) (k d : Nat) : updN f k d k = d := by unfold updN; rw [if_pos rfl]
theorem updN_lt (f : Nat → Nat) {k i : Nat} (d : Nat) (h : i < k) : updN f k d i = f i := by unfold updN; rw [if_neg (by omega)]
theorem rowsE_succ (ds ms : Nat → Nat) (s k d n : Nat) : rowsE (updN ds k d) (updN ms k n) s (k + 1) = rowsE ds ms s k ++ [.slice (some ⟨d, 0, none⟩) s s, .map (some n)] := by
  unfold rowsE
  rw [List.range_succ, List.flatMap_append]
  congr 1
  · rw [List.flatMap_def, List.flatMap_def]
    congr 1
    apply List.map_congr_left
    intro i hi
    rw [List.mem_range] at hi
    unfold rowE; rw [updN_lt ds d hi, updN_lt ms n hi]
  · simp [rowE, updN_same]
def noSecs (s : Nat) : List Value := (List.replicate s (⟨#[]⟩ : ByteArray)).flatMap secL
/-- k extents are made -/
structure MakeE (w : World) (b B s k : Nat) (v : Value) (ds ms : Nat → Nat) : Prop where
  on : w.cell? ⟨b, 0, none⟩ = some (.bool true)
  fz : w.frozen? ⟨b, 0, none⟩ = false
  sec : w.cell? ⟨b, 1, none⟩ = some (.int .i64 s)
  ext : w.cell? ⟨b, 2, none⟩ = some v
  fz2 : w.frozen? ⟨b, 2, none⟩ = false
  lt : b < B
  size : B ≤ w.heap.size
  own : w.ownsRow B 63 2 v k (rowsE ds ms s k)
  row : ∀ i, i < k → RowAt w (ds i) (noSecs s) 74 ∧ B ≤ ds i
  map : ∀ i, i < k → w.ownsMap Try.prog 3 secElem (ms i) 0 (.map []) ∧ B ≤ ms i
  apart : ∀ i j, i < k → j < k → i ≠ j → ds i ≠ ds j ∧ ms i ≠ ms j
section
variable {w w' : World} {b B s k : Nat} {v : Value} {ds ms : Nat → Nat}
theorem MakeE.below (h : MakeE w b B s k v ds ms) (hb : Below w.heap.size w w') : MakeE w' b B s k v ds ms := by
  have hc : Chg (fun _ => False) w w' := Chg.of_below hb
  have hlb : b < w.heap.size := Nat.lt_of_lt_of_le h.lt h.size
  refine ⟨hc.cell h.on id, by rw [frozen_chg hc hlb id]; exact h.fz, hc.cell h.sec id, hc.cell h.ext id, by rw [frozen_chg hc hlb id]; exact h.fz2, h.lt, Nat.le_trans h.size hb.size, ?_, fun i hi => ⟨(h.row i hi).1.keep hc id, (h.row i hi).2⟩, fun i hi => ⟨ownsMap_chg (h.map i hi).1 hc id, (h.map i hi).2⟩, h.apart⟩
  exact h.own.kept (row := none) ⟨hb.os, hb.tape, hb.output, hb.size, fun i hi _ => hb.block i hi⟩ (by
    rcases h : v.ownBlock with _ | x
    · exact .inl rfl
    · exact .inr (by simp))
theorem ext_ne_sector : (63 : TypeId) ≠ 74 := by decide
theorem own_not_row {xs cs : List Value} {n g : Nat} (h : w.ownsRow B 63 2 v n xs) (hr : RowAt w g cs 74) : v.ownBlock ≠ some g := by
  intro e
  rcases h.2 with ⟨rfl, _⟩ | ⟨g', cap, cur, rfl, _, hg, _⟩
  · cases e
  · simp only [Value.ownBlock, Option.some.injEq] at e
    subst e
    unfold RowAt at hr
    rw [hr] at hg
    simp only [Option.some.injEq, Obj.cells.injEq] at hg
    exact ext_ne_sector hg.2.1.symm
theorem own_not_map {xs : List Value} {n g n' : Nat} {D : DataW Unit} (h : w.ownsRow B 63 2 v n xs) (hm : w.ownsMap Try.prog 3 secElem g n' D) : v.ownBlock ≠ some g := by
  intro e
  rcases h.2 with ⟨rfl, _⟩ | ⟨g', cap, cur, rfl, _, hg, _⟩
  · cases e
  · simp only [Value.ownBlock, Option.some.injEq] at e
    subst e
    obtain ⟨es, c, hb, _⟩ := hm
    rw [hb] at hg
    cases hg
/-- one more -/
theorem MakeE.step (h : MakeE w b B s k v ds ms) {d n : Nat} (hd : RowAt w d (noSecs s) 74) (hn : w.ownsMap Try.prog 3 secElem n 0 (.map [])) (hdB : B ≤ d) (hnB : B ≤ n) (hnew : ∀ i, i < k → ds i ≠ d ∧ ms i ≠ n)
    {w3 : World} {v' : Value} (hg : w.grownBy w3 v.ownBlock) (ho : w3.ownsRow B 63 2 v' (k + 1) (rowsE ds ms s k ++ [.slice (some ⟨d, 0, none⟩) s s, .map (some n)])) :
    MakeE (w3.setCell ⟨b, 2, none⟩ v') b B s (k + 1) v' (updN ds k d) (updN ms k n) := by
  have ob : v.ownBlock ≠ some b := by
    intro e
    have := (h.own.lt b e).1
    have := h.lt; omega
  have hlb : b < w.heap.size := Nat.lt_of_lt_of_le h.lt h.size
  have hc : Chg (fun q => v.ownBlock = some q) w w3 := (Chg.refl _ _).grown hg (fun q e => .inl e)
  have hc2 : Chg (fun q => v.ownBlock = some q ∨ q = b) w (w3.setCell ⟨b, 2, none⟩ v') := (hc.mono fun i q => .inl q).setCell (p := ⟨b, 2, none⟩) (.inl (.inr rfl)) _
  have row : ∀ g, RowAt w g (noSecs s) 74 → B ≤ g → RowAt (w3.setCell ⟨b, 2, none⟩ v') g (noSecs s) 74 := fun g hr hB => hr.keep hc2 (by
    rintro (q | q)
    · exact own_not_row h.own hr q
    · have := h.lt; omega)
  have map : ∀ g, w.ownsMap Try.prog 3 secElem g 0 (.map []) → B ≤ g → (w3.setCell ⟨b, 2, none⟩ v').ownsMap Try.prog 3 secElem g 0 (.map []) := fun g hr hB => ownsMap_chg hr hc2 (by
    rintro (q | q)
    · exact own_not_map h.own hr q
    · have := h.lt; omega)
  refine ⟨?_, ?_, ?_, ?_, ?_, h.lt, Nat.le_trans h.size hc2.size, ?_, ?_, ?_, ?_⟩
  · rw [World.cell?_setCell_other _ _ _ _ (by intro q; cases q)]; exact hc.cell h.on ob
  · rw [World.frozen?_setCell, frozen_chg hc hlb ob]; exact h.fz
  · rw [World.cell?_setCell_other _ _ _ _ (by intro q; cases q)]; exact hc.cell h.sec ob
  · exact World.cell?_setCell_same _ _ _ (hc.cell h.ext ob)
  · rw [World.frozen?_setCell, frozen_chg hc hlb ob]; exact h.fz2
  · rw [rowsE_succ]
    refine ho.kept (row := some b) ⟨rfl, rfl, rfl, by simp [World.setCell], fun i _ hi => Below.heap_setCell _ _ _ _ (fun e => hi (by rw [e]))⟩ (.inr fun e => ?_)
    have := (ho.lt b e).1
    have := h.lt; omega
  · intro i hi
    by_cases e : i = k
    · subst e; rw [updN_same]; exact ⟨row d hd hdB, hdB⟩
    · rw [updN_lt ds d (by omega)]
      exact ⟨row _ (h.row i (by omega)).1 (h.row i (by omega)).2, (h.row i (by omega)).2⟩
  · intro i hi
    by_cases e : i = k
    · subst e; rw [updN_same]; exact ⟨map n hn hnB, hnB⟩
    · rw [updN_lt ms n (by omega)]
      exact ⟨map _ (h.map i (by omega)).1 (h.map i (by omega)).2, (h.map i (by omega)).2⟩
  · intro i j hi hj hne
    by_cases e : i = k
    · subst e
      rw [updN_same, updN_same, updN_lt ds d (show j < i by omega), updN_lt ms n (show j < i by omega)]
      exact ⟨fun q => (hnew j (by omega)).1 q.symm, fun q => (hnew j (by omega)).2 q.symm⟩
    · by_cases e' : j = k
      · subst e'
        rw [updN_same, updN_same, updN_lt ds d (show i < j by omega), updN_lt ms n (show i < j by omega)]
        exact hnew i (by omega)
      · rw [updN_lt ds d (by omega), updN_lt ms n (by omega), updN_lt ds d (by omega), updN_lt ms n (by omega)]
        exact h.apart i j (by omega) (by omega) hne
theorem MakeE.start (w : World) (s : Nat) : MakeE (w.alloc (.cells #[.bool true, .int .i64 s, .slice none 0 0] 59)) w.heap.size (w.heap.size + 1) s 0 (.slice none 0 0) (fun _ => 0) (fun _ => 0) := by
  have R := RowAt.new w [.bool true, .int .i64 s, .slice none 0 0] 59
  exact ⟨R.cell 0, R.frozen 0, R.cell 1, R.cell 2, R.frozen 2, by omega, by simp, World.ownsRow_nil _ _ _ _, fun i hi => absurd hi (by omega), fun i hi => absurd hi (by omega), fun i _ hi => absurd hi (by omega)⟩
theorem new_secAt (e s i : Nat) : (Ext.new e s).secAt i = Sec0 := by
  unfold Ext.secAt Ext.new
  show (List.replicate (e * s) Sec0).getD i Sec0 = _
  rw [List.getD_eq_getElem?_getD, List.getElem?_replicate]
  split <;> rfl
theorem new_drys (e s i : Nat) : drys (Ext.new e s) i = List.replicate s ⟨#[]⟩ := by
  apply List.ext_getElem (by rw [drys_len, List.length_replicate]; rfl)
  intro j h1 h2
  rw [List.length_replicate] at h2
  rw [drys_get (Ext.new e s) i j h2, new_secAt, List.getElem_replicate]; rfl
theorem MakeE.rep {e : Nat} (h : MakeE w b B s e v ds ms) (he : Ext.fits e s = true) : ∃ g cap, v = .slice (some ⟨g, 0, none⟩) e cap ∧ B ≤ g ∧ RepE w b g cap ds ms (fun _ => .map []) (Ext.new e s) := by
  have ho := Ext.new_ok he
  rcases id h.own.2 with ⟨rfl, hn⟩ | ⟨g, cap, cur, rfl, hB, _⟩
  · have := ho.1; change 1 ≤ e at this; omega
  · refine ⟨g, cap, rfl, hB, ho, h.on, h.fz, h.sec, h.ext, fun i hi => ?_, fun i hi => ?_, fun i hi => ?_, fun i hi => ?_, fun i hi => ?_, fun i => ?_, h.apart⟩
    · have hi2 : i < e := hi
      rw [show i * 2 = i * 2 + 0 by omega, World.ownsRow.cellAt h.own (i * 2 + 0) (by omega), rowsE_at ds ms s e i 0 hi2 (by omega)]; rfl
    · have hi2 : i < e := hi
      rw [World.ownsRow.cellAt h.own (i * 2 + 1) (by omega), rowsE_at ds ms s e i 1 hi2 (by omega)]; rfl
    · rw [new_drys]; exact (h.row i hi).1
    · exact (h.map i hi).1
    · exact ⟨fun x hx => by simp [Maps.has] at hx, fun a ha => by rw [new_secAt]; rfl, fun a ha hw => by rw [new_secAt] at hw; cases hw⟩
    · rw [new_secAt]; exact ⟨by decide, by decide, fun _ => rfl⟩
end

theorem made_rows {l : List Value} {x : ByteArray} (hl : l.length = 65) (hx : secL x = l) (n : Nat) : madeCells l.toArray (n * 65) = ((List.replicate n x).flatMap secL).toArray := by
  apply Array.ext
  · rw [size_madeCells]; simp only [List.size_toArray]; rw [flat_len secL_len]; simp
  intro i h1 h2
  rw [size_madeCells] at h1
  have e : i = i / 65 * 65 + i % 65 := by omega
  have hi : i / 65 < (List.replicate n x).length := by rw [List.length_replicate]; omega
  have h3 := flat_at secL_len (List.replicate n x) (i / 65) (i % 65) hi (Nat.mod_lt _ (by omega))
  rw [← e, List.getElem_replicate, hx] at h3
  have h5 : (madeCells l.toArray (n * 65))[i]'(by rw [size_madeCells]; exact h1) = l.toArray[i % 65]! := by
    unfold madeCells; simp [hl]
  rw [h5]
  have h7 : (((List.replicate n x).flatMap secL).toArray)[i]'h2 = ((List.replicate n x).flatMap secL)[i]'(by simpa using h2) := by simp
  have h8 : i % 65 < l.length := by rw [hl]; exact Nat.mod_lt _ (by omega)
  rw [h7]
  rw [List.getElem?_eq_getElem (by simpa using h2), List.getElem?_eq_getElem h8] at h3
  rw [Option.some.inj h3]
  simp [h8]
/-- make([]sector, n) -/
theorem make_rows (n : Nat) (hn : n ≤ 128) (W : World) : (Instr.makeSlice 60 (.int .i64 (n : Int)) (.int .i64 (n : Int))).run Try.prog W = .ok (.slice (some ⟨W.heap.size, 0, none⟩) n n) (W.alloc (.cells (noSecs n).toArray 74)) := by
  obtain ⟨i0, hi, hz0, hz1, hz2⟩ := info_parts infoS74
  have h := run_make (P := Try.prog) W 60 74 i0 _ Try.underlying60 hi hz0 .i64 .i64 (n : Int) (n : Int) (by omega) (by omega) (by rw [hz2]; omega) (by omega)
  rw [hz1, show (Value.agg (rawL 0).toArray).cells = (rawL 0).toArray from rfl] at h
  unfold noSecs
  rw [← made_rows (rawL_len 0) secL_nil n]
  simpa using h

end Go.Proofs.Ytjghpacpeojejaa
