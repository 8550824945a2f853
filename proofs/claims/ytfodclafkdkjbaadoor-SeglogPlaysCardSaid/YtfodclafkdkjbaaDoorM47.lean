/- Proved parts: S7gl S7i. Conditions: each theorem's own. -/
import Derived.Test.YtfodclafkdkjbaaDoorM45
import Derived.Test.YtfodclafkdkjbaaDoorM46
import Derived.Test.YtfodclafkdkjbaaDoorM35
import Derived.Test.YtfodclafkdkjbaaDoorM9
import Derived.Deep.Slices
namespace Go.Proofs.YtfodclafkdkjbaaDoor
open Go.RowKit

set_option maxRecDepth 100000 in
theorem qMoveNil (w : World) : Calls Tryd.prog 22 #[.pointer none] w fun x w' => x = .returned (.tuple #[.int .i64 0, .int .i64 2]) ∧ Below w.heap.size w w' := by
  go_enter Tryd.func22, Tryd.ntmps22
  go_wp2_with fail
  go_ret2
  exact ⟨rfl, Below.refl _ _⟩
set_option maxRecDepth 100000 in
theorem qRecordNil (s : ByteArray) (w : World) : Calls Tryd.prog 20 #[.pointer none, .string s] w fun x w' => x = .returned (.tuple #[.pointer none, .int .i64 2]) ∧ Below w.heap.size w w' := by
  go_enter Tryd.func20, Tryd.ntmps20
  go_wp2_with fail
  go_ret2
  exact ⟨rfl, Below.refl _ _⟩
set_option maxRecDepth 100000 in
theorem qBaseNil (s : ByteArray) (w : World) : Calls Tryd.prog 21 #[.pointer none, .string s] w fun x w' => x = .returned (.tuple #[.pointer none, .int .i64 2]) ∧ Below w.heap.size w w' := by
  go_enter Tryd.func21, Tryd.ntmps21
  go_wp2_with fail
  go_ret2
  exact ⟨rfl, Below.refl _ _⟩
set_option maxRecDepth 100000 in
theorem qRoomNil (n : Int) (w : World) : Calls Tryd.prog 16 #[.pointer none, .int .i64 n] w fun x w' => x = .returned (.bool false) ∧ Below w.heap.size w w' := by
  go_enter Tryd.func16, Tryd.ntmps16
  go_wp2_with fail
  go_quiet (fail)
  go_wp2_with fail
  go_ret
  exact ⟨rfl, belowDN _ _⟩

theorem write_some {l : Lg} {S : Nat} {s : ByteArray} {b : Bool} {y : Wr} (h : (l.write S s b).2.1 = some y) (hg : l.gen ≤ 2147483647) : (l.write S s b).1 = { l with busy := true } ∧ y = ⟨b, partsOf s, 0⟩ ∧ l.fr b + (partsOf s).length ≤ S ∧ l.gn b ≤ 2147483647 := by
  unfold Lg.write at h ⊢
  by_cases h1 : l.busy = true
  · rw [if_pos h1] at h; cases h
  rw [if_neg h1] at h ⊢
  by_cases h2 : (!b && decide (l.gen = 0)) = true
  · rw [if_pos h2] at h; cases h
  rw [if_neg h2] at h ⊢
  by_cases h3 : S < l.fr b + cntN s.size
  · rw [if_pos (decide_eq_true h3)] at h; cases h
  rw [if_neg (by simpa using h3)] at h ⊢
  by_cases h4 : (decide (2147483647 < l.life) || (b && decide (2147483647 ≤ l.gen))) = true
  · rw [if_pos h4] at h; cases h
  rw [if_neg h4] at h ⊢
  injection h with h
  refine ⟨rfl, h.symm, by rw [partsOf_len]; omega, ?_⟩
  unfold Lg.gn
  cases b with
  | false => exact hg
  | true =>
    rw [if_pos rfl]
    simp only [Bool.or_eq_true, decide_eq_true_eq, Bool.true_and, not_or] at h4
    omega
/-- a writer is begun, or none -/
theorem begin_left {w w' : World} {N F : Nat → Prop} {b bl : Nat} {bx : Option Nat} {m : Ext} {l : Lg} {ox : Option Wr} {s : ByteArray} {v : Bool} {x : Ending} (h : QAt w N F b bl bx m l ox) (hp : BeginPost b bl l (l.write m.sec s v) w x w') :
    (match (l.write m.sec s v).2.1 with
      | none => x = .returned (.tuple #[.pointer none, .int .i64 (l.write m.sec s v).2.2]) ∧ theQ w' N b bl bx m l ox
      | some y => ∃ px, x = .returned (.tuple #[.pointer (some ⟨px, 0, none⟩), .int .i64 0]) ∧ theQ w' N b bl (some px) m (l.write m.sec s v).1 (some y)) ∧ Kept N w w' := by
  unfold BeginPost at hp
  cases ho : (l.write m.sec s v).2.1 with
  | none =>
    rw [ho] at hp
    exact ⟨⟨hp.1, F, h.below hp.2⟩, Kept.of_below hp.2⟩
  | some y =>
    rw [ho] at hp
    obtain ⟨px, gp, cp, rfl, hl, hr, hw, p1, p2, p3, hc⟩ := hp
    obtain ⟨e1, rfl, e3, e4⟩ := write_some ho h.log.g1
    have s4 := (RelX.ok h.x).2.2.2.1
    have lb := h.log.lt
    rw [e1]
    have nx : ∀ k, w.heap.size ≤ k → k ≠ bl ∧ ¬ F k ∧ ¬ N k := fun k hk => ⟨by omega, fun hF => by have := RelX.lt h.x hF; omega, fun hN => by have := h.nl k hN; omega⟩
    obtain ⟨x1, x2, x3⟩ := nx px p1
    obtain ⟨y1, y2, y3⟩ := nx gp p2
    refine ⟨⟨px, rfl, F, RelX.keep h.x (fun k hk => hc.block k (RelX.lt h.x hk) (fun q => h.bF (q ▸ hk))) hc.size, h.fn, fun k hk => Nat.lt_of_lt_of_le (h.nl k hk) hc.size, h.bF, h.bN, hl, px, rfl, x1, x2, x3, .inr ⟨?_, ?_, e4, gp, cp, y1, p3, y2, y3, hr, hw⟩⟩, hc.mono fun k q => q ▸ h.bN⟩
    · show 0 < (partsOf s).length + 2
      omega
    · show l.fr v + (partsOf s).length ≤ 1000
      omega
theorem p_left {w w' : World} {N F : Nat → Prop} {b : Nat} {m' : Ext} (hfn : ∀ k, F k → ¬ N k) (hnl : ∀ k, N k → k < w.heap.size) (h : LeftE RelX b F w m' w') : theP w' N b m' ∧ Kept N w w' := by
  obtain ⟨hc, F', hx', hF⟩ := h
  refine ⟨⟨F', hx', fun k hk hN => ?_, fun k hN => Nat.lt_of_lt_of_le (hnl k hN) hc.size⟩, hc.mono fun k hk => hfn k hk⟩
  rcases hF k hk with q | q
  · exact hfn k q hN
  · have := hnl k hN; omega

/-- ████ SegAt ████ -/
theorem theX7 : SegAt theP theQ where
  pKeep := by
    rintro w w' N M b m ⟨F, hx, hfn, hnl⟩ hk hs hm hl
    refine ⟨F, RelX.keep hx (fun k hF => hk k (RelX.lt hx hF) (hfn k hF)) hs, fun k hF hM => ?_, hl⟩
    rcases hm k hM with q | q
    · exact hfn k hF q
    · have := RelX.lt hx hF; omega
  pLt := fun ⟨_, _, _, hnl⟩ => hnl
  qKeep := fun ⟨F, h⟩ hk hs hm hl => ⟨F, h.keep hk hs hm hl⟩
  pOk := fun ⟨_, hx, _⟩ => ⟨RelX.ok hx, RelX.small hx⟩
  qP := fun ⟨F, h⟩ => ⟨F, h.x, h.fn, h.nl⟩
  qWorld := by
    rintro w N b bl bx m l ox ⟨F, h⟩
    refine ⟨fun k => k < w.heap.size ∧ ¬ F k, ⟨F, h.x, fun k hF hN => hN.2 hF, fun k hN => hN.1⟩, fun k hN => ⟨h.nl k hN, fun hF => h.fn k hF hN⟩, ?_⟩
    rintro w' m' hkp ⟨F', hx', hfn', hnl'⟩ _
    refine ⟨F', hx', fun k hk hN => hfn' k hk ⟨h.nl k hN, fun hF => h.fn k hF hN⟩, fun k hN => Nat.lt_of_lt_of_le (h.nl k hN) hkp.size, fun hk => hfn' bl hk ⟨h.log.lt, h.bF⟩, h.bN, h.log.keep (hkp.block ⟨h.log.lt, h.bF⟩ h.log.lt), ?_⟩
    exact h.wr.keep fun k hl _ hF hN => ⟨hkp.block ⟨hl, hF⟩ hl, fun hk => hfn' k hk ⟨hl, hF⟩, hN⟩
  new := fun e s w he hs => (xNew e s w he hs).mono fun x w' k => ⟨k.1, k.2.imp (fun ⟨k1, b, F, k2, k3, k4⟩ => ⟨k1, b, k2, F, k3, fun j hj hN => by have := k4 j hj; omega, fun j hN => Nat.lt_of_lt_of_le hN k.1.size⟩) id⟩
  read := fun N b m e a w ⟨F, hx, hfn, hnl⟩ _ _ => (xReadB b F m e a w hx).mono fun x w' k => ⟨k.1, ⟨F, RelX.keep hx (fun j hj => k.2.block j (RelX.lt hx hj)) k.2.size, hfn, fun j hN => Nat.lt_of_lt_of_le (hnl j hN) k.2.size⟩, Kept.of_below k.2⟩
  crash := fun N b m A c ps w ⟨F, hx, hfn, hnl⟩ hs hd hk _ => (xCrash b F m A c ps w hx hs (fun h0 g o hA hF => hfn g hF (hd h0 g o hA)) hk).mono fun x w' k => ⟨k.1, p_left hfn hnl k.2⟩
  start := fun N b m w ⟨F, hx, hfn, hnl⟩ => (xStart b F m w hx).mono fun x w' k => ⟨k.1, p_left hfn hnl k.2⟩
  lay := fun N b m e a s w ⟨F, hx, hfn, hnl⟩ he ha hs => (xLay b F m e a s w hx he ha hs).mono fun x w' k => ⟨k.1, p_left hfn hnl k.2⟩
  openNil := fun f w _ => qOpenNil f w
  openNo := fun N b m f w ⟨F, hx, hfn, hnl⟩ _ hn => (qOpenNo b F m f w hx hn).mono fun x w' k => ⟨k.1, ⟨F, RelX.keep hx (fun j hj => k.2.block j (RelX.lt hx hj)) k.2.size, hfn, fun j hN => Nat.lt_of_lt_of_le (hnl j hN) k.2.size⟩, Kept.of_below k.2⟩
  openYes := fun N b m f w hP ho hf => qOpenYes N b m f w hP ho hf
  used := fun N b bl bx m l ox w hq => (qUsed b bl l w hq.choose_spec.log).mono fun x w' k => by obtain ⟨k1, rfl⟩ := k; exact ⟨k1, hq, Kept.refl _ _⟩
  usedNil := fun w => (qUsedNil w).mono fun x w' k => by obtain ⟨k1, rfl⟩ := k; exact ⟨k1, Below.refl _ _⟩
  gen := fun N b bl bx m l ox w hq => (qGen b bl l w hq.choose_spec.log).mono fun x w' k => by obtain ⟨k1, rfl⟩ := k; exact ⟨k1, hq, Kept.refl _ _⟩
  genNil := fun w => (qGenNil w).mono fun x w' k => by obtain ⟨k1, rfl⟩ := k; exact ⟨k1, Below.refl _ _⟩
  busy := fun N b bl bx m l ox w hq => (qBusy b bl l w hq.choose_spec.log).mono fun x w' k => by obtain ⟨k1, rfl⟩ := k; exact ⟨k1, hq, Kept.refl _ _⟩
  busyNil := fun w => (qBusyNil w).mono fun x w' k => by obtain ⟨k1, rfl⟩ := k; exact ⟨k1, Below.refl _ _⟩
  room := fun N b bl bx m l ox n w ⟨F, h⟩ hn => (qRoom b bl m.sec l n w h.log (RelX.cSec h.x) hn).mono fun x w' k => ⟨k.1, ⟨F, h.below k.2⟩, Kept.of_below k.2⟩
  roomNil := fun n w _ => qRoomNil n w
  record := fun N b bl bx m l ox s w ⟨F, h⟩ hs => (qRecord b bl m.sec l s w h.log (RelX.cSec h.x) hs).mono fun x w' k => begin_left h k
  recordNil := fun s w _ => qRecordNil s w
  base := fun N b bl bx m l ox s w ⟨F, h⟩ hs => (qBase b bl m.sec l s w h.log (RelX.cSec h.x) hs).mono fun x w' k => begin_left h k
  baseNil := fun s w _ => qBaseNil s w
  move := fun N b bl px m l y w hq ok => qMove N b bl px m l y w hq ok
  moveNil := qMoveNil

end Go.Proofs.YtfodclafkdkjbaaDoor

namespace Go.Proofs.YtfodclafkdkjbaaDoor
open Go.ChangeShapes Go.WideShapes Go.ChangeAt Go.RowKit

theorem cellsPk7 : Tryd.prog.cellsOf 100 = 2 := by kernel_rfl
theorem cellsJ7 : Tryd.prog.cellsOf 3 = 1 := by kernel_rfl
theorem cellsSt7 : Tryd.prog.cellsOf 9 = 1 := by kernel_rfl
theorem cellsPks7 : Tryd.prog.cellsOf 38 = 1 := by kernel_rfl
theorem cellsAc7 : Tryd.prog.cellsOf 40 = 5 := by kernel_rfl
theorem two_of7 {α : Type} {l : List α} (h : l.length = 2) : ∃ a b, l = [a, b] := by
  match l, h with
  | [a, b], _ => exact ⟨a, b, rfl⟩
theorem five_of7 {α : Type} {l : List α} (h : l.length = 5) : ∃ a b c d e, l = [a, b, c, d, e] := by
  match l, h with
  | [a, b, c, d, e], _ => exact ⟨a, b, c, d, e, rfl⟩

/-- a slice of picks that was read -/
theorem read_picks7 {H : Type} {enc : TypeId × Value → H} {W : World} {fuel : Nat} {cs : List Value} {x : DataW H × List MemPlace}
    (h : DataW.trod enc Tryd.prog W 0 (fun _ => true) true fuel 38 cs = some x) :
    ∃ A c ps, cs = [.slice A ps.length c] ∧ SlPk W A ps ∧ (A = none → ps = [] ∧ c = 0) ∧ (0 < ps.length → ∀ q o, A = some ⟨q, o, none⟩ → q < W.heap.size) ∧ PkOk ps := by
  rcases Deep.open_slice Tryd.underlying38 h with ⟨hcs, _⟩ | ⟨a, len, cap, m, n, D, Pl, hcs, _, hl, hm, hmm, hx, hi⟩
  · exact ⟨none, 0, [], hcs, fun hp => absurd hp (by simp), fun _ => ⟨rfl, rfl⟩, fun hp => absurd hp (by simp), by simp, fun q hq => by cases hq⟩
  · simp only [if_true] at hmm
    subst hmm
    have hone : ∀ i, i < m → ∃ y : Int × Int, In64 y.1 ∧ In64 y.2 ∧ W.cell? (a.add (i * 2)) = some (.int .i64 y.1) ∧ W.cell? ((a.add (i * 2)).add 1) = some (.int .i64 y.2) := by
      intro i him
      obtain ⟨cs', hc', ht'⟩ := hi i him
      rw [cellsPk7] at hc'
      obtain ⟨_, hcl, hat⟩ := World.cells?_some hc'
      obtain ⟨ys, n', _, hy, _, hyl, hf⟩ := DataW.trod_struct Tryd.underlying100 ht'
      obtain ⟨c0, c1, rfl⟩ := two_of7 hcl
      obtain ⟨y0, y1, rfl⟩ := two_of7 (show ys.length = 2 from hyl)
      have f0 : DataW.trod enc Tryd.prog W 0 (fun _ => true) true n' 3 (([c0, c1].drop 0).take (Tryd.prog.cellsOf 3)) = some y0 := hf 0 _ rfl
      have f1 : DataW.trod enc Tryd.prog W 0 (fun _ => true) true n' 3 (([c0, c1].drop 1).take (Tryd.prog.cellsOf 3)) = some y1 := hf 1 _ rfl
      rw [cellsJ7] at f0 f1
      obtain ⟨n0, e0, _, w0⟩ := DataW.trod_int Tryd.underlying3 f0
      obtain ⟨n1, e1, _, w1⟩ := DataW.trod_int Tryd.underlying3 f1
      simp at e0 e1
      subst e0; subst e1
      have b0 := bounds_i64 w0
      have b1 := bounds_i64 w1
      refine ⟨(n0, n1), ⟨by show _ ≤ n0; omega, by show n0 ≤ _; omega⟩, ⟨by show _ ≤ n1; omega, by show n1 ≤ _; omega⟩, ?_, hat 1 (by omega)⟩
      have h0 := hat 0 (by omega)
      rw [show (a.add (i * 2)).add 0 = a.add (i * 2) by simp [Addr.add]] at h0
      exact h0
    obtain ⟨F, hF⟩ : ∃ F : Nat → Int × Int, ∀ i, i < m → In64 (F i).1 ∧ In64 (F i).2 ∧ W.cell? (a.add (i * 2)) = some (.int .i64 (F i).1) ∧ W.cell? ((a.add (i * 2)).add 1) = some (.int .i64 (F i).2) := by
      refine ⟨fun i => if h : i < m then (hone i h).choose else (0, 0), fun i h => ?_⟩
      simp only [dif_pos h]
      exact (hone i h).choose_spec
    have hlen : ((List.range len).map F).length = len := by simp
    have hget : ∀ j, j < len → ((List.range len).map F).getD j (0, 0) = F j := fun j hj => by
      rw [List.getD_eq_getElem?_getD, List.getElem?_map, List.getElem?_range hj]; rfl
    have hspot : 0 < len → a.spot = none := fun hp => by
      obtain ⟨_, _, h2, _⟩ := hF 0 (by omega)
      simpa [Addr.add] using World.cell?_spot h2
    have hblk : 0 < len → a.block < W.heap.size := fun hp => by
      obtain ⟨_, _, h2, _⟩ := hF 0 (by omega)
      have := World.block_lt_of_cell? W _ h2
      simpa [Addr.add] using this
    refine ⟨some a, m, (List.range len).map F, by rw [hlen]; exact hcs, fun hp => ?_, (fun e => by cases e), fun hp q o e => ?_, by rw [hlen]; unfold maxLen at hm; omega, fun y hy => ?_⟩
    · rw [hlen] at hp
      have h1 := hspot hp
      have h2 := hblk hp
      obtain ⟨b, off, spot⟩ := a
      simp only at h1 h2
      subst h1
      refine ⟨b, off, rfl, h2, fun j hj => ?_⟩
      rw [hlen] at hj
      rw [hget j hj]
      obtain ⟨_, _, h3, h4⟩ := hF j (by omega)
      simp only [add_plain] at h3 h4
      exact ⟨h3, h4⟩
    · rw [hlen] at hp
      have h2 := hblk hp
      injection e with e
      rw [e] at h2; exact h2
    · obtain ⟨i, hi2, rfl⟩ := List.mem_map.1 hy
      have := hF i (by have := List.mem_range.1 hi2; omega)
      exact ⟨this.1, this.2.1⟩


/-- a slice of strings that was read -/
theorem read_strs7 {H : Type} {enc : TypeId × Value → H} {W : World} {fuel : Nat} {cs : List Value} {x : DataW H × List MemPlace}
    (h : DataW.trod enc Tryd.prog W 0 (fun _ => true) true fuel 45 cs = some x) :
    ∃ A c zs, cs = [.slice A zs.length c] ∧ SlS W A zs ∧ zs.length ≤ 9223372036854775807 := by
  rcases Deep.open_slice Tryd.underlying45 h with ⟨hcs, _⟩ | ⟨a, len, cap, m, n, D, Pl, hcs, _, hl, hm, hmm, hx, hi⟩
  · exact ⟨none, 0, [], hcs, fun hp => absurd hp (by simp), by simp⟩
  · simp only [if_true] at hmm
    subst hmm
    have hone : ∀ i, i < m → ∃ y : ByteArray, W.cell? (a.add (i * 1)) = some (.string y) := by
      intro i him
      obtain ⟨cs', hc', ht'⟩ := hi i him
      rw [cellsSt7] at hc'
      obtain ⟨_, hcl, hat⟩ := World.cells?_some hc'
      obtain ⟨ss, e3, _, w3⟩ := DataW.trod_string Tryd.underlying9 ht'
      subst e3
      have h0 := hat 0 (by omega)
      rw [show (a.add (i * 1)).add 0 = a.add (i * 1) by simp [Addr.add]] at h0
      exact ⟨ss, h0⟩
    obtain ⟨F, hF⟩ : ∃ F : Nat → ByteArray, ∀ i, i < m → W.cell? (a.add (i * 1)) = some (.string (F i)) := by
      refine ⟨fun i => if h : i < m then (hone i h).choose else ⟨#[]⟩, fun i h => ?_⟩
      simp only [dif_pos h]
      exact (hone i h).choose_spec
    have hlen : ((List.range len).map F).length = len := by simp
    have hget : ∀ j, j < len → ((List.range len).map F).getD j ⟨#[]⟩ = F j := fun j hj => by
      rw [List.getD_eq_getElem?_getD, List.getElem?_map, List.getElem?_range hj]; rfl
    refine ⟨some a, m, (List.range len).map F, by rw [hlen]; exact hcs, fun hp => ?_, by rw [hlen]; unfold maxLen at hm; omega⟩
    rw [hlen] at hp
    have h2 := hF 0 (by omega)
    have h3 : a.block < W.heap.size := by
      have := World.block_lt_of_cell? W _ h2
      simpa [Addr.add] using this
    obtain ⟨b, off, spot⟩ := a
    have hspot : spot = none := by simpa [Addr.add] using World.cell?_spot h2
    subst hspot
    refine ⟨b, off, rfl, h3, fun j hj => ?_⟩
    rw [hlen] at hj
    rw [hget j hj]
    have g0 := hF j (by omega)
    simp only [add_plain, Nat.mul_one] at g0
    exact g0
set_option maxRecDepth 100000 in
/-- a slice of strings that came in -/
theorem open_strs7 {H : Type} {enc : TypeId × Value → H} {W : World} {base : Nat} {v : Value} {D : DataW H} {pl : List MemPlace} (hval : Value.okWide Tryd.prog W .any base 45 v)
    (h : DataW.Trod enc Tryd.prog W 0 (fun _ => true) true 45 v D pl) : ∃ A c zs, v = .slice A zs.length c ∧ SlS W A zs ∧ zs.length ≤ 9223372036854775807 := by
  obtain ⟨a0, len, cap, rfl⟩ := okWide_slice Tryd.underlying45 hval
  obtain ⟨fuel, hf⟩ := h
  obtain ⟨A, c, xs, hcs, r⟩ := read_strs7 hf
  simp [Value.cells] at hcs
  obtain ⟨rfl, rfl, rfl⟩ := hcs
  exact ⟨_, _, xs, rfl, r⟩

theorem SlPk.belowB7 {B : Nat} {w w' : World} {A : Option Addr} {ps : List (Int × Int)} (h : SlPk w A ps) (hb : Below B w w') (hA : 0 < ps.length → ∀ q o, A = some ⟨q, o, none⟩ → q < B) : SlPk w' A ps := fun hp => by
  obtain ⟨b, o, e, hl, hj⟩ := h hp
  have hB := hA hp b o e
  exact ⟨b, o, e, Nat.lt_of_lt_of_le hl hb.size, fun j h => ⟨(hb.cell (p := ⟨b, o + j * 2, none⟩) hB).trans (hj j h).1, (hb.cell (p := ⟨b, o + j * 2 + 1, none⟩) hB).trans (hj j h).2⟩⟩
/-- a step -/
structure Act7 where
  k : Int
  s : ByteArray
  e : Int
  a : Int
  ps : List (Int × Int)
def Act7.Ok (x : Act7) : Prop := In64 x.k ∧ In64 x.e ∧ In64 x.a ∧ x.s.size ≤ 9223372036854775807 ∧ PkOk x.ps
def Ac07 : Act7 := ⟨0, ⟨#[]⟩, 0, 0, []⟩
/-- the slice at A reads as the acts xs, below block B -/
def SlAc7 (B : Nat) (w : World) (A : Option Addr) (xs : List Act7) : Prop :=
  0 < xs.length → ∃ b o, A = some ⟨b, o, none⟩ ∧ b < B ∧ ∀ j, j < xs.length → ∃ AP cP,
    w.cell? ⟨b, o + j * 5, none⟩ = some (.int .i64 (xs.getD j Ac07).k) ∧ w.cell? ⟨b, o + j * 5 + 1, none⟩ = some (.string (xs.getD j Ac07).s) ∧ w.cell? ⟨b, o + j * 5 + 2, none⟩ = some (.int .i64 (xs.getD j Ac07).e) ∧
    w.cell? ⟨b, o + j * 5 + 3, none⟩ = some (.int .i64 (xs.getD j Ac07).a) ∧ w.cell? ⟨b, o + j * 5 + 4, none⟩ = some (.slice AP (xs.getD j Ac07).ps.length cP) ∧
    SlPk w AP (xs.getD j Ac07).ps ∧ (AP = none → (xs.getD j Ac07).ps = [] ∧ cP = 0) ∧ (0 < (xs.getD j Ac07).ps.length → ∀ q o, AP = some ⟨q, o, none⟩ → q < B)
theorem SlAc7.below {B : Nat} {w w' : World} {A : Option Addr} {xs : List Act7} (h : SlAc7 B w A xs) (hb : Below B w w') : SlAc7 B w' A xs := fun hp => by
  obtain ⟨b, o, e, hB, hj⟩ := h hp
  refine ⟨b, o, e, hB, fun j hjl => ?_⟩
  obtain ⟨AP, cP, h0, h1, h2, h3, h4, sp, hn, hq⟩ := hj j hjl
  exact ⟨AP, cP, (hb.cell (p := ⟨b, o + j * 5, none⟩) hB).trans h0, (hb.cell (p := ⟨b, o + j * 5 + 1, none⟩) hB).trans h1, (hb.cell (p := ⟨b, o + j * 5 + 2, none⟩) hB).trans h2, (hb.cell (p := ⟨b, o + j * 5 + 3, none⟩) hB).trans h3, (hb.cell (p := ⟨b, o + j * 5 + 4, none⟩) hB).trans h4, sp.belowB7 hb hq, hn, hq⟩
def AcsOk7 (xs : List Act7) : Prop := xs.length ≤ 9223372036854775807 ∧ ∀ x ∈ xs, x.Ok

/-- a slice of acts that was read -/
theorem read_acts7 {H : Type} {enc : TypeId × Value → H} {W : World} {fuel : Nat} {cs : List Value} {x : DataW H × List MemPlace}
    (h : DataW.trod enc Tryd.prog W 0 (fun _ => true) true fuel 22 cs = some x) :
    ∃ A c xs, cs = [.slice A xs.length c] ∧ SlAc7 W.heap.size W A xs ∧ AcsOk7 xs := by
  rcases Deep.open_slice Tryd.underlying22 h with ⟨hcs, _⟩ | ⟨a, len, cap, m, n, D, Pl, hcs, _, hl, hm, hmm, hx, hi⟩
  · exact ⟨none, 0, [], hcs, fun hp => absurd hp (by simp), by simp, fun q hq => by cases hq⟩
  · simp only [if_true] at hmm
    subst hmm
    have hone : ∀ i, i < m → ∃ y : Act7, y.Ok ∧ ∃ AP cP, W.cell? (a.add (i * 5)) = some (.int .i64 y.k) ∧ W.cell? ((a.add (i * 5)).add 1) = some (.string y.s) ∧ W.cell? ((a.add (i * 5)).add 2) = some (.int .i64 y.e) ∧
        W.cell? ((a.add (i * 5)).add 3) = some (.int .i64 y.a) ∧ W.cell? ((a.add (i * 5)).add 4) = some (.slice AP y.ps.length cP) ∧ SlPk W AP y.ps ∧ (AP = none → y.ps = [] ∧ cP = 0) ∧ (0 < y.ps.length → ∀ q o, AP = some ⟨q, o, none⟩ → q < W.heap.size) := by
      intro i him
      obtain ⟨cs', hc', ht'⟩ := hi i him
      rw [cellsAc7] at hc'
      obtain ⟨_, hcl, hat⟩ := World.cells?_some hc'
      obtain ⟨ys, n', _, hy, _, hyl, hf⟩ := DataW.trod_struct Tryd.underlying40 ht'
      obtain ⟨c0, c1, c2, c3, c4, rfl⟩ := five_of7 hcl
      obtain ⟨y0, y1, y2, y3, y4, rfl⟩ := five_of7 (show ys.length = 5 from hyl)
      have f0 : DataW.trod enc Tryd.prog W 0 (fun _ => true) true n' 3 (([c0, c1, c2, c3, c4].drop 0).take (Tryd.prog.cellsOf 3)) = some y0 := hf 0 _ rfl
      have f1 : DataW.trod enc Tryd.prog W 0 (fun _ => true) true n' 9 (([c0, c1, c2, c3, c4].drop 1).take (Tryd.prog.cellsOf 9)) = some y1 := hf 1 _ rfl
      have f2 : DataW.trod enc Tryd.prog W 0 (fun _ => true) true n' 3 (([c0, c1, c2, c3, c4].drop 2).take (Tryd.prog.cellsOf 3)) = some y2 := hf 2 _ rfl
      have f3 : DataW.trod enc Tryd.prog W 0 (fun _ => true) true n' 3 (([c0, c1, c2, c3, c4].drop 3).take (Tryd.prog.cellsOf 3)) = some y3 := hf 3 _ rfl
      have f4 : DataW.trod enc Tryd.prog W 0 (fun _ => true) true n' 38 (([c0, c1, c2, c3, c4].drop 4).take (Tryd.prog.cellsOf 38)) = some y4 := hf 4 _ rfl
      rw [cellsJ7] at f0 f2 f3
      rw [cellsSt7] at f1
      rw [cellsPks7] at f4
      obtain ⟨n0, e0, _, w0⟩ := DataW.trod_int Tryd.underlying3 f0
      obtain ⟨ss, e1, _, w1⟩ := DataW.trod_string Tryd.underlying9 f1
      obtain ⟨n2, e2, _, w2⟩ := DataW.trod_int Tryd.underlying3 f2
      obtain ⟨n3, e3, _, w3⟩ := DataW.trod_int Tryd.underlying3 f3
      obtain ⟨AP, cP, ps, e4, sp, hn, hq, hk⟩ := read_picks7 f4
      simp at e0 e1 e2 e3 e4
      subst e0; subst e1; subst e2; subst e3; subst e4
      have b0 := bounds_i64 w0
      have b2 := bounds_i64 w2
      have b3 := bounds_i64 w3
      refine ⟨⟨n0, ss, n2, n3, ps⟩, ⟨⟨by show _ ≤ n0; omega, by show n0 ≤ _; omega⟩, ⟨by show _ ≤ n2; omega, by show n2 ≤ _; omega⟩, ⟨by show _ ≤ n3; omega, by show n3 ≤ _; omega⟩, by show ss.size ≤ _; unfold maxLen at w1; omega, hk⟩, AP, cP, ?_, hat 1 (by omega), hat 2 (by omega), hat 3 (by omega), hat 4 (by omega), sp, hn, hq⟩
      have h0 := hat 0 (by omega)
      rw [show (a.add (i * 5)).add 0 = a.add (i * 5) by simp [Addr.add]] at h0
      exact h0
    obtain ⟨F, hF⟩ : ∃ F : Nat → Act7, ∀ i, i < m → (F i).Ok ∧ ∃ AP cP, W.cell? (a.add (i * 5)) = some (.int .i64 (F i).k) ∧ W.cell? ((a.add (i * 5)).add 1) = some (.string (F i).s) ∧ W.cell? ((a.add (i * 5)).add 2) = some (.int .i64 (F i).e) ∧
        W.cell? ((a.add (i * 5)).add 3) = some (.int .i64 (F i).a) ∧ W.cell? ((a.add (i * 5)).add 4) = some (.slice AP (F i).ps.length cP) ∧ SlPk W AP (F i).ps ∧ (AP = none → (F i).ps = [] ∧ cP = 0) ∧ (0 < (F i).ps.length → ∀ q o, AP = some ⟨q, o, none⟩ → q < W.heap.size) := by
      refine ⟨fun i => if h : i < m then (hone i h).choose else Ac07, fun i h => ?_⟩
      simp only [dif_pos h]
      exact (hone i h).choose_spec
    have hlen : ((List.range len).map F).length = len := by simp
    have hget : ∀ j, j < len → ((List.range len).map F).getD j Ac07 = F j := fun j hj => by
      rw [List.getD_eq_getElem?_getD, List.getElem?_map, List.getElem?_range hj]; rfl
    refine ⟨some a, m, (List.range len).map F, by rw [hlen]; exact hcs, fun hp => ?_, by rw [hlen]; unfold maxLen at hm; omega, fun y hy => ?_⟩
    · rw [hlen] at hp
      obtain ⟨_, _, _, h2, _⟩ := hF 0 (by omega)
      have h3 : a.block < W.heap.size := by
        have := World.block_lt_of_cell? W _ h2
        simpa [Addr.add] using this
      obtain ⟨b, off, spot⟩ := a
      have hspot : spot = none := by simpa [Addr.add] using World.cell?_spot h2
      subst hspot
      refine ⟨b, off, rfl, h3, fun j hj => ?_⟩
      rw [hlen] at hj
      rw [hget j hj]
      obtain ⟨_, AP, cP, g0, g1, g2, g3, g4, sp, hn, hq⟩ := hF j (by omega)
      simp only [add_plain] at g0 g1 g2 g3 g4
      exact ⟨AP, cP, g0, g1, g2, g3, g4, sp, hn, hq⟩
    · obtain ⟨i, hi2, rfl⟩ := List.mem_map.1 hy
      exact (hF i (by have := List.mem_range.1 hi2; omega)).1

set_option maxRecDepth 100000 in
/-- a slice of acts that came in -/
theorem open_acts7 {H : Type} {enc : TypeId × Value → H} {W : World} {base : Nat} {v : Value} {D : DataW H} {ps : List MemPlace} (hval : Value.okWide Tryd.prog W .any base 22 v)
    (h : DataW.Trod enc Tryd.prog W 0 (fun _ => true) true 22 v D ps) : ∃ A c xs, v = .slice A xs.length c ∧ SlAc7 W.heap.size W A xs ∧ AcsOk7 xs := by
  obtain ⟨a0, len, cap, rfl⟩ := okWide_slice Tryd.underlying22 hval
  obtain ⟨fuel, hf⟩ := h
  obtain ⟨A, c, xs, hcs, r⟩ := read_acts7 hf
  simp [Value.cells] at hcs
  obtain ⟨rfl, rfl, rfl⟩ := hcs
  exact ⟨_, _, xs, rfl, r⟩
set_option maxRecDepth 100000 in
/-- a slice of picks that came in -/
theorem open_picks7 {H : Type} {enc : TypeId × Value → H} {W : World} {base : Nat} {v : Value} {D : DataW H} {pl : List MemPlace} (hval : Value.okWide Tryd.prog W .any base 38 v)
    (h : DataW.Trod enc Tryd.prog W 0 (fun _ => true) true 38 v D pl) :
    ∃ A c ps, v = .slice A ps.length c ∧ SlPk W A ps ∧ (A = none → ps = [] ∧ c = 0) ∧ (0 < ps.length → ∀ q o, A = some ⟨q, o, none⟩ → q < W.heap.size) ∧ PkOk ps := by
  obtain ⟨a0, len, cap, rfl⟩ := okWide_slice Tryd.underlying38 hval
  obtain ⟨fuel, hf⟩ := h
  obtain ⟨A, c, xs, hcs, r⟩ := read_picks7 hf
  simp [Value.cells] at hcs
  obtain ⟨rfl, rfl, rfl⟩ := hcs
  exact ⟨_, _, xs, rfl, r⟩

end Go.Proofs.YtfodclafkdkjbaaDoor
