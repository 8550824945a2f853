/- slices.Insert of one tag into a row of the call's own, walked: at the end, with room, and into a new row. -/
import Derived.Test.YtodindfchkpecaaOw
import Derived.Laws.CopyOwn
import Derived.Laws.Externs
import Derived.Lib.Overlaps
import Derived.Lib.AppendZerosOnto
import Derived.Deep.RegionLaw
import Derived.RegionTactic
namespace Go.Proofs.Ytodindfchkpecaa
open Go.RowKit

theorem sizeU : (Try.prog.info? 23).map (·.size) = some 1 := by kernel_rfl

/-- a value that is a row of the call's own, written out -/
theorem own_mk {w : World} {B g m cap : Nat} {L : List Value} {zs : List Int} (hg : w.heap[g]? = some (.cells L.toArray 23 (0, 0))) (hB : B ≤ g) (hm : m = zs.length) (hmc : m ≤ cap) (hc : cap ≤ maxLen) (hL : L.length = cap)
    (ht : L.take m = zs.map (Value.int .u64)) : Own w B (.slice (some ⟨g, 0, none⟩) m cap) zs := by
  subst hm
  exact ⟨by simp, .inr ⟨g, cap, _, rfl, hB, hg, hmc, hc, by simpa using hL, by simpa using ht⟩⟩

/-- put in at place i -/
def ins (zs : List Int) (i : Nat) (x : Int) : List Int := zs.take i ++ x :: zs.drop i
theorem ins_length (zs : List Int) (i : Nat) (x : Int) (h : i ≤ zs.length) : (ins zs i x).length = zs.length + 1 := by
  unfold ins; simp; omega

theorem take_append_exact {α : Type} (a b : List α) (n : Nat) (h : a.length = n) : (a ++ b).take n = a := by
  subst h; simp

/-- the cells where there was room -/
theorem room_cells (cur : List Value) (zs : List Int) (i : Nat) (x : Int) (hi : i < zs.length) (hl : zs.length + 1 ≤ cur.length) (ht : cur.take zs.length = zs.map (Value.int .u64)) :
    (splice (splice cur (i + 1) ((zs.drop i).map (Value.int .u64))) i [.int .u64 x]).take (zs.length + 1) = (ins zs i x).map (Value.int .u64) := by
  have e0 : cur = zs.map (Value.int .u64) ++ cur.drop zs.length := by rw [← ht, List.take_append_drop]
  have e1 : cur.take i = (zs.take i).map (Value.int .u64) := by
    have h1 : (cur.take zs.length).take i = cur.take i := by rw [List.take_take, Nat.min_eq_left (by omega)]
    rw [← h1, ht, List.map_take]
  have e2 : (cur.take (i + 1)).take i = (zs.take i).map (Value.int .u64) := by rw [List.take_take, Nat.min_eq_left (by omega), e1]
  have l1 : (cur.take (i + 1)).length = i + 1 := by rw [List.length_take]; omega
  have e3 : (splice cur (i + 1) ((zs.drop i).map (Value.int .u64))).take i = (zs.take i).map (Value.int .u64) := by
    unfold splice
    rw [List.take_append_of_le_length (by omega), e2]
  have e4 : (splice cur (i + 1) ((zs.drop i).map (Value.int .u64))).drop (i + 1) = (zs.drop i).map (Value.int .u64) ++ cur.drop (i + 1 + ((zs.drop i).map (Value.int .u64)).length) := by
    unfold splice
    rw [List.drop_append, l1, Nat.sub_self, List.drop_zero, List.drop_eq_nil_of_le (by omega), List.nil_append]
  have e5 : splice (splice cur (i + 1) ((zs.drop i).map (Value.int .u64))) i [.int .u64 x] = (ins zs i x).map (Value.int .u64) ++ cur.drop (i + 1 + ((zs.drop i).map (Value.int .u64)).length) := by
    unfold ins
    rw [splice, e3, show i + [Value.int IntKind.u64 x].length = i + 1 from rfl, e4, List.map_append, List.map_cons]
    simp
  rw [e5]
  exact take_append_exact _ _ _ (by rw [List.length_map, ins_length zs i x (by omega)])

/-- the cells of the new row -/
theorem grow_cells (zs : List Int) (i : Nat) (x : Int) (Z : List Value) (hi : i < zs.length) :
    (splice (splice ((zs.take i).map (Value.int .u64) ++ Z) i [.int .u64 x]) (i + 1) ((zs.drop i).map (Value.int .u64))).take (zs.length + 1) = (ins zs i x).map (Value.int .u64) := by
  have l0 : ((zs.take i).map (Value.int .u64)).length = i := by rw [List.length_map, List.length_take]; omega
  have e1 : splice ((zs.take i).map (Value.int .u64) ++ Z) i [.int .u64 x] = (zs.take i).map (Value.int .u64) ++ (.int .u64 x :: Z.drop 1) := by
    unfold splice
    rw [take_append_exact _ _ _ l0, List.drop_append, l0, List.drop_eq_nil_of_le (by omega)]
    simp
  have e2 : ((zs.take i).map (Value.int .u64) ++ (Value.int IntKind.u64 x :: Z.drop 1)).take (i + 1) = (zs.take i).map (Value.int .u64) ++ [.int .u64 x] := by
    rw [List.take_append, l0, List.take_of_length_le (by omega), show i + 1 - i = 1 by omega]; rfl
  have e3 : splice ((zs.take i).map (Value.int .u64) ++ (.int .u64 x :: Z.drop 1)) (i + 1) ((zs.drop i).map (Value.int .u64)) =
      (ins zs i x).map (Value.int .u64) ++ ((zs.take i).map (Value.int .u64) ++ (Value.int IntKind.u64 x :: Z.drop 1)).drop (i + 1 + ((zs.drop i).map (Value.int .u64)).length) := by
    unfold ins
    rw [splice, e2, List.map_append, List.map_cons]
    simp
  rw [e1, e3]
  exact take_append_exact _ _ _ (by rw [List.length_map, ins_length zs i x (by omega)])

def InPost (B : Nat) (zs : List Int) (w : World) (e : Ending) (w' : World) : Prop := ∃ v, e = .returned v ∧ Own w' B v zs ∧ Below B w w'

set_option maxRecDepth 100000 in
/-- slices.Insert behind the last -/
theorem sinsert_end (v : Value) (zs : List Int) (x : Int) (B g : Nat) (w : World) (hown : Own w B v zs) (hB : B ≤ w.heap.size) (hl : zs.length ≤ 1048576) (hc : w.cell? ⟨g, 0, none⟩ = some (.int .u64 x)) :
    Calls Try.prog 30 #[v, .int .i64 zs.length, .slice (some ⟨g, 0, none⟩) 1 1] w (InPost B (zs ++ [x]) w) := by
  obtain ⟨A, c, rfl, hlc, _, hnil, hsome⟩ := hown.form
  have HO := Lib.hid hown
  have hcm : c ≤ maxLen := by
    rcases hown.2 with ⟨e, _⟩ | ⟨g', cap, cur, e, _, _, _, hm, _⟩
    · injection e with _ _ e; rw [e]; exact Nat.zero_le _
    · injection e with _ _ e; rw [e]; exact hm
  unfold maxLen at hcm
  clear hown
  go_enter Try.func30, Try.ntmps30
  go_wp2_with (at_builtin; refine wp_put1 rfl (.tmp 23) (.tmp 24) rfl B _ zs rfl HO.out g x rfl hc (by omega) hB ?_; intro v1 w1 hown1 hb1; have HB1 := Lib.hid hb1; have HO1 := Lib.hid hown1; clear hb1 hown1)
  all_goals go_ret
  all_goals exact ⟨_, rfl, HO1.out, HB1.out⟩

theorem one_cell (zs : List Int) : ∀ u ∈ zs.map (Value.int .u64), u.oneCell' = true := by
  intro u hu
  rw [List.mem_map] at hu
  obtain ⟨z, _, rfl⟩ := hu; rfl

/-- copy of some cells into a row that is known whole, as one step of a region that draws: the world behind it is written out -/
theorem step_copy_row {P : Program} {ops : Array Oper} {o : Oper} {a : Act} {w : World} {K : Act → World → Prop} {Q : Exit → Act → World → Prop} {E : Prop} (hgd : o.guard = none) (d s : Operand) (dT sT : TypeId)
    (ho : o.op = .call { callee := .builtin .copy, args := #[d, s], argTypes := #[dT, sT] }) (elem : TypeId) (hu : P.underlying dT = some (.slice elem)) (hsz : (P.info? elem).map (·.size) = some 1)
    (ad : Addr) (dLen dCap sLen sCap : Nat) (g off : Nat) (hd : a.eval d = .slice (some ⟨g, off, none⟩) dLen dCap) (hs : a.eval s = .slice (some ad) sLen sCap)
    (cur : Array Value) (t : TypeId) (hg : w.heap[g]? = some (.cells cur t (0, 0))) (cs : List Value) (hn : cs.length = Nat.min sLen dLen)
    (hsrc : ∀ j v, cs[j]? = some v → w.cell? (ad.add j) = some v) (hfit : off + cs.length ≤ cur.size) (h1 : ∀ v ∈ cs, v.oneCell' = true)
    (h : K (a.put o.dst (goInt cs.length)) (w.setRow g (splice cur.toList off cs).toArray)) :
    if Region.wanted o (yielded ops a.tmps) = true then Oper.wp P o a w K Q else E := by
  have hw : Region.wanted o (yielded ops a.tmps) = true := by simp [Region.wanted, hgd]
  rw [if_pos hw]
  have hrun := run_copy_row (P := P) w dT sT o.type elem g off dLen dCap ad sLen sCap cur t cs hu hsz hg hn hsrc hfit h1
  unfold Oper.wp
  simp [execOp, ho, resolve, invoke, builtin, hd, hs, hrun, Result.andThen]
  exact h

theorem wp_copy_row {P : Program} {ops : Array Oper} {rest : List Oper} {o : Oper} {a : Act} {w : World} {Q : Exit → Act → World → Prop} (hgd : o.guard = none) (d s : Operand) (dT sT : TypeId)
    (ho : o.op = .call { callee := .builtin .copy, args := #[d, s], argTypes := #[dT, sT] }) (elem : TypeId) (hu : P.underlying dT = some (.slice elem)) (hsz : (P.info? elem).map (·.size) = some 1)
    (ad : Addr) (dLen dCap sLen sCap : Nat) (g off : Nat) (hd : a.eval d = .slice (some ⟨g, off, none⟩) dLen dCap) (hs : a.eval s = .slice (some ad) sLen sCap)
    (cur : Array Value) (t : TypeId) (hg : w.heap[g]? = some (.cells cur t (0, 0))) (cs : List Value) (hn : cs.length = Nat.min sLen dLen)
    (hsrc : ∀ j v, cs[j]? = some v → w.cell? (ad.add j) = some v) (hfit : off + cs.length ≤ cur.size) (h1 : ∀ v ∈ cs, v.oneCell' = true)
    (h : wpList P ops Q rest (a.put o.dst (goInt cs.length)) (w.setRow g (splice cur.toList off cs).toArray)) : wpList P ops Q (o :: rest) a w :=
  wpList_copy_own hgd d s dT sT ho elem hu hsz g off dLen dCap ad sLen sCap hd hs cur t hg cs hn hsrc hfit h1 h

theorem below_row {B g : Nat} {w0 w : World} (hb : Below B w0 w) (hB : B ≤ g) (cs : Array Value) : Below B w0 (w.setRow g cs) := below_setRow hb hB cs

set_option maxHeartbeats 1000000 in
set_option maxRecDepth 100000 in
/-- slices.Insert where there is room -/
theorem sinsert_room (zs : List Int) (i : Nat) (x : Int) (B g g0 cap : Nat) (cur : Array Value) (w : World) (hi : i < zs.length) (hg0 : w.heap[g0]? = some (.cells cur 23 (0, 0))) (hB0 : B ≤ g0) (hr : zs.length + 1 ≤ cap)
    (hcm : cap ≤ maxLen) (hcs : cur.size = cap) (ht : cur.toList.take zs.length = zs.map (Value.int .u64)) (hg : w.heap[g]? = some (.cells #[.int .u64 x] 23 (0, 0))) (hne : g ≠ g0) :
    Calls Try.prog 30 #[.slice (some ⟨g0, 0, none⟩) zs.length cap, .int .i64 i, .slice (some ⟨g, 0, none⟩) 1 1] w (InPost B (ins zs i x) w) := by
  have hov : ∀ lb cb, (callFunc 44 #[.slice (some ⟨g, 0, none⟩) 1 1, .slice (some ⟨g0, i + 1, none⟩) lb cb]).run Try.prog w = .ok (.value (.bool false)) w := fun lb cb => by
    rw [run_callFunc_extern Try.func44 (by kernel_rfl) (by kernel_rfl) (by kernel_rfl) (e := Extern.SlicesOverlaps.overlaps #[22, 22] #[4]) (by kernel_rfl),
      Lib.run_overlaps_apart w 22 4 23 Try.underlying22 1 (fun w => by simp [Go.sizeOf, typeInfo]; first | rfl | kernel_rfl) ⟨g, 0, none⟩ ⟨g0, i + 1, none⟩ 1 1 lb cb hne 23 23 1 cap
        (by simp [World.shape?, hg]) (by simp [World.shape?, hg0, hcs]) (by omega) (by simp [World.frozen?, hg]) (by simp [World.frozen?, hg])]
    rfl
  obtain ⟨n, hn⟩ : ∃ n, n = zs.length := ⟨_, rfl⟩
  have RC := Lib.hid (room_cells cur.toList zs i x hi (by simp; omega) ht)
  have hd : (zs.drop i).length = n - i := by rw [List.length_drop, hn]
  obtain ⟨C1, hC1⟩ : ∃ C1, C1 = (zs.drop i).map (Value.int .u64) := ⟨_, rfl⟩
  have c1l : C1.length = n - i := by rw [hC1, List.length_map, hd]
  have c1o : ∀ u ∈ C1, u.oneCell' = true := by rw [hC1]; exact one_cell _
  have hcell : ∀ j u, C1[j]? = some u → w.cell? ((⟨g0, i, none⟩ : Addr).add j) = some u := by
    intro j u hj
    have hjl : j < C1.length := by
      rcases Nat.lt_or_ge j C1.length with c | c
      · exact c
      · rw [List.getElem?_eq_none c] at hj; cases hj
    have e1 : (cur.toList.take zs.length)[i + j]? = some u := by
      rw [ht, ← hj, hC1, List.getElem?_map, List.getElem?_map, List.getElem?_drop]
    rw [List.getElem?_take, if_pos (by omega), Array.getElem?_toList] at e1
    have e2 : w.cell? ⟨g0, i + j, none⟩ = cur[i + j]? := cell_of_row w g0 (i + j) cur 23 (0, 0) hg0
    have e3 : (⟨g0, i, none⟩ : Addr).add j = ⟨g0, i + j, none⟩ := by unfold Addr.add; by_cases h0 : j = 0 <;> simp [h0]
    rw [e3, e2]; exact e1
  have hnv : n + 1 = (ins zs i x).length := by rw [ins_length zs i x (by omega), hn]
  rw [← hn] at RC
  rw [← hC1] at RC
  have INS : Hid (∃ Z, Z = ins zs i x ∧ n + 1 = Z.length) := ⟨_, rfl, hnv⟩
  unfold maxLen at hcm
  rw [← hn] at hi hr ⊢
  have HC1 := Lib.hid c1o
  have HCC := Lib.hid hcell
  have HN := Lib.hid hn
  have HG0 := Lib.hid hg0
  have HG := Lib.hid hg
  have HCS := Lib.hid hcs
  have HC1L := Lib.hid c1l
  have hw1 : IntKind.i64.wrap ((i : Int) + 1) = (i : Int) + 1 := by rw [IntKind.wrap_i64]; omega
  have hb1 : (0 : Int) ≤ (i : Int) + 1 := by omega
  have htn : ((i : Int) + 1).toNat = i + 1 := by omega
  have hb2 : ¬ (cap = i + 1) := by omega
  have hb3 : (i : Int) ≤ (n : Int) + 1 := by omega
  have hb4 : ¬ (cap = i) := by omega
  have hin : i ≤ n := by omega
  have hz2 : ¬ ((i : Int) = (n : Int)) := by omega
  clear hC1 c1l c1o hcell hnv hn hg0 hg hcs hd ht
  go_enter Try.func30, Try.ntmps30
  go_wp2_with (simp only [hov])
  go_region_law (refine step_copy_row rfl (.tmp 73) (.tmp 76) 22 22 rfl 23 Try.underlying22 sizeU ⟨g0, i, none⟩ (n - i) (cap - (i + 1)) (n + 1 - i) (cap - i) g0 (i + 1) (by simp [Act.eval, Act.put]) (by simp [Act.eval, Act.put]) cur 23 (by exact HG0.out) C1 (by rw [HC1L.out]; simp only [Nat.min_def]; split <;> omega) (by exact HCC.out) (by rw [HC1L.out]; have := HCS.out; omega) HC1.out ?_)
  have hr1 : (w.drew.setRow g0 (splice cur.toList (i + 1) C1).toArray).heap[g0]? = some (.cells (splice cur.toList (i + 1) C1).toArray 23 (0, 0)) := setRow_heap w.drew g0 cur _ _ _ (by exact HG0.out)
  have hr2 : (w.drew.setRow g0 (splice cur.toList (i + 1) C1).toArray).cell? ⟨g, 0, none⟩ = some (.int .u64 x) := by
    rw [cell_setRow_other _ _ _ _ hne]; exact cell_of_row w g 0 _ 23 (0, 0) HG.out
  have hr3 : Below B w (w.drew.setRow g0 (splice cur.toList (i + 1) C1).toArray) := below_row (Below.refl _ _).drew hB0 _
  generalize w.drew.setRow g0 (splice cur.toList (i + 1) C1).toArray = w1 at hr1 hr2 hr3 ⊢
  have HR1 := Lib.hid hr1
  have HR2 := Lib.hid hr2
  have HR3 := Lib.hid hr3
  have hsl : (splice cur.toList (i + 1) C1).length = cap := by
    rw [length_splice _ _ _ (by rw [HC1L.out]; have := HCS.out; simp; omega)]; simpa using HCS.out
  have HSL := Lib.hid hsl
  clear hr1 hr2 hr3 hov hsl
  go_wp2_with ((with_reducible refine wp_copy_row (o := ⟨some 82, _, _, _, _, _⟩) rfl (.tmp 80) (.tmp 81) 22 22 rfl 23 Try.underlying22 sizeU ⟨g, 0, none⟩ (n + 1 - i) (cap - i) 1 1 g0 i ?c3 ?c4 _ 23 HR1.out [.int .u64 x] ?c5 ?c6 ?c7 ?c8 ?c9); (case c3 => rfl); (case c4 => rfl); (case c5 => (simp only [List.length_cons, List.length_nil, Nat.min_def]; split <;> omega)); (case c6 => (intro j v hj; cases j with | zero => (simp at hj; subst hj; exact HR2.out) | succ j => simp at hj)); (case c7 => (have := HSL.out; simp; omega)); (case c8 => simp [Value.oneCell']))
  go_ret
  obtain ⟨Z, hZ, hZl⟩ := INS.out
  refine ⟨_, rfl, ?_, below_row HR3.out hB0 _⟩
  refine own_mk (setRow_heap _ _ _ _ _ _ HR1.out) hB0 (by rw [← hZ]; exact hZl) hr (by unfold maxLen; omega) ?_ (by simpa using RC.out)
  rw [length_splice _ _ _ (by have := HSL.out; simp; omega)]
  simpa using HSL.out

set_option maxHeartbeats 1000000 in
set_option maxRecDepth 100000 in
/-- slices.Insert where there is no room -/
theorem sinsert_grow (zs : List Int) (i : Nat) (x : Int) (B g g0 cap : Nat) (cur : Array Value) (w : World) (hi : i < zs.length) (hl : zs.length ≤ 1048576) (hB : B ≤ w.heap.size) (hg0 : w.heap[g0]? = some (.cells cur 23 (0, 0)))
    (hnc : zs.length ≤ cap) (hr : cap < zs.length + 1) (hcs : cur.size = cap) (ht : cur.toList.take zs.length = zs.map (Value.int .u64)) (hg : w.heap[g]? = some (.cells #[.int .u64 x] 23 (0, 0))) :
    Calls Try.prog 30 #[.slice (some ⟨g0, 0, none⟩) zs.length cap, .int .i64 i, .slice (some ⟨g, 0, none⟩) 1 1] w (InPost B (ins zs i x) w) := by
  obtain ⟨n, hn⟩ : ∃ n, n = zs.length := ⟨_, rfl⟩
  obtain ⟨i0, hi0, hz0, hzs, hzb⟩ := info_parts infoU
  have hgl : g < w.heap.size := by
    rcases Nat.lt_or_ge g w.heap.size with c | c
    · exact c
    · rw [Array.getElem?_eq_none c] at hg; cases hg
  have hg0l : g0 < w.heap.size := by
    rcases Nat.lt_or_ge g0 w.heap.size with c | c
    · exact c
    · rw [Array.getElem?_eq_none c] at hg0; cases hg0
  have hcur : ∀ j u, (zs.map (Value.int .u64))[j]? = some u → w.cell? ⟨g0, j, none⟩ = some u := by
    intro j u hj
    have hjl : j < zs.length := by
      rcases Nat.lt_or_ge j zs.length with c | c
      · exact c
      · rw [List.getElem?_eq_none (by simpa using c)] at hj; cases hj
    rw [cell_of_row w g0 j cur 23 (0, 0) hg0]
    rw [← ht, List.getElem?_take, if_pos hjl, Array.getElem?_toList] at hj
    exact hj
  have hold : (Builtin.firstCells i0.size i (.slice (some ⟨g0, 0, none⟩) i cap)).run Try.prog w.drew = .ok ((zs.take i).map (Value.int .u64)).toArray w.drew := by
    rw [hzs]
    refine run_firstCells_some w.drew 1 i ⟨g0, 0, none⟩ i cap _ (by rw [List.length_map, List.length_take]; omega) (fun j v hj => ?_)
    have e3 : (⟨g0, 0, none⟩ : Addr).add j = ⟨g0, j, none⟩ := by unfold Addr.add; by_cases h0 : j = 0 <;> simp [h0]
    rw [e3]
    refine hcur j v ?_
    rw [List.map_take, List.getElem?_take] at hj
    split at hj
    · exact hj
    · cases hj
  have hik : i + (n + 1 - i) = n + 1 := by omega
  have hkk : (n : Int) + 1 - (i : Int) = ((n + 1 - i : Nat) : Int) := by omega
  obtain ⟨G, hG⟩ : ∃ G, G = grownCap w (n + 1) cap 23 := ⟨_, rfl⟩
  have hGge : n + 1 ≤ G := by rw [hG]; exact grownCap_ge _ _ _ _
  have hGle : G ≤ maxLen := by rw [hG]; exact grownCap_le_maxLen _ _ _ _ (by unfold maxLen; omega)
  obtain ⟨Z, hZ⟩ : ∃ Z : List Value, Z = (Builtin.zeroCells (Value.int .u64 0).cells (n + 1 - i) ++ Builtin.zeroCells (Value.int .u64 0).cells (G - (n + 1))).toList := ⟨_, rfl⟩
  have hZl : Z.length = G - i := by
    rw [hZ, Array.length_toList, Array.size_append, size_zeroCells, size_zeroCells]
    show (n + 1 - i) * 1 + (G - (n + 1)) * 1 = G - i
    omega
  have hrz : ∀ ty, (Builtin.append_ #[22, 3] ty #[.slice (some ⟨g0, 0, none⟩) i cap, .int .i64 ((n : Int) + 1 - (i : Int))]).run Try.prog w =
      .ok (.slice (some ⟨w.heap.size, 0, none⟩) (n + 1) G) (w.drew.alloc (.cells ((zs.take i).map (Value.int .u64) ++ Z).toArray 23)) := fun ty => by
    have h := Lib.run_append_grow_zeros w 22 3 ty 23 i0 _ .i64 .i64 Try.underlying22 Try.underlying3 hi0 hz0 (some ⟨g0, 0, none⟩) i cap _ hold (n + 1 - i) (by omega) (by omega) (by omega) (by omega) (by rw [hzb]; omega) (by rw [hzb, hik]; exact growslice_fits (by omega) (by omega))
    rw [hik, ← hG] at h
    rw [hkk, h, hZ]
    congr 3
    apply Array.ext'
    simp
  have RC := Lib.hid (grow_cells zs i x Z hi)
  have hd : (zs.drop i).length = n - i := by rw [List.length_drop, hn]
  obtain ⟨C1, hC1⟩ : ∃ C1, C1 = (zs.drop i).map (Value.int .u64) := ⟨_, rfl⟩
  have c1l : C1.length = n - i := by rw [hC1, List.length_map, hd]
  have c1o : ∀ u ∈ C1, u.oneCell' = true := by rw [hC1]; exact one_cell _
  have hcell : ∀ j u, C1[j]? = some u → w.cell? ((⟨g0, i, none⟩ : Addr).add j) = some u := by
    intro j u hj
    have e3 : (⟨g0, i, none⟩ : Addr).add j = ⟨g0, i + j, none⟩ := by unfold Addr.add; by_cases h0 : j = 0 <;> simp [h0]
    rw [e3]
    refine hcur (i + j) u ?_
    rw [← hj, hC1, List.getElem?_map, List.getElem?_map, List.getElem?_drop]
  have hnv : n + 1 = (ins zs i x).length := by rw [ins_length zs i x (by omega), hn]
  obtain ⟨R0, hR0⟩ : ∃ R0 : List Value, R0 = (zs.take i).map (Value.int .u64) ++ Z := ⟨_, rfl⟩
  have hR0l : R0.length = G := by rw [hR0, List.length_append, List.length_map, List.length_take, hZl]; omega
  rw [← hn] at RC
  rw [← hC1, ← hR0] at RC
  rw [← hR0] at hrz
  obtain ⟨W1, hW1⟩ : ∃ W1, W1 = w.drew.alloc (.cells R0.toArray 23) := ⟨_, rfl⟩
  rw [← hW1] at hrz
  have hrow1 : W1.heap[w.heap.size]? = some (.cells R0.toArray 23 (0, 0)) := by rw [hW1]; exact heap_alloc_new w.drew _
  have hbel1 : Below w.heap.size w W1 := by rw [hW1]; exact (Below.refl _ _).drew.alloc (Nat.le_refl _) _
  have hcg1 : W1.cell? ⟨g, 0, none⟩ = some (.int .u64 x) := (hbel1.cell (p := ⟨g, 0, none⟩) hgl).trans (cell_of_row w g 0 _ 23 (0, 0) hg)
  have INS : Hid (∃ Z, Z = ins zs i x ∧ n + 1 = Z.length) := ⟨_, rfl, hnv⟩
  rw [← hn] at hi hr hnc hl ⊢
  have HC1 := Lib.hid c1o
  have HCC := Lib.hid hcell
  have HC1L := Lib.hid c1l
  have HR0L := Lib.hid hR0l
  have HROW1 := Lib.hid hrow1
  have HBEL1 := Lib.hid hbel1
  have HCG1 := Lib.hid hcg1
  obtain ⟨gw, hgw⟩ : ∃ gw, gw = w.heap.size := ⟨_, rfl⟩
  rw [← hgw] at hrz HROW1 HBEL1 hgl hg0l hB
  have HRZ := Lib.hid hrz
  unfold maxLen at hGle
  have hw1 : IntKind.i64.wrap ((i : Int) + 1) = (i : Int) + 1 := by rw [IntKind.wrap_i64]; omega
  have hb1 : (0 : Int) ≤ (i : Int) + 1 := by omega
  have htn : ((i : Int) + 1).toNat = i + 1 := by omega
  have hb2 : ¬ (G = i + 1) := by omega
  have hb3 : (i : Int) ≤ (n : Int) + 1 := by omega
  have hb4 : ¬ (cap = i) := by omega
  have hb5 : ¬ (G = i) := by omega
  have hin : i ≤ n := by omega
  have hz2 : ¬ ((i : Int) = (n : Int)) := by omega
  clear hC1 c1l c1o hcell hnv hn hg0 hg hcs hd ht hZ hZl hR0 hR0l hW1 hrow1 hbel1 hcg1 hrz hgw hG hold hcur hkk hik hi0 hz0 hzs hzb
  go_enter Try.func30, Try.ntmps30
  go_wp2_with (first
    | (at_builtin; refine Lib.wpList_append_run _ rfl (.tmp 34) (.tmp 39) 22 3 rfl _ _ rfl rfl _ _ (HRZ.out _) ?_)
    | ((with_reducible refine wp_copy_row (o := ⟨some 45, _, _, _, _, _⟩) rfl (.tmp 43) (.tmp 44) 22 22 rfl 23 Try.underlying22 sizeU ⟨g, 0, none⟩ (n + 1 - i) (G - i) 1 1 gw i ?c3 ?c4 _ 23 HROW1.out [.int .u64 x] ?c5 ?c6 ?c7 ?c8 ?c9); (case c3 => rfl); (case c4 => rfl); (case c5 => (simp only [List.length_cons, List.length_nil, Nat.min_def]; split <;> omega)); (case c6 => (intro j v hj; cases j with | zero => (simp at hj; subst hj; exact HCG1.out) | succ j => simp at hj)); (case c7 => (have := HR0L.out; simp; omega)); (case c8 => simp [Value.oneCell'])))
  have hr1 : (W1.setRow gw (splice R0 i [.int .u64 x]).toArray).heap[gw]? = some (.cells (splice R0 i [.int .u64 x]).toArray 23 (0, 0)) := setRow_heap W1 gw _ _ _ _ HROW1.out
  have hr3 : Below gw w (W1.setRow gw (splice R0 i [.int .u64 x]).toArray) := below_row HBEL1.out (Nat.le_refl _) _
  generalize W1.setRow gw (splice R0 i [.int .u64 x]).toArray = w2 at hr1 hr3 ⊢
  have hr4 : ∀ j u, C1[j]? = some u → w2.cell? ((⟨g0, i, none⟩ : Addr).add j) = some u := fun j u hj => by
    have e3 : (⟨g0, i, none⟩ : Addr).add j = ⟨g0, i + j, none⟩ := by unfold Addr.add; by_cases h0 : j = 0 <;> simp [h0]
    have h1 := HCC.out j u hj
    rw [e3] at h1 ⊢
    exact (hr3.cell (p := ⟨g0, i + j, none⟩) hg0l).trans h1
  have HR1 := Lib.hid hr1
  have HR3 := Lib.hid hr3
  have HR4 := Lib.hid hr4
  have hsl : (splice R0 i [.int .u64 x]).length = G := by
    rw [length_splice _ _ _ (by have := HR0L.out; simp; omega)]; exact HR0L.out
  have HSL := Lib.hid hsl
  clear hr1 hr3 hr4 hsl
  go_region_law (refine step_copy_row rfl (.tmp 50) (.tmp 53) 22 22 rfl 23 Try.underlying22 sizeU ⟨g0, i, none⟩ (n - i) (G - (i + 1)) (n - i) (cap - i) gw (i + 1) (by simp [Act.eval, Act.put]) (by simp [Act.eval, Act.put]) _ 23 (by exact HR1.out) C1 (by rw [HC1L.out]; simp) (by exact HR4.out) (by rw [HC1L.out]; have := HSL.out; simp; omega) HC1.out ?_)
  go_wp2
  go_ret
  obtain ⟨Z, hZ, hZl⟩ := INS.out
  refine ⟨_, rfl, ?_, below_row (HR3.out.drew.mono hB) hB _⟩
  refine own_mk (setRow_heap w2.drew _ _ _ _ _ (by exact HR1.out)) hB (by rw [← hZ]; exact hZl) hGge (by unfold maxLen; omega) ?_ (by simpa using RC.out)
  rw [length_splice _ _ _ (by rw [HC1L.out]; have := HSL.out; simp; omega)]
  simpa using HSL.out

end Go.Proofs.Ytodindfchkpecaa
