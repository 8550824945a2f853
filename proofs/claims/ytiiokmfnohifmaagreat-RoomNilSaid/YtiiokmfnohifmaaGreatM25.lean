/- Proved parts: T9i. Conditions: each theorem's own. -/
import Derived.Test.YtiiokmfnohifmaaGreatM24
namespace Go.Proofs.YtiiokmfnohifmaaGreat
open Go.RowKit

section
variable {P : Program} {ops : Array Oper} {o : Oper} {a : Act} {w : World}
theorem step_copy2 {K : Act → World → Prop} {Q : Exit → Act → World → Prop} {E : Prop} (hgd : o.guard = none) (d s : Operand) (dT sT : TypeId)
    (ho : o.op = .call { callee := .builtin .copy, args := #[d, s], argTypes := #[dT, sT] }) (elem : TypeId) (hu : P.underlying dT = some (.slice elem)) (hsz : (P.info? elem).map (·.size) = some 2)
    (ad : Addr) (dLen dCap sLen sCap : Nat) (b off : Nat) (hd : a.eval d = .slice (some ⟨b, off, none⟩) dLen dCap) (hs : a.eval s = .slice (some ad) sLen sCap)
    (cs : List Value) (n : Nat) (hn : n = Nat.min sLen dLen) (hl : cs.length = n * 2)
    (hsrc : ∀ j v, cs[j]? = some v → w.cell? (ad.add j) = some v) (hc : ∀ j, j < cs.length → (w.cell? ⟨b, off + j, none⟩).isSome = true) (hf : ∀ j, j < cs.length → w.frozen? ⟨b, off + j, none⟩ = false) (h1 : ∀ v ∈ cs, v.oneCell' = true)
    (h : K (a.put o.dst (goInt n)) (w.setCells b off cs)) :
    if Region.wanted o (yielded ops a.tmps) = true then Oper.wp P o a w K Q else E := by
  have hw : Region.wanted o (yielded ops a.tmps) = true := by simp [Region.wanted, hgd]
  rw [if_pos hw]
  have hrun := run_copy2 (P := P) w dT sT o.type elem b off dLen dCap ad sLen sCap cs n hu hsz hn hl hsrc hc hf h1
  unfold Oper.wp
  simp [execOp, ho, resolve, invoke, builtin, hd, hs, hrun, Result.andThen]
  exact h
theorem wp_copy2 {rest : List Oper} {Q : Exit → Act → World → Prop} (hgd : o.guard = none) (d s : Operand) (dT sT : TypeId)
    (ho : o.op = .call { callee := .builtin .copy, args := #[d, s], argTypes := #[dT, sT] }) (elem : TypeId) (hu : P.underlying dT = some (.slice elem)) (hsz : (P.info? elem).map (·.size) = some 2)
    (ad : Addr) (dLen dCap sLen sCap : Nat) (b off : Nat) (hd : a.eval d = .slice (some ⟨b, off, none⟩) dLen dCap) (hs : a.eval s = .slice (some ad) sLen sCap)
    (cs : List Value) (n : Nat) (hn : n = Nat.min sLen dLen) (hl : cs.length = n * 2)
    (hsrc : ∀ j v, cs[j]? = some v → w.cell? (ad.add j) = some v) (hc : ∀ j, j < cs.length → (w.cell? ⟨b, off + j, none⟩).isSome = true) (hf : ∀ j, j < cs.length → w.frozen? ⟨b, off + j, none⟩ = false) (h1 : ∀ v ∈ cs, v.oneCell' = true)
    (h : wpList P ops Q rest (a.put o.dst (goInt n)) (w.setCells b off cs)) : wpList P ops Q (o :: rest) a w := by
  refine wpList_plain hgd fun K hK => ?_
  have hrun := run_copy2 (P := P) w dT sT o.type elem b off dLen dCap ad sLen sCap cs n hu hsz hn hl hsrc hc hf h1
  unfold Oper.wp
  simp [execOp, ho, resolve, invoke, builtin, hd, hs, hrun, Result.andThen]
  exact hK _ _ h
end
theorem size2 : (Tryz.prog.info? 162).map (·.size) = some 2 := by kernel_rfl

def ins (zs : KV) (i : Nat) (x : ByteArray × Int) : KV := zs.take i ++ x :: zs.drop i
theorem ins_len (zs : KV) (i : Nat) (x : ByteArray × Int) (h : i ≤ zs.length) : (ins zs i x).length = zs.length + 1 := by unfold ins; simp; omega
theorem rangeAt_part {w : World} {b o : Nat} {zs : KV} (h : w.rangeAt b o (itc zs)) (i : Nat) (hi : i ≤ zs.length) : w.rangeAt b o (itc (zs.take i)) ∧ w.rangeAt b (o + i * 2) (itc (zs.drop i)) := by
  have e : itc zs = itc (zs.take i) ++ itc (zs.drop i) := by rw [← itc_append, List.take_append_drop]
  rw [e, rangeAt_append, itc_len, List.length_take, Nat.min_eq_left hi] at h
  exact h
/-- the post of Insert and Delete -/
def MvPost (w : World) (v : Value) (zs : KV) (e : Ending) (w' : World) : Prop := ∃ v', e = .returned v' ∧ Moved w v zs v' w'

set_option maxRecDepth 100000 in
/-- slices.Insert behind the last -/
theorem insert_end (w : World) (b o c g : Nat) (zs : KV) (x : ByteArray × Int) (h : WinAt w b o c zs) (hl : zs.length ≤ 100000) (hx : w.rangeAt g 0 (it2 x)) :
    Calls Tryz.prog 150 #[.slice (some ⟨b, o, none⟩) zs.length c, .int .i64 zs.length, .slice (some ⟨g, 0, none⟩) 1 1] w (MvPost w (.slice (some ⟨b, o, none⟩) zs.length c) (ins zs zs.length x)) := by
  obtain ⟨v', w', hrun, hm, _⟩ := run_app w 188 187 188 Tryz.underlying188 Tryz.underlying187 b o c zs [x] h g 0 1 (by simpa [itc] using hx) (by simp; omega)
  have e : ins zs zs.length x = zs ++ [x] := by unfold ins; simp
  rw [e]
  have hcm := h.cap
  have hfit := h.fit
  unfold maxLen at hcm
  have HM := Lib.hid hm
  have HR := Lib.hid hrun
  obtain ⟨n, hn⟩ : ∃ n, n = zs.length := ⟨_, rfl⟩
  rw [← hn] at HR HM hl hfit ⊢
  clear hrun hm h hx e hn
  go_enter Tryz.func150, Tryz.ntmps150
  go_wp2_with (at_builtin; refine Lib.wpList_append_run _ rfl (.tmp 23) (.tmp 24) 188 187 rfl _ _ rfl rfl _ _ HR.out ?_)
  all_goals go_ret
  all_goals first
    | exact ⟨_, rfl, HM.out⟩
    | (obtain rfl : c = n := by omega
       exact ⟨_, rfl, HM.out⟩)

set_option maxHeartbeats 1000000 in
set_option maxRecDepth 100000 in
/-- slices.Insert where there is room -/
theorem insert_room (w : World) (b o c g i : Nat) (zs : KV) (x : ByteArray × Int) (h : WinAt w b o c zs) (hi : i < zs.length) (hr : zs.length + 1 ≤ c) (hx : w.heap[g]? = some (.cells (it2 x).toArray 162 (0, 0))) (hne : g ≠ b) :
    Calls Tryz.prog 150 #[.slice (some ⟨b, o, none⟩) zs.length c, .int .i64 i, .slice (some ⟨g, 0, none⟩) 1 1] w (MvPost w (.slice (some ⟨b, o, none⟩) zs.length c) (ins zs i x)) := by
  obtain ⟨cur, hcur⟩ := h.plain
  have hcs : 0 < cur.size := by
    have := h.there 0 (by omega)
    rw [cell_of_row w b _ cur _ _ hcur] at this
    by_cases q : 0 < cur.size
    · exact q
    · rw [Array.getElem?_eq_none (by omega)] at this; cases this
  have hov : ∀ lb cb, (callFunc 152 #[.slice (some ⟨g, 0, none⟩) 1 1, .slice (some ⟨b, o + (i + 1) * 2, none⟩) lb cb]).run Tryz.prog w = .ok (.value (.bool false)) w := fun lb cb => by
    rw [run_callFunc_extern Tryz.func152 (by kernel_rfl) (by kernel_rfl) (by kernel_rfl) (e := Extern.SlicesOverlaps.overlaps #[187, 187] #[4]) (by kernel_rfl),
      Lib.run_overlaps_apart w 187 4 162 Tryz.underlying187 2 (fun w => by simp [Go.sizeOf, typeInfo]; first | rfl | kernel_rfl) ⟨g, 0, none⟩ ⟨b, o + (i + 1) * 2, none⟩ 1 1 lb cb hne 162 162 2 cur.size
        (by simp [World.shape?, hx, it2]) (by simp [World.shape?, hcur]) (by omega) (by simp [World.frozen?, hx]) (by simp [World.frozen?, hx])]
    rfl
  obtain ⟨p1, p2⟩ := rangeAt_part h.row i (by omega)
  obtain ⟨C1, hC1⟩ : ∃ C1, C1 = itc (zs.drop i) := ⟨_, rfl⟩
  have c1o : ∀ u ∈ C1, u.oneCell' = true := by rw [hC1]; exact itc_one _
  obtain ⟨n, hn⟩ : ∃ n, n = zs.length := ⟨_, rfl⟩
  have c1l : C1.length = (n - i) * 2 := by rw [hC1, itc_len, List.length_drop, hn]
  rw [← hC1] at p2
  have hcm := h.cap
  unfold maxLen at hcm
  have HX := Lib.hid hx
  have HW := Lib.hid h
  have P1 := Lib.hid p1
  have P2 := Lib.hid p2
  have C1O := Lib.hid c1o
  have C1L := Lib.hid c1l
  have HC1 := Lib.hid hC1
  have HN := Lib.hid hn
  have HNE := Lib.hid hne
  rw [← hn] at hi hr ⊢
  have hw1 : IntKind.i64.wrap ((i : Int) + 1) = (i : Int) + 1 := by rw [IntKind.wrap_i64]; omega
  have hb1 : (0 : Int) ≤ (i : Int) + 1 := by omega
  have htn : ((i : Int) + 1).toNat = i + 1 := by omega
  have hb2 : ¬ (c = i + 1) := by omega
  have hb3 : (i : Int) ≤ (n : Int) + 1 := by omega
  have hb4 : ¬ (c = i) := by omega
  have hin : i ≤ n := by omega
  have hz2 : ¬ ((i : Int) = (n : Int)) := by omega
  clear h hx p1 p2 c1o c1l hC1 hn hcur hcs
  go_enter Tryz.func150, Tryz.ntmps150
  go_wp2_with (simp only [hov])
  have th := Lib.hid (show ∀ j, j < C1.length → (w.drew.cell? ⟨b, o + (i + 1) * 2 + j, none⟩).isSome = true from fun j hj => by
    have e := C1L.out
    have := HW.out.there ((i + 1) * 2 + j) (by omega)
    rw [← Nat.add_assoc] at this; exact this)
  have fz := Lib.hid (show ∀ k, w.drew.frozen? ⟨b, k, none⟩ = false from fun k => HW.out.plain.frozen k)
  go_region_law (refine step_copy2 rfl (.tmp 73) (.tmp 76) 188 188 rfl 162 Tryz.underlying188 size2 ⟨b, o + i * 2, none⟩ (n + 1 - (i + 1)) (c - (i + 1)) (n + 1 - i) (c - i) b (o + (i + 1) * 2) (by simp [Act.eval, Act.put]) (by simp [Act.eval, Act.put]) C1 (n - i) (by simp only [Nat.min_def]; split <;> omega) C1L.out (add_mid (by exact P2.out)) th.out (fun j _ => fz.out _) C1O.out ?_)
  have t1 : Turn (InWin (.slice (some ⟨b, o, none⟩) n c)) w w.drew := Turn.of_below (Below.refl _ w).drew
  have t2 := t1.trans (Turn.setCells w.drew b (o + (i + 1) * 2) C1) (fun k j h => .inl (by
    obtain ⟨rfl, h1, h2⟩ := h
    have e := C1L.out
    exact ⟨o, _, c, rfl, by omega, by omega⟩))
  have r1 : (w.drew.setCells b (o + (i + 1) * 2) C1).rangeAt b (o + (i + 1) * 2) C1 := setCells_at th.out
  have r0 : (w.drew.setCells b (o + (i + 1) * 2) C1).rangeAt b o (itc (zs.take i)) := World.rangeAt_setCells_apart (w := w.drew) P1.out _ _ _ (.inr (.inl (by rw [itc_len, List.length_take]; have := Nat.min_le_left i zs.length; omega)))
  have rx : (w.drew.setCells b (o + (i + 1) * 2) C1).heap[g]? = some (.cells (it2 x).toArray 162 (0, 0)) :=
    ((Turn.setCells w.drew b (o + (i + 1) * 2) C1).block g (by have := HX.out; exact (Array.getElem?_eq_some_iff.1 this).1) (fun j e => HNE.out e.1)).trans HX.out
  have w1 : ∀ j, j < c * 2 → ((w.drew.setCells b (o + (i + 1) * 2) C1).cell? ⟨b, o + j, none⟩).isSome = true := fun j hj => World.isSome_setCells _ _ _ _ _ (HW.out.there j hj)
  have pl : Plain (w.drew.setCells b (o + (i + 1) * 2) C1) b := Plain.setCells _ _ _ _ (by exact HW.out.plain)
  generalize w.drew.setCells b (o + (i + 1) * 2) C1 = w2 at t2 r1 r0 rx w1 pl ⊢
  have T2 := Lib.hid t2
  have R1 := Lib.hid r1
  have R0 := Lib.hid r0
  have RX := Lib.hid (show w2.rangeAt g 0 (it2 x) from fun j v hj => by
    rw [cell_of_row _ _ _ _ _ _ rx, List.getElem?_toArray, Nat.zero_add]; exact hj)
  have W1 := Lib.hid w1
  have PL := Lib.hid pl
  have X1 := Lib.hid (show ∀ u ∈ it2 x, u.oneCell' = true from fun u hu => itc_one [x] u (by simpa [itc] using hu))
  clear t1 t2 r1 r0 rx w1 pl hov th fz
  go_wp2_with ((with_reducible refine wp_copy2 (o := ⟨some 82, _, _, _, _, _⟩) rfl (.tmp 80) (.tmp 81) 188 187 rfl 162 Tryz.underlying188 size2 ⟨g, 0, none⟩ (n + 1 - i) (c - i) 1 1 b (o + i * 2) ?c3 ?c4 (it2 x) 1 ?c5 ?c6 (add_mid RX.out) ?c7 (fun j _ => PL.out.frozen _) X1.out ?_); (case c3 => rfl); (case c4 => rfl); (case c5 => (simp only [Nat.min_def]; split <;> omega)); (case c6 => rfl); (case c7 => (intro j hj; have hj2 : j < 2 := hj; have := W1.out (i * 2 + j) (by omega); rw [← Nat.add_assoc] at this; exact this)))
  go_ret
  have hx2 : ∀ j, j < (it2 x).length → (w2.cell? ⟨b, o + i * 2 + j, none⟩).isSome = true := fun j hj => by
    have hj2 : j < 2 := hj
    have := W1.out (i * 2 + j) (by omega)
    rw [← Nat.add_assoc] at this; exact this
  have hn := HN.out
  have li : (zs.take i).length = i := by rw [List.length_take, Nat.min_eq_left (by omega)]
  have e1 : n + 1 = (ins zs i x).length := by rw [ins_len _ _ _ (by omega), hn]
  refine ⟨_, rfl, ?_, ?_, fun k j hk => .inl ?_, by simp⟩
  · rw [e1]
    refine WinAt.node ⟨by omega, by unfold maxLen; omega, by omega, ?_, fun j hj => World.isSome_setCells _ _ _ _ _ (W1.out j hj), Plain.setCells _ _ _ _ PL.out⟩
    unfold ins
    rw [itc_append, itc_cons, rangeAt_append, rangeAt_append, itc_len, li, ← HC1.out]
    refine ⟨World.rangeAt_setCells_apart R0.out _ _ _ (.inr (.inl (by rw [itc_len, li]; omega))), setCells_at hx2, World.rangeAt_setCells_apart (by rw [show o + i * 2 + (it2 x).length = o + (i + 1) * 2 by show o + i * 2 + 2 = _; omega]; exact R1.out) _ _ _ (.inr (.inr ?_))⟩
    exact Nat.le_refl _
  · exact T2.out.trans (Turn.setCells w2 b (o + i * 2) (it2 x)) (fun k j h => .inl (by
      obtain ⟨rfl, h1, h2⟩ := h
      have h3 : j < o + i * 2 + 2 := h2
      exact ⟨o, _, c, rfl, by omega, by omega⟩))
  · obtain ⟨o', n', c', e, h1, h2⟩ := hk
    injection e with e1 e2 e3
    injection e1 with e1
    injection e1 with e1 e4 _
    subst e1; subst e4; subst e3
    exact ⟨o, _, c, rfl, h1, h2⟩

set_option maxHeartbeats 1000000 in
set_option maxRecDepth 100000 in
/-- slices.Insert where there is no room -/
theorem insert_grow (w : World) (b o c g i : Nat) (zs : KV) (x : ByteArray × Int) (h : WinAt w b o c zs) (hi : i < zs.length) (hl : zs.length ≤ 100000) (hr : c < zs.length + 1) (hx : w.heap[g]? = some (.cells (it2 x).toArray 162 (0, 0))) :
    Calls Tryz.prog 150 #[.slice (some ⟨b, o, none⟩) zs.length c, .int .i64 i, .slice (some ⟨g, 0, none⟩) 1 1] w (MvPost w (.slice (some ⟨b, o, none⟩) zs.length c) (ins zs i x)) := by
  obtain ⟨n, hn⟩ : ∃ n, n = zs.length := ⟨_, rfl⟩
  obtain ⟨i0, hi0, hz0, hzs, hzb⟩ := info_parts infoIt
  obtain ⟨p1, p2⟩ := rangeAt_part h.row i (by omega)
  have hgl : g < w.heap.size := (Array.getElem?_eq_some_iff.1 hx).1
  have hbl : b < w.heap.size := h.plain.lt
  have hnc := h.fit
  have hcm := h.cap
  unfold maxLen at hcm
  have li : (zs.take i).length = i := by rw [List.length_take, Nat.min_eq_left (by omega)]
  have hold : (Builtin.firstCells i0.size i (.slice (some ⟨b, o, none⟩) i c)).run Tryz.prog w.drew = .ok (itc (zs.take i)).toArray w.drew := by
    rw [hzs]
    exact run_firstCells_some w.drew 2 i ⟨b, o, none⟩ i c _ (by rw [itc_len, li]) (add_mid (by exact p1))
  have hik : i + (n + 1 - i) = n + 1 := by omega
  have hkk : (n : Int) + 1 - (i : Int) = ((n + 1 - i : Nat) : Int) := by omega
  obtain ⟨G, hG⟩ : ∃ G, G = grownCap w (n + 1) c 162 := ⟨_, rfl⟩
  have hGge : n + 1 ≤ G := by rw [hG]; exact grownCap_ge _ _ _ _
  have hGle : G ≤ maxLen := by rw [hG]; exact grownCap_le_maxLen _ _ _ _ (by unfold maxLen; omega)
  obtain ⟨Z, hZ⟩ : ∃ Z : List Value, Z = (Builtin.zeroCells (Value.agg #[Value.string ⟨#[]⟩, Value.int .i64 0]).cells (n + 1 - i) ++ Builtin.zeroCells (Value.agg #[Value.string ⟨#[]⟩, Value.int .i64 0]).cells (G - (n + 1))).toList := ⟨_, rfl⟩
  have hZl : Z.length = (G - i) * 2 := by
    rw [hZ, Array.length_toList, Array.size_append, size_zeroCells, size_zeroCells]
    show (n + 1 - i) * 2 + (G - (n + 1)) * 2 = (G - i) * 2
    omega
  have hrz : ∀ ty, (Builtin.append_ #[188, 3] ty #[.slice (some ⟨b, o, none⟩) i c, .int .i64 ((n : Int) + 1 - (i : Int))]).run Tryz.prog w =
      .ok (.slice (some ⟨w.heap.size, 0, none⟩) (n + 1) G) (w.drew.alloc (.cells (itc (zs.take i) ++ Z).toArray 162)) := fun ty => by
    have h := Lib.run_append_grow_zeros w 188 3 ty 162 i0 _ .i64 .i64 Tryz.underlying188 Tryz.underlying3 hi0 hz0 (some ⟨b, o, none⟩) i c _ hold (n + 1 - i) (by omega) (by omega) (by omega) (by omega) (by rw [hzb]; omega) (by rw [hzb, hik]; exact growslice_fits (by omega) (by omega))
    rw [hik, ← hG] at h
    rw [hkk, h, hZ]
    congr 3
    apply Array.ext'
    simp
  obtain ⟨C1, hC1⟩ : ∃ C1, C1 = itc (zs.drop i) := ⟨_, rfl⟩
  have c1o : ∀ u ∈ C1, u.oneCell' = true := by rw [hC1]; exact itc_one _
  have c1l : C1.length = (n - i) * 2 := by rw [hC1, itc_len, List.length_drop, hn]
  rw [← hC1] at p2
  obtain ⟨R0, hR0⟩ : ∃ R0 : List Value, R0 = itc (zs.take i) ++ Z := ⟨_, rfl⟩
  have hR0l : R0.length = G * 2 := by rw [hR0, List.length_append, itc_len, li, hZl]; omega
  rw [← hR0] at hrz
  obtain ⟨W1, hW1⟩ : ∃ W1, W1 = w.drew.alloc (.cells R0.toArray 162) := ⟨_, rfl⟩
  rw [← hW1] at hrz
  have hrow1 : W1.heap[w.heap.size]? = some (.cells R0.toArray 162 (0, 0)) := by rw [hW1]; exact heap_alloc_new w.drew _
  have hbel1 : Below w.heap.size w W1 := by rw [hW1]; exact (Below.refl _ _).drew.alloc (Nat.le_refl _) _
  have hr0 : W1.rangeAt w.heap.size 0 (itc (zs.take i)) := by rw [hW1, hR0]; exact grown_row
  have hth : ∀ j, j < G * 2 → (W1.cell? ⟨w.heap.size, 0 + j, none⟩).isSome = true := fun j hj => by
    rw [cell_of_row _ _ _ _ _ _ hrow1, List.getElem?_toArray, Nat.zero_add, List.getElem?_eq_getElem (by omega)]; rfl
  have hcg : W1.rangeAt g 0 (it2 x) := fun j v hj => by
    rw [World.cell?_of_block (a := ⟨g, 0 + j, none⟩) (hbel1.block g hgl), cell_of_row _ _ _ _ _ _ hx, List.getElem?_toArray, Nat.zero_add]; exact hj
  have hp2 : W1.rangeAt b (o + i * 2) C1 := fun j v hj => (World.cell?_of_block (a := ⟨b, o + i * 2 + j, none⟩) (hbel1.block b hbl)).trans (p2 j v hj)
  have HC1 := Lib.hid hC1
  have HN := Lib.hid hn
  have C1O := Lib.hid c1o
  have C1L := Lib.hid c1l
  have LI := Lib.hid li
  have HB := Lib.hid hbel1
  have R0' := Lib.hid hr0
  have TH := Lib.hid hth
  have CG := Lib.hid hcg
  have P2 := Lib.hid hp2
  have PL := Lib.hid (show Plain W1 w.heap.size from ⟨_, hrow1⟩)
  have X1 := Lib.hid (show ∀ u ∈ it2 x, u.oneCell' = true from fun u hu => itc_one [x] u (by simpa [itc] using hu))
  obtain ⟨gw, hgw⟩ : ∃ gw, gw = w.heap.size := ⟨_, rfl⟩
  have HGW := Lib.hid hgw
  rw [← hgw] at hrz R0' TH PL hgl hbl
  have HRZ := Lib.hid hrz
  have BN := Lib.hid (show b ≠ gw from by omega)
  have GN := Lib.hid (show g ≠ gw from by omega)
  unfold maxLen at hGle
  rw [← hn] at hi hl hr hnc ⊢
  have hw1 : IntKind.i64.wrap ((i : Int) + 1) = (i : Int) + 1 := by rw [IntKind.wrap_i64]; omega
  have hb1 : (0 : Int) ≤ (i : Int) + 1 := by omega
  have htn : ((i : Int) + 1).toNat = i + 1 := by omega
  have hb2 : ¬ (G = i + 1) := by omega
  have hb3 : (i : Int) ≤ (n : Int) + 1 := by omega
  have hb4 : ¬ (c = i) := by omega
  have hb5 : ¬ (G = i) := by omega
  have hin : i ≤ n := by omega
  have hz2 : ¬ ((i : Int) = (n : Int)) := by omega
  clear hC1 c1l c1o hn hx hZ hZl hR0 hR0l hW1 hrow1 hbel1 hrz hgw hG hold hkk hik hi0 hz0 hzs hzb h p1 p2 hr0 hth hcg hp2 li
  go_enter Tryz.func150, Tryz.ntmps150
  go_wp2_with (first
    | (at_builtin; refine Lib.wpList_append_run _ rfl (.tmp 34) (.tmp 39) 188 3 rfl _ _ rfl rfl _ _ (HRZ.out _) ?_)
    | ((with_reducible refine wp_copy2 (o := ⟨some 45, _, _, _, _, _⟩) rfl (.tmp 43) (.tmp 44) 188 187 rfl 162 Tryz.underlying188 size2 ⟨g, 0, none⟩ (n + 1 - i) (G - i) 1 1 gw (i * 2) ?c3 ?c4 (it2 x) 1 ?c5 ?c6 (add_mid CG.out) ?c7 (fun j _ => PL.out.frozen _) X1.out ?_); (case c3 => rfl); (case c4 => rfl); (case c5 => (simp only [Nat.min_def]; split <;> omega)); (case c6 => rfl); (case c7 => (intro j hj; have hj2 : j < 2 := hj; have := TH.out (i * 2 + j) (by omega); rw [Nat.zero_add] at this; exact this))))
  have hx2 : ∀ j, j < (it2 x).length → (W1.cell? ⟨gw, i * 2 + j, none⟩).isSome = true := fun j hj => by
    have hj2 : j < 2 := hj
    have := TH.out (i * 2 + j) (by omega)
    rw [Nat.zero_add] at this; exact this
  have r1 : (W1.setCells gw (i * 2) (it2 x)).rangeAt gw (i * 2) (it2 x) := setCells_at hx2
  have r0 : (W1.setCells gw (i * 2) (it2 x)).rangeAt gw 0 (itc (zs.take i)) := World.rangeAt_setCells_apart R0'.out _ _ _ (.inr (.inl (by rw [itc_len, LI.out]; omega)))
  have r2 : (W1.setCells gw (i * 2) (it2 x)).rangeAt b (o + i * 2) C1 := World.rangeAt_setCells_apart P2.out _ _ _ (.inl BN.out)
  have tw : ∀ j, j < G * 2 → ((W1.setCells gw (i * 2) (it2 x)).cell? ⟨gw, 0 + j, none⟩).isSome = true := fun j hj => World.isSome_setCells _ _ _ _ _ (TH.out j hj)
  have pl : Plain (W1.setCells gw (i * 2) (it2 x)) gw := Plain.setCells _ _ _ _ PL.out
  have tt : Turn (fun _ _ => False) w (W1.setCells gw (i * 2) (it2 x)) := (Turn.of_below (F := fun _ _ => False) HB.out).trans (Turn.setCells W1 gw (i * 2) (it2 x)) (fun k j h => .inr (by have := h.1; have := HGW.out; omega))
  generalize W1.setCells gw (i * 2) (it2 x) = w2 at r1 r0 r2 tw pl tt ⊢
  have R1 := Lib.hid r1
  have RZ := Lib.hid r0
  have R2 := Lib.hid r2
  have TW := Lib.hid (show ∀ j, j < C1.length → (w2.drew.cell? ⟨gw, (i + 1) * 2 + j, none⟩).isSome = true from fun j hj => by
    have e := C1L.out
    have := tw ((i + 1) * 2 + j) (by omega)
    rw [Nat.zero_add] at this; exact this)
  have TW0 := Lib.hid tw
  have PL2 := Lib.hid pl
  have TT := Lib.hid tt
  clear r1 r0 r2 tw pl tt hx2
  go_region_law (refine step_copy2 rfl (.tmp 50) (.tmp 53) 188 188 rfl 162 Tryz.underlying188 size2 ⟨b, o + i * 2, none⟩ (n + 1 - (i + 1)) (G - (i + 1)) (n - i) (c - i) gw ((i + 1) * 2) (by simp [Act.eval, Act.put]) (by simp [Act.eval, Act.put]) C1 (n - i) (by simp only [Nat.min_def]; split <;> omega) C1L.out (add_mid (by exact R2.out)) TW.out (fun j _ => by exact PL2.out.frozen _) C1O.out ?_)
  go_wp2
  go_ret
  have hn := HN.out
  have li := LI.out
  have e1 : n + 1 = (ins zs i x).length := by rw [ins_len _ _ _ (by omega), hn]
  have dz : w2.drew.rangeAt gw 0 (itc (zs.take i)) := RZ.out
  have d1 : w2.drew.rangeAt gw (i * 2) (it2 x) := R1.out
  refine ⟨_, rfl, ?_, ?_, fun k j hk => .inr ?_, by simp⟩
  · rw [e1]
    refine WinAt.node ⟨by omega, by unfold maxLen; omega, by omega, ?_, fun j hj => World.isSome_setCells _ _ _ _ _ (by exact TW0.out j hj), Plain.setCells _ _ _ _ (by exact PL2.out)⟩
    unfold ins
    rw [itc_append, itc_cons, rangeAt_append, rangeAt_append, itc_len, li, ← HC1.out]
    refine ⟨World.rangeAt_setCells_apart dz _ _ _ (.inr (.inl (by rw [itc_len, li]; omega))), World.rangeAt_setCells_apart (by rw [Nat.zero_add]; exact d1) _ _ _ (.inr (.inl (by show 0 + i * 2 + 2 ≤ _; omega))), ?_⟩
    rw [show 0 + i * 2 + (it2 x).length = (i + 1) * 2 by show 0 + i * 2 + 2 = _; omega]
    exact setCells_at TW.out
  · have t1 : Turn (fun _ _ => False) w w2.drew := TT.out.trans (Turn.of_below (F := fun _ _ => False) (Below.refl _ w2).drew) (fun _ _ e => e.elim)
    exact (t1.trans (F := fun _ _ => False) (Turn.setCells w2.drew gw ((i + 1) * 2) C1) (fun k j h => .inr (by have := h.1; have := HGW.out; omega))).mono (fun _ _ e => e.elim)
  · obtain ⟨o', n', c', e, h1, h2⟩ := hk
    injection e with e1 e2 e3
    injection e1 with e1
    injection e1 with e1 e4 _
    have := HGW.out
    omega

/-- slices.Insert of one item into a node -/
theorem xInsert (w : World) (b o c g i : Nat) (zs : KV) (x : ByteArray × Int) (h : WinAt w b o c zs) (hi : i ≤ zs.length) (hl : zs.length ≤ 100000) (hx : w.heap[g]? = some (.cells (it2 x).toArray 162 (0, 0))) (hne : g ≠ b) :
    Calls Tryz.prog 150 #[.slice (some ⟨b, o, none⟩) zs.length c, .int .i64 i, .slice (some ⟨g, 0, none⟩) 1 1] w (MvPost w (.slice (some ⟨b, o, none⟩) zs.length c) (ins zs i x)) := by
  rcases Nat.lt_or_ge i zs.length with q | q
  · rcases Nat.lt_or_ge c (zs.length + 1) with r | r
    · exact insert_grow w b o c g i zs x h q hl r hx
    · exact insert_room w b o c g i zs x h q r hx hne
  · obtain rfl : i = zs.length := by omega
    exact insert_end w b o c g zs x h hl (fun j v hj => by rw [cell_of_row _ _ _ _ _ _ hx, List.getElem?_toArray, Nat.zero_add]; exact hj)

end Go.Proofs.YtiiokmfnohifmaaGreat
