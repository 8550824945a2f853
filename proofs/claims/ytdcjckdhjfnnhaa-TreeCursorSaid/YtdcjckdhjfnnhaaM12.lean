/- Proved parts: T9k. Conditions: each theorem's own. -/
import Derived.Test.YtdcjckdhjfnnhaaM11
namespace Go.Proofs.Ytdcjckdhjfnnhaa
open Go.RowKit

theorem infoNd : (Try.prog.info? 66).map (fun i => (i.zero, i.size, i.bytes)) = some (some (.slice none 0 0), 1, 24) := by kernel_rfl
section
variable {w : World} {ops : Array Oper} {rest : List Oper} {o : Oper} {a : Act} {Q : Exit → Act → World → Prop}
set_option maxRecDepth 100000 in
/-- append(nodes, l) -/
theorem wp_putN (hgd : o.guard = none) (s x : Operand)
    (ho : o.op = .call { callee := .builtin .append, args := #[s, x], argTypes := #[48, 48] })
    (v : Value) (xs : List Value) (hs : a.eval s = v) (hown : w.ownsRow 0 66 1 v xs.length xs) (g : Nat) (y : Value) (hy : y.oneCell' = true) (hx : a.eval x = .slice (some ⟨g, 0, none⟩) 1 1)
    (hc : w.cell? ⟨g, 0, none⟩ = some y) (hl : xs.length + 1 ≤ 1000000)
    (h : ∀ g' c' w', w'.ownsRow 0 66 1 (.slice (some ⟨g', 0, none⟩) (xs.length + 1) c') (xs ++ [y]).length (xs ++ [y]) → w.grownBy w' v.ownBlock → (v.ownBlock = some g' ∨ g' = w.heap.size) → wpList Try.prog ops Q rest (a.put o.dst (.slice (some ⟨g', 0, none⟩) (xs.length + 1) c')) w') : wpList Try.prog ops Q (o :: rest) a w := by
  obtain ⟨i0, hi, hz0, hz1, hz2⟩ := info_parts infoNd
  refine wpList_append_own_at w hgd s x 48 ho 0 66 i0 _ 1 24 Try.underlying48 hi hz0 hz1 hz2 rfl (by decide) v xs.length _ hs hown ⟨g, 0, none⟩ 1 1 [y] hx rfl ?_ ?_
    (by unfold maxLen; omega) (by omega) (Nat.zero_le _) ?_
  · intro j u hj
    cases j with
    | zero => simp at hj; subst hj; exact hc
    | succ j => simp at hj
  · intro u hu; simp at hu; subst hu; exact hy
  · intro v' w' h1 h2 _ h3
    rcases h1.2 with ⟨_, e⟩ | ⟨g', cap, cur, rfl, hr⟩
    · omega
    · refine h g' cap w' ⟨by simp, .inr ⟨g', cap, cur, by simp, by simpa using hr⟩⟩ h2 ?_
      rcases h3 with e | e
      · exact .inl e.symm
      · injection e with e; exact .inr e
set_option maxRecDepth 100000 in
/-- append(ints, x): and where it lies -/
theorem wp_putJa (hgd : o.guard = none) (s x : Operand)
    (ho : o.op = .call { callee := .builtin .append, args := #[s, x], argTypes := #[28, 28] })
    (v : Value) (zs : List Int) (hs : a.eval s = v) (hown : OwnJ w 0 v zs) (g : Nat) (y : Int) (hx : a.eval x = .slice (some ⟨g, 0, none⟩) 1 1)
    (hc : w.cell? ⟨g, 0, none⟩ = some (.int .i64 y)) (hl : zs.length + 1 ≤ 1000000)
    (h : ∀ g' c' w', OwnJ w' 0 (.slice (some ⟨g', 0, none⟩) (zs.length + 1) c') (zs ++ [y]) → w.grownBy w' v.ownBlock → (v.ownBlock = some g' ∨ g' = w.heap.size) → wpList Try.prog ops Q rest (a.put o.dst (.slice (some ⟨g', 0, none⟩) (zs.length + 1) c')) w') : wpList Try.prog ops Q (o :: rest) a w := by
  obtain ⟨i0, hi, hz0, hz1, hz2⟩ := info_parts infoJ
  refine wpList_append_own_at w hgd s x 28 ho 0 3 i0 _ 1 8 Try.underlying28 hi hz0 hz1 hz2 rfl (by decide) v zs.length _ hs hown ⟨g, 0, none⟩ 1 1 [.int .i64 y] hx rfl ?_ ?_
    (by unfold maxLen; omega) (by omega) (Nat.zero_le _) ?_
  · intro j u hj
    cases j with
    | zero => simp at hj; subst hj; exact hc
    | succ j => simp at hj
  · intro u hu; simp at hu; subst hu; rfl
  · intro v' w' h1 h2 _ h3
    rcases h1.2 with ⟨_, e⟩ | ⟨g', cap, cur, rfl, hr⟩
    · omega
    · refine h g' cap w' ⟨by simp, .inr ⟨g', cap, cur, by simp, by simpa using hr⟩⟩ h2 ?_
      rcases h3 with e | e
      · exact .inl e.symm
      · injection e with e; exact .inr e
end
theorem OwnJ.cut {w : World} {g n c k : Nat} {zs : List Int} (h : OwnJ w 0 (.slice (some ⟨g, 0, none⟩) n c) zs) (hk : k ≤ zs.length) : OwnJ w 0 (.slice (some ⟨g, 0, none⟩) k c) (zs.take k) := by
  rcases h.2 with ⟨e, _⟩ | ⟨g', cap, cur, e, hB, hg, hnc, hcm, hcs, ht⟩
  · cases e
  · injection e with e1 e2 e3
    injection e1 with e1
    injection e1 with e1 _ _
    subst e1; subst e3
    have hl : (zs.take k).length = k := by rw [List.length_take]; omega
    refine ⟨by simp, .inr ⟨g, c, cur, by rw [hl], hB, hg, by omega, hcm, hcs, ?_⟩⟩
    rw [hl, List.map_take, ← ht, List.take_take]
    congr 1
    omega

section
variable {w w' : World} {T : Nat} {E : Nat → Prop} {s : Tab} {rv fv : Value} {vs : List Value}
/-- a node that lies loose is laid in the row -/
theorem TabV.putV {i g c : Nat} {v : Value} {zs : KV} (h : TabV w T E s rv fv vs) (hi : i < vs.length) (hr : rv = .slice (some ⟨g, 0, none⟩) vs.length c) (hm : NodeAt w v zs)
    (hl : ∀ k q, InWin v k q → (E k ∧ k ≠ T ∧ rv.ownBlock ≠ some k ∧ fv.ownBlock ≠ some k) ∧ ∀ j, j < vs.length → j ≠ i → ¬ InWin (nv vs j) k q) :
    TabV (w.setCell ⟨g, i, none⟩ v) T E (s.put i zs) rv fv (vs.set i v) := by
  have eg := h.eN g (by rw [hr]; rfl)
  have k0 : ∀ k, k ≠ g → (w.setCell ⟨g, i, none⟩ v).heap[k]? = w.heap[k]? := fun k q => Below.heap_setCell _ _ _ _ q
  have gw : ∀ k, rv.ownBlock ≠ some k → k ≠ g := fun k e t => e (by rw [hr, t]; rfl)
  refine ⟨h.row.other (fun e => eg.2 e) _, ?_, own_keep h.free fun k e => k0 k (gw k (h.eF k e).2.2), by rw [List.length_set, h.len]; show _ = (s.nds.set i zs).length; rw [List.length_set], fun j hj => ?_, fun j l k q hj hl' e1 e2 => ?_, h.eT, h.eN, h.eF, fun j k q hj e => ?_, fun k e => ?_⟩
  · rw [List.length_set]
    have rN := h.nodes
    rw [hr] at rN ⊢
    exact (rN.stored i v).1
  · rw [List.length_set] at hj
    rw [nv_set hi, Tab.put_nd (by rw [← h.len]; exact hi)]
    by_cases e : j = i
    · rw [if_pos e, if_pos e]
      exact hm.keep fun k q f => k0 k (gw k (hl k q f).1.2.2.1)
    · rw [if_neg e, if_neg e]
      exact (h.node j hj).keep fun k q f => k0 k (gw k (h.eW j k q hj f).2.2.1)
  · rw [List.length_set] at hj hl'
    rw [nv_set hi] at e1 e2
    by_cases c1 : j = i
    · by_cases c2 : l = i
      · omega
      · rw [if_pos c1] at e1
        rw [if_neg c2] at e2
        exact absurd e2 ((hl k q e1).2 l hl' c2)
    · by_cases c2 : l = i
      · rw [if_neg c1] at e1
        rw [if_pos c2] at e2
        exact absurd e1 ((hl k q e2).2 j hj c1)
      · rw [if_neg c1] at e1
        rw [if_neg c2] at e2
        exact h.apart j l k q hj hl' e1 e2
  · rw [List.length_set] at hj
    rw [nv_set hi] at e
    by_cases c1 : j = i
    · rw [if_pos c1] at e; exact (hl k q e).1
    · rw [if_neg c1] at e; exact h.eW j k q hj e
  · have : (w.setCell ⟨g, i, none⟩ v).heap.size = w.heap.size := by simp [World.setCell]
    rw [this]; exact h.lt k e
theorem nv_push {vs : List Value} {v : Value} (j : Nat) (hj : j < (vs ++ [v]).length) : nv (vs ++ [v]) j = if j < vs.length then nv vs j else v := by
  unfold nv
  rw [List.getD_eq_getElem?_getD, List.getD_eq_getElem?_getD]
  by_cases e : j < vs.length
  · rw [if_pos e, List.getElem?_append_left e]
  · have : j = vs.length := by simp at hj; omega
    subst this
    rw [if_neg e]; simp
/-- the row has grown by a node that lay loose -/
theorem TabV.pushed {E' : Nat → Prop} {v rv' : Value} {zs : KV} (h : TabV w T E s rv fv vs) (hm : NodeAt w v zs)
    (hl : ∀ k q, InWin v k q → (E k ∧ k ≠ T ∧ rv.ownBlock ≠ some k ∧ fv.ownBlock ≠ some k) ∧ ∀ j, j < vs.length → ¬ InWin (nv vs j) k q)
    (ho : w'.ownsRow 0 66 1 rv' (vs ++ [v]).length (vs ++ [v])) (hg : w.grownBy w' rv.ownBlock) (hb : rv'.ownBlock = rv.ownBlock ∨ rv'.ownBlock = some w.heap.size)
    (hE : ∀ k, E k → E' k) (hE2 : ∀ k, w.heap.size ≤ k → k < w'.heap.size → E' k) (hlt : ∀ k, E' k → k < w'.heap.size) :
    TabV (w'.setCell ⟨T, 0, none⟩ rv') T E' { s with nds := s.nds ++ [zs] } rv' fv (vs ++ [v]) := by
  have k1 : ∀ k, E k → rv.ownBlock ≠ some k → w'.heap[k]? = w.heap[k]? := fun k e n => hg.block k (h.lt k e) (fun q => n q.symm)
  have k2 : ∀ k, k ≠ T → (w'.setCell ⟨T, 0, none⟩ rv').heap[k]? = w'.heap[k]? := fun k q => Below.heap_setCell _ _ _ _ q
  have nb : ∀ k, E k → rv.ownBlock ≠ some k → rv'.ownBlock ≠ some k := fun k e n q => by
    rcases hb with b | b
    · exact n (b.symm.trans q)
    · rw [b] at q
      injection q with q
      have := h.lt k e; omega
  have rT : RowAt w' T _ _ := (k1 T h.eT (fun e => (h.eN T e).2 rfl)).trans h.row
  have r := rT.set 0 rv'
  have ln := h.len
  have wk : ∀ j k q, j < (vs ++ [v]).length → InWin (nv (vs ++ [v]) j) k q → E k ∧ k ≠ T ∧ rv.ownBlock ≠ some k ∧ fv.ownBlock ≠ some k := fun j k q hj e => by
    rw [nv_push j hj] at e
    by_cases c : j < vs.length
    · rw [if_pos c] at e; exact h.eW j k q c e
    · rw [if_neg c] at e; exact (hl k q e).1
  have nT : rv'.ownBlock ≠ some T := nb T h.eT (fun e => (h.eN T e).2 rfl)
  refine ⟨r, own_keep ho fun k e => k2 k (fun t => nT (by rw [← t]; exact e)), own_keep (own_keep h.free fun k e => k1 k (h.eF k e).1 (h.eF k e).2.2) fun k e => k2 k (h.eF k e).2.1, by simp [ln], fun j hj => ?_, fun j l k q hj hl' e1 e2 => ?_, hE T h.eT, fun k e => ⟨?_, fun t => nT (by rw [← t]; exact e)⟩, fun k e => ⟨hE k (h.eF k e).1, (h.eF k e).2.1, nb k (h.eF k e).1 (h.eF k e).2.2⟩, fun j k q hj e => ?_, fun k e => ?_⟩
  · have wj := wk j
    rw [nv_push j hj] at wj ⊢
    unfold Tab.nd
    show NodeAt _ _ ((s.nds ++ [zs]).getD j [])
    rw [List.getD_eq_getElem?_getD]
    by_cases c : j < vs.length
    · rw [if_pos c] at wj ⊢
      rw [List.getElem?_append_left (by omega)]
      have := (h.node j c).keep fun k q f => (k2 k (wj k q hj f).2.1).trans (k1 k (wj k q hj f).1 (wj k q hj f).2.2.1)
      rw [← List.getD_eq_getElem?_getD]; exact this
    · rw [if_neg c] at wj ⊢
      have : j = s.nds.length := by simp at hj; omega
      subst this
      simp only [List.getElem?_concat_length, Option.getD_some]
      exact hm.keep fun k q f => (k2 k (wj k q hj f).2.1).trans (k1 k (wj k q hj f).1 (wj k q hj f).2.2.1)
  · rw [nv_push j hj] at e1
    rw [nv_push l hl'] at e2
    by_cases c1 : j < vs.length
    · rw [if_pos c1] at e1
      by_cases c2 : l < vs.length
      · rw [if_pos c2] at e2; exact h.apart j l k q c1 c2 e1 e2
      · rw [if_neg c2] at e2; exact absurd e1 ((hl k q e2).2 j c1)
    · rw [if_neg c1] at e1
      by_cases c2 : l < vs.length
      · rw [if_pos c2] at e2; exact absurd e2 ((hl k q e1).2 l c2)
      · simp at hj hl'; omega
  · rcases hb with b | b
    · exact hE k (h.eN k (b.symm.trans e)).1
    · have := World.ownsRow.lt ho k e
      rw [b] at e
      injection e with e
      exact hE2 k (by omega) this.2
  · have := wk j k q hj e
    exact ⟨hE k this.1, this.2.1, nb k this.1 this.2.2.1, this.2.2.2⟩
  · have : (w'.setCell ⟨T, 0, none⟩ rv').heap.size = w'.heap.size := by simp [World.setCell]
    rw [this]; exact hlt k e
/-- the free places turn -/
theorem TabV.freed {E' : Nat → Prop} {fv' : Value} {l : List Nat} (h : TabV w T E s rv fv vs) (ho : OwnJ w' 0 fv' (frees l)) (hg : w.grownBy w' fv.ownBlock) (hb : fv'.ownBlock = fv.ownBlock ∨ fv'.ownBlock = some w.heap.size)
    (hE : ∀ k, E k → E' k) (hE2 : ∀ k, w.heap.size ≤ k → k < w'.heap.size → E' k) (hlt : ∀ k, E' k → k < w'.heap.size) :
    TabV (w'.setCell ⟨T, 1, none⟩ fv') T E' { s with free := l } rv fv' vs := by
  have k1 : ∀ k, E k → fv.ownBlock ≠ some k → w'.heap[k]? = w.heap[k]? := fun k e n => hg.block k (h.lt k e) (fun q => n q.symm)
  have k2 : ∀ k, k ≠ T → (w'.setCell ⟨T, 1, none⟩ fv').heap[k]? = w'.heap[k]? := fun k q => Below.heap_setCell _ _ _ _ q
  have nb : ∀ k, E k → fv.ownBlock ≠ some k → fv'.ownBlock ≠ some k := fun k e n q => by
    rcases hb with b | b
    · exact n (b.symm.trans q)
    · rw [b] at q
      injection q with q
      have := h.lt k e; omega
  have nT : fv'.ownBlock ≠ some T := nb T h.eT (fun e => (h.eF T e).2.1 rfl)
  have rT : RowAt w' T _ _ := (k1 T h.eT (fun e => (h.eF T e).2.1 rfl)).trans h.row
  have r := rT.set 1 fv'
  have fN : ∀ k, rv.ownBlock = some k → fv.ownBlock ≠ some k := fun k e q => (h.eF k q).2.2 e
  refine ⟨r, own_keep (own_keep h.nodes fun k e => k1 k (h.eN k e).1 (fN k e)) fun k e => k2 k (h.eN k e).2, own_keep ho fun k e => k2 k (fun t => nT (by rw [← t]; exact e)), h.len, fun j hj => (h.node j hj).keep fun k q f => (k2 k (h.eW j k q hj f).2.1).trans (k1 k (h.eW j k q hj f).1 (h.eW j k q hj f).2.2.2), h.apart, hE T h.eT,
    fun k e => ⟨hE k (h.eN k e).1, (h.eN k e).2⟩, fun k e => ⟨?_, fun t => nT (by rw [← t]; exact e), fun q => ?_⟩, fun j k q hj e => ⟨hE k (h.eW j k q hj e).1, (h.eW j k q hj e).2.1, (h.eW j k q hj e).2.2.1, nb k (h.eW j k q hj e).1 (h.eW j k q hj e).2.2.2⟩, fun k e => ?_⟩
  · rcases hb with b | b
    · exact hE k (h.eF k (b.symm.trans e)).1
    · have := World.ownsRow.lt ho k e
      rw [b] at e
      injection e with e
      exact hE2 k (by omega) this.2
  · exact nb k (h.eN k q).1 (fN k q) e
  · have : (w'.setCell ⟨T, 1, none⟩ fv').heap.size = w'.heap.size := by simp [World.setCell]
    rw [this]; exact hlt k e
theorem TabV.grow {E' : Nat → Prop} (h : TabV w T E s rv fv vs) (hE : ∀ k, E k → E' k) (hlt : ∀ k, E' k → k < w.heap.size) : TabV w T E' s rv fv vs :=
  ⟨h.row, h.nodes, h.free, h.len, h.node, h.apart, hE T h.eT, fun k e => ⟨hE k (h.eN k e).1, (h.eN k e).2⟩, fun k e => ⟨hE k (h.eF k e).1, (h.eF k e).2⟩, fun i k q hi e => ⟨hE k (h.eW i k q hi e).1, (h.eW i k q hi e).2⟩, hlt⟩
end

/-- a place for a node: one that is free, or a new one -/
def Tab.place (s : Tab) : Nat := match s.free.getLast? with
  | none => s.nds.length
  | some p => p
def Tab.take (s : Tab) (zs : KV) : Tab := match s.free.getLast? with
  | none => { s with nds := s.nds ++ [zs] }
  | some p => { s with nds := s.nds.set p zs, free := s.free.dropLast }
/-- what take leaves -/
def TookP (w : World) (T : Nat) (E : Nat → Prop) (s : Tab) (rv fv : Value) (zs : KV) (w' : World) : Prop :=
  LeftP w T E (s.take zs) w' ∧ ∀ k, k < w.heap.size → k ≠ T → rv.ownBlock ≠ some k → fv.ownBlock ≠ some k → w'.heap[k]? = w.heap[k]?

set_option maxHeartbeats 1000000 in
set_option maxRecDepth 100000 in
/-- take, a new place -/
theorem xTakeN (w : World) (T : Nat) (E : Nat → Prop) (s : Tab) (rv fv : Value) (vs : List Value) (A : Option Addr) (n c : Nat) (zs : KV) (h : TabV w T E s rv fv vs) (hm : NodeAt w (.slice A n c) zs)
    (hl : ∀ k q, InWin (.slice A n c) k q → (E k ∧ k ≠ T ∧ rv.ownBlock ≠ some k ∧ fv.ownBlock ≠ some k) ∧ ∀ j, j < vs.length → ¬ InWin (nv vs j) k q) (hf : s.free = []) (hn : vs.length ≤ 100000) :
    Calls Try.prog 32 #[Ptr T, .slice A n c] w fun x w' => x = .returned (.int .i64 s.place) ∧ TookP w T E s rv fv zs w' := by
  have hp : s.place = vs.length := by unfold Tab.place; rw [hf, h.len]; rfl
  have ht : s.take zs = { s with nds := s.nds ++ [zs] } := by unfold Tab.take; rw [hf]; rfl
  have c0 := h.row.cell 0
  have c1 := h.row.cell 1
  simp only [List.getElem?_cons_zero, List.getElem?_cons_succ] at c0 c1
  have f0 := h.row.frozen 0
  obtain ⟨A1, cf, rfl, _⟩ := h.free.form
  rw [hf] at c1
  simp only [frees, List.map_nil, List.length_nil] at c1
  obtain ⟨A0, cn, hrv, _⟩ : ∃ A0 cn, rv = .slice A0 vs.length cn ∧ True := by
    rcases h.nodes.2 with ⟨e, e0⟩ | ⟨g, cap, cur, e, _⟩
    · exact ⟨none, 0, by rw [e, e0], trivial⟩
    · exact ⟨_, cap, e, trivial⟩
  subst hrv
  have H := Lib.hid h
  have HM := Lib.hid hm
  have HL := Lib.hid hl
  have lT := h.lt T h.eT
  unfold TookP
  rw [hp, ht]
  clear h hm hl hp ht hf
  obtain ⟨w1, hw1⟩ : ∃ w1, w1 = w.alloc (.cells #[.slice A n c] 66) := ⟨_, rfl⟩
  have B1 := Lib.hid (show Below w.heap.size w w1 by rw [hw1]; exact (Below.refl _ _).alloc (Nat.le_refl _) _)
  have S1 := Lib.hid (show w1.heap.size = w.heap.size + 1 by rw [hw1]; simp)
  have CQ := Lib.hid (show w1.cell? ⟨w.heap.size, 0, none⟩ = some (.slice A n c) by rw [hw1]; exact cell_new1 w _ _)
  have H1 := Lib.hid (H.out.below B1.out)
  have HM1 := Lib.hid (HM.out.keep (w' := w1) fun k q e => B1.out.block k (InWin.lt HM.out e))
  have HW1 := Lib.hid hw1
  obtain ⟨m, hm⟩ : ∃ m, m = vs.length := ⟨_, rfl⟩
  have HMM := Lib.hid hm
  rw [← hm] at c0 hn ⊢
  have nT : Value.ownBlock (.slice A0 vs.length cn) ≠ some T := fun e => (H.out.eN T e).2 rfl
  have NT := Lib.hid nT
  clear hw1 hm nT
  go_enter Try.func32, Try.ntmps32
  go_wp2_with (at_builtin; refine wp_putN rfl (.tmp 19) (.tmp 21) rfl (.slice A0 vs.length cn) vs (by rw [← HMM.out]; rfl) (by rw [← HW1.out]; exact H1.out.nodes) w.heap.size (.slice A n c) rfl rfl (by rw [← HW1.out]; exact CQ.out) (by rw [← HMM.out]; omega) ?_; intro g' c' w2 ho hg hb; rw [← HW1.out] at hg hb; have HO := Lib.hid ho; have HG := Lib.hid hg; have HB := Lib.hid hb; have c0' : w2.cell? ⟨T, 0, none⟩ = some (.slice A0 m cn) := (World.cell?_of_block (a := ⟨T, 0, none⟩) (hg.block T (by rw [S1.out]; omega) (fun e => NT.out e.symm))).trans ((World.cell?_of_block (a := ⟨T, 0, none⟩) (B1.out.block T lT)).trans c0); have f0' : w2.frozen? ⟨T, 0, none⟩ = false := (World.frozen?_of_block (a := ⟨T, 0, none⟩) (hg.block T (by rw [S1.out]; omega) (fun e => NT.out e.symm))).trans ((World.frozen?_of_block (a := ⟨T, 0, none⟩) (B1.out.block T lT)).trans f0); clear ho hg hb; rw [← HMM.out])
  go_ret
  have hm := HMM.out
  have sz := HG.out.size
  have s1 := S1.out
  have hl : ∀ k q, InWin (.slice A n c) k q → (E k ∧ k ≠ T ∧ Value.ownBlock (.slice A0 vs.length cn) ≠ some k ∧ Value.ownBlock (.slice A1 (frees s.free).length cf) ≠ some k) ∧ ∀ j, j < vs.length → ¬ InWin (nv vs j) k q := HL.out
  refine ⟨ret_int (by omega), ⟨fun k => k < w2.heap.size ∧ (E k ∨ w.heap.size ≤ k), ⟨_, _, _, H1.out.pushed (w' := w2) (E' := fun k => k < w2.heap.size ∧ (E k ∨ w.heap.size ≤ k)) HM1.out hl (by rw [hm]; exact HO.out) HG.out ?_ (fun k e => ⟨?_, .inl e⟩) (fun k e f => ⟨f, .inr (by omega)⟩) (fun k e => e.1)⟩, fun k e => e.2, ?_⟩, fun k hk kT kr _ => ?_⟩
  · rcases HB.out with e | e
    · exact .inl e.symm
    · exact .inr (by show some g' = _; rw [e])
  · have := H.out.lt k e; omega
  · refine Chg.setCell (Chg.grown (Chg.of_below B1.out) HG.out fun k e => .inl (H.out.eN k e).1) (.inl H.out.eT) _
  · exact ((Below.heap_setCell _ _ _ _ kT).trans (HG.out.block k (by omega) (fun e => kr (by rw [hm]; exact e.symm)))).trans (B1.out.block k hk)

set_option maxHeartbeats 1000000 in
set_option maxRecDepth 100000 in
/-- take, a free place -/
theorem xTakeF (w : World) (T : Nat) (E : Nat → Prop) (s : Tab) (rv fv : Value) (vs : List Value) (A : Option Addr) (n c : Nat) (zs : KV) (h : TabV w T E s rv fv vs) (hm : NodeAt w (.slice A n c) zs)
    (hl : ∀ k q, InWin (.slice A n c) k q → (E k ∧ k ≠ T ∧ rv.ownBlock ≠ some k ∧ fv.ownBlock ≠ some k) ∧ ∀ j, j < vs.length → ¬ InWin (nv vs j) k q) (p : Nat) (fr : List Nat) (hf : s.free = fr ++ [p]) (hp : p < vs.length) (hn : s.free.length ≤ 100000) :
    Calls Try.prog 32 #[Ptr T, .slice A n c] w fun x w' => x = .returned (.int .i64 s.place) ∧ TookP w T E s rv fv zs w' := by
  have hpl : s.place = p := by unfold Tab.place; rw [hf, List.getLast?_concat]
  have ht : s.take zs = { s with nds := s.nds.set p zs, free := fr } := by unfold Tab.take; rw [hf, List.getLast?_concat, List.dropLast_concat]
  have c0 := h.row.cell 0
  have c1 := h.row.cell 1
  simp only [List.getElem?_cons_zero, List.getElem?_cons_succ] at c0 c1
  have f1 := h.row.frozen 1
  obtain ⟨g, cn, rfl, hg, gT, hc⟩ := h.rowAt (by omega)
  obtain ⟨cg, fg⟩ := hc p hp
  obtain ⟨m, hmm⟩ : ∃ m, m = fr.length := ⟨_, rfl⟩
  have lf : (frees s.free).length = m + 1 := by rw [hf]; simp [frees, hmm]
  obtain ⟨g2, cf, rfl, hmc, cm⟩ : ∃ g2 cf, fv = .slice (some ⟨g2, 0, none⟩) (m + 1) cf ∧ m + 1 ≤ cf ∧ w.cell? ⟨g2, m, none⟩ = some (.int .i64 p) := by
    have h2 := h.free
    rcases h2.2 with ⟨_, e⟩ | ⟨g2, cap, cur, e, _, _, hnc, _⟩
    · omega
    · refine ⟨g2, cap, by rw [e, lf], by omega, ?_⟩
      have h3 := h2
      unfold OwnJ at h3
      rw [e] at h3
      rw [h3.cellAt m (by omega), hf]
      simp [frees, hmm]
  have bg2 := h.eF g2 rfl
  have H := Lib.hid h
  have HM := Lib.hid hm
  have HL := Lib.hid hl
  unfold TookP
  have h1 : OwnJ w 0 (.slice (some ⟨g2, 0, none⟩) m cf) (frees fr) := by
    have h2 := (h.free).cut (k := m) (by omega)
    have e : (frees s.free).take m = frees fr := by rw [hf]; unfold frees; rw [List.map_append, List.take_append_of_le_length (by simp [hmm]), List.take_of_length_le (by simp [hmm])]
    rwa [e] at h2
  have v1 := Lib.hid (h.freed (w' := w) (E' := E) (fv' := .slice (some ⟨g2, 0, none⟩) m cf) (l := fr) h1 ⟨rfl, rfl, rfl, Nat.le_refl _, fun _ _ _ => rfl⟩ (.inl rfl) (fun _ e => e) (fun k e f => by omega) h.lt)
  have HNV := Lib.hid (show w.cell? ⟨g, p, none⟩ = some (nv vs p) from cg)
  obtain ⟨N, hN⟩ : ∃ N, N = vs.length := ⟨_, rfl⟩
  have HN := Lib.hid hN
  obtain ⟨pv, hpv⟩ : ∃ pv, pv = nv vs p := ⟨_, rfl⟩
  have mi : (m : Int) + 1 - 1 = (m : Int) := by omega
  rw [← hpv] at cg
  rw [hpl, ht]
  have HP := Lib.hid hp
  rw [← hN] at c0 hp
  have m0 : ¬ ((m : Int) < 0) := by omega
  have mc : m ≤ cf := by omega
  have HF := Lib.hid hf
  have cfm : cf ≤ maxLen := by
    rcases h.free.2 with ⟨e, _⟩ | ⟨_, _, _, e, _, _, _, q, _⟩
    · cases e
    · injection e with _ _ e; rw [e]; exact q
  unfold maxLen at cfm
  have ml : m + 1 ≤ 100000 := by rw [← lf]; unfold frees; rw [List.length_map]; exact hn
  have gT' := gT
  have g2T := bg2.2.1
  clear h hm hl hc hpl ht lf h1 hN hpv hf hn hmm
  go_enter Try.func32, Try.ntmps32
  go_wp2_with fail
  go_ret
  have kT : ∀ k, k ≠ T → (w.setCell ⟨T, 1, none⟩ (.slice (some ⟨g2, 0, none⟩) m cf)).heap[k]? = w.heap[k]? := fun k q => Below.heap_setCell _ _ _ _ q
  refine ⟨rfl, ⟨E, ⟨_, _, _, v1.out.putV (zs := zs) HP.out rfl (HM.out.keep fun k q e => kT k (HL.out k q e).1.2.1) (fun k q e => ⟨(HL.out k q e).1, fun j hj _ => (HL.out k q e).2 j hj⟩)⟩, fun k e => .inl e, Chg.setCell (Chg.setCell (Chg.refl E w) (.inl H.out.eT) _) (.inl hg) _⟩, fun k _ k1 k2 _ => ?_⟩
  exact (Below.heap_setCell _ _ _ _ (fun (t : k = g) => k2 (by rw [t]; rfl))).trans (kT k k1)

/-- take: the places it needs are few -/
theorem xTake (w : World) (T : Nat) (E : Nat → Prop) (s : Tab) (rv fv : Value) (vs : List Value) (A : Option Addr) (n c : Nat) (zs : KV) (h : TabV w T E s rv fv vs) (hm : NodeAt w (.slice A n c) zs)
    (hl : ∀ k q, InWin (.slice A n c) k q → (E k ∧ k ≠ T ∧ rv.ownBlock ≠ some k ∧ fv.ownBlock ≠ some k) ∧ ∀ j, j < vs.length → ¬ InWin (nv vs j) k q) (hf : ∀ p, p ∈ s.free → p < s.nds.length) (hn : s.nds.length ≤ 100000) (hn2 : s.free.length ≤ 100000) :
    Calls Try.prog 32 #[Ptr T, .slice A n c] w fun x w' => x = .returned (.int .i64 s.place) ∧ TookP w T E s rv fv zs w' := by
  rcases List.eq_nil_or_concat s.free with e | ⟨fr, p, e⟩
  · exact xTakeN w T E s rv fv vs A n c zs h hm hl e (by rw [h.len]; exact hn)
  · rw [List.concat_eq_append] at e
    exact xTakeF w T E s rv fv vs A n c zs h hm hl p fr e (by rw [h.len]; exact hf p (by rw [e]; simp)) hn2

end Go.Proofs.Ytdcjckdhjfnnhaa
