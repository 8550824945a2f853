/- Proved parts: E5g E5b. Conditions: each theorem's own. -/
import Derived.Test.YtfodclafkdkjbaaDoorM4
import Derived.Test.YtfodclafkdkjbaaDoorM28
import Derived.Lib.SlKeysI
import Derived.Maps.RangeWalk
namespace Go.Proofs.YtfodclafkdkjbaaDoor
open Go.RowKit Go.Maps

theorem str_inj {s t : ByteArray} (h : s.data.toList = t.data.toList) : s = t := by
  obtain ⟨⟨a⟩⟩ := s
  obtain ⟨⟨b⟩⟩ := t
  simp at h
  rw [h]
/-- how a sector that is a map's element reads -/
noncomputable def secElem (v : Value) : Option (DataW Unit × List MemPlace) :=
  open Classical in if h : ∃ s : ByteArray, s.size ≤ 64 ∧ v = .agg (secL s).toArray then some (.lit (.string h.choose.data.toList), []) else none
theorem secElem_mk (s : ByteArray) (h : s.size ≤ 64) : secElem (.agg (secL s).toArray) = some (.lit (.string s.data.toList), []) := by
  have e : ∃ t : ByteArray, t.size ≤ 64 ∧ (Value.agg (secL s).toArray) = .agg (secL t).toArray := ⟨s, h, rfl⟩
  unfold secElem
  rw [dif_pos e]
  have k := e.choose_spec
  have k2 : secL s = secL e.choose := by have := k.2; simpa using this
  rw [← secL_inj h k2]
theorem secElem_inv {v : Value} {z : DataW Unit × List MemPlace} (h : secElem v = some z) : ∃ s : ByteArray, s.size ≤ 64 ∧ v = .agg (secL s).toArray ∧ z = (.lit (.string s.data.toList), []) := by
  unfold secElem at h
  split at h
  · rename_i e
    exact ⟨e.choose, e.choose_spec.1, e.choose_spec.2, by cases h; rfl⟩
  · cases h

/-- the law of ints as keys -/
theorem keyI : Keyed Tryd.prog 3 := int_keyed Tryd.underlying3
theorem keyOfI (x : Int) (h : In64 x) : keyOf Tryd.prog 3 (.int .i64 x) = some (.int .i64 x) := keyOf_int_mk Tryd.underlying3 (WalkArith.wf_i64 ⟨by have := h.1; omega, by have := h.2; omega⟩)

/-- what the map of extent e says -/
structure Says (D : DataW Unit) (m : Ext) (e : Nat) : Prop where
  key : ∀ x : Int, Maps.has D (.int .i64 x) = true → 0 ≤ x ∧ x < m.sec
  wet : ∀ a : Nat, a < m.sec → Maps.has D (.int .i64 a) = (m.secAt (e * m.sec + a)).wet
  now : ∀ a : Nat, a < m.sec → (m.secAt (e * m.sec + a)).wet = true → ∀ z, D.atKey (.int .i64 a) z = .lit (.string (m.secAt (e * m.sec + a)).now.data.toList)
/-- the dry sectors of extent e -/
def drys (m : Ext) (e : Nat) : List ByteArray := (List.range m.sec).map fun a => (m.secAt (e * m.sec + a)).dry
theorem drys_len (m : Ext) (e : Nat) : (drys m e).length = m.sec := by unfold drys; simp
theorem drys_get (m : Ext) (e a : Nat) (h : a < m.sec) : (drys m e)[a]'(by rw [drys_len]; exact h) = (m.secAt (e * m.sec + a)).dry := by
  unfold drys
  rw [List.getElem_map, List.getElem_range]
/-- what fits, and what isn't wet is dry -/
def Fine (m : Ext) : Prop := ∀ i, (m.secAt i).dry.size ≤ 64 ∧ (m.secAt i).now.size ≤ 64 ∧ ((m.secAt i).wet = false → (m.secAt i).now = (m.secAt i).dry)

/-- at block b lies the world m: its extents' row at g; dry sectors at ds, wet ones' maps at ms -/
structure RepE (w : World) (b g cap : Nat) (ds ms : Nat → Nat) (Ds : Nat → DataW Unit) (m : Ext) : Prop where
  ok : m.Ok
  on : w.cell? ⟨b, 0, none⟩ = some (.bool (!m.off))
  fz : w.frozen? ⟨b, 0, none⟩ = false
  sec : w.cell? ⟨b, 1, none⟩ = some (.int .i64 m.sec)
  ext : w.cell? ⟨b, 2, none⟩ = some (.slice (some ⟨g, 0, none⟩) m.ext cap)
  dc : ∀ e, e < m.ext → w.cell? ⟨g, e * 2, none⟩ = some (.slice (some ⟨ds e, 0, none⟩) m.sec m.sec)
  mc : ∀ e, e < m.ext → w.cell? ⟨g, e * 2 + 1, none⟩ = some (.map (some (ms e)))
  row : ∀ e, e < m.ext → RowAt w (ds e) ((drys m e).flatMap secL) 85
  map : ∀ e, e < m.ext → w.ownsMap Tryd.prog 3 secElem (ms e) (Maps.size (Ds e)) (Ds e)
  says : ∀ e, e < m.ext → Says (Ds e) m e
  fine : Fine m
  apart : ∀ i j, i < m.ext → j < m.ext → i ≠ j → ds i ≠ ds j ∧ ms i ≠ ms j

theorem ownsMap_tight {w : World} {k : TypeId} {b n : Nat} {D : DataW Unit} (h : w.ownsMap Tryd.prog k secElem b n D) : w.ownsMap Tryd.prog k secElem b (Maps.size D) D := by
  obtain ⟨es, clock, hb, F, hs, rfl⟩ := h
  exact ⟨es, clock, hb, F, by simp [Maps.size, length_sorted], rfl⟩
/-- the world of the program -/
def RelX : RelE := fun w b F m => ∃ g cap ds ms Ds, RepE w b g cap ds ms Ds m ∧ F b ∧ F g ∧ (∀ e, e < m.ext → F (ds e) ∧ F (ms e)) ∧ ∀ k, F k → k < w.heap.size

section
variable {w w' : World} {b g cap : Nat} {ds ms : Nat → Nat} {Ds : Nat → DataW Unit} {m m' : Ext}
theorem RepE.lt_row (h : RepE w b g cap ds ms Ds m) {e : Nat} (he : e < m.ext) : ds e < w.heap.size := (h.row e he).lt
theorem RepE.lt_map (h : RepE w b g cap ds ms Ds m) {e : Nat} (he : e < m.ext) : ms e < w.heap.size := (h.map e he).lt
theorem RepE.lt_b (h : RepE w b g cap ds ms Ds m) : b < w.heap.size := World.block_lt_of_cell? w ⟨b, 0, none⟩ h.on
theorem RepE.lt_g (h : RepE w b g cap ds ms Ds m) : g < w.heap.size := World.block_lt_of_cell? w ⟨g, 0 * 2, none⟩ (h.dc 0 h.ok.1)
theorem cell_no_map {w : World} {g i : Nat} {v : Value} (h : w.cell? ⟨g, i, none⟩ = some v) {es : Array MapEntry} {c : Nat} : w.heap[g]? ≠ some (.map es c) := by
  intro e
  unfold World.cell? at h
  rw [show w.heap[(⟨g, i, none⟩ : Addr).block]? = some (.map es c) from e] at h
  simp at h
theorem RepE.first (h : RepE w b g cap ds ms Ds m) {e : Nat} (he : e < m.ext) : ∃ n : Int, w.cell? ⟨ds e, 0, none⟩ = some (.int .i64 n) := by
  have h1 := h.ok.2.2.1
  have hr := RowAt.cell (h.row e he) (0 * 65 + 0)
  rw [flat_at secL_len (drys m e) 0 0 (by rw [drys_len]; exact h1) (by decide), secL_zero] at hr
  exact ⟨_, hr⟩
theorem RepE.b_g (h : RepE w b g cap ds ms Ds m) : b ≠ g := by
  intro e; have h1 := h.on; have h2 := h.dc 0 h.ok.1
  rw [e] at h1; rw [Nat.zero_mul] at h2; rw [h1] at h2; cases h2
theorem RepE.b_d (h : RepE w b g cap ds ms Ds m) {e : Nat} (he : e < m.ext) : ds e ≠ b := by
  intro q; have h1 := h.on; obtain ⟨n, h2⟩ := h.first he
  rw [q, h1] at h2; cases h2
theorem RepE.g_d (h : RepE w b g cap ds ms Ds m) {e : Nat} (he : e < m.ext) : ds e ≠ g := by
  intro q; have h1 := h.dc 0 h.ok.1; obtain ⟨n, h2⟩ := h.first he
  rw [Nat.zero_mul] at h1; rw [q, h1] at h2; cases h2
theorem RepE.m_cell (h : RepE w b g cap ds ms Ds m) {e : Nat} (he : e < m.ext) {k i : Nat} {v : Value} (hc : w.cell? ⟨k, i, none⟩ = some v) : ms e ≠ k := by
  intro q
  obtain ⟨es, c, hb, _⟩ := h.map e he
  rw [q] at hb
  exact cell_no_map hc hb
theorem RepE.b_m (h : RepE w b g cap ds ms Ds m) {e : Nat} (he : e < m.ext) : ms e ≠ b := h.m_cell he h.on
theorem RepE.g_m (h : RepE w b g cap ds ms Ds m) {e : Nat} (he : e < m.ext) : ms e ≠ g := h.m_cell he (h.dc 0 h.ok.1)
theorem RepE.d_m (h : RepE w b g cap ds ms Ds m) {e i : Nat} (he : e < m.ext) (hi : i < m.ext) : ms e ≠ ds i := by
  obtain ⟨n, h2⟩ := h.first hi
  exact h.m_cell he h2
theorem ownsMap_chg {F : Nat → Prop} {k : TypeId} {c n : Nat} {D : DataW Unit} (h : w.ownsMap Tryd.prog k secElem c n D) (hc : Chg F w w') (hn : ¬ F c) : w'.ownsMap Tryd.prog k secElem c n D := by
  have hl := h.lt
  obtain ⟨es, clock, hb, r⟩ := h
  exact ⟨es, clock, (hc.block c hl hn).trans hb, r⟩
theorem frozen_chg {F : Nat → Prop} (hc : Chg F w w') {p : Addr} (hp : p.block < w.heap.size) (hn : ¬ F p.block) : w'.frozen? p = w.frozen? p := by
  unfold World.frozen?
  rw [hc.block p.block hp hn]
/-- of all its blocks none has turned -/
theorem RepE.keep (h : RepE w b g cap ds ms Ds m) {F : Nat → Prop} (hc : Chg F w w') (hb : ¬ F b) (hg : ¬ F g) (hd : ∀ e, e < m.ext → ¬ F (ds e) ∧ ¬ F (ms e)) : RepE w' b g cap ds ms Ds m where
  ok := h.ok
  on := hc.cell h.on hb
  fz := by rw [frozen_chg hc h.lt_b hb]; exact h.fz
  sec := hc.cell h.sec hb
  ext := hc.cell h.ext hb
  dc e he := hc.cell (h.dc e he) hg
  mc e he := hc.cell (h.mc e he) hg
  row e he := (h.row e he).keep hc (hd e he).1
  map e he := ownsMap_chg (h.map e he) hc (hd e he).2
  says := h.says
  fine := h.fine
  apart := h.apart
theorem RepE.below (h : RepE w b g cap ds ms Ds m) (hb : Below w.heap.size w w') : RepE w' b g cap ds ms Ds m :=
  h.keep (F := fun _ => False) (Chg.of_below hb) id id fun _ _ => ⟨id, id⟩
/-- one extent has turned -/
theorem RepE.step (h : RepE w b g cap ds ms Ds m) {e0 : Nat} (he0 : e0 < m.ext) {n : Nat} {D' : DataW Unit} (hc : Chg (fun k => k = ds e0 ∨ k = ms e0) w w') (hr : RowAt w' (ds e0) ((drys m' e0).flatMap secL) 85)
    (hm : w'.ownsMap Tryd.prog 3 secElem (ms e0) n D') (hs : Says D' m' e0) (e1 : m'.off = m.off) (e2 : m'.ext = m.ext) (e3 : m'.sec = m.sec) (ho : m'.Ok) (hf : Fine m')
    (hx : ∀ e a, e < m.ext → a < m.sec → e ≠ e0 → m'.secAt (e * m.sec + a) = m.secAt (e * m.sec + a)) : RepE w' b g cap ds ms (fun e => if e = e0 then D' else Ds e) m' := by
  have nb : ¬ (b = ds e0 ∨ b = ms e0) := by rintro (q | q); exact h.b_d he0 q.symm; exact h.b_m he0 q.symm
  have ng : ¬ (g = ds e0 ∨ g = ms e0) := by rintro (q | q); exact h.g_d he0 q.symm; exact h.g_m he0 q.symm
  have nd : ∀ e, e < m.ext → e ≠ e0 → ¬ (ds e = ds e0 ∨ ds e = ms e0) := fun e he hne => by
    rintro (q | q)
    · exact (h.apart e e0 he he0 hne).1 q
    · exact h.d_m he0 he q.symm
  have nm : ∀ e, e < m.ext → e ≠ e0 → ¬ (ms e = ds e0 ∨ ms e = ms e0) := fun e he hne => by
    rintro (q | q)
    · exact h.d_m he he0 q
    · exact (h.apart e e0 he he0 hne).2 q
  refine ⟨ho, by rw [e1]; exact hc.cell h.on nb, by rw [frozen_chg hc h.lt_b nb]; exact h.fz, by rw [e3]; exact hc.cell h.sec nb, by rw [e2]; exact hc.cell h.ext nb, fun e he => ?_, fun e he => ?_, fun e he => ?_, fun e he => ?_, fun e he => ?_, hf, fun i j hi hj => h.apart i j (by rw [← e2]; exact hi) (by rw [← e2]; exact hj)⟩
  · rw [e2] at he; rw [e3]; exact hc.cell (h.dc e he) ng
  · rw [e2] at he; exact hc.cell (h.mc e he) ng
  · rw [e2] at he
    by_cases q : e = e0
    · subst q; exact hr
    · have k := (h.row e he).keep hc (nd e he q)
      have : drys m' e = drys m e := by
        unfold drys
        rw [e3]
        exact List.map_congr_left fun a ha => by rw [hx e a he (List.mem_range.1 ha) q]
      rw [this]; exact k
  · rw [e2] at he
    by_cases q : e = e0
    · subst q
      show World.ownsMap _ _ _ _ _ (Maps.size (if e = e then D' else Ds e)) (if e = e then D' else Ds e)
      rw [if_pos rfl]; exact ownsMap_tight hm
    · show World.ownsMap _ _ _ _ _ (Maps.size (if e = e0 then D' else Ds e)) (if e = e0 then D' else Ds e)
      rw [if_neg q]; exact ownsMap_chg (h.map e he) hc (nm e he q)
  · rw [e2] at he
    by_cases q : e = e0
    · subst q
      show Says (if e = e then D' else Ds e) _ _
      rw [if_pos rfl]; exact hs
    · show Says (if e = e0 then D' else Ds e) _ _
      rw [if_neg q]
      have k := h.says e he
      exact ⟨fun x hx' => by rw [e3]; exact k.key x hx', fun a ha => by rw [e3] at ha ⊢; rw [hx e a he ha q]; exact k.wet a ha, fun a ha => by rw [e3] at ha ⊢; rw [hx e a he ha q]; exact k.now a ha⟩
/-- it is turned on, or off -/
theorem RepE.turned (h : RepE w b g cap ds ms Ds m) (o : Bool) : RepE (w.setCell ⟨b, 0, none⟩ (.bool (!o))) b g cap ds ms Ds { m with off := o } := by
  have hc : Chg (fun k => k = b) w (w.setCell ⟨b, 0, none⟩ (.bool (!o))) := (Chg.refl (fun k => k = b) w).setCell (p := ⟨b, 0, none⟩) (.inl rfl) _
  refine ⟨h.ok, World.cell?_setCell_same _ _ _ h.on, (World.frozen?_setCell _ _ _ _).trans h.fz, ?_, ?_, fun e he => hc.cell (h.dc e he) (fun q => h.b_g q.symm), fun e he => hc.cell (h.mc e he) (fun q => h.b_g q.symm), fun e he => (h.row e he).keep hc (h.b_d he), fun e he => ownsMap_chg (h.map e he) hc (h.b_m he), fun e he => ⟨(h.says e he).key, (h.says e he).wet, (h.says e he).now⟩, h.fine, h.apart⟩
  · rw [World.cell?_setCell_other _ _ _ _ (by intro q; cases q)]; exact h.sec
  · rw [World.cell?_setCell_other _ _ _ _ (by intro q; cases q)]; exact h.ext
end
/-- what a call that turns no block of F leaves -/
theorem RelX.left {w w' : World} {b : Nat} {F G : Nat → Prop} {g cap : Nat} {ds ms : Nat → Nat} {Ds : Nat → DataW Unit} {m : Ext} (hc : Chg G w w') (hG : ∀ k, G k → F k ∨ w.heap.size ≤ k) (h : RepE w' b g cap ds ms Ds m) (hb : F b) (hg : F g) (hd : ∀ e, e < m.ext → F (ds e) ∧ F (ms e)) (hF : ∀ k, F k → k < w.heap.size) : LeftE RelX b F w m w' :=
  ⟨(Chg.refl F w).trans hc hG, F, ⟨g, cap, ds, ms, Ds, h, hb, hg, hd, fun k hk => Nat.lt_of_lt_of_le (hF k hk) hc.size⟩, fun _ h => .inl h⟩
theorem RelX.keep {w w' : World} {b : Nat} {F : Nat → Prop} {m : Ext} (h : RelX w b F m) (hk : ∀ k, F k → w'.heap[k]? = w.heap[k]?) (hs : w.heap.size ≤ w'.heap.size) : RelX w' b F m := by
  obtain ⟨g, cap, ds, ms, Ds, hr, hb, hg, hd, hF⟩ := h
  have cell : ∀ k i v, F k → w.cell? ⟨k, i, none⟩ = some v → w'.cell? ⟨k, i, none⟩ = some v := fun k i v hF hc => (World.cell?_of_block (w := w) (hk k hF)).trans hc
  refine ⟨g, cap, ds, ms, Ds, ⟨hr.ok, cell _ _ _ hb hr.on, ?_, cell _ _ _ hb hr.sec, cell _ _ _ hb hr.ext, fun e he => cell _ _ _ hg (hr.dc e he), fun e he => cell _ _ _ hg (hr.mc e he), fun e he => (hk _ (hd e he).1).trans (hr.row e he), fun e he => ?_, hr.says, hr.fine, hr.apart⟩, hb, hg, hd, fun k hk => Nat.lt_of_lt_of_le (hF k hk) hs⟩
  · unfold World.frozen?
    rw [show w'.heap[(⟨b, 0, none⟩ : Addr).block]? = w.heap[b]? from hk b hb]
    exact hr.fz
  · obtain ⟨es, clock, hb, r⟩ := hr.map e he
    exact ⟨es, clock, (hk _ (hd e he).2).trans hb, r⟩

/-- the places of the wet ones, by the map -/
theorem wet_perm {w : World} {c n : Nat} {D : DataW Unit} {m : Ext} {e : Nat} (hw : w.ownsMap Tryd.prog 3 secElem c n D) (hs : Says D m e) (he : e < m.ext) : (m.wet e).Perm (intKeys D) := by
  obtain ⟨es, hD, hpw, _⟩ := hw.entries keyI
  obtain ⟨es', hD', hko⟩ := hw.keysOf
  obtain rfl : es = es' := by rw [hD] at hD'; simpa using hD'
  subst hD
  refine perm_intKeys hpw (fun p hp => by obtain ⟨v, hv⟩ := hko p hp; obtain ⟨x, _, hx, _⟩ := Maps.keyOf_i64 Tryd.underlying3 hv; exact ⟨x, hx⟩) ?_ fun x => ?_
  · unfold Ext.wet Ext.wetTo
    refine List.pairwise_map.2 ((List.nodup_range.filter _).imp ?_)
    intro a b hne q; exact hne (by omega)
  · unfold Ext.wet Ext.wetTo
    simp only [List.mem_map, List.mem_filter, List.mem_range, Bool.and_eq_true, decide_eq_true_eq]
    have pos : ∀ a : Nat, m.pos (e : Int) (a : Int) = e * m.sec + a := fun a => by unfold Ext.pos; rfl
    constructor
    · rintro ⟨a, ⟨ha, _, hwet⟩, rfl⟩
      rw [pos] at hwet
      rw [hs.wet a ha]; exact hwet
    · intro hh
      obtain ⟨x0, x1⟩ := hs.key x hh
      refine ⟨x.toNat, ⟨by omega, ⟨by omega, by omega, by omega, by omega⟩, ?_⟩, by omega⟩
      rw [pos, ← hs.wet x.toNat (by omega), show ((x.toNat : Nat) : Int) = x by omega]
      exact hh
theorem wet_len (m : Ext) (e : Int) : (m.wet e).length ≤ m.sec := by
  unfold Ext.wet Ext.wetTo
  rw [List.length_map]
  exact Nat.le_trans (List.length_filter_le _ _) (by simp)
theorem size_wet {w : World} {c n : Nat} {D : DataW Unit} {m : Ext} {e : Nat} (hw : w.ownsMap Tryd.prog 3 secElem c n D) (hs : Says D m e) (he : e < m.ext) : Maps.size D ≤ m.sec := by
  have h := (wet_perm hw hs he).length_eq
  obtain ⟨es, hD, _, _⟩ := hw.entries keyI
  subst hD
  have k := wet_len m e
  rw [h] at k
  simpa [intKeys, Maps.size] using k
/-- .. in order -/
theorem wet_sort {D : DataW Unit} {m : Ext} {e : Nat} {ss : List Int} (h : (m.wet e).Perm (intKeys D)) (hp : ss.Perm (intKeys D)) : ss.mergeSort leI = m.wet e := by
  rw [mergeSort_of_perm_i (hp.trans h.symm)]
  refine List.mergeSort_of_pairwise ?_
  unfold Ext.wet Ext.wetTo
  refine List.pairwise_map.2 (List.Pairwise.filter _ (List.pairwise_lt_range.imp ?_))
  intro a b hab
  simp only [leI, decide_eq_true_eq]
  omega

/-- of all entries none is left -/
theorem ownsMap_clear {w : World} {c n : Nat} {D : DataW Unit} (h : w.ownsMap Tryd.prog 3 secElem c n D) (ty : TypeId) : ∃ w', (Builtin.clear_ #[68] ty #[.map (some c)]).run Tryd.prog w = .ok (.tuple #[]) w' ∧ w'.ownsMap Tryd.prog 3 secElem c 0 (.map []) ∧ w.grownBy w' (some c) ∧ w'.heap.size = w.heap.size := by
  obtain ⟨es, clock, hb, F, hs, rfl⟩ := h
  refine ⟨ChangeMaps.setBlock w c (.map #[] clock), ?_, ⟨#[], clock, ChangeMaps.heap_setBlock_same hb _, ⟨by simp, ?_, by simp⟩, by simp, rfl⟩, ⟨rfl, rfl, rfl, by simp [ChangeMaps.setBlock], fun i _ hi => ChangeMaps.heap_setBlock_other hb _ (fun e => hi (by rw [e]))⟩, by simp [ChangeMaps.setBlock]⟩
  · simp [Builtin.clear_, run_underlying Tryd.underlying68, MapKept.run_getObj_map hb, MapKept.run_setObj_map _ hb, Result.andThen, ChangeMaps.setBlock]
  · exact ⟨by simp, by simp, by simp⟩
theorem wp_clearM {ops : Array Oper} {rest : List Oper} {o : Oper} {a : Act} {w : World} {Q : Exit → Act → World → Prop} (hg : o.guard = none) (x : Operand) (hop : o.op = Op.call { callee := Callee.builtin Builtin.clear, args := #[x], argTypes := #[68] })
    (c n : Nat) (D : DataW Unit) (hm : a.eval x = .map (some c)) (h : w.ownsMap Tryd.prog 3 secElem c n D)
    (hK : ∀ w', w'.ownsMap Tryd.prog 3 secElem c 0 (.map []) → w.grownBy w' (some c) → w'.heap.size = w.heap.size → wpList Tryd.prog ops Q rest (a.put o.dst (.tuple #[])) w') : wpList Tryd.prog ops Q (o :: rest) a w := by
  refine wpList_plain hg fun K' hK' => ?_
  obtain ⟨w', hrun, r1, r2, r3⟩ := ownsMap_clear h o.type
  unfold Oper.wp
  simp [execOp, hop, resolve, invoke, builtin, hm, hrun, Result.andThen]
  exact hK' _ _ (hK w' r1 r2 r3)

end Go.Proofs.YtfodclafkdkjbaaDoor

namespace Go.Proofs.YtfodclafkdkjbaaDoor
open Go.RowKit Go.Maps

set_option maxRecDepth 100000 in
theorem xOr2 (x y r : Int) (hr : (if x = 0 then y else x) = r) (g c : Nat) (w : World) (h0 : w.cell? ⟨g, 0, none⟩ = some (.int .i64 x)) (h1 : w.cell? ⟨g, 1, none⟩ = some (.int .i64 y)) :
    Calls Tryd.prog 35 #[.slice (some ⟨g, 0, none⟩) 2 c] w fun v w' => v = .returned (.int .i64 r) ∧ w' = w := by
  refine (xOr g c [x, y] w (by simp) (fun j hj => ?_)).mono fun v w' h => ⟨h.1.trans ?_, h.2⟩
  · rcases j with _ | _ | j
    · exact h0
    · exact h1
    · simp at hj; omega
  · rw [← hr]
    congr 2
    unfold orL; split
    · unfold orL; split
      · rename_i h; rw [h]; rfl
      · rfl
    · rfl
set_option maxRecDepth 100000 in
theorem xOr3 (x y z r : Int) (hr : (if x = 0 then if y = 0 then z else y else x) = r) (g c : Nat) (w : World) (h0 : w.cell? ⟨g, 0, none⟩ = some (.int .i64 x)) (h1 : w.cell? ⟨g, 1, none⟩ = some (.int .i64 y)) (h2 : w.cell? ⟨g, 2, none⟩ = some (.int .i64 z)) :
    Calls Tryd.prog 35 #[.slice (some ⟨g, 0, none⟩) 3 c] w fun v w' => v = .returned (.int .i64 r) ∧ w' = w := by
  refine (xOr g c [x, y, z] w (by simp) (fun j hj => ?_)).mono fun v w' h => ⟨h.1.trans ?_, h.2⟩
  · rcases j with _ | _ | _ | j
    · exact h0
    · exact h1
    · exact h2
    · simp at hj; omega
  · rw [← hr]
    congr 2
    unfold orL; split
    · unfold orL; split
      · unfold orL; split
        · rename_i h; rw [h]; rfl
        · rfl
      · rfl
    · rfl
theorem xHasYes (b : Nat) (m : Ext) (e a : Int) (c : Nat) (g : Option Addr) (w : World) (h : m.has e a) (h1 : w.cell? ⟨b, 1, none⟩ = some (.int .i64 m.sec)) (h2 : w.cell? ⟨b, 2, none⟩ = some (.slice g m.ext c)) :
    Calls Tryd.prog 37 #[.pointer (some ⟨b, 0, none⟩), .int .i64 e, .int .i64 a] w fun x w' => x = .returned (.int .i64 0) ∧ w' = w :=
  (xHas b e a m.ext m.sec c g w h1 h2).mono fun x w' k => ⟨k.1.trans (by unfold Ext.has at h; rw [if_pos h]), k.2⟩
theorem xHasNo (b : Nat) (m : Ext) (e a : Int) (c : Nat) (g : Option Addr) (w : World) (h : ¬ m.has e a) (h1 : w.cell? ⟨b, 1, none⟩ = some (.int .i64 m.sec)) (h2 : w.cell? ⟨b, 2, none⟩ = some (.slice g m.ext c)) :
    Calls Tryd.prog 37 #[.pointer (some ⟨b, 0, none⟩), .int .i64 e, .int .i64 a] w fun x w' => x = .returned (.int .i64 1) ∧ w' = w :=
  (xHas b e a m.ext m.sec c g w h1 h2).mono fun x w' k => ⟨k.1.trans (by unfold Ext.has at h; rw [if_neg h]), k.2⟩
theorem RelX.left_below {w w' : World} {b : Nat} {F : Nat → Prop} {m : Ext} (h : RelX w b F m) (hb : Below w.heap.size w w') : LeftE RelX b F w m w' := by
  obtain ⟨g, cap, ds, ms, Ds, hr, hb', hg, hd, hF⟩ := h
  exact RelX.left (G := fun _ => False) (Chg.of_below hb) (fun _ e => e.elim) (hr.below hb) hb' hg hd hF

set_option maxRecDepth 100000 in
/-- On -/
theorem xOn (b : Nat) (F : Nat → Prop) (m : Ext) (w : World) (h : RelX w b F m) : Calls Tryd.prog 40 #[.pointer (some ⟨b, 0, none⟩)] w fun x w' => x = .returned (.bool (!m.off)) ∧ LeftE RelX b F w m w' := by
  obtain ⟨g, cap, ds, ms, Ds, hr, hb', hg, hd, hF⟩ := id h
  have c := hr.on
  obtain ⟨o, ho⟩ : ∃ o, o = !m.off := ⟨_, rfl⟩
  rw [← ho] at c ⊢
  have L := Lib.hid (RelX.left_below (w' := w) h (Below.refl _ _))
  clear ho hr h hb' hg hd hF
  go_enter Tryd.func40, Tryd.ntmps40
  go_wp2_with fail
  go_ret
  exact ⟨rfl, L.out⟩
set_option maxRecDepth 100000 in
theorem xExtents (b : Nat) (F : Nat → Prop) (m : Ext) (w : World) (h : RelX w b F m) : Calls Tryd.prog 41 #[.pointer (some ⟨b, 0, none⟩)] w fun x w' => x = .returned (.int .i64 (m.ext : Int)) ∧ LeftE RelX b F w m w' := by
  obtain ⟨g, cap, ds, ms, Ds, hr, hb', hg, hd, hF⟩ := id h
  have c := hr.ext
  have L := Lib.hid (RelX.left_below (w' := w) h (Below.refl _ _))
  clear hr h hb' hg hd hF
  go_enter Tryd.func41, Tryd.ntmps41
  go_wp2_with fail
  go_ret
  exact ⟨rfl, L.out⟩
set_option maxRecDepth 100000 in
theorem xSectors (b : Nat) (F : Nat → Prop) (m : Ext) (w : World) (h : RelX w b F m) : Calls Tryd.prog 34 #[.pointer (some ⟨b, 0, none⟩)] w fun x w' => x = .returned (.int .i64 (m.sec : Int)) ∧ LeftE RelX b F w m w' := by
  obtain ⟨g, cap, ds, ms, Ds, hr, hb', hg, hd, hF⟩ := id h
  have c := hr.sec
  have L := Lib.hid (RelX.left_below (w' := w) h (Below.refl _ _))
  clear hr h hb' hg hd hF
  go_enter Tryd.func34, Tryd.ntmps34
  go_wp2_with fail
  go_ret
  exact ⟨rfl, L.out⟩
set_option maxRecDepth 100000 in
/-- Start -/
theorem xStart (b : Nat) (F : Nat → Prop) (m : Ext) (w : World) (h : RelX w b F m) : Calls Tryd.prog 24 #[.pointer (some ⟨b, 0, none⟩)] w fun x w' => x = .returned (.int .i64 m.start.2) ∧ LeftE RelX b F w m.start.1 w' := by
  obtain ⟨g, cap, ds, ms, Ds, hr, hb', hg, hd, hF⟩ := id h
  have c := hr.on
  have cf := hr.fz
  cases ho : m.off with
  | false =>
    rw [ho] at c
    have e : m.start = (m, 8) := by unfold Ext.start; rw [ho]; rfl
    rw [e]
    have L := Lib.hid (RelX.left_below (w' := w) h (Below.refl _ _))
    clear ho hr h hb' hg hd hF e
    go_enter Tryd.func24, Tryd.ntmps24
    go_wp2_with fail
    go_ret
    exact ⟨rfl, L.out⟩
  | true =>
    rw [ho] at c
    have e : m.start = ({ m with off := false }, 0) := by unfold Ext.start; rw [ho]; rfl
    rw [e]
    have k := hr.turned false
    have L := Lib.hid (RelX.left (F := F) (w := w) (G := fun k => k = b) ((Chg.refl (fun k => k = b) w).setCell (p := ⟨b, 0, none⟩) (.inl rfl) _) (fun k hk => .inl (by rw [hk]; exact hb')) k hb' hg hd hF)
    clear ho hr h hb' hg hd hF e k
    go_enter Tryd.func24, Tryd.ntmps24
    go_wp2_with fail
    go_ret
    exact ⟨rfl, L.out⟩

end Go.Proofs.YtfodclafkdkjbaaDoor
