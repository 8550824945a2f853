/- Proved parts: E5cm. Conditions: each theorem's own. -/
import Derived.Test.YtfodclafkdkjbaaDoorM40
namespace Go.Proofs.YtfodclafkdkjbaaDoor
open Go.RowKit Go.Maps

theorem Ext.same {m m' : Ext} (h0 : m.off = m'.off) (h1 : m.ext = m'.ext) (h2 : m.sec = m'.sec) (h3 : m.l.length = m'.l.length) (h4 : ∀ i, i < m.l.length → m.secAt i = m'.secAt i) : m = m' := by
  obtain ⟨o, e, s, l⟩ := m
  obtain ⟨o', e', s', l'⟩ := m'
  simp only at h0 h1 h2 h3
  subst h0; subst h1; subst h2
  congr 1
  apply List.ext_getElem h3
  intro i k1 k2
  have q := h4 i k1
  unfold Ext.secAt at q
  simpa [List.getD_eq_getElem?_getD, List.getElem?_eq_getElem, k1, k2] using q
theorem secAt_map {m : Ext} (f : Nat → Sec → Sec) (j : Nat) (hj : j < m.l.length) : ({ m with l := m.l.mapIdx f } : Ext).secAt j = f j (m.secAt j) := by
  unfold Ext.secAt
  show (m.l.mapIdx f).getD j Sec0 = _
  rw [List.getD_eq_getElem?_getD, List.getElem?_mapIdx, List.getElem?_eq_getElem hj, List.getD_eq_getElem?_getD, List.getElem?_eq_getElem hj]
  rfl
/-- what is wet and picked is dry as it is -/
def keptF (m : Ext) (ps : List (Int × Int)) (j : Nat) (x : Sec) : Sec := if x.wet = true ∧ m.named ps j = true then ⟨x.now, x.now, true⟩ else x
def keptE (m : Ext) (ps : List (Int × Int)) : Ext := { m with l := m.l.mapIdx (keptF m ps) }
theorem keptE_len (m : Ext) (ps : List (Int × Int)) : (keptE m ps).l.length = m.l.length := by unfold keptE; simp
theorem keptE_at (m : Ext) (ps : List (Int × Int)) (j : Nat) (hj : j < m.l.length) : (keptE m ps).secAt j = keptF m ps j (m.secAt j) := secAt_map _ j hj
theorem keptE_ok {m : Ext} (ho : m.Ok) (ps : List (Int × Int)) : (keptE m ps).Ok := ⟨ho.1, ho.2.1, ho.2.2.1, ho.2.2.2.1, by rw [keptE_len]; exact ho.2.2.2.2⟩
theorem keptE_nil (m : Ext) : keptE m [] = m := by
  refine Ext.same rfl rfl rfl (keptE_len _ _) fun i hi => ?_
  rw [keptE_len] at hi
  rw [keptE_at m [] i hi]
  unfold keptF Ext.named
  simp
theorem named_snoc (m : Ext) (ps : List (Int × Int)) (p : Int × Int) (i : Nat) : m.named (ps ++ [p]) i = (m.named ps i || decide (m.atI p.1 p.2 = (i : Int))) := by
  unfold Ext.named; simp [List.any_append]
theorem keptE_skip {m : Ext} (ps : List (Int × Int)) (p : Int × Int) (h : ∀ i, i < m.l.length → (m.secAt i).wet = true → m.atI p.1 p.2 ≠ (i : Int)) : keptE m (ps ++ [p]) = keptE m ps := by
  refine Ext.same rfl rfl rfl (by rw [keptE_len, keptE_len]) fun i hi => ?_
  rw [keptE_len] at hi
  rw [keptE_at m _ i hi, keptE_at m _ i hi]
  unfold keptF
  rw [named_snoc]
  by_cases hw : (m.secAt i).wet = true
  · rw [decide_eq_false (h i hi hw), Bool.or_false]
  · rw [if_neg (fun q => hw q.1), if_neg (fun q => hw q.1)]
theorem keptE_put {m : Ext} (ps : List (Int × Int)) (p : Int × Int) {i : Nat} (hi : i < m.l.length) (hw : (m.secAt i).wet = true) (hp : m.atI p.1 p.2 = (i : Int)) : keptE m (ps ++ [p]) = (keptE m ps).put i ⟨(m.secAt i).now, (m.secAt i).now, true⟩ := by
  refine Ext.same rfl rfl rfl (by rw [keptE_len]; show _ = ((keptE m ps).l.set i _).length; rw [List.length_set, keptE_len]) fun j hj => ?_
  rw [keptE_len] at hj
  rw [secAt_put (by rw [keptE_len]; exact hi), keptE_at m _ j hj]
  unfold keptF
  rw [named_snoc, hp]
  by_cases q : i = j
  · subst q
    rw [if_pos rfl, if_pos ⟨hw, by simp⟩]
  · rw [if_neg q, keptE_at m _ j hj, decide_eq_false (show ¬ ((i : Int) = (j : Int)) by omega), Bool.or_false]
    rfl
theorem keptE_sec (m : Ext) (ps : List (Int × Int)) (i : Nat) (hi : i < m.l.length) : ((keptE m ps).secAt i).wet = (m.secAt i).wet ∧ ((keptE m ps).secAt i).now = (m.secAt i).now := by
  rw [keptE_at m ps i hi]
  unfold keptF
  split
  · rename_i h; exact ⟨h.1.symm, rfl⟩
  · exact ⟨rfl, rfl⟩
/-- the first k extents have nothing wet -/
def clearF (m : Ext) (k : Nat) (j : Nat) (x : Sec) : Sec := if j < k * m.sec then ⟨x.dry, x.dry, false⟩ else x
def clearE (m : Ext) (k : Nat) : Ext := { m with l := m.l.mapIdx (clearF m k) }
theorem clearE_len (m : Ext) (k : Nat) : (clearE m k).l.length = m.l.length := by unfold clearE; simp
theorem clearE_at (m : Ext) (k : Nat) (j : Nat) (hj : j < m.l.length) : (clearE m k).secAt j = clearF m k j (m.secAt j) := secAt_map _ j hj
theorem clearE_ok {m : Ext} (ho : m.Ok) (k : Nat) : (clearE m k).Ok := ⟨ho.1, ho.2.1, ho.2.2.1, ho.2.2.2.1, by rw [clearE_len]; exact ho.2.2.2.2⟩
theorem clearE_none (m : Ext) : clearE m 0 = m := by
  refine Ext.same rfl rfl rfl (clearE_len _ _) fun i hi => ?_
  rw [clearE_len] at hi
  rw [clearE_at m 0 i hi]
  unfold clearF
  rw [if_neg (by omega)]
theorem row_lt {k n e a : Nat} (ha : a < n) : e * n + a < k * n ↔ e < k := by
  constructor
  · intro h
    rcases Nat.lt_or_ge e k with q | q
    · exact q
    · have := Nat.mul_le_mul_right n q; omega
  · intro h
    have := Nat.mul_le_mul_right n (show e + 1 ≤ k from h)
    rw [Nat.add_mul] at this; omega
theorem clearE_row {m : Ext} (ho : m.Ok) {e a : Nat} (he : e < m.ext) (ha : a < m.sec) (k : Nat) : (clearE m k).secAt (e * m.sec + a) = if e < k then ⟨(m.secAt (e * m.sec + a)).dry, (m.secAt (e * m.sec + a)).dry, false⟩ else m.secAt (e * m.sec + a) := by
  rw [clearE_at m k _ (pos_lt_nat ho he ha)]
  unfold clearF
  by_cases q : e < k
  · rw [if_pos q, if_pos ((row_lt ha).2 q)]
  · rw [if_neg q, if_neg (fun h => q ((row_lt ha).1 h))]
theorem Fine.kept {m : Ext} (h : Fine m) (ps : List (Int × Int)) : Fine (keptE m ps) := fun i => by
  by_cases hi : i < m.l.length
  · rw [keptE_at m ps i hi]
    unfold keptF
    split
    · exact ⟨(h i).2.1, (h i).2.1, fun q => by cases q⟩
    · exact h i
  · have : (keptE m ps).secAt i = Sec0 := by unfold Ext.secAt; rw [List.getD_eq_getElem?_getD, List.getElem?_eq_none (by rw [keptE_len]; omega)]; rfl
    rw [this]; exact ⟨by decide, by decide, fun _ => rfl⟩
theorem Fine.clear {m : Ext} (h : Fine m) (k : Nat) : Fine (clearE m k) := fun i => by
  by_cases hi : i < m.l.length
  · rw [clearE_at m k i hi]
    unfold clearF
    split
    · exact ⟨(h i).1, (h i).1, fun _ => rfl⟩
    · exact h i
  · have : (clearE m k).secAt i = Sec0 := by unfold Ext.secAt; rw [List.getD_eq_getElem?_getD, List.getElem?_eq_none (by rw [clearE_len]; omega)]; rfl
    rw [this]; exact ⟨by decide, by decide, fun _ => rfl⟩
theorem drys_clear {m : Ext} (ho : m.Ok) {e : Nat} (he : e < m.ext) (k : Nat) : drys (clearE m k) e = drys m e := by
  apply List.ext_getElem (by rw [drys_len, drys_len]; rfl)
  intro j h1 h2
  rw [drys_len] at h2
  rw [drys_get (clearE m k) e j h2, drys_get m e j h2]
  show ((clearE m k).secAt (e * m.sec + j)).dry = _
  rw [clearE_row ho he h2]
  split <;> rfl
/-- both steps are a crash -/
theorem crash_two {m : Ext} (ho : m.Ok) (hf : Fine m) (ps : List (Int × Int)) : { clearE (keptE m ps) m.ext with off := true } = ({ m with l := m.crashed ps m.l.length, off := true } : Ext) := by
  refine Ext.same rfl rfl rfl (by show (clearE (keptE m ps) m.ext).l.length = (m.crashed ps m.l.length).length; rw [clearE_len, keptE_len, Ext.crashed_len]) fun i hi => ?_
  have hi : i < m.l.length := by
    change i < (clearE (keptE m ps) m.ext).l.length at hi
    rwa [clearE_len, keptE_len] at hi
  show (clearE (keptE m ps) m.ext).secAt i = _
  rw [clearE_at _ _ i (by rw [keptE_len]; exact hi)]
  unfold clearF
  rw [if_pos (by show i < m.ext * m.sec; rw [← ho.2.2.2.2]; exact hi), keptE_at m ps i hi]
  have hc : ({ m with l := m.crashed ps m.l.length, off := true } : Ext).secAt i = Ext.gone (m.secAt i) (!(m.secAt i).wet || m.named ps i) := by
    have e1 : m.secAt i = m.l[i] := by unfold Ext.secAt; rw [List.getD_eq_getElem?_getD, List.getElem?_eq_getElem hi]; rfl
    rw [e1]
    unfold Ext.secAt
    show (m.crashed ps m.l.length).getD i Sec0 = _
    rw [List.getD_eq_getElem?_getD, List.getElem?_eq_getElem (by rw [Ext.crashed_len]; exact hi), Ext.crashed_get, if_pos hi]
    rfl
  rw [hc]
  unfold keptF Ext.gone
  cases hw : (m.secAt i).wet with
  | false =>
    rw [if_neg (fun q => by cases q.1)]
    have := (hf i).2.2 hw
    simp [this]
  | true =>
    cases hn : m.named ps i with
    | true => simp
    | false => simp

end Go.Proofs.YtfodclafkdkjbaaDoor
