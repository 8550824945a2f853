/- The program's World: what a map says when it is written. -/
import Derived.Test.YtjghpacpeojejaaE5e
namespace Go.Proofs.Ytjghpacpeojejaa
open Go.RowKit Go.Maps

theorem secAt_put {m : Ext} {i : Nat} (hi : i < m.l.length) (x : Sec) (j : Nat) : (m.put i x).secAt j = if i = j then x else m.secAt j := by
  unfold Ext.secAt Ext.put
  show (m.l.set i x).getD j Sec0 = _
  rw [List.getD_eq_getElem?_getD, List.getElem?_set]
  by_cases e : i = j
  · subst e; rw [if_pos rfl, if_pos rfl, if_pos hi]; rfl
  · rw [if_neg e, if_neg e, List.getD_eq_getElem?_getD]
theorem pos_ne {n e a e' a' : Nat} (ha : a < n) (ha' : a' < n) (h : e * n + a = e' * n + a') : e = e' ∧ a = a' := by
  have h1 : (e * n + a) / n = e := by rw [Nat.mul_comm, Nat.mul_add_div (by omega), Nat.div_eq_of_lt ha]; rfl
  have h2 : (e' * n + a') / n = e' := by rw [Nat.mul_comm, Nat.mul_add_div (by omega), Nat.div_eq_of_lt ha']; rfl
  have h3 : e = e' := by rw [← h1, ← h2, h]
  subst h3
  exact ⟨rfl, by omega⟩
theorem lit_ne {a a' : Nat} (h : a ≠ a') : Lit.int .i64 (a : Int) ≠ Lit.int .i64 (a' : Int) := fun q => h (by simp only [Lit.int.injEq, true_and] at q; omega)
theorem litKey (a : Int) : WideAt.IsKeyLit (.int .i64 a) := trivial
theorem pos_lt_nat {m : Ext} (ho : m.Ok) {e a : Nat} (he : e < m.ext) (ha : a < m.sec) : e * m.sec + a < m.l.length := by
  have := Ext.pos_lt ho (has_of he ha); rwa [pos_nat] at this

section
variable {D : DataW Unit} {m : Ext} {e a : Nat}
theorem Says.put (h : Says D m e) (ho : m.Ok) (he : e < m.ext) (ha : a < m.sec) (hD : IsMap D) (s d : ByteArray) : Says (D.put (.int .i64 a) (.lit (.string s.data.toList))) (m.put (e * m.sec + a) ⟨d, s, true⟩) e where
  key x hx := by
    show 0 ≤ x ∧ x < m.sec
    by_cases q : x = a
    · subst q; exact ⟨by omega, by omega⟩
    · rw [has_put_other (by intro k; simp only [Lit.int.injEq, true_and] at k; exact q k)] at hx
      exact h.key x hx
  wet a' ha' := by
    have ha2 : a' < m.sec := ha'
    show _ = ((m.put _ _).secAt (e * m.sec + a')).wet
    rw [secAt_put (pos_lt_nat ho he ha)]
    by_cases q : a = a'
    · subst q; rw [if_pos rfl, has_put_same hD (litKey _)]
    · rw [if_neg (fun k => q (pos_ne ha ha2 k).2), has_put_other (lit_ne (Ne.symm q)), h.wet a' ha2]
  now a' ha' hw z := by
    have ha2 : a' < m.sec := ha'
    change ((m.put _ _).secAt (e * m.sec + a')).wet = true at hw
    show _ = DataW.lit (.string ((m.put _ _).secAt (e * m.sec + a')).now.data.toList)
    rw [secAt_put (pos_lt_nat ho he ha)] at hw ⊢
    by_cases q : a = a'
    · subst q; rw [if_pos rfl, atKey_put_same hD (litKey _)]
    · have q2 : ¬ (e * m.sec + a = e * m.sec + a') := fun k => q (pos_ne ha ha2 k).2
      rw [if_neg q2] at hw ⊢
      rw [atKey_put_other (lit_ne (Ne.symm q)), h.now a' ha2 hw]
theorem Says.del (h : Says D m e) (ho : m.Ok) (he : e < m.ext) (ha : a < m.sec) (s d : ByteArray) : Says (D.del (.int .i64 a)) (m.put (e * m.sec + a) ⟨d, s, false⟩) e where
  key x hx := by
    show 0 ≤ x ∧ x < m.sec
    by_cases q : x = a
    · subst q; exact ⟨by omega, by omega⟩
    · rw [has_del_other (by intro k; simp only [Lit.int.injEq, true_and] at k; exact q k)] at hx
      exact h.key x hx
  wet a' ha' := by
    have ha2 : a' < m.sec := ha'
    show _ = ((m.put _ _).secAt (e * m.sec + a')).wet
    rw [secAt_put (pos_lt_nat ho he ha)]
    by_cases q : a = a'
    · subst q; rw [if_pos rfl, has_del_same]
    · rw [if_neg (fun k => q (pos_ne ha ha2 k).2), has_del_other (lit_ne (Ne.symm q)), h.wet a' ha2]
  now a' ha' hw z := by
    have ha2 : a' < m.sec := ha'
    change ((m.put _ _).secAt (e * m.sec + a')).wet = true at hw
    show _ = DataW.lit (.string ((m.put _ _).secAt (e * m.sec + a')).now.data.toList)
    rw [secAt_put (pos_lt_nat ho he ha)] at hw ⊢
    by_cases q : a = a'
    · subst q; rw [if_pos rfl] at hw; cases hw
    · have q2 : ¬ (e * m.sec + a = e * m.sec + a') := fun k => q (pos_ne ha ha2 k).2
      rw [if_neg q2] at hw ⊢
      rw [atKey_del_other (lit_ne (Ne.symm q)), h.now a' ha2 hw]
theorem Fine.put (h : Fine m) (ho : m.Ok) (he : e < m.ext) (ha : a < m.sec) (x : Sec) (hx : x.dry.size ≤ 64 ∧ x.now.size ≤ 64 ∧ (x.wet = false → x.now = x.dry)) : Fine (m.put (e * m.sec + a) x) := fun i => by
  rw [secAt_put (pos_lt_nat ho he ha)]
  split
  · exact hx
  · exact h i
theorem drys_put (ho : m.Ok) (he : e < m.ext) (ha : a < m.sec) (x : Sec) : drys (m.put (e * m.sec + a) x) e = (drys m e).set a x.dry := by
  apply List.ext_getElem (by rw [List.length_set, drys_len, drys_len]; rfl)
  intro j h1 h2
  rw [List.length_set, drys_len] at h2
  rw [drys_get _ e j (by show j < m.sec; exact h2), List.getElem_set]
  show ((m.put _ _).secAt (e * m.sec + j)).dry = _
  rw [secAt_put (pos_lt_nat ho he ha)]
  by_cases q : a = j
  · subst q; rw [if_pos rfl, if_pos rfl]
  · rw [if_neg (fun k => q (pos_ne ha h2 k).2), if_neg q, drys_get m e j h2]
theorem drys_same (ho : m.Ok) (he : e < m.ext) (ha : a < m.sec) (s : ByteArray) (b : Bool) : drys (m.put (e * m.sec + a) ⟨(m.secAt (e * m.sec + a)).dry, s, b⟩) e = drys m e := by
  rw [drys_put ho he ha]
  apply List.ext_getElem (by rw [List.length_set])
  intro j h1 h2
  rw [List.getElem_set]
  split
  · rename_i q; subst q; rw [drys_get m e a ha]
  · rfl
end

section
variable {P : Program} {o : Oper} {a : Act} {w w' : World} {K : Act → World → Prop} {Q : Exit → Act → World → Prop}
/-- a store into a map, at the operation -/
theorem oper_mapUpdate (t : TypeId) (m x v : Operand) (hop : o.op = Op.mapUpdate t m x v) (c : Nat) (key val : Value) (hm : a.eval m = .map (some c)) (hx : a.eval x = key) (hv : a.eval v = val)
    (hrun : (Instr.mapUpdate t (.map (some c)) key val).run P w = .ok () w') (hK : K (a.put o.dst undef) w') : Oper.wp P o a w K Q := by
  unfold Oper.wp
  simp [execOp, hop, hm, hx, hv, hrun, Result.andThen]
  exact hK
end

end Go.Proofs.Ytjghpacpeojejaa
