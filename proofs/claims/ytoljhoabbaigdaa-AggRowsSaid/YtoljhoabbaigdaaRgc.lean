/- In a region that draws its order: a call that answers the same in each world that is held, and leaves it as it is, may be taken first. -/
import Derived.Test.YtoljhoabbaigdaaRgn
namespace Go.Proofs.Ytoljhoabbaigdaa
open Go

section
variable {P : Program} {ops : Array Oper} {Q : Exit → Act → World → Prop} {md : Region.Mode} {S : World → Prop}
/-- what an operation can't turn is still so behind it -/
theorem wpOp_and {Y : Act → Prop} {j : Nat} {oj : Oper} (hj : ops[j]? = some oj) {K : Act → World → Prop} {a : Act} {w : World}
    (k1 : ∀ a, Y a → ∀ u, Y (a.put oj.dst u)) (k2 : ∀ a, Y a → ∀ d, Y { a with defers := d :: a.defers }) (hY : Y a) (h : wpOp P ops Q j K a w) :
    wpOp P ops Q j (fun a' w' => Y a' ∧ K a' w') a w := by
  unfold wpOp at h ⊢
  rw [hj] at h ⊢
  show (if _ then _ else _)
  replace h : (if Region.wanted oj (yielded ops a.tmps) = true then oj.wp P a w K Q ∨ (oj.asks P a w ∧ LetsOut Q) else K (a.put oj.dst undef) w) := h
  by_cases hw : Region.wanted oj (yielded ops a.tmps) = true
  · rw [if_pos hw] at h ⊢
    refine h.imp (fun h => ?_) id
    unfold Oper.wp at h ⊢
    revert h
    generalize (execOp a.eval oj).run P w = r
    intro h
    match r, h with
    | .ok (.value u) _, h => exact ⟨k1 a hY u, h⟩
    | .ok .skip _, h => exact ⟨k1 a hY _, h⟩
    | .ok (.defer d) _, h => exact ⟨k1 _ (k2 a hY d) _, h⟩
    | .ok (.enter f args) _, h =>
      refine Calls.mono h fun e w'' he => ?_
      match e, he with
      | .returned u, he => exact ⟨k1 a hY u, he⟩
      | .panicked c, he => exact he
      | .outgrown, he => exact he
    | .ok (.row row args) _, h => exact Rows.mono h fun u w'' he => ⟨k1 a hY u, he⟩
    | .halt (.panic u) _, h => exact h
  · rw [if_neg hw] at h ⊢
    exact ⟨k1 a hY _, h⟩

/-- a call that answers v and leaves the world as it is, in each world that is held -/
def CallsSame (P : Program) (ops : Array Oper) (S : World → Prop) (o : Oper) (v : Value) (a : Act) : Prop :=
  Region.wanted o (yielded ops a.tmps) = true ∧ ∀ w, S w → ∃ f args, (execOp a.eval o).run P w = .ok (.enter f args) w ∧ Calls P f args w fun e w' => e = .returned v ∧ w' = w
theorem CallsSame.wpOp {i : Nat} {o : Oper} {v : Value} {a : Act} (hi : ops[i]? = some o) (hy : CallsSame P ops S o v a) {K : Act → World → Prop} {w : World} (hS : S w) (h : K (a.put o.dst v) w) : wpOp P ops Q i K a w := by
  unfold Go.wpOp
  rw [hi]
  show (if _ then _ else _)
  rw [if_pos hy.1]
  obtain ⟨f, args, e, hc⟩ := hy.2 w hS
  refine .inl ?_
  unfold Oper.wp
  rw [e]
  refine Calls.mono hc fun e w' he => ?_
  obtain ⟨rfl, rfl⟩ := he
  exact h
theorem CallsSame.of_same {o : Oper} {v : Value} {a a' : Act} (hy : CallsSame P ops S o v a) (he : execOp a'.eval o = execOp a.eval o)
    (hw : Region.wanted o (yielded ops a'.tmps) = Region.wanted o (yielded ops a.tmps)) : CallsSame P ops S o v a' := by
  unfold CallsSame at hy ⊢
  rw [he, hw]; exact hy

theorem rgnCallFirst {i : Nat} {oi : Oper} {v : Value} (hi : ops[i]? = some oi) (hsel : ∀ (j : Nat) (o : Oper) cs b, ops[j]? = some o → o.op ≠ .select cs b)
    (hQ : ∀ c a w, Q (.panic c) (a.put oi.dst v) w → Q (.panic c) a w) :
    ∀ (fuel : Nat) (listed : Array Bool) (a : Act) (w : World),
      (∀ j oj, ops[j]? = some oj → j ≠ i → listed.getD j true = false → (∀ e ∈ oj.after, Region.binds md e = true → e.on ≠ i) → oi.apart ops oj = true) →
      i ∈ Region.ready md ops listed → CallsSame P ops S oi v a → S w →
      wpAnyH P md ops Q S fuel (listed.setIfInBounds i true) (a.put oi.dst v) w → wpAnyH P md ops Q S (fuel + 1) listed a w
  | fuel, listed, a, w, hfree, hr, hy, hS, H => by
    refine ⟨fun h => (by rw [h] at hr; cases hr), fun j hj => ?_⟩
    rcases Decidable.em (j = i) with hji | hji
    · subst hji; exact hy.wpOp hi hS ⟨hS, H⟩
    match fuel, H with
    | 0, H =>
      have := ready_mono hj hji
      rw [H.1] at this
      cases this
    | fuel + 1, H =>
      obtain ⟨hun, oj, hoj, hall⟩ := mem_ready.1 hj
      have hnot : ∀ e ∈ oj.after, Region.binds md e = true → e.on ≠ i := fun e he hb heq => by
        have q1 := hall e he hb
        have q0 := (mem_ready.1 hr).1
        rw [heq] at q1
        by_cases hlt : i < listed.size
        · simp [hlt] at q0 q1; rw [q0] at q1; cases q1
        · simp [Array.getElem?_eq_none (Nat.not_lt.1 hlt)] at q1
      have hap := hfree j oj hoj hji hun hnot
      obtain ⟨_, _, a3⟩ := Oper.apart_spec hap
      have k1 : ∀ a, CallsSame P ops S oi v a → ∀ u, CallsSame P ops S oi v (a.put oj.dst u) := fun a hy u =>
        hy.of_same (execOp_put oi (fun cs b => hsel i oi cs b hi) a oj.dst u a3) (wanted_put oi a oj.dst u a3)
      have s1 := wpOp_putIf (S := fun _ => False) hoj hap (fun cs b => hsel i oi cs b hi) (fun cs b => hsel j oj cs b hoj) hQ (.inl ⟨hy.1, fun _ f => f.elim⟩) (H.2 j (ready_mono hj hji))
      have s2 := wpOp_and (Y := CallsSame P ops S oi v) hoj k1 (fun a h d => h.of_same rfl rfl) hy s1
      have hfree' : ∀ k ok, ops[k]? = some ok → k ≠ i → (listed.setIfInBounds j true).getD k true = false →
          (∀ e ∈ ok.after, Region.binds md e = true → e.on ≠ i) → oi.apart ops ok = true := fun k ok hk hki hun' hno => by
        refine hfree k ok hk hki ?_ hno
        rcases Decidable.em (j = k) with e | e
        · subst e; exact hun
        · rw [getD_set_ne true e] at hun'; exact hun'
      refine wpOp_mono (fun a' w' z => ⟨z.2.2.1, rgnCallFirst hi hsel hQ fuel (listed.setIfInBounds j true) a' w' hfree' (ready_mono hr (Ne.symm hji)) z.1 z.2.2.1 ?_⟩) s2
      rw [Array.setIfInBounds_comm _ _ hji]
      exact z.2.2.2

/-- take the call of number i first -/
theorem rgnCall (i : Nat) {oi : Oper} {v : Value} {fuel : Nat} {listed : Array Bool} {a : Act} {w : World} (hi : ops.toList[i]? = some oi)
    (hs : Region.noSelect ops = true) (hf : Region.free md ops listed i = true) (hr : (Region.ready md ops listed).contains i = true)
    (hQ : ∀ c a w, Q (.panic c) (a.put oi.dst v) w → Q (.panic c) a w) (hw : Region.wanted oi (yielded ops a.tmps) = true)
    (hy : ∀ w, S w → ∃ f args, (execOp a.eval oi).run P w = .ok (.enter f args) w ∧ Calls P f args w fun e w' => e = .returned v ∧ w' = w) (hS : S w)
    (h : wpAnyH P md ops Q S fuel (listed.setIfInBounds i true) (a.put oi.dst v) w) : wpAnyH P md ops Q S (fuel + 1) listed a w :=
  rgnCallFirst (by rw [← Array.getElem?_toList]; exact hi) (Region.noSelect_spec hs) hQ fuel listed a w (Region.free_spec (by rw [← Array.getElem?_toList]; exact hi) hf) (by simpa using hr) ⟨hw, hy⟩ hS h
end

end Go.Proofs.Ytoljhoabbaigdaa
