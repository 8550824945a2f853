/- append(v, l...) for rows of versions. -/
import Derived.Test.YtpafnjdaiagdiaaC9x
import Derived.Deep.RegionHeldLaw
import Derived.Maps.AppendAt
namespace Go.Proofs.Ytpafnjdaiagdiaa
open Go.RowKit

theorem vcs_append (a b : List Ver) : vcs (a ++ b) = vcs a ++ vcs b := by unfold vcs; simp
theorem vcs_one {l : List Ver} {u : Value} (h : u ∈ vcs l) : u.oneCell' = true := by
  unfold vcs at h
  obtain ⟨x, _, hx⟩ := List.mem_flatMap.1 h
  unfold Ver.cs at hx
  simp at hx
  rcases hx with rfl | rfl | rfl | rfl | rfl <;> rfl
/-- cell k of the versions, where they lie -/
theorem SlV.cellAt {w : World} {b o : Nat} {l : List Ver} (h : SlV w (some ⟨b, o, none⟩) l) {k : Nat} {u : Value} (hk : (vcs l)[k]? = some u) : w.cell? ⟨b, o + k, none⟩ = some u := by
  have hl := (List.getElem?_eq_some_iff.1 hk).1
  rw [vcs_len] at hl
  obtain ⟨b', o', e, _, hc⟩ := h (by omega)
  injection e with e
  injection e with e1 e2 _
  subst e1; subst e2
  obtain ⟨j, i, rfl, hi⟩ : ∃ j i, k = j * 5 + i ∧ i < 5 := ⟨k / 5, k % 5, by omega, by omega⟩
  have hj : j < l.length := by omega
  have := flat_at (f := Ver.cs) (n := 5) (fun _ => rfl) l j i hj hi
  have e : (vcs l)[j * 5 + i]? = (l.getD j Ver.Z).cs[i]? := by
    rw [List.getD_eq_getElem?_getD, List.getElem?_eq_getElem hj]; exact this
  rw [e] at hk
  obtain ⟨c0, c1, c2, c3, c4⟩ := hc j hj
  rw [show o + (j * 5 + i) = o + j * 5 + i by omega]
  match i, hi with
  | 0, _ => exact c0.trans hk
  | 1, _ => exact c1.trans hk
  | 2, _ => exact c2.trans hk
  | 3, _ => exact c3.trans hk
  | 4, _ => exact c4.trans hk

set_option maxRecDepth 100000 in
/-- append(v, ys...) where v is a row of the call's own -/
theorem step_appV {ops : Array Oper} {o : Oper} {a : Act} {w : World} {K : Act → World → Prop} {Q : Exit → Act → World → Prop} {E : Prop}
    (hg : o.guard = none) (s x : Operand) (hop : o.op = .call { callee := .builtin .append, args := #[s, x], argTypes := #[22, 22] })
    (B : Nat) (v : Value) (zs ys : List Ver) (hs : a.eval s = v) (hown : OwnV w B v zs) (A : Option Addr) (c : Nat) (hx : a.eval x = .slice A ys.length c) (hsl : SlV w A ys)
    (hl : zs.length + ys.length ≤ 1000000) (hB : B ≤ w.heap.size)
    (hK : ∀ v' w', OwnV w' B v' (zs ++ ys) → w.grownBy w' v.ownBlock → Below B w w' → K (a.put o.dst v') w') :
    if Region.wanted o (yielded ops a.tmps) = true then Oper.wp Try.prog o a w K Q else E := by
  have hw : Region.wanted o (yielded ops a.tmps) = true := by simp [Region.wanted, hg]
  rw [if_pos hw]
  obtain ⟨i0, hi, hz0, hz1, hz2⟩ := info_parts infoVer
  have key : ∃ v' w', (Builtin.append_ #[22, 22] o.type #[v, .slice A ys.length c]).run Try.prog w = .ok v' w' ∧ OwnV w' B v' (zs ++ ys) ∧ w.grownBy w' v.ownBlock ∧ Below B w w' := by
    cases A with
    | none =>
      have h0 : ys = [] := by
        cases ys with
        | nil => rfl
        | cons y l =>
          obtain ⟨_, _, e, _⟩ := hsl (by simp)
          cases e
      subst h0
      refine ⟨v, w, ?_, by rw [List.append_nil]; exact hown, ⟨rfl, rfl, rfl, Nat.le_refl _, fun _ _ _ => rfl⟩, Below.refl _ _⟩
      have hown' := hown
      rcases hown'.2 with ⟨rfl, _⟩ | ⟨g, cap, cur, rfl, _, _, hnc, _⟩
      · rw [show ([] : List Ver).length = 0 from rfl]
        simp [Builtin.append_, run_underlying Try.underlying22, sizeOf, typeInfo, hi, Builtin.lenOf, Builtin.firstCells]
      · rw [show ([] : List Ver).length = 0 from rfl]
        simp [Builtin.append_, run_underlying Try.underlying22, sizeOf, typeInfo, hi, Builtin.lenOf, Builtin.firstCells, hnc, storeCells]
    | some ad =>
      obtain ⟨v', w', hr, h2, h3, _, _⟩ := run_append_own_at (P := Try.prog) w B 22 o.type 29 i0 _ 5 48 Try.underlying22 hi hz0 hz1 hz2 rfl (by decide) v zs.length _ hown ad ys.length c (vcs ys) (vcs_len ys)
        (fun j u hj => by
          have hjl := (List.getElem?_eq_some_iff.1 hj).1
          rw [vcs_len] at hjl
          obtain ⟨b, o', e, _⟩ := hsl (by omega)
          injection e with e
          subst e
          rw [show (⟨b, o', none⟩ : Addr).add j = ⟨b, o' + j, none⟩ by
            unfold Addr.add
            split
            · rename_i q; rw [q]; rfl
            · rfl]
          exact hsl.cellAt hj) (fun u hu => vcs_one hu) (by unfold maxLen; omega) (by omega) hB
      refine ⟨v', w', hr, ?_, h3, (Below.refl _ _).grown h3 hB (fun k hk => (hown.lt k hk).1)⟩
      unfold OwnV
      rw [vcs_append, List.length_append]
      exact h2
  obtain ⟨v', w', hr, h2, h4, h3⟩ := key
  unfold Oper.wp execOp
  simp only [hop, resolve, invoke, builtin, Sem.run_bind, Sem.run_pure, Result.andThen_ok, List.map_toArray, List.map_cons, List.map_nil, hs, hx, hr]
  exact hK _ _ h2 h4 h3
theorem wp_appV {ops : Array Oper} {rest : List Oper} {o : Oper} {a : Act} {w : World} {Q : Exit → Act → World → Prop} (hg : o.guard = none) (s x : Operand) (hop : o.op = .call { callee := .builtin .append, args := #[s, x], argTypes := #[22, 22] })
    (B : Nat) (v : Value) (zs ys : List Ver) (hs : a.eval s = v) (hown : OwnV w B v zs) (A : Option Addr) (c m : Nat) (hm : m = ys.length) (hx : a.eval x = .slice A m c) (hsl : SlV w A ys)
    (hl : zs.length + ys.length ≤ 1000000) (hB : B ≤ w.heap.size)
    (h : ∀ v' w', OwnV w' B v' (zs ++ ys) → w.grownBy w' v.ownBlock → Below B w w' → wpList Try.prog ops Q rest (a.put o.dst v') w') : wpList Try.prog ops Q (o :: rest) a w := by
  subst hm
  refine wpList_plain hg fun K hK => ?_
  have k := step_appV (ops := ops) (K := K) (Q := Q) (E := True) hg s x hop B v zs ys hs hown A c hx hsl hl hB (fun v' w' h1 h2 h3 => hK _ _ (h v' w' h1 h2 h3))
  rwa [if_pos (by simp [Region.wanted, hg])] at k

end Go.Proofs.Ytpafnjdaiagdiaa
