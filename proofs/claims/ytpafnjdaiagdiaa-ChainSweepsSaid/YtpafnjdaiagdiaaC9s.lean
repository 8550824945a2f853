/- Rows of versions in memory. -/
import Derived.Test.YtpafnjdaiagdiaaC9e
import Derived.Laws.AppendOwn
import Derived.Laws.MakeOwn
import Derived.Maps.AppendAt
namespace Go.Proofs.Ytpafnjdaiagdiaa
open Go.RowKit

theorem infoVer : (Try.prog.info? 29).map (fun i => (i.zero, i.size, i.bytes)) = some (some Ver.Z.v, 5, 48) := by kernel_rfl
def vcs (l : List Ver) : List Value := l.flatMap Ver.cs
theorem vcs_len (l : List Ver) : (vcs l).length = l.length * 5 := flat_len (f := Ver.cs) (n := 5) (fun _ => rfl) l
/-- the slice at A reads as the versions l -/
def SlV (w : World) (A : Option Addr) (l : List Ver) : Prop :=
  0 < l.length → ∃ b o, A = some ⟨b, o, none⟩ ∧ b < w.heap.size ∧ ∀ j, j < l.length →
    w.cell? ⟨b, o + j * 5, none⟩ = some (.int .i64 (l.getD j Ver.Z).seq) ∧ w.cell? ⟨b, o + j * 5 + 1, none⟩ = some (.bool (l.getD j Ver.Z).gone) ∧ w.cell? ⟨b, o + j * 5 + 2, none⟩ = some (.bool (l.getD j Ver.Z).val.num) ∧
    w.cell? ⟨b, o + j * 5 + 3, none⟩ = some (.string (l.getD j Ver.Z).val.txt) ∧ w.cell? ⟨b, o + j * 5 + 4, none⟩ = some (.int .u64 ((l.getD j Ver.Z).val.bits : Int))
theorem SlV.below {w w' : World} {A : Option Addr} {l : List Ver} (h : SlV w A l) (hb : Below w.heap.size w w') : SlV w' A l := fun hp => by
  obtain ⟨b, o, e, hl, hc⟩ := h hp
  refine ⟨b, o, e, Nat.lt_of_lt_of_le hl hb.size, fun j hj => ?_⟩
  obtain ⟨c0, c1, c2, c3, c4⟩ := hc j hj
  exact ⟨(hb.cell (p := ⟨b, o + j * 5, none⟩) hl).trans c0, (hb.cell (p := ⟨b, o + j * 5 + 1, none⟩) hl).trans c1, (hb.cell (p := ⟨b, o + j * 5 + 2, none⟩) hl).trans c2, (hb.cell (p := ⟨b, o + j * 5 + 3, none⟩) hl).trans c3, (hb.cell (p := ⟨b, o + j * 5 + 4, none⟩) hl).trans c4⟩
theorem SlV.nil (w : World) (A : Option Addr) : SlV w A [] := fun h => absurd h (by simp)
/-- one of them at hand -/
theorem SlV.at {w : World} {A : Option Addr} {l : List Ver} (h : SlV w A l) {j : Nat} (hj : j < l.length) : ∃ b o, A = some ⟨b, o, none⟩ ∧ b < w.heap.size ∧
    w.cell? ⟨b, o + j * 5, none⟩ = some (.int .i64 (l.getD j Ver.Z).seq) ∧ w.cell? ⟨b, o + j * 5 + 1, none⟩ = some (.bool (l.getD j Ver.Z).gone) ∧ w.cell? ⟨b, o + j * 5 + 2, none⟩ = some (.bool (l.getD j Ver.Z).val.num) ∧
    w.cell? ⟨b, o + j * 5 + 3, none⟩ = some (.string (l.getD j Ver.Z).val.txt) ∧ w.cell? ⟨b, o + j * 5 + 4, none⟩ = some (.int .u64 ((l.getD j Ver.Z).val.bits : Int)) := by
  obtain ⟨b, o, e, hl, hc⟩ := h (by omega)
  exact ⟨b, o, e, hl, hc j hj⟩
/-- the rest from place k on -/
theorem SlV.drop {w : World} {b o : Nat} {l : List Ver} (h : SlV w (some ⟨b, o, none⟩) l) (k : Nat) : SlV w (some ⟨b, o + k * 5, none⟩) (l.drop k) := fun hp => by
  rw [List.length_drop] at hp
  obtain ⟨b', o', e, hl, hc⟩ := h (by omega)
  injection e with e
  injection e with e1 e2 _
  subst e1; subst e2
  refine ⟨b, o + k * 5, rfl, hl, fun j hj => ?_⟩
  rw [List.length_drop] at hj
  have := hc (k + j) (by omega)
  rw [getD_drop, show o + k * 5 + j * 5 = o + (k + j) * 5 by omega]
  exact this
/-- v is a row of versions of the call's own, from block B on -/
def OwnV (w : World) (B : Nat) (v : Value) (l : List Ver) : Prop := w.ownsRow B 29 5 v l.length (vcs l)
section
variable {w w' : World} {B : Nat} {v : Value} {l : List Ver}
theorem OwnV.sl (h : OwnV w B v l) : ∃ A c, v = .slice A l.length c ∧ SlV w A l ∧ (0 < l.length → ∃ g, A = some ⟨g, 0, none⟩) := by
  have h1 := h
  unfold OwnV at h1
  rcases h.2 with ⟨rfl, h0⟩ | ⟨g, cap, cur, rfl, hB, hg, _⟩
  · exact ⟨none, 0, by rw [h0], fun hp => by omega, fun hp => by omega⟩
  · refine ⟨_, cap, rfl, fun hp => ⟨g, 0, rfl, (Array.getElem?_eq_some_iff.1 hg).1, fun j hj => ?_⟩, fun _ => ⟨g, rfl⟩⟩
    have at_ : ∀ i, i < 5 → w.cell? ⟨g, j * 5 + i, none⟩ = (l.getD j Ver.Z).cs[i]? := fun i hi => by
      rw [h1.cellAt (j * 5 + i) (by omega), List.getD_eq_getElem?_getD, List.getElem?_eq_getElem hj]
      exact flat_at (f := Ver.cs) (n := 5) (fun _ => rfl) l j i hj hi
    rw [Nat.zero_add]
    exact ⟨at_ 0 (by decide), at_ 1 (by decide), at_ 2 (by decide), at_ 3 (by decide), at_ 4 (by decide)⟩
theorem OwnV.below (h : OwnV w B v l) (hb : Below w.heap.size w w') : OwnV w' B v l := by
  rcases h with ⟨h1, h2⟩
  refine ⟨h1, ?_⟩
  rcases h2 with ⟨rfl, h0⟩ | ⟨g, cap, cur, rfl, hB, hg, r⟩
  · exact .inl ⟨rfl, h0⟩
  · refine .inr ⟨g, cap, cur, rfl, hB, ?_, r⟩
    have hl : g < w.heap.size := (Array.getElem?_eq_some_iff.1 hg).1
    rw [hb.block g hl]; exact hg
theorem OwnV.alloc (h : OwnV w B v l) (o : Obj) : OwnV (w.alloc o) B v l := World.ownsRow.alloc h o
theorem OwnV.lt (h : OwnV w B v l) : ∀ k, v.ownBlock = some k → B ≤ k ∧ k < w.heap.size := World.ownsRow.lt h
theorem OwnV.made (w : World) (hB : B ≤ w.heap.size) : OwnV (w.alloc (.cells #[] 29)) B (.slice (some ⟨w.heap.size, 0, none⟩) 0 0) [] :=
  World.ownsRow_made w #[] 0 hB (Nat.zero_le _) (by simp)
end
set_option maxRecDepth 100000 in
/-- append(v, x) -/
theorem wp_putV {w : World} {B : Nat} {ops : Array Oper} {rest : List Oper} {o : Oper} {a : Act} {Q : Exit → Act → World → Prop} (hgd : o.guard = none) (s x : Operand)
    (ho : o.op = .call { callee := .builtin .append, args := #[s, x], argTypes := #[22, 22] })
    (v : Value) (l : List Ver) (hs : a.eval s = v) (hown : OwnV w B v l) (hB : B ≤ w.heap.size) (g : Nat) (y : Ver) (hx : a.eval x = .slice (some ⟨g, 0, none⟩) 1 1)
    (hc : ∀ i, i < 5 → w.cell? ⟨g, i, none⟩ = y.cs[i]?) (hl : l.length ≤ 1000000)
    (h : ∀ v' w', OwnV w' B v' (l ++ [y]) → w.grownBy w' v.ownBlock → wpList Try.prog ops Q rest (a.put o.dst v') w') : wpList Try.prog ops Q (o :: rest) a w := by
  obtain ⟨i0, hi, hz0, hz1, hz2⟩ := info_parts infoVer
  refine wpList_append_own_at w hgd s x 22 ho B 29 i0 _ 5 48 Try.underlying22 hi hz0 hz1 hz2 rfl (by decide) v l.length _ hs hown ⟨g, 0, none⟩ 1 1 y.cs hx rfl ?_ ?_
    (by unfold maxLen; omega) (by omega) hB ?_
  · intro j u hj
    have hj5 : j < 5 := (List.getElem?_eq_some_iff.1 hj).1
    rw [show (⟨g, 0, none⟩ : Addr).add j = ⟨g, j, none⟩ by simp [Addr.add]; omega, hc j hj5, hj]
  · intro u hu
    unfold Ver.cs at hu
    simp at hu
    rcases hu with rfl | rfl | rfl | rfl | rfl <;> rfl
  · intro v' w' h1 h2 _ _
    refine h v' w' ?_ h2
    have e : vcs l ++ y.cs = vcs (l ++ [y]) := by unfold vcs; simp
    rw [e] at h1
    unfold OwnV
    rw [List.length_append]
    exact h1

end Go.Proofs.Ytpafnjdaiagdiaa
