/- Bytes put behind a row of the call's own, with the whole frame: nothing but that row's block turns. -/
import Derived.Test.YtmcackghpkegbaaOb
import Derived.Lib.AppendStr
import Derived.Maps.AppendAt
import Derived.Deep.AppendLies
import Derived.Test.YtmcackghpkegbaaIt
namespace Go.Proofs.Ytmcackghpkegbaa
open Go.RowKit

/-- v1 lies in v's block, or in a new one -/
def Fresh (w : World) (v v1 : Value) : Prop := ∀ k, v1.ownBlock = some k → v.ownBlock = some k ∨ w.heap.size ≤ k
theorem Fresh.refl (w : World) (v : Value) : Fresh w v v := fun _ h => .inl h
theorem Fresh.trans {a b : World} {v v1 v2 : Value} (h : Fresh a v v1) (k : Fresh b v1 v2) (hs : a.heap.size ≤ b.heap.size) : Fresh a v v2 := fun j hj => by
  rcases k j hj with h1 | h1
  · exact h j h1
  · exact .inr (Nat.le_trans hs h1)
theorem Fresh.before {a b : World} {v v1 : Value} (k : Fresh b v v1) (hs : a.heap.size ≤ b.heap.size) : Fresh a v v1 := fun j hj => by
  rcases k j hj with h1 | h1
  · exact .inl h1
  · exact .inr (Nat.le_trans hs h1)
theorem grown_then {a b c : World} {v v1 : Value} (h : a.grownBy b v.ownBlock) (f : Fresh a v v1) (k : b.grownBy c v1.ownBlock) : a.grownBy c v.ownBlock :=
  ⟨k.os.trans h.os, k.tape.trans h.tape, k.output.trans h.output, Nat.le_trans h.size k.size, fun i hi hne => (k.block i (Nat.lt_of_lt_of_le hi h.size) (fun e => by
    rcases f i e.symm with h1 | h1
    · exact hne h1.symm
    · omega)).trans (h.block i hi hne)⟩
theorem grown_below {a b : World} (h : Below a.heap.size a b) (row : Option Nat) : a.grownBy b row := ⟨h.os, h.tape, h.output, h.size, fun k hk _ => h.block k hk⟩
theorem grown_of_below {a b c : World} {row : Option Nat} (h : Below a.heap.size a b) (k : b.grownBy c row) : a.grownBy c row :=
  ⟨k.os.trans h.os, k.tape.trans h.tape, k.output.trans h.output, Nat.le_trans h.size k.size, fun i hi hne => (k.block i (Nat.lt_of_lt_of_le hi h.size) hne).trans (h.block i hi)⟩
theorem below_of_grown {w w' : World} {B : Nat} {v : Value} {zs : List Int} (h : w.grownBy w' v.ownBlock) (o : OwnB w B v zs) (hB : B ≤ w.heap.size) : Below B w w' :=
  (Below.refl _ _).grown h hB (fun k hk => (World.ownsRow.lt o k hk).1)
theorem ownB_lt {w : World} {B : Nat} {v : Value} {zs : List Int} (h : OwnB w B v zs) : ∀ k, v.ownBlock = some k → B ≤ k ∧ k < w.heap.size := World.ownsRow.lt h

/-- what a call leaves that puts bytes behind v -/
def PutB (B : Nat) (w : World) (v : Value) (zs : List Int) (e : Ending) (w' : World) : Prop := ∃ v', e = .returned v' ∧ OwnB w' B v' zs ∧ w.grownBy w' v.ownBlock ∧ Fresh w v v'

/-- append(v, x): the row with one more -/
theorem wp_put1k {ops : Array Oper} {rest : List Oper} {o : Oper} {a : Act} {Q : Exit → Act → World → Prop} {w : World} (hgd : o.guard = none) (s x : Operand)
    (ho : o.op = .call { callee := .builtin .append, args := #[s, x], argTypes := #[48, 48] })
    (B : Nat) (v : Value) (zs : List Int) (hs : a.eval s = v) (hown : OwnB w B v zs) (g : Nat) (y : Int) (hx : a.eval x = .slice (some ⟨g, 0, none⟩) 1 1)
    (hc : w.cell? ⟨g, 0, none⟩ = some (.int .u8 y)) (hl : zs.length + 1 ≤ 1099511627776) (hB : B ≤ w.heap.size)
    (h : ∀ v' w', OwnB w' B v' (zs ++ [y]) → w.grownBy w' v.ownBlock → Fresh w v v' → wpList Try.prog ops Q rest (a.put o.dst v') w') : wpList Try.prog ops Q (o :: rest) a w := by
  obtain ⟨i0, hi, hz0, hz1, hz2⟩ := info_parts infoB
  refine wpList_append_own_at w hgd s x 48 ho B 5 i0 _ 1 1 Try.underlying48 hi hz0 hz1 hz2 rfl (by decide) v zs.length _ hs hown ⟨g, 0, none⟩ 1 1 [.int .u8 y] hx rfl ?_ ?_
    (by unfold maxLen; omega) (by omega) hB ?_
  · intro j u hj
    cases j with
    | zero => simp at hj; subst hj; exact hc
    | succ j => simp at hj
  · intro u hu; simp at hu; subst hu; rfl
  · intro v' w' h1 h2 _ h3
    refine h v' w' ?_ h2 ?_
    · unfold OwnB
      simpa using h1
    · intro k hk
      rcases h3 with e | e
      · exact .inl (by rw [← e]; exact hk)
      · rw [e] at hk; injection hk with hk; exact .inr (by omega)

def numsS (s : ByteArray) : List Int := s.data.toList.map fun b => (b.toNat : Int)
theorem strCells_nums (s : ByteArray) : Lib.strCells s = (numsS s).map (Value.int .u8) := by
  unfold Lib.strCells numsS; rw [List.map_map]; rfl
theorem numsS_len (s : ByteArray) : (numsS s).length = s.size := by simp [numsS]

/-- append(v, s...) of a string, and where the new row lies -/
theorem run_append_string_at (w : World) (B : Nat) (ty : TypeId) (v : Value) (zs : List Int) (hown : OwnB w B v zs) (s : ByteArray) (hl : zs.length + s.size ≤ 1099511627776) (hB : B ≤ w.heap.size) :
    ∃ v' w', (Builtin.append_ #[48, 9] ty #[v, .string s]).run Try.prog w = .ok v' w' ∧ OwnB w' B v' (zs ++ numsS s) ∧ w.grownBy w' v.ownBlock ∧ Fresh w v v' := by
  obtain ⟨i0, hi, hz0, hz1, hz2⟩ := info_parts infoB
  obtain ⟨v', w', hr, h1, h2, h3⟩ := Lib.run_append_own_string (P := Try.prog) w B 48 9 ty 5 i0 Try.underlying48 Try.underlying9 hi hz0 hz1 hz2 v zs.length _ hown s (by unfold maxLen; omega) (by omega) hB
  refine ⟨v', w', hr, ?_, h2, ?_⟩
  · unfold OwnB
    rw [strCells_nums] at h1
    simpa [numsS_len] using h1
  · rcases hown.2 with ⟨rfl, hn⟩ | ⟨g, cap, cur, rfl, hbg, hg, hnc, hcm, hcs, htake⟩
    · by_cases hm : s.size = 0
      · have : v' = .slice none 0 0 := h3.2 ⟨rfl, hm⟩
        subst this; exact Fresh.refl _ _
      · have hr2 := run_append_nil_string (P := Try.prog) w 48 9 ty 5 i0 (.int .u8 0) Try.underlying48 Try.underlying9 hi hz0 s (by omega) (by omega) (by rw [hz2]; omega)
        rw [hr] at hr2
        injection hr2 with e1 _
        subst e1
        intro k hk
        simp [Value.ownBlock] at hk
        exact .inr (by omega)
    · by_cases hroom : zs.length + s.size ≤ cap
      · have hr2 := Lib.run_append_room_string (P := Try.prog) w 48 9 ty 5 i0 Try.underlying48 Try.underlying9 hi hz1 g zs.length cap cur hg s hroom (by omega)
        rw [hr] at hr2
        injection hr2 with e1 _
        subst e1
        exact Fresh.refl _ _
      · have holds : ∀ j u, (zs.map (Value.int .u8))[j]? = some u → w.cell? ((⟨g, 0, none⟩ : Addr).add j) = some u := World.ownsRow.cells hown (g := g) rfl
        have hr2 := Lib.run_append_grow_string (P := Try.prog) w 48 9 ty 5 i0 (.int .u8 0) Try.underlying48 Try.underlying9 hi hz0 ⟨g, 0, none⟩ zs.length cap (zs.map (Value.int .u8)) (by rw [hz1]; simp) holds s (by omega) (by omega) (by rw [hz2]; exact growslice_fits (by omega) (by omega))
        rw [hr] at hr2
        injection hr2 with e1 _
        subst e1
        intro k hk
        simp [Value.ownBlock] at hk
        exact .inr (by omega)

/-- .. at the operation -/
theorem wp_putSk {ops : Array Oper} {rest : List Oper} {o : Oper} {a : Act} {Q : Exit → Act → World → Prop} {w : World} (hgd : o.guard = none) (sl x : Operand)
    (ho : o.op = .call { callee := .builtin .append, args := #[sl, x], argTypes := #[48, 9] })
    (B : Nat) (v : Value) (zs : List Int) (hs : a.eval sl = v) (hown : OwnB w B v zs) (s : ByteArray) (hx : a.eval x = .string s)
    (hl : zs.length + s.size ≤ 1099511627776) (hB : B ≤ w.heap.size)
    (h : ∀ v' w', OwnB w' B v' (zs ++ numsS s) → w.grownBy w' v.ownBlock → Fresh w v v' → wpList Try.prog ops Q rest (a.put o.dst v') w') : wpList Try.prog ops Q (o :: rest) a w := by
  refine wpList_plain hgd fun K hK => ?_
  obtain ⟨v', w', hr, h1, h2, h3⟩ := run_append_string_at w B o.type v zs hown s hl hB
  unfold Oper.wp execOp
  simp only [ho, resolve, invoke, builtin, Sem.run_bind, Sem.run_pure, Result.andThen_ok, List.map_toArray, List.map_cons, List.map_nil, hs, hx, hr]
  exact hK _ _ (h v' w' h1 h2 h3)

/-- .. at a step of a region that draws its order -/
theorem step_putSk {o : Oper} {a : Act} {K : Act → World → Prop} {Q : Exit → Act → World → Prop} {w : World} (sl x : Operand)
    (ho : o.op = .call { callee := .builtin .append, args := #[sl, x], argTypes := #[48, 9] })
    (B : Nat) (v : Value) (zs : List Int) (hs : a.eval sl = v) (hown : OwnB w B v zs) (s : ByteArray) (hx : a.eval x = .string s)
    (hl : zs.length + s.size ≤ 1099511627776) (hB : B ≤ w.heap.size)
    (h : ∀ v' w', OwnB w' B v' (zs ++ numsS s) → w.grownBy w' v.ownBlock → Fresh w v v' → K (a.put o.dst v') w') : o.wp Try.prog a w K Q := by
  obtain ⟨v', w', hr, h1, h2, h3⟩ := run_append_string_at w B o.type v zs hown s hl hB
  unfold Oper.wp execOp
  simp only [ho, resolve, invoke, builtin, Sem.run_bind, Sem.run_pure, Result.andThen_ok, List.map_toArray, List.map_cons, List.map_nil, hs, hx, hr]
  exact h v' w' h1 h2 h3

end Go.Proofs.Ytmcackghpkegbaa
