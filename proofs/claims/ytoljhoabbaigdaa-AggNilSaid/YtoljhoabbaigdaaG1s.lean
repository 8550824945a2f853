/- Rows of floats, and of steps, in memory. -/
import Derived.Test.YtoljhoabbaigdaaProg
import Derived.Test.YtoljhoabbaigdaaSl
import Derived.Test.YtoljhoabbaigdaaChg
import Derived.Test.YtoljhoabbaigdaaG1m
import Derived.Laws.AppendOwn
import Derived.Laws.AppendOwnNone
import Derived.KernelRfl
namespace Go.Proofs.Ytoljhoabbaigdaa
open Go.RowKit Ex

/-- The slice at A reads as zs. -/
def SlF (w : World) (A : Option Addr) (zs : List Nat) : Prop :=
  0 < zs.length → ∃ b o, A = some ⟨b, o, none⟩ ∧ b < w.heap.size ∧ ∀ j, j < zs.length → w.cell? ⟨b, o + j, none⟩ = some (.float .f64 (zs.getD j 0))

section
variable {w w' : World} {A : Option Addr} {zs : List Nat}
theorem SlF.nil (w : World) (A : Option Addr) : SlF w A [] := fun h => absurd h (by simp)
theorem SlF.at_ {k : Nat} (h : SlF w A zs) (hk : k < zs.length) : ∃ b o, A = some ⟨b, o, none⟩ ∧ b < w.heap.size ∧ ∀ j, j < zs.length → w.cell? ⟨b, o + j, none⟩ = some (.float .f64 (zs.getD j 0)) := h (by omega)
theorem SlF.below (h : SlF w A zs) (hb : Below w.heap.size w w') : SlF w' A zs := fun hn => by
  obtain ⟨b, o, e, hlt, hc⟩ := h hn
  exact ⟨b, o, e, Nat.lt_of_lt_of_le hlt hb.size, fun j hj => (hb.cell (p := ⟨b, o + j, none⟩) hlt).trans (hc j hj)⟩
theorem SlF.drewN (h : SlF w A zs) (n : Nat) : SlF (w.drewN n) A zs := h
theorem SlF.drew (h : SlF w A zs) : SlF w.drew A zs := h
theorem SlF.alloc (h : SlF w A zs) (o : Obj) : SlF (w.alloc o) A zs := h.below ((Below.refl _ _).alloc (Nat.le_refl _) o)
end


/-- some of them -/
theorem SlF.take {w : World} {A : Option Addr} {zs : List Nat} (h : SlF w A zs) (k : Nat) : SlF w A (zs.take k) := fun hp => by
  rw [List.length_take] at hp
  obtain ⟨b, o, e, hl, hc⟩ := h (by omega)
  refine ⟨b, o, e, hl, fun j hj => ?_⟩
  rw [List.length_take] at hj
  have := hc j (by omega)
  rw [List.getD_eq_getElem?_getD, List.getElem?_take, if_pos (by omega), ← List.getD_eq_getElem?_getD]
  exact this
theorem SlF.drop {w : World} {b o : Nat} {zs : List Nat} (h : SlF w (some ⟨b, o, none⟩) zs) (k : Nat) : SlF w (some ⟨b, o + k, none⟩) (zs.drop k) := fun hp => by
  rw [List.length_drop] at hp
  obtain ⟨b', o', e, hl, hc⟩ := h (by omega)
  injection e with e
  injection e with e1 e2 _
  subst e1; subst e2
  refine ⟨b, o + k, rfl, hl, fun j hj => ?_⟩
  rw [List.length_drop] at hj
  have := hc (k + j) (by omega)
  rw [List.getD_eq_getElem?_getD, List.getElem?_drop, ← List.getD_eq_getElem?_getD, show o + k + j = o + (k + j) by omega]
  exact this
/-- the rest of them, as the walk writes it -/
theorem SlF.sliced {w : World} {A : Option Addr} {zs : List Nat} (h : SlF w A zs) (k : Nat) : SlF w (Option.map (fun x => x.add k) A) (zs.drop k) := by
  by_cases p : 0 < zs.length
  · obtain ⟨b, o, e, _⟩ := h p
    subst e
    have ad : (⟨b, o, none⟩ : Addr).add k = ⟨b, o + k, none⟩ := by
      unfold Addr.add
      split
      · rename_i e
        rw [e]; rfl
      · rfl
    show SlF w (some ((⟨b, o, none⟩ : Addr).add k)) _
    rw [ad]
    exact h.drop k
  · intro hp
    rw [List.length_drop] at hp
    omega

/-- the slice at A reads as steps -/
def SlC (w : World) (A : Option Addr) (p : List Cd) : Prop :=
  0 < p.length → ∃ b o, A = some ⟨b, o, none⟩ ∧ b < w.heap.size ∧ ∀ j, j < p.length → w.cell? ⟨b, o + j * 2, none⟩ = some (.int .i64 (p.getD j Cd.Z).op) ∧ w.cell? ⟨b, o + j * 2 + 1, none⟩ = some (.int .u64 ((p.getD j Cd.Z).b : Int))
section
variable {w w' : World} {A : Option Addr} {p : List Cd}
theorem SlC.nil (w : World) (A : Option Addr) : SlC w A [] := fun h => absurd h (by simp)
theorem SlC.at_ {k : Nat} (h : SlC w A p) (hk : k < p.length) : ∃ b o, A = some ⟨b, o, none⟩ ∧ b < w.heap.size ∧ w.cell? ⟨b, o + k * 2, none⟩ = some (.int .i64 (p.getD k Cd.Z).op) ∧ w.cell? ⟨b, o + k * 2 + 1, none⟩ = some (.int .u64 ((p.getD k Cd.Z).b : Int)) := by
  obtain ⟨b, o, e, hl, hc⟩ := h (by omega)
  exact ⟨b, o, e, hl, hc k hk⟩
theorem SlC.below (h : SlC w A p) (hb : Below w.heap.size w w') : SlC w' A p := fun hn => by
  obtain ⟨b, o, e, hlt, hc⟩ := h hn
  exact ⟨b, o, e, Nat.lt_of_lt_of_le hlt hb.size, fun j hj => ⟨(hb.cell (p := ⟨b, o + j * 2, none⟩) hlt).trans (hc j hj).1, (hb.cell (p := ⟨b, o + j * 2 + 1, none⟩) hlt).trans (hc j hj).2⟩⟩
end

theorem infoF : (Try.prog.info? 36).map (fun i => (i.zero, i.size, i.bytes)) = some (some (.float .f64 0), 1, 8) := by kernel_rfl

/-- v is a row of the call's own, from block B on, and holds zs -/
def OwnF (w : World) (B : Nat) (v : Value) (zs : List Nat) : Prop := w.ownsRow B 36 1 v zs.length (zs.map (Value.float .f64))

section
variable {w w' : World} {B : Nat} {v : Value} {zs : List Nat}
theorem OwnF.nil (w : World) (B : Nat) : OwnF w B (.slice none 0 0) [] := World.ownsRow_nil _ _ _ _
theorem OwnF.form (h : OwnF w B v zs) : ∃ A c, v = .slice A zs.length c ∧ zs.length ≤ c ∧ SlF w A zs ∧ (A = none → c = 0 ∧ zs = []) ∧ (∀ a, A = some a → ∃ g, a = ⟨g, 0, none⟩ ∧ B ≤ g) := by
  rcases h.2 with ⟨rfl, hn⟩ | ⟨g, cap, cur, rfl, hB, hg, hnc, _, hs, ht⟩
  · have hz : zs = [] := List.eq_nil_of_length_eq_zero hn
    subst hz
    exact ⟨none, 0, rfl, Nat.zero_le _, SlF.nil _ _, fun _ => ⟨rfl, rfl⟩, (fun a e => by cases e)⟩
  · refine ⟨some ⟨g, 0, none⟩, cap, rfl, hnc, fun hp => ⟨g, 0, rfl, ?_, fun j hj => ?_⟩, (fun e => by cases e), fun a e => ?_⟩
    · rcases Nat.lt_or_ge g w.heap.size with hlt | hge
      · exact hlt
      · rw [Array.getElem?_eq_none hge] at hg; cases hg
    · have hj2 : j < zs.length * 1 := by omega
      rw [Nat.zero_add, World.ownsRow.cellAt (w := w) (base := B) (e := 36) (size := 1) (xs := zs.map (Value.float .f64)) h j hj2, List.getElem?_map, List.getElem?_eq_getElem hj, List.getD, List.getElem?_eq_getElem hj]; rfl
    · injection e with e; exact ⟨g, e.symm, hB⟩
theorem OwnF.drew (h : OwnF w B v zs) : OwnF w.drew B v zs := h
theorem OwnF.drewN (h : OwnF w B v zs) (n : Nat) : OwnF (w.drewN n) B v zs := h
theorem OwnF.alloc (h : OwnF w B v zs) (o : Obj) : OwnF (w.alloc o) B v zs := World.ownsRow.alloc h o
theorem OwnF.below (h : OwnF w B v zs) (hb : Below w.heap.size w w') : OwnF w' B v zs := by
  refine ⟨h.1, ?_⟩
  rcases h.2 with hn | ⟨g, cap, cur, rfl, hB, hg, r⟩
  · exact .inl hn
  · refine .inr ⟨g, cap, cur, rfl, hB, ?_, r⟩
    rw [hb.block g (by
      rcases Nat.lt_or_ge g w.heap.size with hlt | hge
      · exact hlt
      · rw [Array.getElem?_eq_none hge] at hg; cases hg)]
    exact hg
theorem OwnF.more {B' : Nat} (h : OwnF w B v zs) (hB : B' ≤ B) : OwnF w B' v zs := by
  refine ⟨h.1, ?_⟩
  rcases h.2 with hn | ⟨g, cap, cur, hv, hg, r⟩
  · exact .inl hn
  · exact .inr ⟨g, cap, cur, hv, by omega, r⟩
/-- a new row written out -/
theorem OwnF.made (w : World) (B : Nat) (hB : B ≤ w.heap.size) (zs : List Nat) (hl : zs.length ≤ maxLen) :
    OwnF (w.alloc (.cells (zs.map (Value.float .f64)).toArray 36)) B (.slice (some ⟨w.heap.size, 0, none⟩) zs.length zs.length) zs :=
  ⟨by simp, .inr ⟨w.heap.size, zs.length, _, rfl, hB, heap_alloc_new w _, Nat.le_refl _, hl, by simp, by simp [List.take_of_length_le]⟩⟩

set_option maxRecDepth 100000 in
/-- append(v, x): the row with one more -/
theorem wp_put1F {ops : Array Oper} {rest : List Oper} {o : Oper} {a : Act} {Q : Exit → Act → World → Prop} (hgd : o.guard = none) (s x : Operand)
    (ho : o.op = .call { callee := .builtin .append, args := #[s, x], argTypes := #[24, 24] })
    (B : Nat) (v : Value) (zs : List Nat) (hs : a.eval s = v) (hown : OwnF w B v zs) (g : Nat) (y : Nat) (hx : a.eval x = .slice (some ⟨g, 0, none⟩) 1 1)
    (hc : w.cell? ⟨g, 0, none⟩ = some (.float .f64 y)) (hl : zs.length + 1 ≤ 1099511627776) (hB : B ≤ w.heap.size)
    (h : ∀ v' w', OwnF w' B v' (zs ++ [y]) → Below B w w' → wpList Try.prog ops Q rest (a.put o.dst v') w') : wpList Try.prog ops Q (o :: rest) a w := by
  obtain ⟨i0, hi, hz0, hz1, hz2⟩ := info_parts infoF
  refine wpList_append_own w hgd s x 24 ho B 36 i0 _ 1 8 Try.underlying24 hi hz0 hz1 hz2 rfl (by decide) v zs.length _ hs hown ⟨g, 0, none⟩ 1 1 [.float .f64 y] hx rfl ?_ ?_
    (by unfold maxLen; omega) (by omega) hB ?_
  · intro j u hj
    cases j with
    | zero => simp at hj; subst hj; exact hc
    | succ j => simp at hj
  · intro u hu; simp at hu; subst hu; rfl
  · intro v' w' h1 h2 _
    refine h v' w' ?_ ((Below.refl _ _).grown h2 hB (fun k hk => (World.ownsRow.lt hown k hk).1))
    unfold OwnF
    simpa using h1

set_option maxRecDepth 100000 in
/-- append(v, xs...): the row with more behind it -/
theorem wp_putNF {ops : Array Oper} {rest : List Oper} {o : Oper} {a : Act} {Q : Exit → Act → World → Prop} (hgd : o.guard = none) (s x : Operand)
    (ho : o.op = .call { callee := .builtin .append, args := #[s, x], argTypes := #[24, 24] })
    (B : Nat) (v : Value) (zs : List Nat) (hs : a.eval s = v) (hown : OwnF w B v zs) (A : Option Addr) (c : Nat) (ys : List Nat) (hx : a.eval x = .slice A ys.length c)
    (hA : SlF w A ys) (hnil : A = none → ys = [] ∧ c = 0) (hl : zs.length + ys.length ≤ 1099511627776) (hB : B ≤ w.heap.size)
    (h : ∀ v' w', OwnF w' B v' (zs ++ ys) → Below B w w' → wpList Try.prog ops Q rest (a.put o.dst v') w') : wpList Try.prog ops Q (o :: rest) a w := by
  obtain ⟨i0, hi, hz0, hz1, hz2⟩ := info_parts infoF
  cases A with
  | none =>
    obtain ⟨rfl, rfl⟩ := hnil rfl
    refine wpList_append_own_none hgd s x 24 ho B 36 i0 1 Try.underlying24 hi v zs.length _ hs hown hx ?_
    refine h v w (by simpa using hown) (Below.refl _ _)
  | some ad =>
    refine wpList_append_own w hgd s x 24 ho B 36 i0 _ 1 8 Try.underlying24 hi hz0 hz1 hz2 rfl (by decide) v zs.length _ hs hown ad ys.length c (ys.map (Value.float .f64)) hx (by simp) ?_ ?_
      (by unfold maxLen; omega) (by omega) hB ?_
    · intro j u hj
      rw [List.getElem?_map] at hj
      rcases Nat.lt_or_ge j ys.length with hlt | hge
      · obtain ⟨b, o, e, _, hc⟩ := hA (by omega)
        injection e with e
        subst e
        rw [List.getElem?_eq_getElem hlt] at hj
        have h1 := hc j hlt
        rw [List.getD, List.getElem?_eq_getElem hlt] at h1
        simp at hj h1
        subst hj
        rw [← h1]
        unfold Addr.add
        by_cases hj0 : j = 0
        · subst hj0; simp
        · simp [hj0]
      · rw [List.getElem?_eq_none hge] at hj; simp at hj
    · intro u hu
      rw [List.mem_map] at hu
      obtain ⟨z, _, rfl⟩ := hu; rfl
    · intro v' w' h1 h2 _
      refine h v' w' ?_ ((Below.refl _ _).grown h2 hB (fun k hk => (World.ownsRow.lt hown k hk).1))
      unfold OwnF
      simpa using h1
end


theorem OwnF.sl {w : World} {B : Nat} {v : Value} {zs : List Nat} (h : OwnF w B v zs) : ∃ A c, v = .slice A zs.length c ∧ zs.length ≤ c ∧ SlF w A zs ∧ (A = none → c = 0) := by
  obtain ⟨A, c, e, hc, hs, hn, _⟩ := h.form
  exact ⟨A, c, e, hc, hs, fun q => (hn q).1⟩

end Go.Proofs.Ytoljhoabbaigdaa
