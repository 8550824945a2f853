/- Rows of bytes that the call itself made: what is put behind them, what lies in them, the strings that are made of them. -/
import Derived.Test.YtmcackghpkegbaaProg
import Derived.Test.YtmcackghpkegbaaSl
import Derived.Laws.AppendOwn
import Derived.Laws.AppendOwnNone
import Derived.Laws.BytesArg
import Derived.Laws.OwnMore
import Derived.KernelRfl
namespace Go.Proofs.Ytmcackghpkegbaa
open Go.RowKit

/-- The slice at A reads as zs. -/
def SlB (w : World) (A : Option Addr) (zs : List Int) : Prop :=
  0 < zs.length → ∃ b o, A = some ⟨b, o, none⟩ ∧ b < w.heap.size ∧ ∀ j, j < zs.length → w.cell? ⟨b, o + j, none⟩ = some (.int .u8 (zs.getD j 0))

section
variable {w w' : World} {A : Option Addr} {zs : List Int}
theorem SlB.nil (w : World) (A : Option Addr) : SlB w A [] := fun h => absurd h (by simp)
theorem SlB.at_ {k : Nat} (h : SlB w A zs) (hk : k < zs.length) : ∃ b o, A = some ⟨b, o, none⟩ ∧ b < w.heap.size ∧ ∀ j, j < zs.length → w.cell? ⟨b, o + j, none⟩ = some (.int .u8 (zs.getD j 0)) := h (by omega)
theorem SlB.below (h : SlB w A zs) (hb : Below w.heap.size w w') : SlB w' A zs := fun hn => by
  obtain ⟨b, o, e, hlt, hc⟩ := h hn
  exact ⟨b, o, e, Nat.lt_of_lt_of_le hlt hb.size, fun j hj => (hb.cell (p := ⟨b, o + j, none⟩) hlt).trans (hc j hj)⟩
theorem SlB.drewN (h : SlB w A zs) (n : Nat) : SlB (w.drewN n) A zs := h
theorem SlB.drew (h : SlB w A zs) : SlB w.drew A zs := h
theorem SlB.alloc (h : SlB w A zs) (o : Obj) : SlB (w.alloc o) A zs := h.below ((Below.refl _ _).alloc (Nat.le_refl _) o)
end

theorem infoB : (Try.prog.info? 5).map (fun i => (i.zero, i.size, i.bytes)) = some (some (.int .u8 0), 1, 1) := by kernel_rfl

/-- v is a row of the call's own, from block B on, and holds zs -/
def OwnB (w : World) (B : Nat) (v : Value) (zs : List Int) : Prop := w.ownsRow B 5 1 v zs.length (zs.map (Value.int .u8))

section
variable {w w' : World} {B : Nat} {v : Value} {zs : List Int}
theorem OwnB.nil (w : World) (B : Nat) : OwnB w B (.slice none 0 0) [] := World.ownsRow_nil _ _ _ _
theorem OwnB.form (h : OwnB w B v zs) : ∃ A c, v = .slice A zs.length c ∧ zs.length ≤ c ∧ SlB w A zs ∧ (A = none → c = 0 ∧ zs = []) ∧ (∀ a, A = some a → ∃ g, a = ⟨g, 0, none⟩ ∧ B ≤ g) := by
  rcases h.2 with ⟨rfl, hn⟩ | ⟨g, cap, cur, rfl, hB, hg, hnc, _, hs, ht⟩
  · have hz : zs = [] := List.eq_nil_of_length_eq_zero hn
    subst hz
    exact ⟨none, 0, rfl, Nat.zero_le _, SlB.nil _ _, fun _ => ⟨rfl, rfl⟩, (fun a e => by cases e)⟩
  · refine ⟨some ⟨g, 0, none⟩, cap, rfl, hnc, fun hp => ⟨g, 0, rfl, ?_, fun j hj => ?_⟩, (fun e => by cases e), fun a e => ?_⟩
    · rcases Nat.lt_or_ge g w.heap.size with hlt | hge
      · exact hlt
      · rw [Array.getElem?_eq_none hge] at hg; cases hg
    · have hj2 : j < zs.length * 1 := by omega
      rw [Nat.zero_add, World.ownsRow.cellAt (w := w) (base := B) (e := 5) (size := 1) (xs := zs.map (Value.int .u8)) h j hj2, List.getElem?_map, List.getElem?_eq_getElem hj, List.getD, List.getElem?_eq_getElem hj]; rfl
    · injection e with e; exact ⟨g, e.symm, hB⟩
theorem OwnB.drew (h : OwnB w B v zs) : OwnB w.drew B v zs := h
theorem OwnB.drewN (h : OwnB w B v zs) (n : Nat) : OwnB (w.drewN n) B v zs := h
theorem OwnB.alloc (h : OwnB w B v zs) (o : Obj) : OwnB (w.alloc o) B v zs := World.ownsRow.alloc h o
theorem OwnB.below (h : OwnB w B v zs) (hb : Below w.heap.size w w') : OwnB w' B v zs := by
  refine ⟨h.1, ?_⟩
  rcases h.2 with hn | ⟨g, cap, cur, rfl, hB, hg, r⟩
  · exact .inl hn
  · refine .inr ⟨g, cap, cur, rfl, hB, ?_, r⟩
    rw [hb.block g (by
      rcases Nat.lt_or_ge g w.heap.size with hlt | hge
      · exact hlt
      · rw [Array.getElem?_eq_none hge] at hg; cases hg)]
    exact hg
theorem OwnB.more {B' : Nat} (h : OwnB w B v zs) (hB : B' ≤ B) : OwnB w B' v zs := by
  refine ⟨h.1, ?_⟩
  rcases h.2 with hn | ⟨g, cap, cur, hv, hg, r⟩
  · exact .inl hn
  · exact .inr ⟨g, cap, cur, hv, by omega, r⟩
/-- a new row written out -/
theorem OwnB.made (w : World) (B : Nat) (hB : B ≤ w.heap.size) (zs : List Int) (hl : zs.length ≤ maxLen) :
    OwnB (w.alloc (.cells (zs.map (Value.int .u8)).toArray 5)) B (.slice (some ⟨w.heap.size, 0, none⟩) zs.length zs.length) zs :=
  ⟨by simp, .inr ⟨w.heap.size, zs.length, _, rfl, hB, heap_alloc_new w _, Nat.le_refl _, hl, by simp, by simp [List.take_of_length_le]⟩⟩

set_option maxRecDepth 100000 in
/-- append(v, x): the row with one more -/
theorem wp_put1b {ops : Array Oper} {rest : List Oper} {o : Oper} {a : Act} {Q : Exit → Act → World → Prop} (hgd : o.guard = none) (s x : Operand)
    (ho : o.op = .call { callee := .builtin .append, args := #[s, x], argTypes := #[48, 48] })
    (B : Nat) (v : Value) (zs : List Int) (hs : a.eval s = v) (hown : OwnB w B v zs) (g : Nat) (y : Int) (hx : a.eval x = .slice (some ⟨g, 0, none⟩) 1 1)
    (hc : w.cell? ⟨g, 0, none⟩ = some (.int .u8 y)) (hl : zs.length + 1 ≤ 1099511627776) (hB : B ≤ w.heap.size)
    (h : ∀ v' w', OwnB w' B v' (zs ++ [y]) → Below B w w' → wpList Try.prog ops Q rest (a.put o.dst v') w') : wpList Try.prog ops Q (o :: rest) a w := by
  obtain ⟨i0, hi, hz0, hz1, hz2⟩ := info_parts infoB
  refine wpList_append_own w hgd s x 48 ho B 5 i0 _ 1 1 Try.underlying48 hi hz0 hz1 hz2 rfl (by decide) v zs.length _ hs hown ⟨g, 0, none⟩ 1 1 [.int .u8 y] hx rfl ?_ ?_
    (by unfold maxLen; omega) (by omega) hB ?_
  · intro j u hj
    cases j with
    | zero => simp at hj; subst hj; exact hc
    | succ j => simp at hj
  · intro u hu; simp at hu; subst hu; rfl
  · intro v' w' h1 h2 _
    refine h v' w' ?_ ((Below.refl _ _).grown h2 hB (fun k hk => (World.ownsRow.lt hown k hk).1))
    unfold OwnB
    simpa using h1

set_option maxRecDepth 100000 in
/-- append(v, xs...): the row with more behind it -/
theorem wp_putNb {ops : Array Oper} {rest : List Oper} {o : Oper} {a : Act} {Q : Exit → Act → World → Prop} (hgd : o.guard = none) (s x : Operand)
    (ho : o.op = .call { callee := .builtin .append, args := #[s, x], argTypes := #[48, 48] })
    (B : Nat) (v : Value) (zs : List Int) (hs : a.eval s = v) (hown : OwnB w B v zs) (A : Option Addr) (c : Nat) (ys : List Int) (hx : a.eval x = .slice A ys.length c)
    (hA : SlB w A ys) (hnil : A = none → ys = [] ∧ c = 0) (hl : zs.length + ys.length ≤ 1099511627776) (hB : B ≤ w.heap.size)
    (h : ∀ v' w', OwnB w' B v' (zs ++ ys) → Below B w w' → wpList Try.prog ops Q rest (a.put o.dst v') w') : wpList Try.prog ops Q (o :: rest) a w := by
  obtain ⟨i0, hi, hz0, hz1, hz2⟩ := info_parts infoB
  cases A with
  | none =>
    obtain ⟨rfl, rfl⟩ := hnil rfl
    refine wpList_append_own_none hgd s x 48 ho B 5 i0 1 Try.underlying48 hi v zs.length _ hs hown hx ?_
    refine h v w (by simpa using hown) (Below.refl _ _)
  | some ad =>
    refine wpList_append_own w hgd s x 48 ho B 5 i0 _ 1 1 Try.underlying48 hi hz0 hz1 hz2 rfl (by decide) v zs.length _ hs hown ad ys.length c (ys.map (Value.int .u8)) hx (by simp) ?_ ?_
      (by unfold maxLen; omega) (by omega) hB ?_
    · intro j u hj
      rw [List.getElem?_map] at hj
      rcases Nat.lt_or_ge j ys.length with hlt | hge
      · obtain ⟨b, o, e, _, hc⟩ := hA (by omega)
        injection e with e
        subst e
        rw [List.getElem?_eq_getElem hlt] at hj
        have h1 := hc j hlt
        rw [List.getD, List.getElem?_eq_getElem hlt] at h1
        simp at hj h1
        subst hj
        rw [← h1]
        unfold Addr.add
        by_cases hj0 : j = 0
        · subst hj0; simp
        · simp [hj0]
      · rw [List.getElem?_eq_none hge] at hj; simp at hj
    · intro u hu
      rw [List.mem_map] at hu
      obtain ⟨z, _, rfl⟩ := hu; rfl
    · intro v' w' h1 h2 _
      refine h v' w' ?_ ((Below.refl _ _).grown h2 hB (fun k hk => (World.ownsRow.lt hown k hk).1))
      unfold OwnB
      simpa using h1
end

set_option maxRecDepth 100000 in
/-- string(v) of a row of bytes of the call's own -/
theorem conv_own {w : World} {B : Nat} {A : Option Addr} {c : Nat} {zs : List Int} (h : OwnB w B (.slice A zs.length c) zs) (hp : 0 < zs.length) : (convert 48 9 (.slice A zs.length c)).run Try.prog w = .ok (.string (strOfNums zs)) w := by
  obtain ⟨A', c', e, _, hs, _, _⟩ := h.form
  injection e with eA _ ec
  subst eA; subst ec
  obtain ⟨b, o, rfl, _, hc⟩ := hs hp
  exact run_convert_bytes_arg w 48 5 (by kernel_rfl) (by kernel_rfl) b o zs.length c zs rfl hc 9 (by kernel_rfl)

end Go.Proofs.Ytmcackghpkegbaa
