/- Rows of items that the call itself made and that grow: what is put behind them, what lies in them. -/
import Derived.Test.YtmcackghpkegbaaRj
import Derived.Test.YtmcackghpkegbaaKb
namespace Go.Proofs.Ytmcackghpkegbaa
open Go.RowKit

theorem infoI : (Try.prog.info? 44).map (fun i => (i.zero, i.size, i.bytes)) = some (some (.agg #[.int .u64 0, .string ⟨#[]⟩, .slice none 0 0, .slice none 0 0]), 4, 72) := by kernel_rfl

/-- the slice at A reads as zs; its block is one of P's -/
def SlP (P : Nat → Prop) (w : World) (A : Option Addr) (zs : List Int) : Prop :=
  0 < zs.length → ∃ b o, A = some ⟨b, o, none⟩ ∧ b < w.heap.size ∧ P b ∧ ∀ j, j < zs.length → w.cell? ⟨b, o + j, none⟩ = some (.int .u64 (zs.getD j 0))
/-- the slice at A reads as xs, whose kids have no kids d deep; all its blocks are P's -/
def SlItP : Nat → (Nat → Prop) → World → Option Addr → List Item → Prop
  | 0, _, _, _, xs => xs = []
  | d + 1, P, w, A, xs => 0 < xs.length → ∃ b o, A = some ⟨b, o, none⟩ ∧ b < w.heap.size ∧ P b ∧ ∀ j, j < xs.length → ∃ AL cL AK cK,
      w.cell? ⟨b, o + j * 4, none⟩ = some (.int .u64 (xs.getD j It0).n) ∧ w.cell? ⟨b, o + j * 4 + 1, none⟩ = some (.string (xs.getD j It0).s) ∧
      w.cell? ⟨b, o + j * 4 + 2, none⟩ = some (.slice AL (xs.getD j It0).l.length cL) ∧ w.cell? ⟨b, o + j * 4 + 3, none⟩ = some (.slice AK (xs.getD j It0).ks.length cK) ∧
      SlP P w AL (xs.getD j It0).l ∧ SlItP d P w AK (xs.getD j It0).ks

section
variable {P Q : Nat → Prop} {w w' : World} {A : Option Addr} {zs : List Int} {xs : List Item} {row : Option Nat}
theorem SlP.nil (P : Nat → Prop) (w : World) (A : Option Addr) : SlP P w A [] := fun h => absurd h (by simp)
theorem SlP.sl (h : SlP P w A zs) : Sl w A zs := fun hp => by
  obtain ⟨b, o, e, hb, _, hc⟩ := h hp; exact ⟨b, o, e, hb, hc⟩
theorem SlG.p {B : Nat} (h : SlG B w A zs) (hP : ∀ b, B ≤ b → P b) : SlP P w A zs := fun hp => by
  obtain ⟨b, o, e, hb, hc⟩ := h.1 hp; exact ⟨b, o, e, hb, hP b (h.2 b o e), hc⟩
theorem SlP.keep (h : SlP P w A zs) (hg : w.grownBy w' row) (hr : ∀ b, b < w.heap.size → P b → some b ≠ row) : SlP P w' A zs := fun hp => by
  obtain ⟨b, o, e, hb, hP, hc⟩ := h hp
  exact ⟨b, o, e, Nat.lt_of_lt_of_le hb hg.size, hP, fun j hj => hg.cell (hc j hj) (hr b hb hP)⟩
theorem SlP.to (h : SlP P w A zs) (hq : ∀ b, b < w.heap.size → P b → Q b) : SlP Q w A zs := fun hp => by
  obtain ⟨b, o, e, hb, hP, hc⟩ := h hp
  exact ⟨b, o, e, hb, hq b hb hP, hc⟩
theorem SlItP.nil (d : Nat) (P : Nat → Prop) (w : World) (A : Option Addr) : SlItP d P w A [] := by
  cases d with
  | zero => rfl
  | succ d => exact fun h => absurd h (by simp)
theorem SlItP.keep {d : Nat} : ∀ {A : Option Addr} {xs : List Item}, SlItP d P w A xs → w.grownBy w' row → (∀ b, b < w.heap.size → P b → some b ≠ row) → SlItP d P w' A xs := by
  induction d with
  | zero => intro A xs h _ _; exact h
  | succ d ih =>
    intro A xs h hg hr hp
    obtain ⟨b, o, e, hb, hP, hc⟩ := h hp
    refine ⟨b, o, e, Nat.lt_of_lt_of_le hb hg.size, hP, fun j hj => ?_⟩
    obtain ⟨AL, cL, AK, cK, h0, h1, h2, h3, sl, sk⟩ := hc j hj
    exact ⟨AL, cL, AK, cK, hg.cell h0 (hr b hb hP), hg.cell h1 (hr b hb hP), hg.cell h2 (hr b hb hP), hg.cell h3 (hr b hb hP), sl.keep hg hr, ih sk hg hr⟩
theorem SlItP.to {d : Nat} : ∀ {A : Option Addr} {xs : List Item}, SlItP d P w A xs → (∀ b, b < w.heap.size → P b → Q b) → SlItP d Q w A xs := by
  induction d with
  | zero => intro A xs h _; exact h
  | succ d ih =>
    intro A xs h hq hp
    obtain ⟨b, o, e, hb, hP, hc⟩ := h hp
    refine ⟨b, o, e, hb, hq b hb hP, fun j hj => ?_⟩
    obtain ⟨AL, cL, AK, cK, h0, h1, h2, h3, sl, sk⟩ := hc j hj
    exact ⟨AL, cL, AK, cK, h0, h1, h2, h3, sl.to hq, ih sk hq⟩
theorem SlItP.slit {d : Nat} : ∀ {A : Option Addr} {xs : List Item} (k : Nat), SlItP d P w A xs → SlIt k w A xs := by
  induction d with
  | zero => intro A xs k h; rw [show xs = [] from h]; exact SlIt.nil _ _ _
  | succ d ih =>
    intro A xs k h
    cases k with
    | zero => trivial
    | succ k =>
      intro hp
      obtain ⟨b, o, e, hb, _, hc⟩ := h hp
      refine ⟨b, o, e, hb, fun j hj => ?_⟩
      obtain ⟨AL, cL, AK, cK, h0, h1, h2, h3, sl, sk⟩ := hc j hj
      exact ⟨AL, cL, AK, cK, h0, h1, h2, h3, sl.sl, ih k sk⟩
end

/-- cs are the cells of the items xs -/
def AtI (P : Nat → Prop) (d : Nat) (w : World) (cs : List Value) (xs : List Item) : Prop := ∀ j, j < xs.length → ∃ AL cL AK cK,
    cs[j * 4]? = some (.int .u64 (xs.getD j It0).n) ∧ cs[j * 4 + 1]? = some (.string (xs.getD j It0).s) ∧
    cs[j * 4 + 2]? = some (.slice AL (xs.getD j It0).l.length cL) ∧ cs[j * 4 + 3]? = some (.slice AK (xs.getD j It0).ks.length cK) ∧
    SlP P w AL (xs.getD j It0).l ∧ SlItP d P w AK (xs.getD j It0).ks
theorem AtI.keep {P : Nat → Prop} {d : Nat} {w w' : World} {cs : List Value} {xs : List Item} {row : Option Nat} (h : AtI P d w cs xs) (hg : w.grownBy w' row) (hr : ∀ b, b < w.heap.size → P b → some b ≠ row) : AtI P d w' cs xs := fun j hj => by
  obtain ⟨AL, cL, AK, cK, h0, h1, h2, h3, sl, sk⟩ := h j hj
  exact ⟨AL, cL, AK, cK, h0, h1, h2, h3, sl.keep hg hr, sk.keep hg hr⟩
theorem AtI.to {P Q : Nat → Prop} {d : Nat} {w : World} {cs : List Value} {xs : List Item} (h : AtI P d w cs xs) (hq : ∀ b, b < w.heap.size → P b → Q b) : AtI Q d w cs xs := fun j hj => by
  obtain ⟨AL, cL, AK, cK, h0, h1, h2, h3, sl, sk⟩ := h j hj
  exact ⟨AL, cL, AK, cK, h0, h1, h2, h3, sl.to hq, sk.to hq⟩
theorem AtI.put {P : Nat → Prop} {d : Nat} {w : World} {cs : List Value} {xs : List Item} {x : Item} {AL AK : Option Addr} {cL cK : Nat} (h : AtI P d w cs xs) (hl : cs.length = xs.length * 4) (sl : SlP P w AL x.l) (sk : SlItP d P w AK x.ks) :
    AtI P d w (cs ++ [.int .u64 x.n, .string x.s, .slice AL x.l.length cL, .slice AK x.ks.length cK]) (xs ++ [x]) := fun j hj => by
  rw [List.length_append, List.length_singleton] at hj
  by_cases hjl : j < xs.length
  · have e : (xs ++ [x]).getD j It0 = xs.getD j It0 := by
      rw [List.getD_eq_getElem?_getD, List.getElem?_append_left hjl, ← List.getD_eq_getElem?_getD]
    rw [e]
    obtain ⟨AL', cL', AK', cK', h0, h1, h2, h3, sl', sk'⟩ := h j hjl
    exact ⟨AL', cL', AK', cK', (List.getElem?_append_left (by omega)).trans h0, (List.getElem?_append_left (by omega)).trans h1, (List.getElem?_append_left (by omega)).trans h2, (List.getElem?_append_left (by omega)).trans h3, sl', sk'⟩
  · obtain rfl : j = xs.length := by omega
    have e : (xs ++ [x]).getD xs.length It0 = x := by
      rw [List.getD_eq_getElem?_getD, List.getElem?_append_right (Nat.le_refl _)]; simp
    rw [e]
    refine ⟨AL, cL, AK, cK, ?_, ?_, ?_, ?_, sl, sk⟩
    · rw [List.getElem?_append_right (by omega), show xs.length * 4 - cs.length = 0 by omega]; rfl
    · rw [List.getElem?_append_right (by omega), show xs.length * 4 + 1 - cs.length = 1 by omega]; rfl
    · rw [List.getElem?_append_right (by omega), show xs.length * 4 + 2 - cs.length = 2 by omega]; rfl
    · rw [List.getElem?_append_right (by omega), show xs.length * 4 + 3 - cs.length = 3 by omega]; rfl

/-- v is a row of the call's own, from block B on, and holds xs; what its items hold lies from block B on, too, and in other blocks -/
def OwnI (d : Nat) (w : World) (B : Nat) (v : Value) (xs : List Item) : Prop := ∃ cs, w.ownsRow B 44 4 v xs.length cs ∧ AtI (fun b => B ≤ b ∧ v.ownBlock ≠ some b) d w cs xs

section
variable {d : Nat} {w w' : World} {B : Nat} {v : Value} {xs : List Item}
theorem OwnI.nil (d : Nat) (w : World) (B : Nat) : OwnI d w B (.slice none 0 0) [] := ⟨[], World.ownsRow_nil _ _ _ _, fun j hj => absurd hj (by simp)⟩
theorem OwnI.made (d : Nat) (w : World) (B : Nat) (hB : B ≤ w.heap.size) : OwnI d (w.alloc (.cells #[] 44)) B (.slice (some ⟨w.heap.size, 0, none⟩) 0 0) [] :=
  ⟨[], World.ownsRow_made w #[] 0 hB (Nat.zero_le _) (by simp), fun j hj => absurd hj (by simp)⟩
theorem OwnI.lt (h : OwnI d w B v xs) : ∀ k, v.ownBlock = some k → B ≤ k ∧ k < w.heap.size := by
  obtain ⟨cs, h1, _⟩ := h; exact World.ownsRow.lt h1
theorem OwnI.keep {row : Option Nat} (h : OwnI d w B v xs) (hg : w.grownBy w' row) (hr : ∀ k, row = some k → k < B) : OwnI d w' B v xs := by
  have hl := h.lt
  obtain ⟨cs, h1, h2⟩ := h
  refine ⟨cs, World.ownsRow.kept h1 hg ?_, h2.keep hg (fun b _ hb e => by have := hr b e.symm; have := hb.1; omega)⟩
  cases hv : v.ownBlock with
  | none => exact .inl rfl
  | some k => exact .inr (fun e => by have := hr k e.symm; have := (hl k hv).1; omega)
theorem OwnI.below (h : OwnI d w B v xs) (hb : Below w.heap.size w w') : OwnI d w' B v xs := h.keep (grown_below hb none) (fun k e => by cases e)
theorem OwnI.alloc (h : OwnI d w B v xs) (o : Obj) : OwnI d (w.alloc o) B v xs := h.keep (World.grownBy_alloc w o none) (fun k e => by cases e)
theorem OwnI.form (h : OwnI d w B v xs) : ∃ A c, v = .slice A xs.length c ∧ SlItP (d + 1) (fun b => B ≤ b) w A xs := by
  obtain ⟨cs, h1, h2⟩ := h
  have hl := World.ownsRow.lt h1
  have h1' := h1
  rcases h1.2 with ⟨rfl, hn⟩ | ⟨g, cap, cur, rfl, hB, hg, hnc, _, hs, ht⟩
  · obtain rfl : xs = [] := List.eq_nil_of_length_eq_zero hn
    exact ⟨none, 0, rfl, SlItP.nil _ _ _ _⟩
  · refine ⟨some ⟨g, 0, none⟩, cap, rfl, fun hp => ⟨g, 0, rfl, (hl g rfl).2, hB, fun j hj => ?_⟩⟩
    obtain ⟨AL, cL, AK, cK, q0, q1, q2, q3, sl, sk⟩ := h2 j hj
    have cc := fun i (hi : i < xs.length * 4) => World.ownsRow.cellAt (w := w) (base := B) (e := 44) (size := 4) (xs := cs) h1' i hi
    simp only [Nat.zero_add]
    exact ⟨AL, cL, AK, cK, (cc _ (by omega)).trans q0, (cc _ (by omega)).trans q1, (cc _ (by omega)).trans q2, (cc _ (by omega)).trans q3, sl.to (fun b _ hb => hb.1), sk.to (fun b _ hb => hb.1)⟩

set_option maxRecDepth 100000 in
/-- append(v, x) of one item -/
theorem wp_putI {ops : Array Oper} {rest : List Oper} {o : Oper} {a : Act} {Q : Exit → Act → World → Prop} (hgd : o.guard = none) (s x : Operand)
    (ho : o.op = .call { callee := .builtin .append, args := #[s, x], argTypes := #[22, 22] })
    (d B : Nat) (v : Value) (xs : List Item) (hs : a.eval s = v) (hown : OwnI d w B v xs) (y : Item) (AL AK : Option Addr) (cL cK g : Nat) (hx : a.eval x = .slice (some ⟨g, 0, none⟩) 1 1)
    (hg : w.heap[g]? = some (.cells #[.int .u64 y.n, .string y.s, .slice AL y.l.length cL, .slice AK y.ks.length cK] 44))
    (sl : SlP (fun b => B ≤ b ∧ v.ownBlock ≠ some b) w AL y.l) (sk : SlItP d (fun b => B ≤ b ∧ v.ownBlock ≠ some b) w AK y.ks)
    (hl : xs.length + 1 ≤ 1000) (hB : B ≤ w.heap.size)
    (h : ∀ v' w', OwnI d w' B v' (xs ++ [y]) → w.grownBy w' v.ownBlock → Fresh w v v' → wpList Try.prog ops Q rest (a.put o.dst v') w') : wpList Try.prog ops Q (o :: rest) a w := by
  obtain ⟨i0, hi, hz0, hz1, hz2⟩ := info_parts infoI
  obtain ⟨cs, h1, h2⟩ := hown
  refine wpList_append_own_at w hgd s x 22 ho B 44 i0 _ 4 72 Try.underlying22 hi hz0 hz1 hz2 rfl (by decide) v xs.length cs hs h1 ⟨g, 0, none⟩ 1 1
    [.int .u64 y.n, .string y.s, .slice AL y.l.length cL, .slice AK y.ks.length cK] hx rfl ?_ ?_ (by unfold maxLen; omega) (by omega) hB ?_
  · exact World.news_of_block (cs := #[.int .u64 y.n, .string y.s, .slice AL y.l.length cL, .slice AK y.ks.length cK]) (t := 44) (fr := (0, 0)) hg
  · intro u hu; simp at hu; rcases hu with rfl | rfl | rfl | rfl <;> rfl
  · intro v' w' k1 k2 _ k3
    have hf : Fresh w v v' := by
      intro k hk
      rcases k3 with e | e
      · exact .inl (by rw [← e]; exact hk)
      · rw [e] at hk; injection hk with hk; exact .inr (by omega)
    refine h v' w' ⟨cs ++ [.int .u64 y.n, .string y.s, .slice AL y.l.length cL, .slice AK y.ks.length cK], by simpa using k1, ?_⟩ k2 hf
    have hq : ∀ b, b < w.heap.size → (B ≤ b ∧ v.ownBlock ≠ some b) → B ≤ b ∧ v.ownBlock ≠ some b ∧ v'.ownBlock ≠ some b := fun b hb hP => ⟨hP.1, hP.2, fun e => by
      rcases hf b e with h5 | h5
      · exact hP.2 h5
      · omega⟩
    have A1 := (h2.to hq).put (cL := cL) (cK := cK) (by rw [h1.1]) (sl.to hq) (sk.to hq)
    exact (A1.keep k2 (fun b _ hb e => hb.2.1 e.symm)).to (fun b _ hb => ⟨hb.1, hb.2.2⟩)
end

end Go.Proofs.Ytmcackghpkegbaa
