/- Proved parts: D2w D2i. Conditions: each theorem's own. -/
import Derived.Test.YtnbkekbgedioeaaM9
import Derived.Test.YtnbkekbgedioeaaM12
import Derived.ArgAppend
import Derived.Deep.MidRow
import Derived.BigQuiet
import Derived.Lib.Overlaps
import Derived.Lib.AppendZerosOnto
import Derived.RegionTactic
import Derived.Deep.RegionLaw
namespace Go.Proofs.Ytnbkekbgedioeaa
open Go.RowKit

/-- the cells of writes -/
def wcs (l : Wl) : List Value := l.flatMap Wr.cs
theorem wcs_len (l : Wl) : (wcs l).length = l.length * 5 := flat_len (f := Wr.cs) (n := 5) (fun _ => rfl) l
theorem wcs_append (a b : Wl) : wcs (a ++ b) = wcs a ++ wcs b := by unfold wcs; simp
theorem wcs_cons (x : Wr) (b : Wl) : wcs (x :: b) = Wr.cs x ++ wcs b := by unfold wcs; simp
theorem wcs_one (l : Wl) : ∀ u ∈ wcs l, u.oneCell' = true := by
  intro u hu
  unfold wcs at hu
  rw [List.mem_flatMap] at hu
  obtain ⟨x, _, hx⟩ := hu
  unfold Wr.cs at hx
  simp at hx
  rcases hx with rfl | rfl | rfl | rfl | rfl <;> rfl
theorem infoWr : (Try.prog.info? 42).map (fun i => (i.zero, i.size, i.bytes)) = some (some (.agg #[.string ⟨#[]⟩, .bool false, .bool false, .string ⟨#[]⟩, .int .u64 0]), 5, 56) := by kernel_rfl

theorem rangeAt_appendW {w : World} {b o : Nat} {x y : List Value} : w.rangeAt b o (x ++ y) ↔ w.rangeAt b o x ∧ w.rangeAt b (o + x.length) y := by
  constructor
  · intro h
    refine ⟨fun j v hj => h j v ?_, fun j v hj => ?_⟩
    · rw [List.getElem?_append_left (List.getElem?_eq_some_iff.1 hj).1]; exact hj
    · rw [Nat.add_assoc]
      refine h _ v ?_
      rw [List.getElem?_append_right (by omega), Nat.add_sub_cancel_left]; exact hj
  · rintro ⟨h1, h2⟩ j v hj
    by_cases q : j < x.length
    · exact h1 j v (by rwa [List.getElem?_append_left q] at hj)
    · rw [List.getElem?_append_right (by omega)] at hj
      have := h2 _ v hj
      rwa [show o + x.length + (j - x.length) = o + j by omega] at this
/-- block b is plain memory of items -/
def PlainW (w : World) (b : Nat) : Prop := ∃ cur, w.heap[b]? = some (.cells cur 42 (0, 0))
theorem PlainW.lt {w : World} {b : Nat} (h : PlainW w b) : b < w.heap.size := by obtain ⟨_, h⟩ := h; exact (Array.getElem?_eq_some_iff.1 h).1
theorem PlainW.setCell {w : World} {b : Nat} (h : PlainW w b) (p : Addr) (u : Value) : PlainW (w.setCell p u) b := by
  obtain ⟨cur, h⟩ := h
  by_cases e : b = p.block
  · subst e
    unfold PlainW World.setCell
    simp only [Array.getElem?_modify]
    rw [h]
    exact ⟨_, rfl⟩
  · exact ⟨cur, (Below.heap_setCell _ _ _ _ e).trans h⟩
theorem PlainW.setCells {b : Nat} (g : Nat) : ∀ (vs : List Value) (o : Nat) (w : World), PlainW w b → PlainW (w.setCells g o vs) b
  | [], _, _, h => h
  | v :: r, o, _, h => PlainW.setCells g r (o + 1) _ (h.setCell _ v)
theorem PlainW.frozen {w : World} {b : Nat} (h : PlainW w b) (j : Nat) : w.frozen? ⟨b, j, none⟩ = false := by
  obtain ⟨cur, h⟩ := h
  simp [World.frozen?, h]

/-- the window of a node -/
def InWinW (v : Value) (k j : Nat) : Prop := ∃ o n c, v = .slice (some ⟨k, o, none⟩) n c ∧ o ≤ j ∧ j < o + c * 5
/-- the slice v holds the items zs -/
structure WinAtW (w : World) (b o c : Nat) (zs : Wl) : Prop where
  fit : zs.length ≤ c
  cap : c ≤ maxLen
  pos : 0 ≤ c
  row : w.rangeAt b o (wcs zs)
  there : ∀ j, j < c * 5 → (w.cell? ⟨b, o + j, none⟩).isSome = true
  plain : PlainW w b
def NodeAtW (w : World) (v : Value) (zs : Wl) : Prop := (v = .slice none 0 0 ∧ zs = []) ∨ ∃ b o c, v = .slice (some ⟨b, o, none⟩) zs.length c ∧ WinAtW w b o c zs
theorem WinAtW.node {w : World} {b o c : Nat} {zs : Wl} (h : WinAtW w b o c zs) : NodeAtW w (.slice (some ⟨b, o, none⟩) zs.length c) zs := .inr ⟨b, o, c, rfl, h⟩
theorem WinAtW.cell {w : World} {b o c : Nat} {zs : Wl} (h : WinAtW w b o c zs) (j i : Nat) (hj : j < zs.length) (hi : i < 5) : w.cell? ⟨b, o + j * 5 + i, none⟩ = (zs.getD j Wr.Z).cs[i]? := by
  have e : zs.getD j Wr.Z = zs[j] := by rw [List.getD_eq_getElem?_getD, List.getElem?_eq_getElem hj]; rfl
  have f := flat_at (f := Wr.cs) (n := 5) (fun _ => rfl) zs j i hj hi
  have hl : i < (zs[j]).cs.length := hi
  rw [e, Nat.add_assoc, h.row (j * 5 + i) _ (by unfold wcs; rw [f, List.getElem?_eq_getElem hl]), List.getElem?_eq_getElem hl]
theorem NodeAtW.sl {w : World} {v : Value} {zs : Wl} (h : NodeAtW w v zs) : ∃ A c, v = .slice A zs.length c ∧ SlWr w A zs ∧ (zs.length ≤ c) ∧ (A = none → zs = [] ∧ c = 0) ∧ ∀ a, A = some a → v.ownBlock = some a.block ∧ a.block < w.heap.size := by
  rcases h with ⟨rfl, rfl⟩ | ⟨b, o, c, rfl, h⟩
  · exact ⟨none, 0, rfl, fun hp => absurd hp (by simp), Nat.le_refl _, fun _ => ⟨rfl, rfl⟩, fun a e => by cases e⟩
  · refine ⟨some ⟨b, o, none⟩, c, rfl, fun hp => ⟨b, o, rfl, h.plain.lt, fun j hj => ⟨h.cell j 0 hj (by decide), h.cell j 1 hj (by decide), h.cell j 2 hj (by decide), h.cell j 3 hj (by decide), h.cell j 4 hj (by decide)⟩⟩, h.fit, fun e => (by cases e), fun a e => ?_⟩
    injection e with e
    subst e
    exact ⟨rfl, h.plain.lt⟩

/-- places of F alone may have turned; new blocks may have come -/
structure TurnW (F : Nat → Nat → Prop) (w w' : World) : Prop where
  os : w'.os = w.os
  tape : w'.tape = w.tape
  output : w'.output = w.output
  size : w.heap.size ≤ w'.heap.size
  block : ∀ k, k < w.heap.size → (∀ j, ¬ F k j) → w'.heap[k]? = w.heap[k]?
  cell : ∀ k j, k < w.heap.size → ¬ F k j → w'.cell? ⟨k, j, none⟩ = w.cell? ⟨k, j, none⟩
  there : ∀ k j, k < w.heap.size → (w.cell? ⟨k, j, none⟩).isSome = true → (w'.cell? ⟨k, j, none⟩).isSome = true
  plain : ∀ k, PlainW w k → PlainW w' k
section
variable {F G : Nat → Nat → Prop} {a b c w w' : World}
theorem TurnW.refl (F : Nat → Nat → Prop) (w : World) : TurnW F w w := ⟨rfl, rfl, rfl, Nat.le_refl _, fun _ _ _ => rfl, fun _ _ _ _ => rfl, fun _ _ _ h => h, fun _ h => h⟩
theorem TurnW.of_below (h : Below w.heap.size w w') : TurnW F w w' :=
  ⟨h.os, h.tape, h.output, h.size, fun k hk _ => h.block k hk, fun k j hk _ => World.cell?_of_block (a := ⟨k, j, none⟩) (h.block k hk), fun k j hk q => by
    rw [World.cell?_of_block (a := ⟨k, j, none⟩) (h.block k hk)]; exact q, fun k hk => by obtain ⟨cur, e⟩ := hk; exact ⟨cur, (h.block k (PlainW.lt ⟨cur, e⟩)).trans e⟩⟩
theorem TurnW.trans (h : TurnW F a b) (k : TurnW G b c) (hg : ∀ i j, G i j → F i j ∨ a.heap.size ≤ i) : TurnW F a c :=
  ⟨k.os.trans h.os, k.tape.trans h.tape, k.output.trans h.output, Nat.le_trans h.size k.size, fun i hi hn => (k.block i (Nat.lt_of_lt_of_le hi h.size) (fun j e => by
      rcases hg i j e with q | q
      · exact hn j q
      · omega)).trans (h.block i hi hn), fun i j hi hn => (k.cell i j (Nat.lt_of_lt_of_le hi h.size) (fun e => by
      rcases hg i j e with q | q
      · exact hn q
      · omega)).trans (h.cell i j hi hn), fun i j hi q => k.there i j (Nat.lt_of_lt_of_le hi h.size) (h.there i j hi q), fun i q => k.plain i (h.plain i q)⟩
theorem TurnW.mono (h : TurnW F w w') (hg : ∀ i j, F i j → G i j) : TurnW G w w' :=
  ⟨h.os, h.tape, h.output, h.size, fun k hk hn => h.block k hk fun j e => hn j (hg k j e), fun k j hk hn => h.cell k j hk fun e => hn (hg k j e), h.there, h.plain⟩
theorem TurnW.then (h : TurnW F a b) (k : TurnW F b c) : TurnW F a c := h.trans k fun _ _ e => .inl e
theorem TurnW.chg (h : TurnW F w w') {E : Nat → Prop} (hE : ∀ k j, F k j → E k) : Chg E w w' := ⟨h.os, h.tape, h.output, h.size, fun k hk hn => h.block k hk fun j e => hn (hE k j e)⟩
theorem TurnW.setCells (w : World) (g o : Nat) (vs : List Value) : TurnW (fun k j => k = g ∧ o ≤ j ∧ j < o + vs.length) w (w.setCells g o vs) := by
  have fr := World.keptBut_setCells g (may := fun _ => True) vs o w (fun _ _ => trivial)
  have key : ∀ (vs : List Value) (o : Nat) (w : World), (w.setCells g o vs).os = w.os ∧ (w.setCells g o vs).tape = w.tape ∧ (w.setCells g o vs).output = w.output ∧ (w.setCells g o vs).heap.size = w.heap.size ∧ ∀ k, k ≠ g → (w.setCells g o vs).heap[k]? = w.heap[k]? := by
    intro vs
    induction vs with
    | nil => exact fun o w => ⟨rfl, rfl, rfl, rfl, fun _ _ => rfl⟩
    | cons v r ih =>
      intro o w
      obtain ⟨h1, h2, h3, h4, h5⟩ := ih (o + 1) (w.setCell ⟨g, o, none⟩ v)
      exact ⟨h1, h2, h3, by rw [World.setCells, h4]; simp [World.setCell], fun k hk => (h5 k hk).trans (Below.heap_setCell _ _ _ _ hk)⟩
  obtain ⟨h1, h2, h3, h4, h5⟩ := key vs o w
  have kc : ∀ k j, ¬ (k = g ∧ o ≤ j ∧ j < o + vs.length) → (w.setCells g o vs).cell? ⟨k, j, none⟩ = w.cell? ⟨k, j, none⟩ := fun k j hn =>
    World.cell?_setCells_out g vs o w ⟨k, j, none⟩ (fun e _ => by
      simp only at e ⊢
      by_cases q : j < o
      · exact .inl q
      · exact .inr (Nat.le_of_not_lt fun q2 => hn ⟨e, by omega, q2⟩))
  refine ⟨h1, h2, h3, by omega, fun k hk hn => ?_, fun k j _ hn => kc k j hn, fun k j _ q => World.isSome_setCells g vs o w _ q, fun k hk => PlainW.setCells g vs o w hk⟩
  by_cases e : k = g
  · subst e
    cases vs with
    | nil => rfl
    | cons v r => exact absurd ⟨rfl, Nat.le_refl o, by simp⟩ (hn o)
  · exact h5 k e
end
theorem InWinW.lt {w : World} {v : Value} {zs : Wl} {k j : Nat} (h : NodeAtW w v zs) (hi : InWinW v k j) : k < w.heap.size := by
  obtain ⟨o, n, c, rfl, _⟩ := hi
  rcases h with ⟨e, _⟩ | ⟨b, o', c', e, h⟩
  · cases e
  · injection e with e _ _
    injection e with e
    injection e with e _ _
    subst e
    exact h.plain.lt

section
variable {P : Program} {w : World}
/-- append where there is room, over elements of two cells -/
theorem run_app_roomW (t u ty e : TypeId) (i : TypeInfo) (ht : P.underlying t = some (.slice e)) (hu : P.underlying u = some (.slice e)) (hi : P.info? e = some i)
    (b off sLen sCap : Nat) (a : Addr) (m c : Nat) (news : List Value) (hl : news.length = m * i.size) (hnews : ∀ j u, news[j]? = some u → w.cell? (a.add j) = some u) (h1 : ∀ u ∈ news, u.oneCell' = true)
    (hroom : sLen + m ≤ sCap) (hc : ∀ j, j < news.length → (w.cell? ⟨b, off + sLen * i.size + j, none⟩).isSome = true) (hf : ∀ j, j < news.length → w.frozen? ⟨b, off + sLen * i.size + j, none⟩ = false) :
    (Builtin.append_ #[t, u] ty #[.slice (some ⟨b, off, none⟩) sLen sCap, .slice (some a) m c]).run P w = .ok (.slice (some ⟨b, off, none⟩) (sLen + m) sCap) (w.setCells b (off + sLen * i.size) news) := by
  have hfc := run_firstCells_some (P := P) w i.size m a m c news hl hnews
  have hst := run_storeCells_cells (P := P) b (off + sLen * i.size) news 0 w (by simpa using hc) (by simpa using hf) h1
  simp only [Nat.add_zero] at hst
  simp [Builtin.append_, run_underlying ht, run_underlying hu, sizeOf, typeInfo, hi, Builtin.lenOf, hroom, hfc, Addr.add_lit, hst]
theorem run_app_growW (t u ty e : TypeId) (i : TypeInfo) (z : Value) (ht : P.underlying t = some (.slice e)) (hu : P.underlying u = some (.slice e)) (hi : P.info? e = some i) (hz : i.zero = some z)
    (b : Addr) (sLen sCap : Nat) (olds : List Value) (hlo : olds.length = sLen * i.size) (holds : ∀ j v, olds[j]? = some v → w.cell? (b.add j) = some v)
    (a : Addr) (n c : Nat) (news : List Value) (hl : news.length = n * i.size) (hnews : ∀ j v, news[j]? = some v → w.cell? (a.add j) = some v)
    (hg : sCap < sLen + n) (h63 : ((sLen + n : Nat) : Int) ≤ 9223372036854775807) (hfit : Builtin.nextslicecap (sLen + n) sCap * i.bytes ≤ 281474976710656) :
    (Builtin.append_ #[t, u] ty #[.slice (some b) sLen sCap, .slice (some a) n c]).run P w =
      .ok (.slice (some ⟨w.heap.size, 0, none⟩) (sLen + n) (grownCap w (sLen + n) sCap e))
        (w.drew.alloc (.cells (olds.toArray ++ news.toArray ++ Builtin.zeroCells z.cells (grownCap w (sLen + n) sCap e - (sLen + n))) e)) := by
  have hn : ¬ (sLen + n ≤ sCap) := by omega
  have h63' : ¬ (9223372036854775807 < ((sLen : Int) + (n : Int))) := by omega
  have h48' : ¬ (281474976710656 < Builtin.nextslicecap (sLen + n) sCap * i.bytes) := by omega
  have hf := run_firstCells_some (P := P) w.drew i.size n a n c news hl (by simpa using hnews)
  have hfo := run_firstCells_some (P := P) w.drew i.size sLen b sLen sCap olds hlo (by simpa using holds)
  simp [Builtin.append_, run_underlying ht, run_underlying hu, sizeOf, typeInfo, zeroValue, hi, hz, Builtin.lenOf, hn, h63', h48', Question.forced, hf, hfo, newRow, grownCap]
  congr 2
  apply Array.ext'
  simp [List.append_assoc]
/-- copy, over elements of two cells -/
theorem run_copy2W (w : World) (dT sT ty elem : TypeId) (b o dLen dCap : Nat) (a : Addr) (sLen sCap : Nat) (cs : List Value) (n : Nat)
    (hu : P.underlying dT = some (.slice elem)) (hs : (P.info? elem).map (·.size) = some 5) (hn : n = Nat.min sLen dLen) (hl : cs.length = n * 5)
    (hsrc : ∀ j v, cs[j]? = some v → w.cell? (a.add j) = some v) (hc : ∀ j, j < cs.length → (w.cell? ⟨b, o + j, none⟩).isSome = true) (hf : ∀ j, j < cs.length → w.frozen? ⟨b, o + j, none⟩ = false) (h1 : ∀ v ∈ cs, v.oneCell' = true) :
    (Builtin.copy_ #[dT, sT] ty #[.slice (some ⟨b, o, none⟩) dLen dCap, .slice (some a) sLen sCap]).run P w = .ok (goInt n) (w.setCells b o cs) := by
  have hlc := run_loadCells_list (P := P) w a cs hsrc
  have hst := run_storeCells_cells (P := P) b o cs 0 w (by simpa using hc) (by simpa using hf) h1
  rw [hl] at hlc
  cases hq : P.info? elem with
  | none => simp [hq] at hs
  | some i =>
    have hi : i.size = 5 := by simpa [hq] using hs
    simp [Builtin.copy_, run_underlying hu, Builtin.lenOf, Builtin.firstCells, sizeOf, typeInfo, hq, hi, ← hn, hlc, hst]
end
theorem add_midW {w : World} {b o : Nat} {cs : List Value} (h : w.rangeAt b o cs) : ∀ j v, cs[j]? = some v → w.cell? ((⟨b, o, none⟩ : Addr).add j) = some v := fun j v hj => by rw [Addr.add_mid]; exact h j v hj

/-- what a call leaves that turns one node: a node, in its window or in a new block -/
def MovedW (w : World) (v : Value) (zs : Wl) (v' : Value) (w' : World) : Prop := NodeAtW w' v' zs ∧ TurnW (InWinW v) w w' ∧ (∀ k, v'.ownBlock = some k → v.ownBlock = some k ∨ w.heap.size ≤ k) ∧ v' ≠ .slice none 0 0

theorem grown_rowW {w : World} {x z : List Value} {t : TypeId} : (w.drew.alloc (.cells (x ++ z).toArray t)).rangeAt w.heap.size 0 x := fun j v hj => by
  have hr : (w.drew.alloc (.cells (x ++ z).toArray t)).heap[w.heap.size]? = some (.cells (x ++ z).toArray t (0, 0)) := heap_alloc_new w.drew _
  rw [cell_of_row _ _ _ _ _ _ hr, List.getElem?_toArray, Nat.zero_add, List.getElem?_append_left (List.getElem?_eq_some_iff.1 hj).1]; exact hj
theorem setCells_atW {w : World} {b o : Nat} {vs : List Value} (h : ∀ j, j < vs.length → (w.cell? ⟨b, o + j, none⟩).isSome = true) : (w.setCells b o vs).rangeAt b o vs := fun j v hj => by
  have hl := (List.getElem?_eq_some_iff.1 hj).1
  rw [World.cell?_setCells_in b vs o w h j hl, ← hj, List.getElem?_eq_getElem hl]

/-- append of items to a node -/
theorem run_appW (w : World) (t u ty : TypeId) (ht : Try.prog.underlying t = some (.slice 42)) (hu : Try.prog.underlying u = some (.slice 42))
    (b o c : Nat) (zs ys : Wl) (h : WinAtW w b o c zs) (g p cx : Nat) (hy : w.rangeAt g p (wcs ys)) (hl : zs.length + ys.length ≤ 1000000) :
    ∃ v' w', (Builtin.append_ #[t, u] ty #[.slice (some ⟨b, o, none⟩) zs.length c, .slice (some ⟨g, p, none⟩) ys.length cx]).run Try.prog w = .ok v' w' ∧ MovedW w (.slice (some ⟨b, o, none⟩) zs.length c) (zs ++ ys) v' w' ∧
      (zs.length + ys.length ≤ c → v' = .slice (some ⟨b, o, none⟩) (zs.length + ys.length) c ∧ w' = w.setCells b (o + zs.length * 5) (wcs ys)) := by
  obtain ⟨i0, hi, hz0, hz1, hz2⟩ := info_parts infoWr
  have ly := wcs_len ys
  by_cases hr : zs.length + ys.length ≤ c
  · have hin : ∀ j, j < (wcs ys).length → (w.cell? ⟨b, o + zs.length * 5 + j, none⟩).isSome = true := fun j hj => by
      have := h.there (zs.length * 5 + j) (by omega)
      rwa [← Nat.add_assoc] at this
    have hrun := run_app_roomW (P := Try.prog) (w := w) t u ty _ i0 ht hu hi b o zs.length c ⟨g, p, none⟩ ys.length cx (wcs ys) (by rw [hz1]; exact ly) (add_midW hy) (wcs_one ys) hr (by rw [hz1]; exact hin) (by rw [hz1]; exact fun j _ => h.plain.frozen _)
    rw [hz1] at hrun
    refine ⟨_, _, hrun, ⟨?_, (TurnW.setCells w b (o + zs.length * 5) (wcs ys)).mono ?_, fun k e => .inl e, by simp⟩, fun _ => ⟨rfl, rfl⟩⟩
    · have e : zs.length + ys.length = (zs ++ ys).length := by simp
      rw [e]
      refine WinAtW.node ⟨by rw [← e]; exact hr, h.cap, h.pos, ?_, fun j hj => World.isSome_setCells _ _ _ _ _ (h.there j hj), PlainW.setCells _ _ _ _ h.plain⟩
      rw [wcs_append, rangeAt_appendW, wcs_len]
      refine ⟨World.rangeAt_setCells_apart h.row _ _ _ (.inr (.inl (by rw [wcs_len]; omega))), setCells_atW hin⟩
    · rintro k j ⟨rfl, h1, h2⟩
      exact ⟨o, _, c, rfl, by omega, by omega⟩
  · obtain ⟨G, hG⟩ : ∃ G, G = grownCap w (zs.length + ys.length) c 42 := ⟨_, rfl⟩
    have hge : zs.length + ys.length ≤ G := by rw [hG]; exact grownCap_ge _ _ _ _
    have hle : G ≤ maxLen := by rw [hG]; exact grownCap_le_maxLen _ _ _ _ (by unfold maxLen; omega)
    have hrun := run_app_growW (P := Try.prog) (w := w) t u ty _ i0 _ ht hu hi hz0 ⟨b, o, none⟩ zs.length c (wcs zs) (by rw [hz1]; exact wcs_len zs) (add_midW h.row) ⟨g, p, none⟩ ys.length cx (wcs ys) (by rw [hz1]; exact ly) (add_midW hy) (by omega) (by omega)
      (growslice_fits (by omega) (by rw [hz2]; omega))
    rw [← hG] at hrun
    obtain ⟨Z, hZ⟩ : ∃ Z : List Value, Z = (Builtin.zeroCells (Value.agg #[Value.string ⟨#[]⟩, Value.bool false, Value.bool false, Value.string ⟨#[]⟩, Value.int .u64 0]).cells (G - (zs.length + ys.length))).toList := ⟨_, rfl⟩
    have hZl : Z.length = (G - (zs.length + ys.length)) * 5 := by rw [hZ, Array.length_toList, size_zeroCells]; rfl
    have ew : (wcs zs).toArray ++ (wcs ys).toArray ++ Builtin.zeroCells (Value.agg #[Value.string ⟨#[]⟩, Value.bool false, Value.bool false, Value.string ⟨#[]⟩, Value.int .u64 0]).cells (G - (zs.length + ys.length)) = (wcs (zs ++ ys) ++ Z).toArray := by
      rw [hZ, wcs_append]
      apply Array.ext'
      simp
    rw [ew] at hrun
    have hb : Below w.heap.size w (w.drew.alloc (.cells (wcs (zs ++ ys) ++ Z).toArray 42)) := (Below.refl _ _).drew.alloc (Nat.le_refl _) _
    refine ⟨_, _, hrun, ⟨?_, TurnW.of_below hb, fun k e => .inr (Nat.le_of_eq (Option.some.inj e)), by simp⟩, fun q => absurd q hr⟩
    · have e : zs.length + ys.length = (zs ++ ys).length := by simp
      rw [e]
      have hr : (w.drew.alloc (.cells (wcs (zs ++ ys) ++ Z).toArray 42)).heap[w.heap.size]? = some (.cells (wcs (zs ++ ys) ++ Z).toArray 42 (0, 0)) := heap_alloc_new w.drew _
      refine WinAtW.node ⟨by rw [← e]; exact hge, hle, by omega, grown_rowW, fun j hj => ?_, ⟨_, hr⟩⟩
      rw [cell_of_row _ _ _ _ _ _ hr, List.getElem?_toArray, Nat.zero_add, List.getElem?_eq_getElem (by rw [List.length_append, wcs_len, hZl, ← e]; omega)]
      rfl

end Go.Proofs.Ytnbkekbgedioeaa

namespace Go.Proofs.Ytnbkekbgedioeaa
open Go.RowKit

section
variable {P : Program} {ops : Array Oper} {o : Oper} {a : Act} {w : World}
theorem step_copy2W {K : Act → World → Prop} {Q : Exit → Act → World → Prop} {E : Prop} (hgd : o.guard = none) (d s : Operand) (dT sT : TypeId)
    (ho : o.op = .call { callee := .builtin .copy, args := #[d, s], argTypes := #[dT, sT] }) (elem : TypeId) (hu : P.underlying dT = some (.slice elem)) (hsz : (P.info? elem).map (·.size) = some 5)
    (ad : Addr) (dLen dCap sLen sCap : Nat) (b off : Nat) (hd : a.eval d = .slice (some ⟨b, off, none⟩) dLen dCap) (hs : a.eval s = .slice (some ad) sLen sCap)
    (cs : List Value) (n : Nat) (hn : n = Nat.min sLen dLen) (hl : cs.length = n * 5)
    (hsrc : ∀ j v, cs[j]? = some v → w.cell? (ad.add j) = some v) (hc : ∀ j, j < cs.length → (w.cell? ⟨b, off + j, none⟩).isSome = true) (hf : ∀ j, j < cs.length → w.frozen? ⟨b, off + j, none⟩ = false) (h1 : ∀ v ∈ cs, v.oneCell' = true)
    (h : K (a.put o.dst (goInt n)) (w.setCells b off cs)) :
    if Region.wanted o (yielded ops a.tmps) = true then Oper.wp P o a w K Q else E := by
  have hw : Region.wanted o (yielded ops a.tmps) = true := by simp [Region.wanted, hgd]
  rw [if_pos hw]
  have hrun := run_copy2W (P := P) w dT sT o.type elem b off dLen dCap ad sLen sCap cs n hu hsz hn hl hsrc hc hf h1
  unfold Oper.wp
  simp [execOp, ho, resolve, invoke, builtin, hd, hs, hrun, Result.andThen]
  exact h
theorem wp_copy2W {rest : List Oper} {Q : Exit → Act → World → Prop} (hgd : o.guard = none) (d s : Operand) (dT sT : TypeId)
    (ho : o.op = .call { callee := .builtin .copy, args := #[d, s], argTypes := #[dT, sT] }) (elem : TypeId) (hu : P.underlying dT = some (.slice elem)) (hsz : (P.info? elem).map (·.size) = some 5)
    (ad : Addr) (dLen dCap sLen sCap : Nat) (b off : Nat) (hd : a.eval d = .slice (some ⟨b, off, none⟩) dLen dCap) (hs : a.eval s = .slice (some ad) sLen sCap)
    (cs : List Value) (n : Nat) (hn : n = Nat.min sLen dLen) (hl : cs.length = n * 5)
    (hsrc : ∀ j v, cs[j]? = some v → w.cell? (ad.add j) = some v) (hc : ∀ j, j < cs.length → (w.cell? ⟨b, off + j, none⟩).isSome = true) (hf : ∀ j, j < cs.length → w.frozen? ⟨b, off + j, none⟩ = false) (h1 : ∀ v ∈ cs, v.oneCell' = true)
    (h : wpList P ops Q rest (a.put o.dst (goInt n)) (w.setCells b off cs)) : wpList P ops Q (o :: rest) a w := by
  refine wpList_plain hgd fun K hK => ?_
  have hrun := run_copy2W (P := P) w dT sT o.type elem b off dLen dCap ad sLen sCap cs n hu hsz hn hl hsrc hc hf h1
  unfold Oper.wp
  simp [execOp, ho, resolve, invoke, builtin, hd, hs, hrun, Result.andThen]
  exact hK _ _ h
end
theorem size5W : (Try.prog.info? 42).map (·.size) = some 5 := by kernel_rfl

def insW (zs : Wl) (i : Nat) (x : Wr) : Wl := zs.take i ++ x :: zs.drop i
theorem ins_lenW (zs : Wl) (i : Nat) (x : Wr) (h : i ≤ zs.length) : (insW zs i x).length = zs.length + 1 := by unfold insW; simp; omega
theorem rangeAt_partW {w : World} {b o : Nat} {zs : Wl} (h : w.rangeAt b o (wcs zs)) (i : Nat) (hi : i ≤ zs.length) : w.rangeAt b o (wcs (zs.take i)) ∧ w.rangeAt b (o + i * 5) (wcs (zs.drop i)) := by
  have e : wcs zs = wcs (zs.take i) ++ wcs (zs.drop i) := by rw [← wcs_append, List.take_append_drop]
  rw [e, rangeAt_appendW, wcs_len, List.length_take, Nat.min_eq_left hi] at h
  exact h
/-- the post of Insert and Delete -/
def MvPostW (w : World) (v : Value) (zs : Wl) (e : Ending) (w' : World) : Prop := ∃ v', e = .returned v' ∧ MovedW w v zs v' w'

set_option maxRecDepth 100000 in
/-- slices.Insert behind the last -/
theorem insert_endW (w : World) (b o c g : Nat) (zs : Wl) (x : Wr) (h : WinAtW w b o c zs) (hl : zs.length ≤ 100000) (hx : w.rangeAt g 0 (Wr.cs x)) :
    Calls Try.prog 40 #[.slice (some ⟨b, o, none⟩) zs.length c, .int .i64 zs.length, .slice (some ⟨g, 0, none⟩) 1 1] w (MvPostW w (.slice (some ⟨b, o, none⟩) zs.length c) (insW zs zs.length x)) := by
  obtain ⟨v', w', hrun, hm, _⟩ := run_appW w 27 27 27 Try.underlying27 Try.underlying27 b o c zs [x] h g 0 1 (by simpa [wcs] using hx) (by simp; omega)
  have e : insW zs zs.length x = zs ++ [x] := by unfold insW; simp
  rw [e]
  have hcm := h.cap
  have hfit := h.fit
  unfold maxLen at hcm
  have HM := Lib.hid hm
  have HR := Lib.hid hrun
  obtain ⟨n, hn⟩ : ∃ n, n = zs.length := ⟨_, rfl⟩
  rw [← hn] at HR HM hl hfit ⊢
  clear hrun hm h hx e hn
  go_enter Try.func40, Try.ntmps40
  go_wp2_with (at_builtin; refine Lib.wpList_append_run _ rfl (.tmp 23) (.tmp 24) 27 27 rfl _ _ rfl rfl _ _ HR.out ?_)
  all_goals go_ret
  all_goals first
    | exact ⟨_, rfl, HM.out⟩
    | (obtain rfl : c = n := by omega
       exact ⟨_, rfl, HM.out⟩)

set_option maxHeartbeats 4000000 in
set_option maxRecDepth 100000 in
/-- slices.Insert where there is room -/
theorem insert_roomW (w : World) (b o c g i : Nat) (zs : Wl) (x : Wr) (h : WinAtW w b o c zs) (hi : i < zs.length) (hr : zs.length + 1 ≤ c) (hx : w.heap[g]? = some (.cells (Wr.cs x).toArray 42 (0, 0))) (hne : g ≠ b) :
    Calls Try.prog 40 #[.slice (some ⟨b, o, none⟩) zs.length c, .int .i64 i, .slice (some ⟨g, 0, none⟩) 1 1] w (MvPostW w (.slice (some ⟨b, o, none⟩) zs.length c) (insW zs i x)) := by
  obtain ⟨cur, hcur⟩ := h.plain
  have hcs : 0 < cur.size := by
    have := h.there 0 (by omega)
    rw [cell_of_row w b _ cur _ _ hcur] at this
    by_cases q : 0 < cur.size
    · exact q
    · rw [Array.getElem?_eq_none (by omega)] at this; cases this
  have hov : ∀ lb cb, (callFunc 46 #[.slice (some ⟨g, 0, none⟩) 1 1, .slice (some ⟨b, o + (i + 1) * 5, none⟩) lb cb]).run Try.prog w = .ok (.value (.bool false)) w := fun lb cb => by
    rw [run_callFunc_extern Try.func46 (by kernel_rfl) (by kernel_rfl) (by kernel_rfl) (e := Extern.SlicesOverlaps.overlaps #[27, 27] #[4]) (by kernel_rfl),
      Lib.run_overlaps_apart w 27 4 42 Try.underlying27 5 (fun w => by simp [Go.sizeOf, typeInfo]; first | rfl | kernel_rfl) ⟨g, 0, none⟩ ⟨b, o + (i + 1) * 5, none⟩ 1 1 lb cb hne 42 42 5 cur.size
        (by simp [World.shape?, hx, Wr.cs]) (by simp [World.shape?, hcur]) (by omega) (by simp [World.frozen?, hx]) (by simp [World.frozen?, hx])]
    rfl
  obtain ⟨p1, p2⟩ := rangeAt_partW h.row i (by omega)
  obtain ⟨C1, hC1⟩ : ∃ C1, C1 = wcs (zs.drop i) := ⟨_, rfl⟩
  have c1o : ∀ u ∈ C1, u.oneCell' = true := by rw [hC1]; exact wcs_one _
  obtain ⟨n, hn⟩ : ∃ n, n = zs.length := ⟨_, rfl⟩
  have c1l : C1.length = (n - i) * 5 := by rw [hC1, wcs_len, List.length_drop, hn]
  rw [← hC1] at p2
  have hcm := h.cap
  unfold maxLen at hcm
  have HX := Lib.hid hx
  have HW := Lib.hid h
  have P1 := Lib.hid p1
  have P2 := Lib.hid p2
  have C1O := Lib.hid c1o
  have C1L := Lib.hid c1l
  have HC1 := Lib.hid hC1
  have HN := Lib.hid hn
  have HNE := Lib.hid hne
  rw [← hn] at hi hr ⊢
  have hw1 : IntKind.i64.wrap ((i : Int) + 1) = (i : Int) + 1 := by rw [IntKind.wrap_i64]; omega
  have hb1 : (0 : Int) ≤ (i : Int) + 1 := by omega
  have htn : ((i : Int) + 1).toNat = i + 1 := by omega
  have hb2 : ¬ (c = i + 1) := by omega
  have hb3 : (i : Int) ≤ (n : Int) + 1 := by omega
  have hb4 : ¬ (c = i) := by omega
  have hin : i ≤ n := by omega
  have hz2 : ¬ ((i : Int) = (n : Int)) := by omega
  clear h hx p1 p2 c1o c1l hC1 hn hcur hcs
  go_enter Try.func40, Try.ntmps40
  go_wp2_with (simp only [hov])
  have th := Lib.hid (show ∀ j, j < C1.length → (w.drew.cell? ⟨b, o + (i + 1) * 5 + j, none⟩).isSome = true from fun j hj => by
    have e := C1L.out
    have := HW.out.there ((i + 1) * 5 + j) (by omega)
    rw [← Nat.add_assoc] at this; exact this)
  have fz := Lib.hid (show ∀ k, w.drew.frozen? ⟨b, k, none⟩ = false from fun k => HW.out.plain.frozen k)
  go_region_law (refine step_copy2W rfl (.tmp 73) (.tmp 76) 27 27 rfl 42 Try.underlying27 size5W ⟨b, o + i * 5, none⟩ (n + 1 - (i + 1)) (c - (i + 1)) (n + 1 - i) (c - i) b (o + (i + 1) * 5) (by simp [Act.eval, Act.put]) (by simp [Act.eval, Act.put]) C1 (n - i) (by simp only [Nat.min_def]; split <;> omega) C1L.out (add_midW (by exact P2.out)) th.out (fun j _ => fz.out _) C1O.out ?_)
  have t1 : TurnW (InWinW (.slice (some ⟨b, o, none⟩) n c)) w w.drew := TurnW.of_below (Below.refl _ w).drew
  have t2 := t1.trans (TurnW.setCells w.drew b (o + (i + 1) * 5) C1) (fun k j h => .inl (by
    obtain ⟨rfl, h1, h2⟩ := h
    have e := C1L.out
    exact ⟨o, _, c, rfl, by omega, by omega⟩))
  have r1 : (w.drew.setCells b (o + (i + 1) * 5) C1).rangeAt b (o + (i + 1) * 5) C1 := setCells_atW th.out
  have r0 : (w.drew.setCells b (o + (i + 1) * 5) C1).rangeAt b o (wcs (zs.take i)) := World.rangeAt_setCells_apart (w := w.drew) P1.out _ _ _ (.inr (.inl (by rw [wcs_len, List.length_take]; have := Nat.min_le_left i zs.length; omega)))
  have rx : (w.drew.setCells b (o + (i + 1) * 5) C1).heap[g]? = some (.cells (Wr.cs x).toArray 42 (0, 0)) :=
    ((TurnW.setCells w.drew b (o + (i + 1) * 5) C1).block g (by have := HX.out; exact (Array.getElem?_eq_some_iff.1 this).1) (fun j e => HNE.out e.1)).trans HX.out
  have w1 : ∀ j, j < c * 5 → ((w.drew.setCells b (o + (i + 1) * 5) C1).cell? ⟨b, o + j, none⟩).isSome = true := fun j hj => World.isSome_setCells _ _ _ _ _ (HW.out.there j hj)
  have pl : PlainW (w.drew.setCells b (o + (i + 1) * 5) C1) b := PlainW.setCells _ _ _ _ (by exact HW.out.plain)
  generalize w.drew.setCells b (o + (i + 1) * 5) C1 = w2 at t2 r1 r0 rx w1 pl ⊢
  have T2 := Lib.hid t2
  have R1 := Lib.hid r1
  have R0 := Lib.hid r0
  have RX := Lib.hid (show w2.rangeAt g 0 (Wr.cs x) from fun j v hj => by
    rw [cell_of_row _ _ _ _ _ _ rx, List.getElem?_toArray, Nat.zero_add]; exact hj)
  have W1 := Lib.hid w1
  have PL := Lib.hid pl
  have X1 := Lib.hid (show ∀ u ∈ Wr.cs x, u.oneCell' = true from fun u hu => wcs_one [x] u (by simpa [wcs] using hu))
  clear t1 t2 r1 r0 rx w1 pl hov th fz
  go_wp2_with ((with_reducible refine wp_copy2W (o := ⟨some 82, _, _, _, _, _⟩) rfl (.tmp 80) (.tmp 81) 27 27 rfl 42 Try.underlying27 size5W ⟨g, 0, none⟩ (n + 1 - i) (c - i) 1 1 b (o + i * 5) ?c3 ?c4 (Wr.cs x) 1 ?c5 ?c6 (add_midW RX.out) ?c7 (fun j _ => PL.out.frozen _) X1.out ?_); (case c3 => rfl); (case c4 => rfl); (case c5 => (simp only [Nat.min_def]; split <;> omega)); (case c6 => rfl); (case c7 => (intro j hj; have hj2 : j < 5 := hj; have := W1.out (i * 5 + j) (by omega); rw [← Nat.add_assoc] at this; exact this)))
  go_ret
  have hx2 : ∀ j, j < (Wr.cs x).length → (w2.cell? ⟨b, o + i * 5 + j, none⟩).isSome = true := fun j hj => by
    have hj2 : j < 5 := hj
    have := W1.out (i * 5 + j) (by omega)
    rw [← Nat.add_assoc] at this; exact this
  have hn := HN.out
  have li : (zs.take i).length = i := by rw [List.length_take, Nat.min_eq_left (by omega)]
  have e1 : n + 1 = (insW zs i x).length := by rw [ins_lenW _ _ _ (by omega), hn]
  refine ⟨_, rfl, ?_, ?_, fun k e => .inl e, by simp⟩
  · rw [e1]
    refine WinAtW.node ⟨by omega, by unfold maxLen; omega, by omega, ?_, fun j hj => World.isSome_setCells _ _ _ _ _ (W1.out j hj), PlainW.setCells _ _ _ _ PL.out⟩
    unfold insW
    rw [wcs_append, wcs_cons, rangeAt_appendW, rangeAt_appendW, wcs_len, li, ← HC1.out]
    refine ⟨World.rangeAt_setCells_apart R0.out _ _ _ (.inr (.inl (by rw [wcs_len, li]; omega))), setCells_atW hx2, World.rangeAt_setCells_apart (by rw [show o + i * 5 + (Wr.cs x).length = o + (i + 1) * 5 by show o + i * 5 + 5 = _; omega]; exact R1.out) _ _ _ (.inr (.inr ?_))⟩
    exact Nat.le_refl _
  · exact T2.out.trans (TurnW.setCells w2 b (o + i * 5) (Wr.cs x)) (fun k j h => .inl (by
      obtain ⟨rfl, h1, h2⟩ := h
      have h3 : j < o + i * 5 + 5 := h2
      exact ⟨o, _, c, rfl, by omega, by omega⟩))

set_option maxHeartbeats 4000000 in
set_option maxRecDepth 100000 in
/-- slices.Insert where there is no room -/
theorem insert_growW (w : World) (b o c g i : Nat) (zs : Wl) (x : Wr) (h : WinAtW w b o c zs) (hi : i < zs.length) (hl : zs.length ≤ 100000) (hr : c < zs.length + 1) (hx : w.heap[g]? = some (.cells (Wr.cs x).toArray 42 (0, 0))) :
    Calls Try.prog 40 #[.slice (some ⟨b, o, none⟩) zs.length c, .int .i64 i, .slice (some ⟨g, 0, none⟩) 1 1] w (MvPostW w (.slice (some ⟨b, o, none⟩) zs.length c) (insW zs i x)) := by
  obtain ⟨n, hn⟩ : ∃ n, n = zs.length := ⟨_, rfl⟩
  obtain ⟨i0, hi0, hz0, hzs, hzb⟩ := info_parts infoWr
  obtain ⟨p1, p2⟩ := rangeAt_partW h.row i (by omega)
  have hgl : g < w.heap.size := (Array.getElem?_eq_some_iff.1 hx).1
  have hbl : b < w.heap.size := h.plain.lt
  have hnc := h.fit
  have hcm := h.cap
  unfold maxLen at hcm
  have li : (zs.take i).length = i := by rw [List.length_take, Nat.min_eq_left (by omega)]
  have hold : (Builtin.firstCells i0.size i (.slice (some ⟨b, o, none⟩) i c)).run Try.prog w.drew = .ok (wcs (zs.take i)).toArray w.drew := by
    rw [hzs]
    exact run_firstCells_some w.drew 5 i ⟨b, o, none⟩ i c _ (by rw [wcs_len, li]) (add_midW (by exact p1))
  have hik : i + (n + 1 - i) = n + 1 := by omega
  have hkk : (n : Int) + 1 - (i : Int) = ((n + 1 - i : Nat) : Int) := by omega
  obtain ⟨G, hG⟩ : ∃ G, G = grownCap w (n + 1) c 42 := ⟨_, rfl⟩
  have hGge : n + 1 ≤ G := by rw [hG]; exact grownCap_ge _ _ _ _
  have hGle : G ≤ maxLen := by rw [hG]; exact grownCap_le_maxLen _ _ _ _ (by unfold maxLen; omega)
  obtain ⟨Z, hZ⟩ : ∃ Z : List Value, Z = (Builtin.zeroCells (Value.agg #[Value.string ⟨#[]⟩, Value.bool false, Value.bool false, Value.string ⟨#[]⟩, Value.int .u64 0]).cells (n + 1 - i) ++ Builtin.zeroCells (Value.agg #[Value.string ⟨#[]⟩, Value.bool false, Value.bool false, Value.string ⟨#[]⟩, Value.int .u64 0]).cells (G - (n + 1))).toList := ⟨_, rfl⟩
  have hZl : Z.length = (G - i) * 5 := by
    rw [hZ, Array.length_toList, Array.size_append, size_zeroCells, size_zeroCells]
    show (n + 1 - i) * 5 + (G - (n + 1)) * 5 = (G - i) * 5
    omega
  have hrz : ∀ ty, (Builtin.append_ #[27, 3] ty #[.slice (some ⟨b, o, none⟩) i c, .int .i64 ((n : Int) + 1 - (i : Int))]).run Try.prog w =
      .ok (.slice (some ⟨w.heap.size, 0, none⟩) (n + 1) G) (w.drew.alloc (.cells (wcs (zs.take i) ++ Z).toArray 42)) := fun ty => by
    have h := Lib.run_append_grow_zeros w 27 3 ty 42 i0 _ .i64 .i64 Try.underlying27 Try.underlying3 hi0 hz0 (some ⟨b, o, none⟩) i c _ hold (n + 1 - i) (by omega) (by omega) (by omega) (by omega) (by rw [hzb]; omega) (by rw [hzb, hik]; exact growslice_fits (by omega) (by omega))
    rw [hik, ← hG] at h
    rw [hkk, h, hZ]
    congr 3
    apply Array.ext'
    simp
  obtain ⟨C1, hC1⟩ : ∃ C1, C1 = wcs (zs.drop i) := ⟨_, rfl⟩
  have c1o : ∀ u ∈ C1, u.oneCell' = true := by rw [hC1]; exact wcs_one _
  have c1l : C1.length = (n - i) * 5 := by rw [hC1, wcs_len, List.length_drop, hn]
  rw [← hC1] at p2
  obtain ⟨R0, hR0⟩ : ∃ R0 : List Value, R0 = wcs (zs.take i) ++ Z := ⟨_, rfl⟩
  have hR0l : R0.length = G * 5 := by rw [hR0, List.length_append, wcs_len, li, hZl]; omega
  rw [← hR0] at hrz
  obtain ⟨W1, hW1⟩ : ∃ W1, W1 = w.drew.alloc (.cells R0.toArray 42) := ⟨_, rfl⟩
  rw [← hW1] at hrz
  have hrow1 : W1.heap[w.heap.size]? = some (.cells R0.toArray 42 (0, 0)) := by rw [hW1]; exact heap_alloc_new w.drew _
  have hbel1 : Below w.heap.size w W1 := by rw [hW1]; exact (Below.refl _ _).drew.alloc (Nat.le_refl _) _
  have hr0 : W1.rangeAt w.heap.size 0 (wcs (zs.take i)) := by rw [hW1, hR0]; exact grown_rowW
  have hth : ∀ j, j < G * 5 → (W1.cell? ⟨w.heap.size, 0 + j, none⟩).isSome = true := fun j hj => by
    rw [cell_of_row _ _ _ _ _ _ hrow1, List.getElem?_toArray, Nat.zero_add, List.getElem?_eq_getElem (by omega)]; rfl
  have hcg : W1.rangeAt g 0 (Wr.cs x) := fun j v hj => by
    rw [World.cell?_of_block (a := ⟨g, 0 + j, none⟩) (hbel1.block g hgl), cell_of_row _ _ _ _ _ _ hx, List.getElem?_toArray, Nat.zero_add]; exact hj
  have hp2 : W1.rangeAt b (o + i * 5) C1 := fun j v hj => (World.cell?_of_block (a := ⟨b, o + i * 5 + j, none⟩) (hbel1.block b hbl)).trans (p2 j v hj)
  have HC1 := Lib.hid hC1
  have HN := Lib.hid hn
  have C1O := Lib.hid c1o
  have C1L := Lib.hid c1l
  have LI := Lib.hid li
  have HB := Lib.hid hbel1
  have R0' := Lib.hid hr0
  have TH := Lib.hid hth
  have CG := Lib.hid hcg
  have P2 := Lib.hid hp2
  have PL := Lib.hid (show PlainW W1 w.heap.size from ⟨_, hrow1⟩)
  have X1 := Lib.hid (show ∀ u ∈ Wr.cs x, u.oneCell' = true from fun u hu => wcs_one [x] u (by simpa [wcs] using hu))
  obtain ⟨gw, hgw⟩ : ∃ gw, gw = w.heap.size := ⟨_, rfl⟩
  have HGW := Lib.hid hgw
  rw [← hgw] at hrz R0' TH PL hgl hbl
  have HRZ := Lib.hid hrz
  have BN := Lib.hid (show b ≠ gw from by omega)
  have GN := Lib.hid (show g ≠ gw from by omega)
  unfold maxLen at hGle
  rw [← hn] at hi hl hr hnc ⊢
  have hw1 : IntKind.i64.wrap ((i : Int) + 1) = (i : Int) + 1 := by rw [IntKind.wrap_i64]; omega
  have hb1 : (0 : Int) ≤ (i : Int) + 1 := by omega
  have htn : ((i : Int) + 1).toNat = i + 1 := by omega
  have hb2 : ¬ (G = i + 1) := by omega
  have hb3 : (i : Int) ≤ (n : Int) + 1 := by omega
  have hb4 : ¬ (c = i) := by omega
  have hb5 : ¬ (G = i) := by omega
  have hin : i ≤ n := by omega
  have hz2 : ¬ ((i : Int) = (n : Int)) := by omega
  clear hC1 c1l c1o hn hx hZ hZl hR0 hR0l hW1 hrow1 hbel1 hrz hgw hG hold hkk hik hi0 hz0 hzs hzb h p1 p2 hr0 hth hcg hp2 li
  go_enter Try.func40, Try.ntmps40
  go_wp2_with (first
    | (at_builtin; refine Lib.wpList_append_run _ rfl (.tmp 34) (.tmp 39) 27 3 rfl _ _ rfl rfl _ _ (HRZ.out _) ?_)
    | ((with_reducible refine wp_copy2W (o := ⟨some 45, _, _, _, _, _⟩) rfl (.tmp 43) (.tmp 44) 27 27 rfl 42 Try.underlying27 size5W ⟨g, 0, none⟩ (n + 1 - i) (G - i) 1 1 gw (i * 5) ?c3 ?c4 (Wr.cs x) 1 ?c5 ?c6 (add_midW CG.out) ?c7 (fun j _ => PL.out.frozen _) X1.out ?_); (case c3 => rfl); (case c4 => rfl); (case c5 => (simp only [Nat.min_def]; split <;> omega)); (case c6 => rfl); (case c7 => (intro j hj; have hj2 : j < 5 := hj; have := TH.out (i * 5 + j) (by omega); rw [Nat.zero_add] at this; exact this))))
  have hx2 : ∀ j, j < (Wr.cs x).length → (W1.cell? ⟨gw, i * 5 + j, none⟩).isSome = true := fun j hj => by
    have hj2 : j < 5 := hj
    have := TH.out (i * 5 + j) (by omega)
    rw [Nat.zero_add] at this; exact this
  have r1 : (W1.setCells gw (i * 5) (Wr.cs x)).rangeAt gw (i * 5) (Wr.cs x) := setCells_atW hx2
  have r0 : (W1.setCells gw (i * 5) (Wr.cs x)).rangeAt gw 0 (wcs (zs.take i)) := World.rangeAt_setCells_apart R0'.out _ _ _ (.inr (.inl (by rw [wcs_len, LI.out]; omega)))
  have r2 : (W1.setCells gw (i * 5) (Wr.cs x)).rangeAt b (o + i * 5) C1 := World.rangeAt_setCells_apart P2.out _ _ _ (.inl BN.out)
  have tw : ∀ j, j < G * 5 → ((W1.setCells gw (i * 5) (Wr.cs x)).cell? ⟨gw, 0 + j, none⟩).isSome = true := fun j hj => World.isSome_setCells _ _ _ _ _ (TH.out j hj)
  have pl : PlainW (W1.setCells gw (i * 5) (Wr.cs x)) gw := PlainW.setCells _ _ _ _ PL.out
  have tt : TurnW (fun _ _ => False) w (W1.setCells gw (i * 5) (Wr.cs x)) := (TurnW.of_below (F := fun _ _ => False) HB.out).trans (TurnW.setCells W1 gw (i * 5) (Wr.cs x)) (fun k j h => .inr (by have := h.1; have := HGW.out; omega))
  generalize W1.setCells gw (i * 5) (Wr.cs x) = w2 at r1 r0 r2 tw pl tt ⊢
  have R1 := Lib.hid r1
  have RZ := Lib.hid r0
  have R2 := Lib.hid r2
  have TW := Lib.hid (show ∀ j, j < C1.length → (w2.drew.cell? ⟨gw, (i + 1) * 5 + j, none⟩).isSome = true from fun j hj => by
    have e := C1L.out
    have := tw ((i + 1) * 5 + j) (by omega)
    rw [Nat.zero_add] at this; exact this)
  have TW0 := Lib.hid tw
  have PL2 := Lib.hid pl
  have TT := Lib.hid tt
  clear r1 r0 r2 tw pl tt hx2
  go_region_law (refine step_copy2W rfl (.tmp 50) (.tmp 53) 27 27 rfl 42 Try.underlying27 size5W ⟨b, o + i * 5, none⟩ (n + 1 - (i + 1)) (G - (i + 1)) (n - i) (c - i) gw ((i + 1) * 5) (by simp [Act.eval, Act.put]) (by simp [Act.eval, Act.put]) C1 (n - i) (by simp only [Nat.min_def]; split <;> omega) C1L.out (add_midW (by exact R2.out)) TW.out (fun j _ => by exact PL2.out.frozen _) C1O.out ?_)
  go_wp2
  go_ret
  have hn := HN.out
  have li := LI.out
  have e1 : n + 1 = (insW zs i x).length := by rw [ins_lenW _ _ _ (by omega), hn]
  have dz : w2.drew.rangeAt gw 0 (wcs (zs.take i)) := RZ.out
  have d1 : w2.drew.rangeAt gw (i * 5) (Wr.cs x) := R1.out
  refine ⟨_, rfl, ?_, ?_, fun k e => .inr (by have e : gw = k := Option.some.inj e; have := HGW.out; omega), by simp⟩
  · rw [e1]
    refine WinAtW.node ⟨by omega, by unfold maxLen; omega, by omega, ?_, fun j hj => World.isSome_setCells _ _ _ _ _ (by exact TW0.out j hj), PlainW.setCells _ _ _ _ (by exact PL2.out)⟩
    unfold insW
    rw [wcs_append, wcs_cons, rangeAt_appendW, rangeAt_appendW, wcs_len, li, ← HC1.out]
    refine ⟨World.rangeAt_setCells_apart dz _ _ _ (.inr (.inl (by rw [wcs_len, li]; omega))), World.rangeAt_setCells_apart (by rw [Nat.zero_add]; exact d1) _ _ _ (.inr (.inl (by show 0 + i * 5 + 5 ≤ _; omega))), ?_⟩
    rw [show 0 + i * 5 + (Wr.cs x).length = (i + 1) * 5 by show 0 + i * 5 + 5 = _; omega]
    exact setCells_atW TW.out
  · have t1 : TurnW (fun _ _ => False) w w2.drew := TT.out.trans (TurnW.of_below (F := fun _ _ => False) (Below.refl _ w2).drew) (fun _ _ e => e.elim)
    exact (t1.trans (F := fun _ _ => False) (TurnW.setCells w2.drew gw ((i + 1) * 5) C1) (fun k j h => .inr (by have := h.1; have := HGW.out; omega))).mono (fun _ _ e => e.elim)

/-- slices.Insert of one item into a node -/
theorem xInsertW (w : World) (b o c g i : Nat) (zs : Wl) (x : Wr) (h : WinAtW w b o c zs) (hi : i ≤ zs.length) (hl : zs.length ≤ 100000) (hx : w.heap[g]? = some (.cells (Wr.cs x).toArray 42 (0, 0))) (hne : g ≠ b) :
    Calls Try.prog 40 #[.slice (some ⟨b, o, none⟩) zs.length c, .int .i64 i, .slice (some ⟨g, 0, none⟩) 1 1] w (MvPostW w (.slice (some ⟨b, o, none⟩) zs.length c) (insW zs i x)) := by
  rcases Nat.lt_or_ge i zs.length with q | q
  · rcases Nat.lt_or_ge c (zs.length + 1) with r | r
    · exact insert_growW w b o c g i zs x h q hl r hx
    · exact insert_roomW w b o c g i zs x h q r hx hne
  · obtain rfl : i = zs.length := by omega
    exact insert_endW w b o c g zs x h hl (fun j v hj => by rw [cell_of_row _ _ _ _ _ _ hx, List.getElem?_toArray, Nat.zero_add]; exact hj)

end Go.Proofs.Ytnbkekbgedioeaa
