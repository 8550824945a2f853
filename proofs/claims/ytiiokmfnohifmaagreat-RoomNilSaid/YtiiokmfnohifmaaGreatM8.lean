/- Proved parts: Rws T8m. Conditions: each theorem's own. -/
import Derived.Test.YtiiokmfnohifmaaGreatM7
import Derived.Test.YtiiokmfnohifmaaGreatM2
import Derived.Laws.AppendOwn
import Derived.Laws.MakeOwn
import Derived.Deep.RegionHeldLaw
import Derived.Maps.AppendAt
import Derived.Laws.OwnMore
namespace Go.Proofs.YtiiokmfnohifmaaGreat
open Go.ChangeShapes Go.WideShapes Go.ChangeAt Go.RowKit

theorem cell_new1 (w : World) (v : Value) (t : TypeId) : (w.alloc (.cells #[v] t)).cell? ⟨w.heap.size, 0, none⟩ = some v := by
  rw [World.cell?_alloc_at _ _ _ _ rfl]; rfl

/-- the slice at A reads as zs -/
def SlS (w : World) (A : Option Addr) (zs : List ByteArray) : Prop :=
  0 < zs.length → ∃ b o, A = some ⟨b, o, none⟩ ∧ b < w.heap.size ∧ ∀ j, j < zs.length → w.cell? ⟨b, o + j, none⟩ = some (.string (zs.getD j ⟨#[]⟩))
theorem SlS.drewN {w : World} {A : Option Addr} {zs : List ByteArray} (h : SlS w A zs) (n : Nat) : SlS (w.drewN n) A zs := h
theorem SlS.below {w w' : World} {A : Option Addr} {zs : List ByteArray} (h : SlS w A zs) (hb : Below w.heap.size w w') : SlS w' A zs := fun hn => by
  obtain ⟨b, o, e, hlt, hc⟩ := h hn
  exact ⟨b, o, e, Nat.lt_of_lt_of_le hlt hb.size, fun j hj => (hb.cell (p := ⟨b, o + j, none⟩) hlt).trans (hc j hj)⟩
/-- a row of the call's own reads so too -/
theorem OwnS.sl {w : World} {B : Nat} {v : Value} {zs : List ByteArray} (h : OwnS w B v zs) : ∃ A c, v = .slice A zs.length c ∧ SlS w A zs := by
  obtain ⟨A, c, e, hj⟩ := h.form
  refine ⟨A, c, e, fun hn => ?_⟩
  obtain ⟨g, rfl, hc⟩ := hj 0 hn
  refine ⟨g, 0, rfl, World.block_lt_of_cell? w _ hc, fun j hj' => ?_⟩
  obtain ⟨g', e', hc'⟩ := hj j hj'
  injection e' with e'
  injection e' with e' _ _
  rw [Nat.zero_add, e']; exact hc'
/-- the slice at A reads as the ints zs -/
def SlJ (w : World) (A : Option Addr) (zs : List Int) : Prop :=
  0 < zs.length → ∃ b o, A = some ⟨b, o, none⟩ ∧ b < w.heap.size ∧ ∀ j, j < zs.length → w.cell? ⟨b, o + j, none⟩ = some (.int .i64 (zs.getD j 0))
theorem SlJ.below {w w' : World} {A : Option Addr} {zs : List Int} (h : SlJ w A zs) (hb : Below w.heap.size w w') : SlJ w' A zs := fun hn => by
  obtain ⟨b, o, e, hlt, hc⟩ := h hn
  exact ⟨b, o, e, Nat.lt_of_lt_of_le hlt hb.size, fun j hj => (hb.cell (p := ⟨b, o + j, none⟩) hlt).trans (hc j hj)⟩
theorem SlJ.nil (w : World) (A : Option Addr) : SlJ w A [] := fun h => absurd h (by simp)
theorem SlJ.drewN {w : World} {A : Option Addr} {zs : List Int} (h : SlJ w A zs) (n : Nat) : SlJ (w.drewN n) A zs := h
/-- v is a row of ints of the call's own, from block B on -/
def OwnJ (w : World) (B : Nat) (v : Value) (zs : List Int) : Prop := w.ownsRow B 3 1 v zs.length (zs.map (Value.int .i64))
section
variable {w w' : World} {B : Nat} {v : Value} {zs : List Int}
theorem OwnJ.form (h : OwnJ w B v zs) : ∃ A c, v = .slice A zs.length c ∧ SlJ w A zs := by
  rcases h.2 with ⟨rfl, hn⟩ | ⟨g, cap, cur, rfl, hB, hg, hnc, _, hs, ht⟩
  · have hz : zs = [] := List.eq_nil_of_length_eq_zero hn
    subst hz
    exact ⟨none, 0, rfl, SlJ.nil _ _⟩
  · refine ⟨some ⟨g, 0, none⟩, cap, rfl, fun hp => ⟨g, 0, rfl, ?_, fun j hj => ?_⟩⟩
    · rcases Nat.lt_or_ge g w.heap.size with hlt | hge
      · exact hlt
      · rw [Array.getElem?_eq_none hge] at hg; cases hg
    · have hj2 : j < zs.length * 1 := by omega
      rw [Nat.zero_add, World.ownsRow.cellAt (w := w) (base := B) (e := 3) (size := 1) (xs := zs.map (Value.int .i64)) h j hj2, List.getElem?_map, List.getElem?_eq_getElem hj, List.getD, List.getElem?_eq_getElem hj]; rfl
theorem OwnJ.alloc (h : OwnJ w B v zs) (o : Obj) : OwnJ (w.alloc o) B v zs := World.ownsRow.alloc h o
theorem OwnJ.made (w : World) (B : Nat) (hB : B ≤ w.heap.size) : OwnJ (w.alloc (.cells #[] 3)) B (.slice (some ⟨w.heap.size, 0, none⟩) 0 0) [] :=
  World.ownsRow_made w #[] 0 hB (Nat.zero_le _) (by simp)
end

theorem SlS.alloc {w : World} {A : Option Addr} {zs : List ByteArray} (h : SlS w A zs) (o : Obj) : SlS (w.alloc o) A zs := h.below ((Below.refl _ _).alloc (Nat.le_refl _) o)
theorem SlS.grown {w w' : World} {A : Option Addr} {zs : List ByteArray} {r : Option Nat} (h : SlS w A zs) (g : w.grownBy w' r) (hn : ∀ b o, A = some ⟨b, o, none⟩ → r ≠ some b) : SlS w' A zs := fun h0 => by
  obtain ⟨b, o, e, hlt, hc⟩ := h h0
  exact ⟨b, o, e, Nat.lt_of_lt_of_le hlt g.size, fun j hj => (World.cell?_of_block (w := w) (a := ⟨b, o + j, none⟩) (g.block b hlt (fun q => hn b o e q.symm))).trans (hc j hj)⟩
theorem OwnS.one {B : Nat} (w : World) (y : ByteArray) (hB : B ≤ w.heap.size) : OwnS (w.alloc (.cells #[.string y] 9)) B (.slice (some ⟨w.heap.size, 0, none⟩) 1 1) [y] :=
  ⟨by simp, .inr ⟨w.heap.size, 1, #[.string y], rfl, hB, heap_alloc_new w _, Nat.le_refl _, by unfold maxLen; omega, by simp, by simp⟩⟩
end Go.Proofs.YtiiokmfnohifmaaGreat

namespace Go.Proofs.YtiiokmfnohifmaaGreat
open Go.RowKit

/-- a is below b, byte by byte -/
def ltB (a b : ByteArray) : Bool := Op.bytesLess a.toList b.toList
theorem bl_irr : ∀ x : List UInt8, Op.bytesLess x x = false
  | [] => rfl
  | a :: x => by unfold Op.bytesLess; rw [bl_irr x]; simp
theorem bl_trans : ∀ x y z : List UInt8, Op.bytesLess x y = true → Op.bytesLess y z = true → Op.bytesLess x z = true
  | _, [], _, h, _ => by unfold Op.bytesLess at h; cases h
  | _, _ :: _, [], _, k => by unfold Op.bytesLess at k; cases k
  | [], _ :: _, _ :: _, _, _ => rfl
  | a :: x, b :: y, c :: z, h, k => by
    unfold Op.bytesLess at h k ⊢
    simp only [Bool.or_eq_true, decide_eq_true_eq, Bool.and_eq_true, beq_iff_eq] at h k ⊢
    rcases h with h | ⟨rfl, h⟩
    · rcases k with k | ⟨rfl, k⟩
      · exact .inl (UInt8.lt_trans h k)
      · exact .inl h
    · rcases k with k | ⟨rfl, k⟩
      · exact .inl k
      · exact .inr ⟨rfl, bl_trans x y z h k⟩
theorem bl_total : ∀ x y : List UInt8, Op.bytesLess x y = false → Op.bytesLess y x = false → x = y
  | [], [], _, _ => rfl
  | [], _ :: _, h, _ => by unfold Op.bytesLess at h; cases h
  | _ :: _, [], _, k => by unfold Op.bytesLess at k; cases k
  | a :: x, b :: y, h, k => by
    unfold Op.bytesLess at h k
    simp only [Bool.or_eq_false_iff, decide_eq_false_iff_not, Bool.and_eq_false_iff, beq_eq_false_iff_ne, ne_eq] at h k
    have e : a = b := by
      rcases Nat.lt_trichotomy a.toNat b.toNat with q | q | q
      · exact absurd (UInt8.lt_iff_toNat_lt.2 q) h.1
      · exact UInt8.toNat_inj.1 q
      · exact absurd (UInt8.lt_iff_toNat_lt.2 q) k.1
    subst e
    rw [bl_total x y (h.2.resolve_left (fun q => q rfl)) (k.2.resolve_left (fun q => q rfl))]
theorem ltB_irr (a : ByteArray) : ltB a a = false := bl_irr _
theorem ltB_trans {a b c : ByteArray} (h : ltB a b = true) (k : ltB b c = true) : ltB a c = true := bl_trans _ _ _ h k
theorem ltB_total {a b : ByteArray} (h : ltB a b = false) (k : ltB b a = false) : a = b := toList_inj (bl_total _ _ h k)
theorem ltB_asym {a b : ByteArray} (h : ltB a b = true) : ltB b a = false := by
  cases k : ltB b a with
  | false => rfl
  | true => have := ltB_trans h k; rw [ltB_irr] at this; cases this

/-- keys and their numbers -/
abbrev KV := List (ByteArray × Int)
def KV.ks (l : KV) : List ByteArray := l.map Prod.fst
/-- how many keys ahead are below k -/
def KV.pos (k : ByteArray) : KV → Nat
  | [] => 0
  | x :: l => if ltB x.1 k then KV.pos k l + 1 else 0
def KV.has (k : ByteArray) (l : KV) : Bool := match l[KV.pos k l]? with
  | some x => x.1.toList == k.toList
  | none => false
def KV.put (l : KV) (k : ByteArray) (n : Int) : KV := if l.has k then l.set (l.pos k) (k, n) else l.take (l.pos k) ++ (k, n) :: l.drop (l.pos k)
def KV.num (l : KV) (i : Nat) : Int := (l.getD i (⟨#[]⟩, 0)).2
def KV.key (l : KV) (i : Nat) : ByteArray := (l.getD i (⟨#[]⟩, 0)).1
theorem KV.pos_le (k : ByteArray) : ∀ l : KV, l.pos k ≤ l.length
  | [] => Nat.le_refl _
  | x :: l => by
    have := KV.pos_le k l
    unfold KV.pos; split
    · rw [List.length_cons]; omega
    · exact Nat.zero_le _
theorem KV.pos_below (k : ByteArray) : ∀ (l : KV) (j : Nat), j < l.pos k → ltB (l.key j) k = true
  | [], j, h => by cases h
  | x :: l, j, h => by
    unfold KV.pos at h
    split at h
    · rename_i hx
      cases j with
      | zero => exact hx
      | succ j => exact KV.pos_below k l j (by omega)
    · cases h
theorem KV.pos_stop (k : ByteArray) : ∀ l : KV, l.pos k < l.length → ltB (l.key (l.pos k)) k = false
  | [], h => by cases h
  | x :: l, h => by
    unfold KV.pos at h ⊢
    by_cases hx : ltB x.1 k = true
    · rw [if_pos hx] at h ⊢
      exact KV.pos_stop k l (by rw [List.length_cons] at h; omega)
    · rw [if_neg hx]
      show ltB x.1 k = false
      simpa using hx
theorem KV.has_iff (l : KV) (k : ByteArray) : l.has k = true ↔ l.pos k < l.length ∧ l.key (l.pos k) = k := by
  unfold KV.has KV.key
  rw [List.getD_eq_getElem?_getD]
  by_cases h : l.pos k < l.length
  · rw [List.getElem?_eq_getElem h]
    simp only [Option.getD_some, h, true_and]
    rw [beq_iff_eq]
    exact ⟨toList_inj, fun e => congrArg ByteArray.toList e⟩
  · rw [List.getElem?_eq_none (by omega)]
    simp [h]
/-- its keys rise -/
def KV.Rise (l : KV) : Prop := l.Pairwise fun x y => ltB x.1 y.1 = true
theorem KV.put_len (l : KV) (k : ByteArray) (n : Int) : (l.put k n).length ≤ l.length + 1 := by
  have := l.pos_le k
  unfold KV.put; split
  · rw [List.length_set]; omega
  · simp; omega
end Go.Proofs.YtiiokmfnohifmaaGreat
