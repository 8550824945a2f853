/- Keys that rise, and their numbers, in plain words. -/
import Derived.Test.YtdcjckdhjfnnhaaRws
namespace Go.Proofs.Ytdcjckdhjfnnhaa
open Go.RowKit

/-- a is below b, byte by byte -/
def ltB (a b : ByteArray) : Bool := Op.bytesLess a.toList b.toList
theorem bl_irr : ∀ x : List UInt8, Op.bytesLess x x = false
  | [] => rfl
  | a :: x => by unfold Op.bytesLess; rw [bl_irr x]; simp
theorem bl_trans : ∀ x y z : List UInt8, Op.bytesLess x y = true → Op.bytesLess y z = true → Op.bytesLess x z = true
  | _, [], _, h, _ => by unfold Op.bytesLess at h; cases h
  | _, _ :: _, [], _, k => by unfold Op.bytesLess at k; cases k
  | [], _ :: _, _ :: _, _, _ => rfl
  | a :: x, b :: y, c :: z, h, k => by
    unfold Op.bytesLess at h k ⊢
    simp only [Bool.or_eq_true, decide_eq_true_eq, Bool.and_eq_true, beq_iff_eq] at h k ⊢
    rcases h with h | ⟨rfl, h⟩
    · rcases k with k | ⟨rfl, k⟩
      · exact .inl (UInt8.lt_trans h k)
      · exact .inl h
    · rcases k with k | ⟨rfl, k⟩
      · exact .inl k
      · exact .inr ⟨rfl, bl_trans x y z h k⟩
theorem bl_total : ∀ x y : List UInt8, Op.bytesLess x y = false → Op.bytesLess y x = false → x = y
  | [], [], _, _ => rfl
  | [], _ :: _, h, _ => by unfold Op.bytesLess at h; cases h
  | _ :: _, [], _, k => by unfold Op.bytesLess at k; cases k
  | a :: x, b :: y, h, k => by
    unfold Op.bytesLess at h k
    simp only [Bool.or_eq_false_iff, decide_eq_false_iff_not, Bool.and_eq_false_iff, beq_eq_false_iff_ne, ne_eq] at h k
    have e : a = b := by
      rcases Nat.lt_trichotomy a.toNat b.toNat with q | q | q
      · exact absurd (UInt8.lt_iff_toNat_lt.2 q) h.1
      · exact UInt8.toNat_inj.1 q
      · exact absurd (UInt8.lt_iff_toNat_lt.2 q) k.1
    subst e
    rw [bl_total x y (h.2.resolve_left (fun q => q rfl)) (k.2.resolve_left (fun q => q rfl))]
theorem ltB_irr (a : ByteArray) : ltB a a = false := bl_irr _
theorem ltB_trans {a b c : ByteArray} (h : ltB a b = true) (k : ltB b c = true) : ltB a c = true := bl_trans _ _ _ h k
theorem ltB_total {a b : ByteArray} (h : ltB a b = false) (k : ltB b a = false) : a = b := toList_inj (bl_total _ _ h k)
theorem ltB_asym {a b : ByteArray} (h : ltB a b = true) : ltB b a = false := by
  cases k : ltB b a with
  | false => rfl
  | true => have := ltB_trans h k; rw [ltB_irr] at this; cases this

/-- keys and their numbers -/
abbrev KV := List (ByteArray × Int)
def KV.ks (l : KV) : List ByteArray := l.map Prod.fst
def KV.ns (l : KV) : List Int := l.map Prod.snd
/-- how many keys ahead are below k -/
def KV.pos (k : ByteArray) : KV → Nat
  | [] => 0
  | x :: l => if ltB x.1 k then KV.pos k l + 1 else 0
def KV.has (k : ByteArray) (l : KV) : Bool := match l[KV.pos k l]? with
  | some x => x.1.toList == k.toList
  | none => false
def KV.put (l : KV) (k : ByteArray) (n : Int) : KV := if l.has k then l.set (l.pos k) (k, n) else l.take (l.pos k) ++ (k, n) :: l.drop (l.pos k)
def KV.del (l : KV) (k : ByteArray) : KV := if l.has k then l.take (l.pos k) ++ l.drop (l.pos k + 1) else l
/-- the place of the first one above -/
def KV.aft (l : KV) (k : ByteArray) : Nat := if l.has k then l.pos k + 1 else l.pos k
def KV.num (l : KV) (i : Nat) : Int := (l.getD i (⟨#[]⟩, 0)).2
def KV.key (l : KV) (i : Nat) : ByteArray := (l.getD i (⟨#[]⟩, 0)).1
theorem KV.pos_le (k : ByteArray) : ∀ l : KV, l.pos k ≤ l.length
  | [] => Nat.le_refl _
  | x :: l => by
    have := KV.pos_le k l
    unfold KV.pos; split
    · rw [List.length_cons]; omega
    · exact Nat.zero_le _
theorem KV.pos_below (k : ByteArray) : ∀ (l : KV) (j : Nat), j < l.pos k → ltB (l.key j) k = true
  | [], j, h => by cases h
  | x :: l, j, h => by
    unfold KV.pos at h
    split at h
    · rename_i hx
      cases j with
      | zero => exact hx
      | succ j => exact KV.pos_below k l j (by omega)
    · cases h
theorem KV.pos_stop (k : ByteArray) : ∀ l : KV, l.pos k < l.length → ltB (l.key (l.pos k)) k = false
  | [], h => by cases h
  | x :: l, h => by
    unfold KV.pos at h ⊢
    by_cases hx : ltB x.1 k = true
    · rw [if_pos hx] at h ⊢
      exact KV.pos_stop k l (by rw [List.length_cons] at h; omega)
    · rw [if_neg hx]
      show ltB x.1 k = false
      simpa using hx
theorem KV.has_iff (l : KV) (k : ByteArray) : l.has k = true ↔ l.pos k < l.length ∧ l.key (l.pos k) = k := by
  unfold KV.has KV.key
  rw [List.getD_eq_getElem?_getD]
  by_cases h : l.pos k < l.length
  · rw [List.getElem?_eq_getElem h]
    simp only [Option.getD_some, h, true_and]
    rw [beq_iff_eq]
    exact ⟨toList_inj, fun e => congrArg ByteArray.toList e⟩
  · rw [List.getElem?_eq_none (by omega)]
    simp [h]
theorem KV.ks_len (l : KV) : l.ks.length = l.length := by unfold KV.ks; simp
theorem KV.ns_len (l : KV) : l.ns.length = l.length := by unfold KV.ns; simp
theorem KV.ks_get (l : KV) (i : Nat) (h : i < l.length) : l.ks.getD i ⟨#[]⟩ = l.key i := by
  unfold KV.ks KV.key
  rw [List.getD_eq_getElem?_getD, List.getD_eq_getElem?_getD, List.getElem?_map, List.getElem?_eq_getElem h]; rfl
theorem KV.ns_get (l : KV) (i : Nat) (h : i < l.length) : l.ns.getD i 0 = l.num i := by
  unfold KV.ns KV.num
  rw [List.getD_eq_getElem?_getD, List.getD_eq_getElem?_getD, List.getElem?_map, List.getElem?_eq_getElem h]; rfl
/-- its keys rise -/
def KV.Rise (l : KV) : Prop := l.Pairwise fun x y => ltB x.1 y.1 = true
theorem KV.put_len (l : KV) (k : ByteArray) (n : Int) : (l.put k n).length ≤ l.length + 1 := by
  have := l.pos_le k
  unfold KV.put; split
  · rw [List.length_set]; omega
  · simp; omega
theorem KV.del_len (l : KV) (k : ByteArray) : (l.del k).length ≤ l.length := by
  have := l.pos_le k
  unfold KV.del; split
  · simp; omega
  · exact Nat.le_refl _

end Go.Proofs.Ytdcjckdhjfnnhaa
