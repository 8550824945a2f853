/- Proved parts: S6m S7m. Conditions: each theorem's own. -/
import Derived.Test.YtfodclafkdkjbaaDoorM0
import Derived.Laws.BytesArg
namespace Go.Proofs.YtfodclafkdkjbaaDoor
open Go.RowKit

/-- a stamp -/
structure Stp where
  gen : Int
  index : Int
  life : Int
  part : Int
  parts : Int
deriving DecidableEq
namespace Stp
def v (x : Stp) : Value := .agg #[.int .i64 x.gen, .int .i64 x.index, .int .i64 x.life, .int .i64 x.part, .int .i64 x.parts]
def S0 : Stp := ⟨0, 0, 0, 0, 0⟩
/-- may it be? -/
def ok (x : Stp) : Bool := decide (1 ≤ x.gen) && decide (x.gen ≤ 2147483647) && decide (1 ≤ x.life) && decide (x.life ≤ 2147483647) && decide (0 ≤ x.index) && decide (x.index ≤ 127) && decide (1 ≤ x.parts) && decide (x.parts ≤ 128) && decide (0 ≤ x.part) && decide (x.part < x.parts)
theorem ok_iff (x : Stp) : x.ok = true ↔ 1 ≤ x.gen ∧ x.gen ≤ 2147483647 ∧ 1 ≤ x.life ∧ x.life ≤ 2147483647 ∧ 0 ≤ x.index ∧ x.index ≤ 127 ∧ 1 ≤ x.parts ∧ x.parts ≤ 128 ∧ 0 ≤ x.part ∧ x.part < x.parts := by
  unfold ok
  simp only [Bool.and_eq_true, decide_eq_true_eq]
  omega
end Stp
open Stp
/-- the j-th byte of s, as a number -/
def bN (s : ByteArray) (j : Nat) : Nat := (s.data.toList.getD j 0).toNat
theorem bN_lt (s : ByteArray) (j : Nat) : bN s j < 256 := (s.data.toList.getD j 0).toNat_lt
theorem bytes_eq {s t : ByteArray} (hs : s.size = t.size) (h : ∀ j, j < s.size → bN s j = bN t j) : s = t := by
  have e : s.data.toList = t.data.toList := by
    apply List.ext_getElem (by simpa using hs)
    intro j h1 h2
    have hj := h j (by simpa using h1)
    unfold bN at hj
    rw [List.getD_eq_getElem?_getD, List.getD_eq_getElem?_getD, List.getElem?_eq_getElem h1, List.getElem?_eq_getElem h2] at hj
    exact UInt8.toNat_inj.1 hj
  cases s; cases t; simp only [ByteArray.mk.injEq]; exact Array.ext' e
theorem bN_extract (s : ByteArray) (a b j : Nat) (hj : j < b - a) : bN (s.extract a b) j = bN s (a + j) := by
  unfold bN
  have e : (s.extract a b).data.toList = (s.data.toList.drop a).take (b - a) := by simp [ByteArray.data_extract]
  rw [e, List.getD_eq_getElem?_getD, List.getD_eq_getElem?_getD, List.getElem?_take_of_lt hj, List.getElem?_drop]
theorem size_extract (s : ByteArray) (a b : Nat) (hb : b ≤ s.size) : (s.extract a b).size = b - a := by
  simp [ByteArray.size_extract]; omega
theorem bN_nums (f : Nat → Int) (n j : Nat) (hj : j < n) (h0 : 0 ≤ f j) (h1 : f j < 256) : (bN (strOfNums ((List.range n).map f)) j : Int) = f j := by
  unfold bN
  rw [strOfNums_data, List.getD_eq_getElem?_getD, List.getElem?_map, List.getElem?_map, List.getElem?_range hj]
  simp only [Option.map_some, Option.getD_some]
  rw [UInt8.toNat_ofNat']
  omega

/-- the sector's bytes -/
def secF (x : Stp) (d : ByteArray) (j : Nat) : Int :=
  if j = 0 then 193 else if j = 1 then x.gen / 16777216 % 256 else if j = 2 then x.gen / 65536 % 256 else if j = 3 then x.gen / 256 % 256 else if j = 4 then x.gen % 256 else
  if j = 5 then x.index / 256 else if j = 6 then x.index % 256 else if j = 7 then x.life / 16777216 % 256 else if j = 8 then x.life / 65536 % 256 else if j = 9 then x.life / 256 % 256 else if j = 10 then x.life % 256 else
  if j = 11 then x.part else if j = 12 then x.parts else if j = 13 then (d.size : Int) else if j < 14 + d.size then (bN d (j - 14) : Int) else 0
def pack6 (x : Stp) (d : ByteArray) : ByteArray := strOfNums ((List.range 64).map (secF x d))
theorem pack6_size (x : Stp) (d : ByteArray) : (pack6 x d).size = 64 := by unfold pack6; rw [strOfNums_size]; simp
def num4 (s : ByteArray) (i : Nat) : Int := ((((bN s i : Int) * 256 + bN s (i + 1)) * 256 + bN s (i + 2)) * 256 + bN s (i + 3))
def stp (s : ByteArray) : Stp := ⟨num4 s 1, (bN s 5 : Int) * 256 + bN s 6, num4 s 7, bN s 11, bN s 12⟩
def dat (s : ByteArray) : ByteArray := s.extract 14 (14 + bN s 13)
/-- noughts from i on -/
def zeros (s : ByteArray) (i : Nat) : Bool := (List.range 64).all fun j => decide (j < i) || decide (bN s j = 0)
theorem zeros_iff (s : ByteArray) (i : Nat) : zeros s i = true ↔ ∀ j, j < 64 → i ≤ j → bN s j = 0 := by
  unfold zeros
  rw [List.all_eq_true]
  constructor
  · intro h j hj hi
    have := h j (List.mem_range.2 hj)
    simp only [Bool.or_eq_true, decide_eq_true_eq] at this
    omega
  · intro h j hj
    simp only [Bool.or_eq_true, decide_eq_true_eq]
    have := h j (List.mem_range.1 hj)
    omega
/-- is it a stamp's sector? -/
def isSec (s : ByteArray) : Bool := decide (s.size = 64) && decide (bN s 0 = 193) && decide (bN s 13 ≤ 50) && zeros s (14 + bN s 13) && (stp s).ok
theorem isSec_iff (s : ByteArray) : isSec s = true ↔ s.size = 64 ∧ bN s 0 = 193 ∧ bN s 13 ≤ 50 ∧ (∀ j, j < 64 → 14 + bN s 13 ≤ j → bN s j = 0) ∧ (stp s).ok = true := by
  unfold isSec
  rw [Bool.and_eq_true, Bool.and_eq_true, Bool.and_eq_true, Bool.and_eq_true, decide_eq_true_eq, decide_eq_true_eq, decide_eq_true_eq, zeros_iff]
  constructor
  · rintro ⟨⟨⟨⟨a, b⟩, c⟩, d⟩, e⟩; exact ⟨a, b, c, d, e⟩
  · rintro ⟨a, b, c, d, e⟩; exact ⟨⟨⟨⟨a, b⟩, c⟩, d⟩, e⟩
theorem secF_fits (x : Stp) (d : ByteArray) (hx : x.ok = true) (hd : d.size ≤ 50) (j : Nat) : 0 ≤ secF x d j ∧ secF x d j < 256 := by
  have h := (ok_iff x).1 hx
  have hb := bN_lt d (j - 14)
  unfold secF
  repeat' split
  all_goals omega
theorem bN_pack (x : Stp) (d : ByteArray) (hx : x.ok = true) (hd : d.size ≤ 50) (j : Nat) (hj : j < 64) : (bN (pack6 x d) j : Int) = secF x d j :=
  bN_nums _ _ _ hj (secF_fits x d hx hd j).1 (secF_fits x d hx hd j).2
theorem dat_size {s : ByteArray} (h : isSec s = true) : (dat s).size = bN s 13 := by
  obtain ⟨a, _, c, _⟩ := (isSec_iff s).1 h
  unfold dat
  rw [size_extract _ _ _ (by omega)]; omega
/-- what is packed is unpacked -/
theorem un_pack6 (x : Stp) (d : ByteArray) (hx : x.ok = true) (hd : d.size ≤ 50) : isSec (pack6 x d) = true ∧ stp (pack6 x d) = x ∧ dat (pack6 x d) = d := by
  have h := (ok_iff x).1 hx
  have B := bN_pack x d hx hd
  have b0 := B 0 (by omega); have b1 := B 1 (by omega); have b2 := B 2 (by omega); have b3 := B 3 (by omega); have b4 := B 4 (by omega); have b5 := B 5 (by omega); have b6 := B 6 (by omega)
  have b7 := B 7 (by omega); have b8 := B 8 (by omega); have b9 := B 9 (by omega); have b10 := B 10 (by omega); have b11 := B 11 (by omega); have b12 := B 12 (by omega); have b13 := B 13 (by omega)
  simp only [secF] at b0 b1 b2 b3 b4 b5 b6 b7 b8 b9 b10 b11 b12 b13
  simp only [Nat.reduceEqDiff, Nat.succ_ne_self, if_false, if_true] at b0 b1 b2 b3 b4 b5 b6 b7 b8 b9 b10 b11 b12 b13
  have hs : stp (pack6 x d) = x := by
    obtain ⟨g, i, l, p, q⟩ := x
    unfold stp num4
    simp only [Nat.reduceAdd] at h b0 b1 b2 b3 b4 b5 b6 b7 b8 b9 b10 b11 b12 b13 ⊢
    rw [Stp.mk.injEq]
    refine ⟨?_, ?_, ?_, ?_, ?_⟩ <;> omega
  have h13 : bN (pack6 x d) 13 = d.size := by omega
  refine ⟨(isSec_iff _).2 ⟨pack6_size x d, by omega, by omega, fun j hj hi => ?_, by rw [hs]; exact hx⟩, hs, ?_⟩
  · have := B j hj
    unfold secF at this
    rw [if_neg (by omega), if_neg (by omega), if_neg (by omega), if_neg (by omega), if_neg (by omega), if_neg (by omega), if_neg (by omega), if_neg (by omega), if_neg (by omega), if_neg (by omega), if_neg (by omega), if_neg (by omega), if_neg (by omega), if_neg (by omega), if_neg (by omega)] at this
    omega
  · have e1 : (dat (pack6 x d)).size = d.size := by
      unfold dat
      rw [size_extract _ _ _ (by rw [pack6_size]; omega)]; omega
    refine bytes_eq e1 fun j hj => ?_
    unfold dat
    rw [bN_extract _ _ _ _ (by omega)]
    have := B (14 + j) (by omega)
    unfold secF at this
    rw [if_neg (by omega), if_neg (by omega), if_neg (by omega), if_neg (by omega), if_neg (by omega), if_neg (by omega), if_neg (by omega), if_neg (by omega), if_neg (by omega), if_neg (by omega), if_neg (by omega), if_neg (by omega), if_neg (by omega), if_neg (by omega), if_pos (by omega), show 14 + j - 14 = j by omega] at this
    omega
/-- what is read packs as it was -/
theorem pack_un6 (s : ByteArray) (h : isSec s = true) : pack6 (stp s) (dat s) = s := by
  obtain ⟨h64, h0, h13, hz, hok⟩ := (isSec_iff s).1 h
  have ds := dat_size h
  refine bytes_eq (by rw [pack6_size, h64]) fun j hj => ?_
  rw [pack6_size] at hj
  have e := bN_pack (stp s) (dat s) hok (by omega) j hj
  have l1 := bN_lt s 1; have l2 := bN_lt s 2; have l3 := bN_lt s 3; have l4 := bN_lt s 4; have l5 := bN_lt s 5; have l6 := bN_lt s 6
  have l7 := bN_lt s 7; have l8 := bN_lt s 8; have l9 := bN_lt s 9; have l10 := bN_lt s 10
  by_cases hd : 14 ≤ j
  · unfold secF at e
    rw [if_neg (by omega), if_neg (by omega), if_neg (by omega), if_neg (by omega), if_neg (by omega), if_neg (by omega), if_neg (by omega), if_neg (by omega), if_neg (by omega), if_neg (by omega), if_neg (by omega), if_neg (by omega), if_neg (by omega), if_neg (by omega)] at e
    by_cases hn : j < 14 + (dat s).size
    · rw [if_pos hn] at e
      have e2 : bN (dat s) (j - 14) = bN s j := by
        unfold dat
        rw [bN_extract _ _ _ _ (by omega), show 14 + (j - 14) = j by omega]
      omega
    · rw [if_neg hn] at e
      have := hz j hj (by omega)
      omega
  · have : j = 0 ∨ j = 1 ∨ j = 2 ∨ j = 3 ∨ j = 4 ∨ j = 5 ∨ j = 6 ∨ j = 7 ∨ j = 8 ∨ j = 9 ∨ j = 10 ∨ j = 11 ∨ j = 12 ∨ j = 13 := by omega
    generalize pack6 (stp s) (dat s) = P at e ⊢
    rcases this with rfl | rfl | rfl | rfl | rfl | rfl | rfl | rfl | rfl | rfl | rfl | rfl | rfl | rfl <;> (simp only [secF, stp, num4, Nat.reduceEqDiff, Nat.succ_ne_self, if_false, if_true, Nat.reduceAdd] at e; omega)

/-- the parts -/
def cnt (n : Int) : Int := if n < 0 then 0 else if n = 0 then 1 else (n - 1) / 50 + 1
def cntN (n : Nat) : Nat := if n = 0 then 1 else (n - 1) / 50 + 1
theorem cnt_nat (n : Nat) : cnt (n : Int) = (cntN n : Int) := by
  unfold cnt cntN
  by_cases h : n = 0
  · subst h; rfl
  · rw [if_neg (by omega), if_neg (by omega), if_neg h]; omega
def partAt (s : ByteArray) (i : Nat) : ByteArray := s.extract (50 * i) (if 50 * (i + 1) ≤ s.size then 50 * (i + 1) else s.size)
def partsOf (s : ByteArray) : List ByteArray := (List.range (cntN s.size)).map (partAt s)
theorem partsOf_len (s : ByteArray) : (partsOf s).length = cntN s.size := by unfold partsOf; simp

end Go.Proofs.YtfodclafkdkjbaaDoor

namespace Go.Proofs.YtfodclafkdkjbaaDoor
open Go.RowKit

/-- what stands in an extent -/
abbrev Cont := Nat → ByteArray
/-- the sector of part k at i of a record of G -/
def isAt (s : ByteArray) (G : Int) (i k : Nat) (p y : Int) : Bool :=
  isSec s && decide ((stp s).gen = G) && decide ((stp s).index = (i : Int)) && decide ((stp s).part = (k : Int)) && decide ((stp s).parts = p) && decide ((stp s).life = y)
theorem isAt_iff (s : ByteArray) (G : Int) (i k : Nat) (p y : Int) : isAt s G i k p y = true ↔ isSec s = true ∧ (stp s).gen = G ∧ (stp s).index = (i : Int) ∧ (stp s).part = (k : Int) ∧ (stp s).parts = p ∧ (stp s).life = y := by
  unfold isAt
  simp only [Bool.and_eq_true, decide_eq_true_eq, and_assoc]
/-- does a record of G begin at a? -/
def begins (c : Cont) (S : Nat) (G : Int) (a : Nat) : Bool :=
  decide (a < S) && isSec (c a) && decide ((stp (c a)).gen = G) && decide ((stp (c a)).index = (a : Int)) && decide ((stp (c a)).part = 0) && decide ((a : Int) + (stp (c a)).parts ≤ S)
theorem begins_iff (c : Cont) (S : Nat) (G : Int) (a : Nat) : begins c S G a = true ↔ a < S ∧ isSec (c a) = true ∧ (stp (c a)).gen = G ∧ (stp (c a)).index = (a : Int) ∧ (stp (c a)).part = 0 ∧ (a : Int) + (stp (c a)).parts ≤ S := by
  unfold begins
  simp only [Bool.and_eq_true, decide_eq_true_eq, and_assoc]
/-- are the first k of its sectors there? -/
def goes (c : Cont) (G : Int) (a : Nat) (p y : Int) (k : Nat) : Bool := (List.range k).all fun j => isAt (c (a + j)) G (a + j) j p y
theorem goes_iff (c : Cont) (G : Int) (a : Nat) (p y : Int) (k : Nat) : goes c G a p y k = true ↔ ∀ j, j < k → isAt (c (a + j)) G (a + j) j p y = true := by
  unfold goes
  rw [List.all_eq_true]
  exact ⟨fun h j hj => h j (List.mem_range.2 hj), fun h j hj => h j (List.mem_range.1 hj)⟩
/-- how many sectors the record of G at a has; 0: there is none -/
def recN (c : Cont) (S : Nat) (G : Int) (a : Nat) : Nat := if begins c S G a && goes c G a (stp (c a)).parts (stp (c a)).life (stp (c a)).parts.toNat then (stp (c a)).parts.toNat else 0
/-- the data of k sectors -/
def recB (c : Cont) (a : Nat) : Nat → ByteArray
  | 0 => ⟨#[]⟩
  | k + 1 => recB c a k ++ dat (c (a + k))
def recs (c : Cont) (S : Nat) (G : Int) : Nat → Nat → List ByteArray × Nat
  | 0, a => ([], a)
  | f + 1, a => if recN c S G a = 0 then ([], a) else (recB c a (recN c S G a) :: (recs c S G f (a + recN c S G a)).1, (recs c S G f (a + recN c S G a)).2)
/-- the generation that stands, its records, their sectors -/
def stands (c : Cont) (S : Nat) : Int × List ByteArray × Nat :=
  if isSec (c 0) then (if (recs c S (stp (c 0)).gen S 0).2 = 0 then (0, [], 0) else ((stp (c 0)).gen, (recs c S (stp (c 0)).gen S 0).1, (recs c S (stp (c 0)).gen S 0).2)) else (0, [], 0)
def lifeTo (c : Cont) : Nat → Int
  | 0 => 0
  | k + 1 => if isSec (c k) && decide (lifeTo c k < (stp (c k)).life) then (stp (c k)).life else lifeTo c k
/-- a log -/
structure Lg where
  first : Nat
  at_ : Nat
  gen : Int
  used : Nat
  life : Int
  busy : Bool
def openP (c d : Cont) (S first : Nat) : Lg × List ByteArray :=
  if 0 < (stands c S).1 ∧ (stands d S).1 ≤ (stands c S).1 then (⟨first, first, (stands c S).1, (stands c S).2.2, 1 + max (lifeTo c S) (lifeTo d S), false⟩, (stands c S).2.1)
  else if 0 < (stands d S).1 then (⟨first, first + 1, (stands d S).1, (stands d S).2.2, 1 + max (lifeTo c S) (lifeTo d S), false⟩, (stands d S).2.1)
  else (⟨first, first + 1, 0, 0, 1 + max (lifeTo c S) (lifeTo d S), false⟩, [])
/-- a writer -/
structure Wr where
  base : Bool
  parts : List ByteArray
  moves : Nat

theorem parts_pos {s : ByteArray} (h : isSec s = true) : 1 ≤ (stp s).parts ∧ (stp s).parts ≤ 128 ∧ 1 ≤ (stp s).gen ∧ 1 ≤ (stp s).life ∧ (stp s).life ≤ 2147483647 ∧ (stp s).gen ≤ 2147483647 ∧ 0 ≤ (stp s).part := by
  have := (Stp.ok_iff _).1 ((isSec_iff s).1 h).2.2.2.2
  omega
theorem recN_some {c : Cont} {S : Nat} {G : Int} {a n : Nat} (h : recN c S G a = n) (h0 : 0 < n) : begins c S G a = true ∧ (stp (c a)).parts = (n : Int) ∧ goes c G a n (stp (c a)).life n = true ∧ a + n ≤ S := by
  unfold recN at h
  split at h
  · rename_i hb
    rw [Bool.and_eq_true] at hb
    have hp : (stp (c a)).parts = (n : Int) := by omega
    have hl := ((begins_iff _ _ _ _).1 hb.1).2.2.2.2.2
    refine ⟨hb.1, hp, ?_, by omega⟩
    have := hb.2
    rw [hp, Int.toNat_natCast] at this
    exact this
  · omega
theorem recN_of {c : Cont} {S : Nat} {G : Int} {a n : Nat} (hb : begins c S G a = true) (hp : (stp (c a)).parts = (n : Int)) (hg : goes c G a n (stp (c a)).life n = true) : recN c S G a = n := by
  unfold recN
  rw [hp, Int.toNat_natCast, hb, hg]; rfl
theorem recN_le (c : Cont) (S : Nat) (G : Int) (a : Nat) : recN c S G a = 0 ∨ a + recN c S G a ≤ S := by
  rcases Nat.eq_zero_or_pos (recN c S G a) with h | h
  · exact .inl h
  · exact .inr (recN_some rfl h).2.2.2
/-- what stands elsewhere doesn't count -/
theorem recN_same {c d : Cont} {S : Nat} {G : Int} {a n : Nat} (h : recN c S G a = n) (h0 : 0 < n) (hs : ∀ i, a ≤ i → i < a + n → c i = d i) : recN d S G a = n ∧ recB d a n = recB c a n := by
  obtain ⟨hb, hp, hg, hl⟩ := recN_some h h0
  have ea := hs a (Nat.le_refl _) (by omega)
  refine ⟨recN_of ?_ (by rw [← ea]; exact hp) ?_, ?_⟩
  · rw [begins_iff] at hb ⊢; rw [← ea]; exact hb
  · rw [goes_iff] at hg ⊢
    intro j hj
    rw [← ea, ← hs (a + j) (by omega) (by omega)]; exact hg j hj
  · have : ∀ k, k ≤ n → recB d a k = recB c a k := by
      intro k
      induction k with
      | zero => intro _; rfl
      | succ k ih => intro hk; show recB d a k ++ _ = recB c a k ++ _; rw [ih (by omega), hs (a + k) (by omega) (by omega)]
    exact this n (Nat.le_refl _)

/-- records, one behind the other, from a to u -/
inductive Chain (c : Cont) (S : Nat) (G : Int) : Nat → List ByteArray → Nat → Prop
  | nil (a : Nat) : Chain c S G a [] a
  | cons {a n u : Nat} {rs : List ByteArray} : recN c S G a = n → 0 < n → Chain c S G (a + n) rs u → Chain c S G a (recB c a n :: rs) u
namespace Chain
variable {c d : Cont} {S : Nat} {G : Int}
theorem le {a u : Nat} {rs : List ByteArray} (h : Chain c S G a rs u) : a ≤ u ∧ (rs = [] → a = u) := by
  induction h with
  | nil => exact ⟨Nat.le_refl _, fun _ => rfl⟩
  | cons _ h0 _ ih => exact ⟨by omega, fun e => by cases e⟩
theorem same {a u : Nat} {rs : List ByteArray} (h : Chain c S G a rs u) (hs : ∀ i, a ≤ i → i < u → c i = d i) : Chain d S G a rs u := by
  induction h with
  | nil a => exact .nil a
  | cons hn h0 hc ih =>
    have hl := hc.le.1
    obtain ⟨e1, e2⟩ := recN_same hn h0 (fun i h1 h2 => hs i h1 (by omega))
    rw [← e2]
    exact .cons e1 h0 (ih fun i h1 h2 => hs i (by omega) h2)
theorem snoc {a u n : Nat} {rs : List ByteArray} (h : Chain c S G a rs u) (hn : recN c S G u = n) (h0 : 0 < n) : Chain c S G a (rs ++ [recB c u n]) (u + n) := by
  induction h with
  | nil a => exact .cons hn h0 (.nil _)
  | cons h1 h2 _ ih => exact .cons h1 h2 (ih hn)
theorem recs {a u : Nat} {rs : List ByteArray} (h : Chain c S G a rs u) (hn : recN c S G u = 0) : ∀ f, u ≤ a + f → recs c S G f a = (rs, u) := by
  induction h with
  | nil a =>
    intro f _
    cases f with
    | zero => rfl
    | succ f => unfold Go.Proofs.YtfodclafkdkjbaaDoor.recs; rw [if_pos hn]
  | cons h1 h2 hc ih =>
    intro f hf
    cases f with
    | zero => have := hc.le.1; omega
    | succ f =>
      unfold Go.Proofs.YtfodclafkdkjbaaDoor.recs
      rw [h1, if_neg (by omega), ih hn f (by omega)]
theorem bound {a u : Nat} {rs : List ByteArray} (h : Chain c S G a rs u) : a = u ∨ u ≤ S := by
  induction h with
  | nil => exact .inl rfl
  | cons h1 h2 hc ih =>
    have := (recN_some h1 h2).2.2.2
    rcases ih with e | e
    · exact .inr (by omega)
    · exact .inr e
end Chain
/-- what recs tells is a chain, and behind it there is none -/
theorem recs_chain (c : Cont) (S : Nat) (G : Int) : ∀ f a, S ≤ a + f → Chain c S G a (recs c S G f a).1 (recs c S G f a).2 ∧ recN c S G (recs c S G f a).2 = 0
  | 0, a, h => ⟨.nil a, by
    rcases recN_le c S G a with e | e
    · exact e
    · show recN c S G a = 0
      omega⟩
  | f + 1, a, h => by
    unfold recs
    by_cases e : recN c S G a = 0
    · rw [if_pos e]; exact ⟨.nil a, e⟩
    · rw [if_neg e]
      have ih := recs_chain c S G f (a + recN c S G a) (by omega)
      exact ⟨.cons rfl (by omega) ih.1, ih.2⟩

end Go.Proofs.YtfodclafkdkjbaaDoor
