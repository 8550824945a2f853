/- Values, in plain words: whether one may be, its bytes, what bytes are, the order. -/
import Derived.Test.YtoljhoabbaigdaaAwk
import Derived.Test.YtoljhoabbaigdaaLa
import Derived.Sort.Walk0
namespace Go.Proofs.Ytoljhoabbaigdaa
open Go.RowKit

structure Val where
  num : Bool
  txt : ByteArray
  bits : Nat
namespace Val
/-- as Go has it -/
def v (x : Val) : Value := .agg #[.bool x.num, .string x.txt, .int .u64 (x.bits : Int)]
def Fits (x : Val) : Prop := x.bits < 18446744073709551616 ∧ x.txt.size ≤ maxLen
/-- may it be? -/
def ok (x : Val) : Bool := if x.num then decide (x.txt.size = 0) && decide (Fl.bitsOf x.bits = x.bits) else decide (x.bits = 0) && decide (x.txt.size ≤ 64)
def pack (x : Val) : ByteArray := if x.num then ⟨#[1]⟩ ++ keyOf (Fl.place x.bits) else ⟨#[0]⟩ ++ x.txt
def V0 : Val := ⟨false, ⟨#[]⟩, 0⟩
def text (s : ByteArray) : Val := ⟨false, s, 0⟩
def number (b : Nat) : Val := ⟨true, ⟨#[]⟩, Fl.bitsOf b⟩
/-- the bytes' rest -/
def rest (s : ByteArray) : ByteArray := s.extract 1 s.size
def head (s : ByteArray) : UInt8 := s.data.toList.getD 0 0
/-- what bytes are: the error, the value -/
def un (s : ByteArray) : Int × Val := if s.size = 0 then (3, V0) else if head s = 0 ∧ s.size ≤ 65 then (0, text (rest s)) else
  if head s = 1 ∧ s.size = 9 ∧ unOk (rest s) = true then (0, number (unB (rest s))) else (4, V0)
/-- which one stands ahead -/
def cmp (a b : Val) : Int := if a.num ≠ b.num then (if a.num then 1 else -1) else if a.num then (if Fl.place a.bits < Fl.place b.bits then -1 else if Fl.place b.bits < Fl.place a.bits then 1 else 0)
  else (if Op.bytesLess a.txt.toList b.txt.toList then -1 else if Op.bytesLess b.txt.toList a.txt.toList then 1 else 0)

theorem bits_lt (b : Nat) (h : b < 18446744073709551616) : Fl.bitsOf b < 18446744073709551616 := by
  have hf := fits_small b h
  rw [← Fl.atB_place hf]
  exact (Fl.atB_fits (Fl.place_le hf)).lt
theorem unB_lt (s : ByteArray) : unB s < 18446744073709551616 := by
  unfold unB; split
  · rename_i h; exact (Fl.atB_fits h).lt
  · omega
theorem place_lt (b : Nat) (h : b < 18446744073709551616) : Fl.place b < 18446744073709551616 := by
  have := Fl.place_le (fits_small b h)
  have h2 : Fl.NANP < 18446744073709551616 := by decide
  omega

theorem one_list (c : UInt8) (s : ByteArray) : ((⟨#[c]⟩ : ByteArray) ++ s).data.toList = c :: s.data.toList := by simp
theorem one_size (c : UInt8) (s : ByteArray) : ((⟨#[c]⟩ : ByteArray) ++ s).size = s.size + 1 := by
  rw [ByteArray.size_append]; show 1 + s.size = _; omega
theorem bytes_ext {a b : ByteArray} (h : a.data.toList = b.data.toList) : a = b := by
  cases a; cases b; simp only [ByteArray.mk.injEq]; exact Array.ext' h
theorem one_rest (c : UInt8) (s : ByteArray) : rest (⟨#[c]⟩ ++ s) = s := by
  apply bytes_ext
  unfold rest
  have e : ∀ (t : ByteArray) (a b : Nat), (t.extract a b).data.toList = (t.data.toList.drop a).take (b - a) := fun t a b => by simp [ByteArray.data_extract]
  rw [e, one_list, one_size]
  show s.data.toList.take s.size = s.data.toList
  exact List.take_of_length_le (by simp)
theorem one_head (c : UInt8) (s : ByteArray) : head (⟨#[c]⟩ ++ s) = c := by unfold head; rw [one_list]; rfl
theorem of_head {s : ByteArray} (h : s.size ≠ 0) : (⟨#[head s]⟩ : ByteArray) ++ rest s = s := by
  apply bytes_ext
  rw [one_list]
  unfold rest head
  have e : (s.extract 1 s.size).data.toList = (s.data.toList.drop 1).take (s.size - 1) := by simp [ByteArray.data_extract]
  rw [e]
  have hl : s.data.toList.length = s.size := by simp
  cases hs : s.data.toList with
  | nil => rw [hs] at hl; simp at hl; omega
  | cons a t =>
    rw [hs] at hl
    simp only [List.length_cons] at hl
    show a :: (t.take (s.size - 1)) = a :: t
    rw [List.take_of_length_le (by omega)]
theorem rest_size {s : ByteArray} (h : s.size ≠ 0) : (rest s).size + 1 = s.size := by
  have h1 := one_size (head s) (rest s)
  rw [of_head h] at h1; omega
theorem nil_of {s : ByteArray} (h : s.size = 0) : s = ⟨#[]⟩ := by
  cases s with
  | mk a => have : a = #[] := Array.eq_empty_of_size_eq_zero h; rw [this]

theorem pack_size (x : Val) (h : x.ok = true) : x.pack.size ≤ 65 ∧ 0 < x.pack.size := by
  unfold pack
  cases hn : x.num with
  | true => rw [if_pos rfl, one_size, keyOf_size]; omega
  | false =>
    unfold ok at h; rw [hn] at h
    simp only [Bool.false_eq_true, if_false, Bool.and_eq_true, decide_eq_true_eq] at h
    rw [if_neg (by simp), one_size]; omega
theorem num_of {x : Val} (h : x.ok = true) (hn : x.num = true) : x = ⟨true, ⟨#[]⟩, x.bits⟩ ∧ Fl.bitsOf x.bits = x.bits := by
  unfold ok at h; rw [hn] at h
  simp only [if_true, Bool.and_eq_true, decide_eq_true_eq] at h
  obtain ⟨n, t, b⟩ := x
  simp only at hn h ⊢
  rw [hn, nil_of h.1]; exact ⟨rfl, h.2⟩
theorem txt_of {x : Val} (h : x.ok = true) (hn : x.num = false) : x = ⟨false, x.txt, 0⟩ ∧ x.txt.size ≤ 64 := by
  unfold ok at h; rw [hn] at h
  simp only [Bool.false_eq_true, if_false, Bool.and_eq_true, decide_eq_true_eq] at h
  obtain ⟨n, t, b⟩ := x
  simp only at hn h ⊢
  rw [hn, h.1]; exact ⟨rfl, h.2⟩
/-- what is packed is unpacked -/
theorem un_pack (x : Val) (h : x.ok = true) (hb : x.bits < 18446744073709551616) : un x.pack = (0, x) := by
  have hs := pack_size x h
  cases hn : x.num with
  | true =>
    obtain ⟨e, eb⟩ := num_of h hn
    have hp : x.pack = ⟨#[1]⟩ ++ keyOf (Fl.place x.bits) := by unfold pack; rw [hn]; rfl
    have hf := fits_small x.bits hb
    have e1 := numTo_keyOf (Fl.place x.bits) (place_lt _ hb)
    have hk : unOk (keyOf (Fl.place x.bits)) = true := by unfold unOk; rw [e1]; exact decide_eq_true (Fl.place_le hf)
    have hu : unB (keyOf (Fl.place x.bits)) = Fl.bitsOf x.bits := by unfold unB; rw [e1, if_pos (Fl.place_le hf), Fl.atB_place hf]
    unfold un
    rw [if_neg (by omega), hp, one_head, one_rest, one_size, keyOf_size, if_neg (fun k => absurd k.1 (by decide)), if_pos ⟨rfl, rfl, hk⟩, hu, eb]
    unfold number
    rw [eb, ← e]
  | false =>
    obtain ⟨e, h64⟩ := txt_of h hn
    have hp : x.pack = ⟨#[0]⟩ ++ x.txt := by unfold pack; rw [hn]; rfl
    unfold un
    rw [if_neg (by omega), hp, one_head, one_rest, one_size, if_pos ⟨rfl, by omega⟩]
    unfold text
    rw [← e]
theorem ok_text (s : ByteArray) : (text s).ok = decide (s.size ≤ 64) := by unfold ok text; simp
theorem pack_text (s : ByteArray) : (text s).pack = ⟨#[0]⟩ ++ s := by unfold pack text; simp
theorem ok_number (b : Nat) : (number b).ok = decide (Fl.bitsOf (Fl.bitsOf b) = Fl.bitsOf b) := by
  show (decide ((⟨#[]⟩ : ByteArray).size = 0) && decide (Fl.bitsOf (Fl.bitsOf b) = Fl.bitsOf b)) = _
  rw [decide_eq_true (show (⟨#[]⟩ : ByteArray).size = 0 from rfl), Bool.true_and]
theorem number_bits (b : Nat) : (number b).bits = Fl.bitsOf b := rfl
theorem pack_number (b : Nat) : (number b).pack = ⟨#[1]⟩ ++ keyOf (Fl.place (Fl.bitsOf b)) := by unfold pack number; simp
theorem un_cases (s : ByteArray) : (s.size = 0 ∧ un s = (3, V0)) ∨ (s.size ≠ 0 ∧ head s = 0 ∧ s.size ≤ 65 ∧ un s = (0, text (rest s))) ∨
    (s.size ≠ 0 ∧ head s = 1 ∧ s.size = 9 ∧ unOk (rest s) = true ∧ un s = (0, number (unB (rest s)))) ∨
    (s.size ≠ 0 ∧ ¬ (head s = 0 ∧ s.size ≤ 65) ∧ ¬ (head s = 1 ∧ s.size = 9 ∧ unOk (rest s) = true) ∧ un s = (4, V0)) := by
  unfold un
  by_cases h0 : s.size = 0
  · exact .inl ⟨h0, by rw [if_pos h0]⟩
  rw [if_neg h0]
  by_cases h1 : head s = 0 ∧ s.size ≤ 65
  · exact .inr (.inl ⟨h0, h1.1, h1.2, by rw [if_pos h1]⟩)
  rw [if_neg h1]
  by_cases h2 : head s = 1 ∧ s.size = 9 ∧ unOk (rest s) = true
  · exact .inr (.inr (.inl ⟨h0, h2.1, h2.2.1, h2.2.2, by rw [if_pos h2]⟩))
  · exact .inr (.inr (.inr ⟨h0, h1, h2, by rw [if_neg h2]⟩))
/-- what is read may be, and has these bytes -/
theorem pack_un (s : ByteArray) (h : (un s).1 = 0) : (un s).2.ok = true ∧ (un s).2.pack = s ∧ (un s).2.bits < 18446744073709551616 := by
  rcases un_cases s with ⟨_, e⟩ | ⟨h0, h1, h2, e⟩ | ⟨h0, h1, h2, h3, e⟩ | ⟨_, _, _, e⟩
  · rw [e] at h; cases h
  · rw [e]
    have hr := rest_size h0
    have h4 := of_head h0
    rw [h1] at h4
    exact ⟨by rw [ok_text]; exact decide_eq_true (by omega), by rw [pack_text]; exact h4, by unfold text; simp⟩
  · rw [e]
    have hp : numTo (rest s) 8 ≤ Fl.NANP := of_decide_eq_true h3
    have ub : unB (rest s) = Fl.atB (numTo (rest s) 8) := by unfold unB; rw [if_pos hp]
    have pa : Fl.place (Fl.atB (numTo (rest s) 8)) = numTo (rest s) 8 := Fl.place_atB hp
    have hf := Fl.atB_fits hp
    have e1 : Fl.bitsOf (Fl.atB (numTo (rest s) 8)) = Fl.atB (numTo (rest s) 8) := by rw [← Fl.atB_place hf, pa]
    have hr := rest_size h0
    have ko := keyOf_numTo (rest s) (by omega)
    have h4 := of_head h0
    rw [h1] at h4
    have bl := unB_lt (rest s)
    obtain ⟨u, hu⟩ : ∃ u, u = unB (rest s) := ⟨_, rfl⟩
    rw [← hu] at ub bl ⊢
    show (number u).ok = true ∧ (number u).pack = s ∧ (number u).bits < _
    refine ⟨by rw [ok_number, ub, e1, e1]; exact decide_eq_true rfl, by rw [pack_number, ub, e1, pa, ko]; exact h4, ?_⟩
    rw [number_bits]
    exact bits_lt _ bl
  · rw [e] at h; cases h
theorem un_code (s : ByteArray) : (un s).1 = 0 ∨ ((un s).1 ≠ 0 ∧ (un s).2 = V0) := by
  unfold un
  split
  · exact .inr ⟨by decide, rfl⟩
  split
  · exact .inl rfl
  split
  · exact .inl rfl
  · exact .inr ⟨by decide, rfl⟩

theorem less_cons (c : UInt8) (x y : List UInt8) : Op.bytesLess (c :: x) (c :: y) = Op.bytesLess x y := by
  rw [Op.bytesLess]; simp
theorem toL (s : ByteArray) : s.toList = s.data.toList := ByteArray.toList_eq s
theorem less_irr : ∀ x : List UInt8, Op.bytesLess x x = false
  | [] => rfl
  | c :: x => by rw [less_cons, less_irr x]
theorem less_asym : ∀ x y : List UInt8, Op.bytesLess x y = true → Op.bytesLess y x = false
  | [], [], h => by cases h
  | _ :: _, [], h => by cases h
  | [], _ :: _, _ => rfl
  | a :: x, b :: y, h => by
    unfold Op.bytesLess at h ⊢
    simp only [Bool.or_eq_true, Bool.and_eq_true, decide_eq_true_eq, beq_iff_eq] at h
    rcases h with h | ⟨h1, h2⟩
    · have h3 : ¬ b < a := by
        intro k
        have := UInt8.lt_iff_toNat_lt.1 h; have := UInt8.lt_iff_toNat_lt.1 k; omega
      have h4 : (b == a) = false := by
        rw [beq_eq_false_iff_ne]; intro e; subst e; exact h3 h
      rw [decide_eq_false h3, h4]; rfl
    · subst h1
      rw [less_asym x y h2]
      have h3 : ¬ a < a := by
        intro k; have := UInt8.lt_iff_toNat_lt.1 k; omega
      rw [decide_eq_false h3]; simp
theorem less_total : ∀ x y : List UInt8, Op.bytesLess x y = false → Op.bytesLess y x = false → x = y
  | [], [], _, _ => rfl
  | _ :: _, [], _, h => by cases h
  | [], _ :: _, h, _ => by cases h
  | a :: x, b :: y, h, k => by
    unfold Op.bytesLess at h k
    simp only [Bool.or_eq_false_iff, decide_eq_false_iff_not, Bool.and_eq_false_iff] at h k
    have e : a = b := by
      apply UInt8.toNat_inj.1
      have h1 : ¬ a.toNat < b.toNat := fun q => h.1 (UInt8.lt_iff_toNat_lt.2 q)
      have h2 : ¬ b.toNat < a.toNat := fun q => k.1 (UInt8.lt_iff_toNat_lt.2 q)
      omega
    subst e
    have h3 : Op.bytesLess x y = false := by
      rcases h.2 with q | q
      · simp at q
      · exact q
    have k3 : Op.bytesLess y x = false := by
      rcases k.2 with q | q
      · simp at q
      · exact q
    rw [less_total x y h3 k3]
theorem less_ne {x y : List UInt8} (h : Op.bytesLess x y = true) : (x == y) = false ∧ (y == x) = false := by
  constructor
  · rw [beq_eq_false_iff_ne]; intro e; subst e; rw [less_irr] at h; cases h
  · rw [beq_eq_false_iff_ne]; intro e; subst e; rw [less_irr] at h; cases h
/-- values in order are so by their bytes -/
theorem cmp_pack (a b : Val) (fa : a.bits < 18446744073709551616) (fb : b.bits < 18446744073709551616) :
    Op.bytesLess a.pack.toList b.pack.toList = decide (cmp a b < 0) ∧ Op.bytesLess b.pack.toList a.pack.toList = decide (0 < cmp a b) := by
  unfold pack cmp
  cases hna : a.num <;> cases hnb : b.num
  · simp only [Bool.false_eq_true, if_false, ne_eq, not_true_eq_false]
    rw [toL, toL, one_list, one_list, less_cons, less_cons, ← toL, ← toL]
    cases h1 : Op.bytesLess a.txt.toList b.txt.toList with
    | true => rw [less_asym _ _ h1]; simp
    | false => cases h2 : Op.bytesLess b.txt.toList a.txt.toList <;> simp
  · simp only [Bool.false_eq_true, if_false, if_true, ne_eq]
    rw [toL, toL, one_list, one_list]
    constructor <;> rfl
  · simp only [Bool.false_eq_true, if_false, if_true, ne_eq]
    rw [toL, toL, one_list, one_list]
    constructor <;> rfl
  · simp only [if_true, ne_eq, not_true_eq_false, if_false]
    rw [toL, toL, one_list, one_list, less_cons, less_cons, ← toL, ← toL, key_less _ _ (place_lt _ fa) (place_lt _ fb), key_less _ _ (place_lt _ fb) (place_lt _ fa)]
    by_cases h1 : Fl.place a.bits < Fl.place b.bits
    · have h2 : ¬ Fl.place b.bits < Fl.place a.bits := by omega
      rw [if_pos h1, decide_eq_true h1, decide_eq_false h2]; constructor <;> rfl
    · by_cases h2 : Fl.place b.bits < Fl.place a.bits
      · rw [if_neg h1, if_pos h2, decide_eq_true h2, decide_eq_false h1]; constructor <;> rfl
      · rw [if_neg h1, if_neg h2, decide_eq_false h2, decide_eq_false h1]; constructor <;> rfl
theorem cmp_neg (a b : Val) : cmp b a = - cmp a b := by
  unfold cmp
  cases hna : a.num <;> cases hnb : b.num
  · simp only [Bool.false_eq_true, if_false, ne_eq, not_true_eq_false]
    cases h1 : Op.bytesLess a.txt.toList b.txt.toList with
    | true => rw [less_asym _ _ h1]; simp
    | false => cases h2 : Op.bytesLess b.txt.toList a.txt.toList <;> simp
  · simp
  · simp
  · simp only [if_true, ne_eq, not_true_eq_false, if_false]
    by_cases h1 : Fl.place a.bits < Fl.place b.bits
    · have h2 : ¬ Fl.place b.bits < Fl.place a.bits := by omega
      rw [if_pos h1, if_neg h2, if_pos h1]; rfl
    · by_cases h2 : Fl.place b.bits < Fl.place a.bits
      · rw [if_pos h2, if_neg h1, if_pos h2]
      · rw [if_neg h2, if_neg h1, if_neg h1, if_neg h2]; rfl
theorem cmp_range (a b : Val) : cmp a b = -1 ∨ cmp a b = 0 ∨ cmp a b = 1 := by
  unfold cmp
  repeat' split
  all_goals omega
end Val

end Go.Proofs.Ytoljhoabbaigdaa
