/- Proved parts: B1m D2m C9s C9r. Conditions: each theorem's own. -/
import Derived.Test.YtnbkekbgedioeaaM6
import Derived.Test.YtnbkekbgedioeaaM8
import Derived.Laws.AppendOwn
import Derived.Laws.MakeOwn
import Derived.Maps.AppendAt
namespace Go.Proofs.Ytnbkekbgedioeaa
open Go.RowKit

/-- keys, of each its chain -/
abbrev Ch := List (ByteArray × List Ver)
namespace Ch
def kv (L : Ch) : KV := L.map fun x => (x.1, 0)
def pos (L : Ch) (k : ByteArray) : Nat := (kv L).pos k
def has (L : Ch) (k : ByteArray) : Bool := (kv L).has k
def key (L : Ch) (i : Nat) : ByteArray := (L.getD i (⟨#[]⟩, [])).1
def chn (L : Ch) (i : Nat) : List Ver := (L.getD i (⟨#[]⟩, [])).2
def Rise (L : Ch) : Prop := L.Pairwise fun x y => ltB x.1 y.1 = true
theorem kv_len (L : Ch) : (kv L).length = L.length := by unfold kv; simp
theorem kv_key (L : Ch) {i : Nat} (h : i < L.length) : (kv L).key i = L.key i := by
  unfold kv KV.key key
  rw [List.getD_eq_getElem?_getD, List.getD_eq_getElem?_getD, List.getElem?_map, List.getElem?_eq_getElem h]; rfl
theorem getE (L : Ch) {i : Nat} (h : i < L.length) : L[i] = (L.key i, L.chn i) := by
  unfold key chn
  rw [List.getD_eq_getElem?_getD, List.getElem?_eq_getElem h]; rfl
theorem rise_at {L : Ch} (h : L.Rise) {i j : Nat} (hij : i < j) (hj : j < L.length) : ltB (L.key i) (L.key j) = true := by
  have := List.pairwise_iff_getElem.1 h i j (by omega) hj hij
  rw [getE L (by omega), getE L hj] at this
  exact this
theorem pos_le (L : Ch) (k : ByteArray) : L.pos k ≤ L.length := by have := KV.pos_le k (kv L); rw [kv_len] at this; exact this
theorem below {L : Ch} {k : ByteArray} {j : Nat} (h : j < L.pos k) : ltB (L.key j) k = true := by
  have := KV.pos_below k (kv L) j h
  rwa [kv_key L (by have := L.pos_le k; omega)] at this
theorem stop {L : Ch} {k : ByteArray} (h : L.pos k < L.length) : ltB (L.key (L.pos k)) k = false := by
  have := KV.pos_stop k (kv L) (by rw [kv_len]; exact h)
  change ltB ((kv L).key (L.pos k)) k = false at this
  rwa [kv_key L h] at this
theorem has_iff (L : Ch) (k : ByteArray) : L.has k = true ↔ L.pos k < L.length ∧ L.key (L.pos k) = k := by
  have := KV.has_iff (kv L) k
  rw [kv_len] at this
  constructor
  · intro h
    have q := this.1 h
    exact ⟨q.1, (kv_key L q.1).symm.trans q.2⟩
  · intro h
    exact this.2 ⟨h.1, by show (kv L).key (L.pos k) = k; rw [kv_key L h.1]; exact h.2⟩
theorem not_has {L : Ch} {k : ByteArray} (h : L.has k = false) (hp : L.pos k < L.length) : ltB k (L.key (L.pos k)) = true := by
  have s := stop hp
  cases q : ltB k (L.key (L.pos k)) with
  | true => rfl
  | false =>
    have := (has_iff L k).2 ⟨hp, ltB_total s q⟩
    rw [h] at this; cases this
theorem above {L : Ch} (h : L.Rise) {k : ByteArray} {j : Nat} (hj : L.pos k < j) (hl : j < L.length) : ltB k (L.key j) = true := by
  have r := rise_at h hj hl
  cases q : L.has k with
  | true =>
    have := ((has_iff L k).1 q).2
    rwa [this] at r
  | false => exact ltB_trans (not_has q (by omega)) r
def put (L : Ch) (k : ByteArray) (v : Ver) : Ch := if L.has k then L.set (L.pos k) (k, L.chn (L.pos k) ++ [v]) else L.take (L.pos k) ++ (k, [v]) :: L.drop (L.pos k)
/-- does key i live at s, and is it above k (or k)? -/
def hit (L : Ch) (k : ByteArray) (ab : Bool) (s : Int) (i : Nat) : Bool := atOk (L.chn i) s && (ltB k (L.key i) || (!ab && ((L.key i).toList == k.toList)))
/-- the first one: its place; how many there are, if there is none -/
def frm (L : Ch) (k : ByteArray) (ab : Bool) (s : Int) : Nat := ((List.range L.length).find? (L.hit k ab s)).getD L.length
end Ch
/-- a write -/
structure Wr where
  key : ByteArray
  gone : Bool
  val : Val
namespace Wr
def cs (x : Wr) : List Value := [.string x.key, .bool x.gone, .bool x.val.num, .string x.val.txt, .int .u64 (x.val.bits : Int)]
def v (x : Wr) : Value := .agg #[.string x.key, .bool x.gone, .bool x.val.num, .string x.val.txt, .int .u64 (x.val.bits : Int)]
def Z : Wr := ⟨⟨#[]⟩, false, Val.V0⟩
end Wr
/-- an entry -/
structure En where
  key : ByteArray
  seq : Int
  val : Val
namespace En
def cs (x : En) : List Value := [.string x.key, .int .i64 x.seq, .bool x.val.num, .string x.val.txt, .int .u64 (x.val.bits : Int)]
def v (x : En) : Value := .agg #[.string x.key, .int .i64 x.seq, .bool x.val.num, .string x.val.txt, .int .u64 (x.val.bits : Int)]
def Z : En := ⟨⟨#[]⟩, 0, Val.V0⟩
end En
def keyOk (k : ByteArray) : Bool := decide (1 ≤ k.size) && decide (k.size ≤ 32)
namespace Ch
end Ch

end Go.Proofs.Ytnbkekbgedioeaa

namespace Go.Proofs.Ytnbkekbgedioeaa
open Go.RowKit

/-- writes, by keys -/
abbrev Wl := List Wr
namespace Wl
def ch (L : Wl) : Ch := L.map fun x => (x.key, [])
def key (L : Wl) (i : Nat) : ByteArray := (L.getD i Wr.Z).key
def pos (L : Wl) (k : ByteArray) : Nat := L.ch.pos k
def has (L : Wl) (k : ByteArray) : Bool := L.ch.has k
/-- the place behind k -/
def aft (L : Wl) (k : ByteArray) : Nat := if L.has k then L.pos k + 1 else L.pos k
/-- the first place that isn't below k, or is above it -/
def frm (L : Wl) (k : ByteArray) (ab : Bool) : Nat := if ab then L.aft k else L.pos k
def Rise (L : Wl) : Prop := L.ch.Rise
def put (L : Wl) (x : Wr) : Wl := L.take (L.pos x.key) ++ x :: L.drop (L.aft x.key)
def may (x : Wr) : Bool := keyOk x.key && x.val.ok
/-- what comes of a write: its error, and the writes -/
def wE (L : Wl) (x : Wr) : Int := if may x then (if L.has x.key = false ∧ 16 ≤ L.length then 18 else 0) else 1
def wL (L : Wl) (x : Wr) : Wl := if wE L x = 0 then L.put x else L
def atV (L : Wl) (i : Nat) : Wr := if i < L.length then L.getD i Wr.Z else Wr.Z
/-- Get -/
def getV (L : Wl) (k : ByteArray) : Wr := if L.has k then L.getD (L.pos k) Wr.Z else Wr.Z
section
variable {L : Wl} {k : ByteArray} {i j : Nat}
theorem ch_len (L : Wl) : L.ch.length = L.length := by unfold ch; simp
theorem ch_key (L : Wl) (h : i < L.length) : L.ch.key i = L.key i := by
  unfold ch Ch.key key
  rw [List.getD_eq_getElem?_getD, List.getD_eq_getElem?_getD, List.getElem?_map, List.getElem?_eq_getElem h]; rfl
theorem get (h : i < L.length) : L[i] = L.getD i Wr.Z := by rw [List.getD_eq_getElem?_getD, List.getElem?_eq_getElem h]; rfl
theorem pos_le (L : Wl) (k : ByteArray) : L.pos k ≤ L.length := by have := L.ch.pos_le k; rw [ch_len] at this; exact this
theorem below (h : j < L.pos k) : ltB (L.key j) k = true := by
  rw [← ch_key L (by have := L.pos_le k; omega)]; exact Ch.below h
theorem stop (h : L.pos k < L.length) : ltB (L.key (L.pos k)) k = false := by
  have := Ch.stop (L := L.ch) (k := k) (by rw [ch_len]; exact h)
  rw [← ch_key L h]; exact this
theorem has_iff (L : Wl) (k : ByteArray) : L.has k = true ↔ L.pos k < L.length ∧ L.key (L.pos k) = k := by
  have := Ch.has_iff L.ch k
  rw [ch_len] at this
  constructor
  · intro h
    have q := this.1 h
    exact ⟨q.1, (ch_key L q.1).symm.trans q.2⟩
  · intro h
    exact this.2 ⟨h.1, (ch_key L h.1).trans h.2⟩
theorem not_has (h : L.has k = false) (hp : L.pos k < L.length) : ltB k (L.key (L.pos k)) = true := by
  rw [← ch_key L hp]; exact Ch.not_has h (by rw [ch_len]; exact hp)
theorem above (h : L.Rise) (hj : L.pos k < j) (hl : j < L.length) : ltB k (L.key j) = true := by
  rw [← ch_key L hl]; exact Ch.above h hj (by rw [ch_len]; exact hl)
theorem rise_at (h : L.Rise) (hij : i < j) (hj : j < L.length) : ltB (L.key i) (L.key j) = true := by
  have := Ch.rise_at h hij (by rw [ch_len]; exact hj)
  rwa [ch_key L (by omega), ch_key L hj] at this
theorem aft_le (L : Wl) (k : ByteArray) : L.aft k ≤ L.length := by
  unfold aft
  split
  · rename_i h; have := ((has_iff L k).1 h).1; omega
  · exact pos_le L k
theorem pos_aft (L : Wl) (k : ByteArray) : L.pos k ≤ L.aft k := by unfold aft; split <;> omega
theorem frm_le (L : Wl) (k : ByteArray) (ab : Bool) : L.frm k ab ≤ L.length := by
  unfold frm
  split
  · exact aft_le L k
  · exact pos_le L k
/-- is k above it, or the same? -/
theorem le_of (h : L.Rise) (hl : j < L.length) : (ltB k (L.key j) = true ↔ L.aft k ≤ j) ∧ ((L.key j).toList = k.toList ↔ (L.has k = true ∧ j = L.pos k)) ∧ (ltB (L.key j) k = true ↔ j < L.pos k) := by
  have irr := ltB_irr k
  rcases Nat.lt_trichotomy j (L.pos k) with q | q | q
  · have b := below q
    have p := pos_aft L k
    refine ⟨⟨fun a => ?_, fun a => by omega⟩, ⟨fun e => ?_, fun a => by omega⟩, ⟨fun _ => q, fun _ => b⟩⟩
    · rw [ltB_asym b] at a; cases a
    · rw [toList_inj e, irr] at b; cases b
  · subst q
    have s := stop hl
    cases hh : L.has k with
    | true =>
      have e := ((has_iff L k).1 hh).2
      unfold aft
      rw [hh, if_pos rfl, e, irr]
      exact ⟨⟨fun a => by simp at a, fun a => by omega⟩, ⟨fun _ => ⟨rfl, rfl⟩, fun _ => rfl⟩, ⟨fun a => by simp at a, fun a => by omega⟩⟩
    | false =>
      have n := not_has hh hl
      unfold aft
      rw [hh, if_neg (by simp), n, s]
      refine ⟨⟨fun _ => Nat.le_refl _, fun _ => rfl⟩, ⟨fun e => ?_, fun a => by simp at a⟩, ⟨fun a => by simp at a, fun a => by omega⟩⟩
      rw [toList_inj e, irr] at n; cases n
  · have a := above h q hl
    have p : L.aft k ≤ j := by unfold aft; split <;> omega
    refine ⟨⟨fun _ => p, fun _ => a⟩, ⟨fun e => ?_, fun b => by omega⟩, ⟨fun b => ?_, fun b => by omega⟩⟩
    · rw [toList_inj e, irr] at a; cases a
    · rw [ltB_asym a] at b; cases b
/-- where From stops -/
theorem frm_at (h : L.Rise) (hl : j < L.length) (ab : Bool) : (ltB k (L.key j) || (!ab && ((L.key j).toList == k.toList))) = decide (L.frm k ab ≤ j) := by
  obtain ⟨h1, h2, h3⟩ := le_of (k := k) h hl
  unfold frm
  cases ab with
  | true =>
    rw [if_pos rfl]
    simp only [Bool.not_true, Bool.false_and, Bool.or_false]
    cases q : ltB k (L.key j) with
    | true => rw [decide_eq_true (h1.1 q)]
    | false => rw [decide_eq_false (fun a => by rw [h1.2 a] at q; cases q)]
  | false =>
    rw [if_neg (by simp)]
    simp only [Bool.not_false, Bool.true_and]
    by_cases q : L.pos k ≤ j
    · rw [decide_eq_true q]
      by_cases e : L.aft k ≤ j
      · rw [h1.2 e]; rfl
      · have hh : L.has k = true := by
          cases z : L.has k with
          | true => rfl
          | false => unfold aft at e; rw [z, if_neg (by simp)] at e; omega
        have : j = L.pos k := by unfold aft at e; rw [hh, if_pos rfl] at e; omega
        rw [h2.2 ⟨hh, this⟩, beq_self_eq_true, Bool.or_true]
    · rw [decide_eq_false q]
      have b := h3.2 (by omega)
      rw [ltB_asym b, Bool.false_or, beq_eq_false_iff_ne]
      intro e
      have := h2.1 e
      omega
/-- the loop of Write: what is out behind i rounds -/
def mid (L : Wl) (x : Wr) (i : Nat) : Wl := if i ≤ L.pos x.key then L.take i else L.take (L.pos x.key) ++ x :: (L.take i).drop (L.aft x.key)
def isPut (L : Wl) (x : Wr) (i : Nat) : Bool := decide (L.pos x.key < i)
theorem mid_zero (L : Wl) (x : Wr) : L.mid x 0 = [] := by unfold mid; rw [if_pos (Nat.zero_le _)]; rfl
theorem isPut_zero (L : Wl) (x : Wr) : L.isPut x 0 = false := by unfold isPut; exact decide_eq_false (by omega)
theorem take_one (L : Wl) {i : Nat} (hi : i < L.length) : L.take (i + 1) = L.take i ++ [L.getD i Wr.Z] := by
  rw [List.take_succ_eq_append_getElem hi, get hi]
/-- a round: is the write laid ahead, is the one there laid behind it? -/
theorem mid_succ (h : L.Rise) (x : Wr) (hi : i < L.length) :
    (!(L.isPut x i) && (ltB x.key (L.key i) || (x.key.toList == (L.key i).toList))) = decide (i = L.pos x.key) ∧ L.isPut x (i + 1) = (L.isPut x i || decide (i = L.pos x.key)) ∧
    L.mid x (i + 1) = (L.mid x i ++ if i = L.pos x.key then [x] else []) ++ (if (L.key i).toList = x.key.toList then [] else [L.getD i Wr.Z]) := by
  obtain ⟨h1, h2, h3⟩ := le_of (k := x.key) h hi
  have ha := aft_le L x.key
  have hpa := pos_aft L x.key
  refine ⟨?_, ?_, ?_⟩
  · unfold isPut
    rcases Nat.lt_trichotomy i (L.pos x.key) with q | q | q
    · rw [decide_eq_false (show ¬ L.pos x.key < i by omega), decide_eq_false (show ¬ i = L.pos x.key by omega), ltB_asym (h3.2 q)]
      simp only [Bool.not_false, Bool.true_and, Bool.false_or, beq_eq_false_iff_ne]
      intro e
      have := h2.1 e.symm
      omega
    · rw [decide_eq_false (show ¬ L.pos x.key < i by omega), decide_eq_true q]
      simp only [Bool.not_false, Bool.true_and]
      cases hh : L.has x.key with
      | true => rw [h2.2 ⟨hh, q⟩, beq_self_eq_true, Bool.or_true]
      | false => rw [h1.2 (by unfold aft; rw [hh, if_neg (by simp)]; omega)]; rfl
    · rw [decide_eq_true (show L.pos x.key < i by omega), decide_eq_false (show ¬ i = L.pos x.key by omega)]; rfl
  · unfold isPut
    rcases Nat.lt_trichotomy i (L.pos x.key) with q | q | q
    · rw [decide_eq_false (by omega), decide_eq_false (by omega), decide_eq_false (by omega)]; rfl
    · rw [decide_eq_true (by omega), decide_eq_true q, Bool.or_true]
    · rw [decide_eq_true (by omega), decide_eq_true q]; rfl
  · unfold mid
    rcases Nat.lt_trichotomy i (L.pos x.key) with q | q | q
    · rw [if_pos (by omega), if_pos (by omega), if_neg (by omega), if_neg (fun e => by have := h2.1 e; omega), List.append_nil, take_one L hi]
    · rw [if_neg (by omega), if_pos (by omega), if_pos q]
      cases hh : L.has x.key with
      | true =>
        have ea : L.aft x.key = i + 1 := by unfold aft; rw [hh, if_pos rfl]; omega
        rw [if_pos (h2.2 ⟨hh, q⟩), ea, List.drop_eq_nil_of_le (by rw [List.length_take]; omega), List.append_nil, q]
      | false =>
        have ea : L.aft x.key = i := by unfold aft; rw [hh, if_neg (by simp)]; omega
        rw [if_neg (fun e => by have := (h2.1 e).1; rw [hh] at this; cases this), ea, take_one L hi, List.drop_left' (by rw [List.length_take]; omega), ← q, List.append_assoc]; rfl
    · have : L.aft x.key ≤ i := by unfold aft; split <;> omega
      rw [if_neg (by omega), if_neg (by omega), if_neg (by omega), if_neg (fun e => by have := h2.1 e; omega), List.append_nil, take_one L hi, List.drop_append_of_le_length (by rw [List.length_take]; omega), List.append_assoc]; rfl
/-- at the end -/
theorem mid_end (L : Wl) (x : Wr) : L.put x = L.mid x L.length ++ (if L.isPut x L.length then [] else [x]) := by
  unfold put mid isPut
  have := pos_le L x.key
  have ha := aft_le L x.key
  have hpa := pos_aft L x.key
  by_cases q : L.pos x.key < L.length
  · rw [if_neg (by omega), decide_eq_true q, if_pos rfl, List.take_length, List.append_nil]
  · rw [if_pos (by omega), decide_eq_false q, if_neg (by simp), List.take_length, List.take_of_length_le (by omega), List.drop_eq_nil_of_le (by omega)]
theorem put_len (L : Wl) (x : Wr) : (L.put x).length = if L.has x.key then L.length else L.length + 1 := by
  unfold put aft
  have := pos_le L x.key
  cases hh : L.has x.key with
  | true =>
    have := ((has_iff L x.key).1 hh).1
    simp; omega
  | false => simp; omega
/-- what may be refused for its number -/
theorem put_big (hl : L.length ≤ 16) (x : Wr) : 16 < (L.put x).length ↔ (L.has x.key = false ∧ 16 ≤ L.length) := by
  rw [put_len]
  cases L.has x.key <;> simp <;> omega
theorem put_set {x : Wr} (h : L.has x.key = true) : L.put x = L.set (L.pos x.key) x := by
  have hp := ((has_iff L x.key).1 h).1
  unfold put aft
  rw [h, if_pos rfl]
  exact (List.set_eq_take_append_cons_drop (l := L) (i := L.pos x.key) (a := x)).symm ▸ by rw [if_pos hp]
theorem put_ins {x : Wr} (h : L.has x.key = false) : L.put x = L.take (L.pos x.key) ++ x :: L.drop (L.pos x.key) := by
  unfold put aft
  rw [h, if_neg (by simp)]
end
end Wl

end Go.Proofs.Ytnbkekbgedioeaa

namespace Go.Proofs.Ytnbkekbgedioeaa
open Go.RowKit

def vcs (l : List Ver) : List Value := l.flatMap Ver.cs
theorem vcs_len (l : List Ver) : (vcs l).length = l.length * 5 := flat_len (f := Ver.cs) (n := 5) (fun _ => rfl) l
/-- the slice at A reads as the versions l -/
def SlV (w : World) (A : Option Addr) (l : List Ver) : Prop :=
  0 < l.length → ∃ b o, A = some ⟨b, o, none⟩ ∧ b < w.heap.size ∧ ∀ j, j < l.length →
    w.cell? ⟨b, o + j * 5, none⟩ = some (.int .i64 (l.getD j Ver.Z).seq) ∧ w.cell? ⟨b, o + j * 5 + 1, none⟩ = some (.bool (l.getD j Ver.Z).gone) ∧ w.cell? ⟨b, o + j * 5 + 2, none⟩ = some (.bool (l.getD j Ver.Z).val.num) ∧
    w.cell? ⟨b, o + j * 5 + 3, none⟩ = some (.string (l.getD j Ver.Z).val.txt) ∧ w.cell? ⟨b, o + j * 5 + 4, none⟩ = some (.int .u64 ((l.getD j Ver.Z).val.bits : Int))
theorem SlV.below {w w' : World} {A : Option Addr} {l : List Ver} (h : SlV w A l) (hb : Below w.heap.size w w') : SlV w' A l := fun hp => by
  obtain ⟨b, o, e, hl, hc⟩ := h hp
  refine ⟨b, o, e, Nat.lt_of_lt_of_le hl hb.size, fun j hj => ?_⟩
  obtain ⟨c0, c1, c2, c3, c4⟩ := hc j hj
  exact ⟨(hb.cell (p := ⟨b, o + j * 5, none⟩) hl).trans c0, (hb.cell (p := ⟨b, o + j * 5 + 1, none⟩) hl).trans c1, (hb.cell (p := ⟨b, o + j * 5 + 2, none⟩) hl).trans c2, (hb.cell (p := ⟨b, o + j * 5 + 3, none⟩) hl).trans c3, (hb.cell (p := ⟨b, o + j * 5 + 4, none⟩) hl).trans c4⟩
theorem SlV.nil (w : World) (A : Option Addr) : SlV w A [] := fun h => absurd h (by simp)
/-- one of them at hand -/
theorem SlV.at {w : World} {A : Option Addr} {l : List Ver} (h : SlV w A l) {j : Nat} (hj : j < l.length) : ∃ b o, A = some ⟨b, o, none⟩ ∧ b < w.heap.size ∧
    w.cell? ⟨b, o + j * 5, none⟩ = some (.int .i64 (l.getD j Ver.Z).seq) ∧ w.cell? ⟨b, o + j * 5 + 1, none⟩ = some (.bool (l.getD j Ver.Z).gone) ∧ w.cell? ⟨b, o + j * 5 + 2, none⟩ = some (.bool (l.getD j Ver.Z).val.num) ∧
    w.cell? ⟨b, o + j * 5 + 3, none⟩ = some (.string (l.getD j Ver.Z).val.txt) ∧ w.cell? ⟨b, o + j * 5 + 4, none⟩ = some (.int .u64 ((l.getD j Ver.Z).val.bits : Int)) := by
  obtain ⟨b, o, e, hl, hc⟩ := h (by omega)
  exact ⟨b, o, e, hl, hc j hj⟩
/-- the rest from place k on -/
theorem SlV.drop {w : World} {b o : Nat} {l : List Ver} (h : SlV w (some ⟨b, o, none⟩) l) (k : Nat) : SlV w (some ⟨b, o + k * 5, none⟩) (l.drop k) := fun hp => by
  rw [List.length_drop] at hp
  obtain ⟨b', o', e, hl, hc⟩ := h (by omega)
  injection e with e
  injection e with e1 e2 _
  subst e1; subst e2
  refine ⟨b, o + k * 5, rfl, hl, fun j hj => ?_⟩
  rw [List.length_drop] at hj
  have := hc (k + j) (by omega)
  rw [getD_drop, show o + k * 5 + j * 5 = o + (k + j) * 5 by omega]
  exact this
section
variable {w w' : World} {B : Nat} {v : Value} {l : List Ver}
end
end Go.Proofs.Ytnbkekbgedioeaa

namespace Go.Proofs.Ytnbkekbgedioeaa
open Go.RowKit

/-- texts and bits that are some -/
def FitsL (l : List Ver) : Prop := ∀ x, x ∈ l → x.val.Fits
theorem FitsL.get {l : List Ver} (h : FitsL l) {i : Nat} (hi : i < l.length) : (l.getD i Ver.Z).val.Fits := by
  rw [List.getD_eq_getElem?_getD, List.getElem?_eq_getElem hi]
  exact h _ (List.getElem_mem hi)
end Go.Proofs.Ytnbkekbgedioeaa
