/- Proved parts: A0m. Conditions: each theorem's own. -/
import Derived.Test.YtiiokmfnohifmaaGreatM13
import Derived.Test.YtiiokmfnohifmaaGreatM2
import Derived.Maps.AppendAt
namespace Go.Proofs.YtiiokmfnohifmaaGreat
open Go.RowKit

/-- a ring: its size, what it begins with, all its stamps -/
structure Rg where
  size : Nat
  beg : Nat
  l : List Int
namespace Rg
def seq (r : Rg) : Nat := r.beg + r.l.length
def last (r : Rg) : Int := if r.l.length = 0 then 0 else r.l.getD (r.l.length - 1) 0
def no (r : Rg) (x : Int) : Int := if x ≤ r.last then 1 else if 1073741824 ≤ r.seq then 17 else 0
def push (r : Rg) (x : Int) : Rg := if r.no x = 0 then ⟨r.size, r.beg, r.l ++ [x]⟩ else r
/-- how many stamps aren't above x -/
def upto (r : Rg) (x : Int) : Nat := r.l.countP fun y => decide (y ≤ x)
def old (r : Rg) (x : Int) : Bool := decide (r.size ≤ r.l.length - r.upto x)
def floor (r : Rg) : Nat := max (r.seq + 1 - r.size) r.beg
/-- stamps rise from 1 on; sizes and numbers within their limits -/
structure Ok (r : Rg) : Prop where
  s1 : 1 ≤ r.size
  s16 : r.size ≤ 16
  sq : r.seq ≤ 1073741824
  rise : ∀ i j, i < j → j < r.l.length → r.l.getD i 0 < r.l.getD j 0
  pos : ∀ i, i < r.l.length → 0 < r.l.getD i 0
def fits (s q : Int) : Bool := decide (1 ≤ s) && (decide (s ≤ 16) && (decide (0 ≤ q) && decide (q ≤ 1073741824)))
def new (s q : Int) : Rg := ⟨s.toNat, q.toNat, []⟩
theorem new_ok {s q : Int} (h : fits s q = true) : (new s q).Ok := by
  unfold fits at h
  simp only [Bool.and_eq_true, decide_eq_true_eq] at h
  refine ⟨by show 1 ≤ s.toNat; omega, by show s.toNat ≤ 16; omega, by show q.toNat + 0 ≤ _; omega, fun i j _ hj => (by cases hj), fun i hi => (by cases hi)⟩
end Rg

/-- blocks of its own: its struct, its row -/
def rfoot (p : Nat) (v : Value) : Nat → Prop := fun k => k = p ∨ v.ownBlock = some k
/-- the reference's ring -/
structure RefG (w : World) (p : Nat) (v : Value) (r : Rg) : Prop where
  row : RowAt w p [.int .i64 r.size, .int .i64 r.beg, v] 77
  own : Own w (p + 1) v r.l
theorem Own.lt {w : World} {B : Nat} {v : Value} {zs : List Int} (h : Own w B v zs) : ∀ k, v.ownBlock = some k → B ≤ k ∧ k < w.heap.size := World.ownsRow.lt h
theorem RefG.lt {w : World} {p : Nat} {v : Value} {r : Rg} (h : RefG w p v r) : ∀ k, rfoot p v k → k < w.heap.size := fun k e => by
  rcases e with rfl | e
  · exact h.row.lt
  · exact (h.own.lt k e).2
theorem RefG.keep {w w' : World} {p : Nat} {v : Value} {r : Rg} (h : RefG w p v r) (hk : ∀ k, rfoot p v k → w'.heap[k]? = w.heap[k]?) : RefG w' p v r := by
  refine ⟨(hk p (.inl rfl)).trans h.row, h.own.1, ?_⟩
  rcases h.own.2 with hn | ⟨g, cap, cur, rfl, hB, hg, q⟩
  · exact .inl hn
  · exact .inr ⟨g, cap, cur, rfl, hB, (hk g (.inr rfl)).trans hg, q⟩
theorem RefG.below {w w' : World} {p : Nat} {v : Value} {r : Rg} (h : RefG w p v r) (hb : Below w.heap.size w w') : RefG w' p v r := h.keep fun k e => hb.block k (h.lt k e)

end Go.Proofs.YtiiokmfnohifmaaGreat
