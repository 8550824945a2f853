/- Proved parts: A0m. Conditions: each theorem's own. -/
import Derived.Test.YtnbkekbgedioeaaM25
import Derived.Test.YtnbkekbgedioeaaM2
import Derived.Maps.AppendAt
namespace Go.Proofs.Ytnbkekbgedioeaa
open Go.RowKit

/-- a ring: its size, what it begins with, all its stamps -/
structure Rg where
  size : Nat
  beg : Nat
  l : List Int
namespace Rg
def seq (r : Rg) : Nat := r.beg + r.l.length
def last (r : Rg) : Int := if r.l.length = 0 then 0 else r.l.getD (r.l.length - 1) 0
def no (r : Rg) (x : Int) : Int := if x ≤ r.last then 1 else if 1073741824 ≤ r.seq then 17 else 0
def push (r : Rg) (x : Int) : Rg := if r.no x = 0 then ⟨r.size, r.beg, r.l ++ [x]⟩ else r
/-- stamps rise from 1 on; sizes and numbers within their limits -/
structure Ok (r : Rg) : Prop where
  s1 : 1 ≤ r.size
  s16 : r.size ≤ 16
  sq : r.seq ≤ 1073741824
  rise : ∀ i j, i < j → j < r.l.length → r.l.getD i 0 < r.l.getD j 0
  pos : ∀ i, i < r.l.length → 0 < r.l.getD i 0
def fits (s q : Int) : Bool := decide (1 ≤ s) && (decide (s ≤ 16) && (decide (0 ≤ q) && decide (q ≤ 1073741824)))
def new (s q : Int) : Rg := ⟨s.toNat, q.toNat, []⟩
end Rg

theorem Own.lt {w : World} {B : Nat} {v : Value} {zs : List Int} (h : Own w B v zs) : ∀ k, v.ownBlock = some k → B ≤ k ∧ k < w.heap.size := World.ownsRow.lt h
end Go.Proofs.Ytnbkekbgedioeaa
