/- Proved parts: B1v B1w B1x B1y B1e. Conditions: each theorem's own. -/
import Derived.Test.YtbfgpdgiaclphaaM12
import Derived.Test.YtbfgpdgiaclphaaM14
import Derived.Test.YtbfgpdgiaclphaaM16
import Derived.BigQuiet
import Derived.Test.YtbfgpdgiaclphaaM9
namespace Go.Proofs.Ytbfgpdgiaclphaa
open Go.RowKit

/-- the error of writes that have no room -/
def spcE (r : Rg) (L : Ch) (ws : List Wr) (quota most : Int) : Int := if most ≤ (r.seq : Int) then 17 else if quota < ((L.withW ws ((r.seq : Int) + 1)).live : Int) then 15 else 0
end Go.Proofs.Ytbfgpdgiaclphaa

namespace Go.Proofs.Ytbfgpdgiaclphaa
open Go.RowKit

section
variable {P : Program} {ops : Array Oper} {Q : Exit → Act → World → Prop} {md : Region.Mode} {S : World → Prop}
end

theorem prevW_succ (l : List Wr) (i : Nat) : prevW l (i + 1) = some (l.getD i Wr.Z).key := by
  unfold prevW
  rw [if_neg (by omega), Nat.add_sub_cancel]
theorem mayW_no {l : List Wr} {i : Nat} (hi : i < l.length) (h : wrOk (prevW l i) (l.getD i Wr.Z) = false) : mayW l = false := by
  cases q : mayW l with
  | false => rfl
  | true =>
    unfold mayW at q
    simp only [Bool.and_eq_true, List.all_eq_true, List.mem_range] at q
    have := q.2.2 i hi
    rw [h] at this; cases this
theorem mayW_yes {l : List Wr} (h1 : 1 ≤ l.length) (h2 : l.length ≤ 16) (h : ∀ j, j < l.length → wrOk (prevW l j) (l.getD j Wr.Z) = true) : mayW l = true := by
  unfold mayW
  simp only [Bool.and_eq_true, List.all_eq_true, List.mem_range, decide_eq_true_eq]
  exact ⟨h1, h2, h⟩
theorem mayW_len {l : List Wr} (h : ¬ (1 ≤ l.length ∧ l.length ≤ 16)) : mayW l = false := by
  cases q : mayW l with
  | false => rfl
  | true =>
    unfold mayW at q
    simp only [Bool.and_eq_true, decide_eq_true_eq] at q
    exact absurd ⟨q.1, q.2.1⟩ h
/-- writes whose texts and bits are some -/
def FitsW (l : List Wr) : Prop := ∀ x, x ∈ l → x.val.Fits ∧ x.key.size ≤ 1000000
theorem FitsW.get {l : List Wr} (h : FitsW l) {i : Nat} (hi : i < l.length) : (l.getD i Wr.Z).val.Fits ∧ (l.getD i Wr.Z).key.size ≤ 1000000 := by
  rw [List.getD_eq_getElem?_getD, List.getElem?_eq_getElem hi]
  exact h _ (List.getElem_mem hi)

end Go.Proofs.Ytbfgpdgiaclphaa

namespace Go.Proofs.Ytbfgpdgiaclphaa
open Go.RowKit

/-- has another one written the key since? -/
def since (L : Ch) (k : ByteArray) (s : Int) : Bool := decide (0 < (L.of k).length) && decide (s < (lastL (L.of k)).seq)
/-- the error of a check -/
def chkE (r : Rg) (L : Ch) (ws : List Wr) (s quota most : Int) : Int :=
  if mayW ws = false then 1 else if s < (r.floor : Int) ∨ (r.seq : Int) < s then 14 else if ws.any (fun x => since L x.key s) then 13 else spcE r L ws quota most
theorem GoodC.of {L : Ch} (h : GoodC L) (k : ByteArray) : (L.of k).length ≤ 1000 := by
  unfold Ch.of
  cases q : L.has k with
  | false => simp
  | true =>
    have := ((Ch.has_iff L k).1 q).1
    exact (h.get this).2.2.1

end Go.Proofs.Ytbfgpdgiaclphaa

namespace Go.Proofs.Ytbfgpdgiaclphaa
open Go.RowKit

def comE (r : Rg) (L : Ch) (ws : List Wr) (x quota most : Int) : Int := if mayW ws = false then 1 else if spcE r L ws quota most ≠ 0 then spcE r L ws quota most else r.no x
def comN (r : Rg) (L : Ch) (ws : List Wr) (x quota most : Int) : Int := if comE r L ws x quota most = 0 then (r.seq : Int) + 1 else 0
def comR (r : Rg) (L : Ch) (ws : List Wr) (x quota most : Int) : Rg := if comE r L ws x quota most = 0 then r.push x else r
def comL (r : Rg) (L : Ch) (ws : List Wr) (x quota most : Int) : Ch := if comE r L ws x quota most = 0 then L.withW ws ((r.seq : Int) + 1) else L
variable {w w' w2 w3 w4 : World} {p q : Nat} {v lb : Value} {g2 g3 : Int} {r r' : Rg} {G : Nat → Prop} {A : Option Addr} {c : Nat} {L M : Ch}
theorem SlWr.chg {F : Nat → Prop} {A : Option Addr} {l : List Wr} (h : SlWr w A l) (hc : Chg F w w') (hn : 0 < l.length → ∀ a, A = some a → ¬ F a.block) : SlWr w' A l := fun hp => by
  obtain ⟨b, o, e, hl, hd⟩ := h hp
  have hn := hn hp _ e
  refine ⟨b, o, e, Nat.lt_of_lt_of_le hl hc.size, fun j hj => ?_⟩
  obtain ⟨c0, c1, c2, c3, c4⟩ := hd j hj
  exact ⟨hc.cell c0 hn, hc.cell c1 hn, hc.cell c2 hn, hc.cell c3 hn, hc.cell c4 hn⟩

end Go.Proofs.Ytbfgpdgiaclphaa

namespace Go.Proofs.Ytbfgpdgiaclphaa
open Go.RowKit

/-- the same entry? -/
def En.same (x y : En) : Bool := (x.key.toList == y.key.toList) && ((x.seq == y.seq) && ((x.val.num == y.val.num) && ((x.val.txt.toList == y.val.txt.toList) && ((x.val.bits : Int) == (y.val.bits : Int)))))
/-- the slice at A reads as entries -/
def SlEn (w : World) (A : Option Addr) (l : List En) : Prop :=
  0 < l.length → ∃ b o, A = some ⟨b, o, none⟩ ∧ b < w.heap.size ∧ ∀ j, j < l.length →
    w.cell? ⟨b, o + j * 5, none⟩ = some (.string (l.getD j En.Z).key) ∧ w.cell? ⟨b, o + j * 5 + 1, none⟩ = some (.int .i64 (l.getD j En.Z).seq) ∧ w.cell? ⟨b, o + j * 5 + 2, none⟩ = some (.bool (l.getD j En.Z).val.num) ∧
    w.cell? ⟨b, o + j * 5 + 3, none⟩ = some (.string (l.getD j En.Z).val.txt) ∧ w.cell? ⟨b, o + j * 5 + 4, none⟩ = some (.int .u64 ((l.getD j En.Z).val.bits : Int))
theorem SlEn.at {w : World} {A : Option Addr} {l : List En} (h : SlEn w A l) {j : Nat} (hj : j < l.length) : ∃ b o, A = some ⟨b, o, none⟩ ∧ b < w.heap.size ∧
    w.cell? ⟨b, o + j * 5, none⟩ = some (.string (l.getD j En.Z).key) ∧ w.cell? ⟨b, o + j * 5 + 1, none⟩ = some (.int .i64 (l.getD j En.Z).seq) ∧ w.cell? ⟨b, o + j * 5 + 2, none⟩ = some (.bool (l.getD j En.Z).val.num) ∧
    w.cell? ⟨b, o + j * 5 + 3, none⟩ = some (.string (l.getD j En.Z).val.txt) ∧ w.cell? ⟨b, o + j * 5 + 4, none⟩ = some (.int .u64 ((l.getD j En.Z).val.bits : Int)) := by
  obtain ⟨b, o, e, hl, hc⟩ := h (by omega)
  exact ⟨b, o, e, hl, hc j hj⟩
theorem sw5 {w w' : World} {b o : Nat} {v0 v1 v2 v3 v4 : Value} (hb : Below w.heap.size w w') (h : w.cell? ⟨b, o, none⟩ = some v0 ∧ w.cell? ⟨b, o + 1, none⟩ = some v1 ∧ w.cell? ⟨b, o + 2, none⟩ = some v2 ∧ w.cell? ⟨b, o + 3, none⟩ = some v3 ∧ w.cell? ⟨b, o + 4, none⟩ = some v4) :
    w'.cell? ⟨b, o, none⟩ = some v0 ∧ w'.cell? ⟨b, o + 1, none⟩ = some v1 ∧ w'.cell? ⟨b, o + 2, none⟩ = some v2 ∧ w'.cell? ⟨b, o + 3, none⟩ = some v3 ∧ w'.cell? ⟨b, o + 4, none⟩ = some v4 := by
  have hl : b < w.heap.size := block_lt_of_cell h.1
  exact ⟨(hb.cell (p := ⟨b, o, none⟩) hl).trans h.1, (hb.cell (p := ⟨b, o + 1, none⟩) hl).trans h.2.1, (hb.cell (p := ⟨b, o + 2, none⟩) hl).trans h.2.2.1, (hb.cell (p := ⟨b, o + 3, none⟩) hl).trans h.2.2.2.1, (hb.cell (p := ⟨b, o + 4, none⟩) hl).trans h.2.2.2.2⟩
end Go.Proofs.Ytbfgpdgiaclphaa
