/- Proved parts: B1w B1y B1e. Conditions: each theorem's own. -/
import Derived.Test.YtnbkekbgedioeaaM9
import Derived.Test.YtnbkekbgedioeaaM6
import Derived.Test.YtnbkekbgedioeaaM12
import Derived.Test.YtnbkekbgedioeaaM26
import Derived.BigQuiet
namespace Go.Proofs.Ytnbkekbgedioeaa
open Go.RowKit

section
variable {P : Program} {ops : Array Oper} {Q : Exit → Act → World → Prop} {md : Region.Mode} {S : World → Prop}
end

set_option maxRecDepth 100000 in
set_option maxHeartbeats 400000 in
/-- Key -/
theorem rKey1 (k : ByteArray) (w : World) (hk : k.size ≤ 1000000) : Calls Try.prog 33 #[.string k] w fun e w' => e = .returned (.bool (keyOk k)) ∧ w' = w := by
  obtain ⟨n, hn⟩ : ∃ n, n = k.size := ⟨_, rfl⟩
  obtain ⟨T, hT⟩ : ∃ T, T = keyOk k := ⟨_, rfl⟩
  have e : T = (decide (1 ≤ n) && decide (n ≤ 32)) := by rw [hT, hn]; rfl
  rw [← hT]
  have HN := Lib.hid hn.symm
  by_cases z1 : 1 ≤ n
  · by_cases z2 : n ≤ 32
    · rw [decide_eq_true z1, decide_eq_true z2] at e
      change T = true at e
      subst e
      rw [hn] at z1 z2
      clear hn hT
      go_enter Try.func33, Try.ntmps33
      go_wp2_with fail
      go_ret
      exact ⟨by show Ending.returned (Value.bool (decide ((k.size : Int) ≤ 32))) = _; rw [decide_eq_true (by omega)], rfl⟩
    · rw [decide_eq_true z1, decide_eq_false z2] at e
      change T = false at e
      subst e
      rw [hn] at z1 z2
      clear hn hT
      go_enter Try.func33, Try.ntmps33
      go_wp2_with fail
      go_ret
      exact ⟨by show Ending.returned (Value.bool (decide ((k.size : Int) ≤ 32))) = _; rw [decide_eq_false (by omega)], rfl⟩
  · rw [decide_eq_false z1] at e
    change T = false at e
    subst e
    rw [hn] at z1
    clear hn hT
    go_enter Try.func33, Try.ntmps33
    go_wp2_with fail
    go_ret
    exact ⟨rfl, rfl⟩

/-- writes whose texts and bits are some -/
def FitsW (l : List Wr) : Prop := ∀ x, x ∈ l → x.val.Fits ∧ x.key.size ≤ 1000000
theorem FitsW.get {l : List Wr} (h : FitsW l) {i : Nat} (hi : i < l.length) : (l.getD i Wr.Z).val.Fits ∧ (l.getD i Wr.Z).key.size ≤ 1000000 := by
  rw [List.getD_eq_getElem?_getD, List.getElem?_eq_getElem hi]
  exact h _ (List.getElem_mem hi)

end Go.Proofs.Ytnbkekbgedioeaa

namespace Go.Proofs.Ytnbkekbgedioeaa
open Go.RowKit

variable {w w' w2 w3 w4 : World} {p q : Nat} {v lb : Value} {g2 g3 : Int} {r r' : Rg} {G : Nat → Prop} {A : Option Addr} {c : Nat} {L M : Ch}
theorem SlWr.chg {F : Nat → Prop} {A : Option Addr} {l : List Wr} (h : SlWr w A l) (hc : Chg F w w') (hn : 0 < l.length → ∀ a, A = some a → ¬ F a.block) : SlWr w' A l := fun hp => by
  obtain ⟨b, o, e, hl, hd⟩ := h hp
  have hn := hn hp _ e
  refine ⟨b, o, e, Nat.lt_of_lt_of_le hl hc.size, fun j hj => ?_⟩
  obtain ⟨c0, c1, c2, c3, c4⟩ := hd j hj
  exact ⟨hc.cell c0 hn, hc.cell c1 hn, hc.cell c2 hn, hc.cell c3 hn, hc.cell c4 hn⟩

end Go.Proofs.Ytnbkekbgedioeaa

namespace Go.Proofs.Ytnbkekbgedioeaa
open Go.RowKit

/-- the slice at A reads as entries -/
def SlEn (w : World) (A : Option Addr) (l : List En) : Prop :=
  0 < l.length → ∃ b o, A = some ⟨b, o, none⟩ ∧ b < w.heap.size ∧ ∀ j, j < l.length →
    w.cell? ⟨b, o + j * 5, none⟩ = some (.string (l.getD j En.Z).key) ∧ w.cell? ⟨b, o + j * 5 + 1, none⟩ = some (.int .i64 (l.getD j En.Z).seq) ∧ w.cell? ⟨b, o + j * 5 + 2, none⟩ = some (.bool (l.getD j En.Z).val.num) ∧
    w.cell? ⟨b, o + j * 5 + 3, none⟩ = some (.string (l.getD j En.Z).val.txt) ∧ w.cell? ⟨b, o + j * 5 + 4, none⟩ = some (.int .u64 ((l.getD j En.Z).val.bits : Int))
theorem SlEn.at {w : World} {A : Option Addr} {l : List En} (h : SlEn w A l) {j : Nat} (hj : j < l.length) : ∃ b o, A = some ⟨b, o, none⟩ ∧ b < w.heap.size ∧
    w.cell? ⟨b, o + j * 5, none⟩ = some (.string (l.getD j En.Z).key) ∧ w.cell? ⟨b, o + j * 5 + 1, none⟩ = some (.int .i64 (l.getD j En.Z).seq) ∧ w.cell? ⟨b, o + j * 5 + 2, none⟩ = some (.bool (l.getD j En.Z).val.num) ∧
    w.cell? ⟨b, o + j * 5 + 3, none⟩ = some (.string (l.getD j En.Z).val.txt) ∧ w.cell? ⟨b, o + j * 5 + 4, none⟩ = some (.int .u64 ((l.getD j En.Z).val.bits : Int)) := by
  obtain ⟨b, o, e, hl, hc⟩ := h (by omega)
  exact ⟨b, o, e, hl, hc j hj⟩
end Go.Proofs.Ytnbkekbgedioeaa
