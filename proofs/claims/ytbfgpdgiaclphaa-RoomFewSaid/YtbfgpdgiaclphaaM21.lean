/- Proved parts: B3i B4f. Conditions: each theorem's own. -/
import Derived.Test.YtbfgpdgiaclphaaM19
import Derived.Test.YtbfgpdgiaclphaaM10
import Derived.Test.YtbfgpdgiaclphaaM20
import Derived.Deep.Slices
import Derived.Lib.SmallJoins
import Derived.Test.YtbfgpdgiaclphaaM2
import Derived.Test.YtbfgpdgiaclphaaM8
import Derived.Maps.AppendAt
namespace Go.Proofs.Ytbfgpdgiaclphaa
open Go.Joins Go.ChangeShapes Go.WideShapes Go.ChangeAt Go.RowKit

/-- an act as it came in: its writes in memory -/
structure AcM where
  a : Ac
  A : Option Addr
  c : Nat
def AcM.cs (y : AcM) : List Value := [.int .i64 y.a.kind, .slice y.A y.a.ws.length y.c, .int .u8 y.a.by_, .int .i64 y.a.seq, .string y.a.key]
def AcM.Z : AcM := ⟨⟨0, [], 0, 0, ⟨#[]⟩⟩, none, 0⟩
def AcM.Ok (W : World) (y : AcM) : Prop := SlWr W y.A y.a.ws ∧ InW y.a.ws ∧ y.a.ws.length ≤ maxLen ∧ (0 < y.a.ws.length → ∀ a, y.A = some a → a.block < W.heap.size) ∧ 0 ≤ y.a.by_ ∧ y.a.by_ ≤ 255 ∧ y.a.key.size ≤ maxLen
end Go.Proofs.Ytbfgpdgiaclphaa

namespace Go.Proofs.Ytbfgpdgiaclphaa.roomFew
open Go.Proofs.Ytbfgpdgiaclphaa Go.Joins Go.ChangeShapes Go.WideShapes Go.ChangeAt Go.RowKit Go.Deep

/-- what holds behind i rounds, in plain words -/
structure Fp (S i : Nat) (m : Rm) (x : Int) (ys : List Nat) (kp sn : Nat) : Prop where
  al : Along 0 i m x
  wrote : Wrote m ys
  size : m.r.size = S
  vers : m.L.vers ≤ kp + sn
  kpb : kp ≤ 16 * i
  snb : sn ≤ 16 * i
  wrb : ys.length ≤ i
  sumb : ys.sum ≤ 16 * i
namespace Fp
variable {S i kp sn : Nat} {m : Rm} {x y : Int} {ys : List Nat} {ws : List Wr}
theorem more (h : Fp S i m x ys kp sn) : Fp S (i + 1) m x ys kp sn :=
  ⟨h.al.more, h.wrote, h.size, h.vers, by have := h.kpb; omega, by have := h.snb; omega, by have := h.wrb; omega, by have := h.sumb; omega⟩
theorem com (h : Fp S i m x ys kp sn) (hf : FitsW ws) (e : m.comE ws y = 0) (y0 : 0 ≤ y) (y1 : y ≤ 256 * (i + 1)) : Fp S (i + 1) (m.com ws y) y (ys ++ [ws.length]) kp (sn + ws.length) := by
  have a := h.al.com hf y y0 y1
  obtain ⟨e1, _, _, _, e5, _⟩ := Rm.com_yes e
  have l := mayW_size e1
  have := h.kpb
  have := h.snb
  have := h.wrb
  have := h.sumb
  have := h.vers
  refine ⟨a, h.wrote.com e a.ok, ?_, ?_, by omega, by omega, ?_, ?_⟩
  · rw [e5]; show (m.r.push y).size = S; rw [Rg.push_size]; exact h.size
  · rw [e5]; show (m.L.withW ws ((m.r.seq : Int) + 1)).vers ≤ _; rw [vers_with]; omega
  · rw [List.length_append, List.length_singleton]; omega
  · rw [List.sum_append]; simp; omega
theorem no (h : Fp S i m x ys kp sn) (e : m.comE ws y ≠ 0) : Fp S (i + 1) (m.com ws y) x ys kp sn := by rw [(Rm.com_no e).1]; exact h.more
theorem sw (h : Fp S i m x ys kp sn) : Fp S (i + 1) m.sw x ys m.sw.L.vers 0 := by
  have a := h.al.sw
  have := h.wrb
  have := h.sumb
  exact ⟨a, h.wrote.sw, h.size, Nat.le_refl _, by have := a.vers; omega, Nat.zero_le _, by omega, by omega⟩
theorem ents (h : Fp S i m x ys kp sn) : m.sw.ents.length = m.ents.length := by
  have hs : Sim m.L (m.L.swept m.floor) m.floor := fun _ => ⟨m.floor, Int.le_refl _, Ch.of_swept h.al.ok.L.rise m.floor⟩
  show ((m.L.swept m.floor).ents m.seq).length = (m.L.ents m.seq).length
  rw [hs.ents h.al.ok.L (h.al.ok.L.swept m.floor) (Rm.floor_seq h.al.ok.r)]
theorem kept (h : Fp S i m x ys kp sn) : m.sw.L.vers ≤ m.sw.ents.length + 2 * (ys.drop (ys.length + 1 - S)).sum := by
  have := h.wrote.kept h.al.ok
  rw [h.ents, ← h.size]; exact this
end Fp
end Go.Proofs.Ytbfgpdgiaclphaa.roomFew
