/- What every row of layer 2 needs: a slice of uint64 that came in, opened; the row's last step. -/
import Derived.Test.YtoljhoabbaigdaaRows
import Derived.WalkKit
import Derived.ProofKit
import Derived.OpenShut
import Derived.ShutString
import Derived.Carry
import Derived.ChangeSlices
import Derived.Test.YtoljhoabbaigdaaSl
import Derived.Test.YtoljhoabbaigdaaLa
namespace Go.Proofs.Ytoljhoabbaigdaa
open Go.ChangeShapes Go.WideShapes Go.ChangeAt Go.RowKit

theorem own : ownKnob Try.prog.godebug = none := by kernel_rfl
theorem laidOut : laidOutB Try.prog = true := by kernel_rfl
theorem cellsU : Try.prog.cellsOf 26 = 1 := by kernel_rfl

set_option maxRecDepth 100000 in
/-- a slice of uint64 that came in -/
theorem open_u64s {H : Type} {enc : TypeId × Value → H} {W : World} {base : Nat} {v : Value} {d : DataW H} {ps : List MemPlace} (hval : Value.okWide Try.prog W .any base 22 v)
    (h : DataW.Trod enc Try.prog W 0 (fun _ => true) true 22 v d ps) (hlt : ∀ x ∈ ps, x.block < W.heap.size) :
    ∃ A c zs, v = .slice A zs.length c ∧ Sl W A zs ∧ (A = none → zs = [] ∧ c = 0) ∧ La.U64 zs ∧ zs.length ≤ maxLen := by
  obtain ⟨a0, len, cap, rfl⟩ := okWide_slice Try.underlying22 hval
  obtain ⟨fuel, hf⟩ := h
  rcases open_ints Try.underlying22 Try.underlying26 cellsU hf with ⟨hcs, hx⟩ | ⟨a, len', cap', zs, hcs, _, hl, hm, hz, hx, hcell, hwz⟩
  · simp [Value.cells] at hcs
    obtain ⟨rfl, rfl, rfl⟩ := hcs
    exact ⟨none, 0, [], rfl, Sl.nil _ _, fun _ => ⟨rfl, rfl⟩, La.U64.nil, Nat.zero_le _⟩
  · simp [Value.cells] at hcs
    obtain ⟨rfl, rfl, rfl⟩ := hcs
    simp only [Prod.mk.injEq] at hx
    obtain ⟨_, hps⟩ := hx
    simp only [if_true] at hz
    have hl2 : (zs.take len).length = len := by rw [List.length_take]; omega
    refine ⟨some a, cap, zs.take len, by rw [hl2], fun hp => ?_, (fun e => by cases e), fun n hn => ?_, by rw [hl2]; omega⟩
    · rw [hl2] at hp
      obtain ⟨b, off, spot⟩ := a
      have hspot : spot = none := by simpa [Addr.add] using World.cell?_spot (hcell 0 (by omega))
      subst hspot
      refine ⟨b, off, rfl, hlt (.cell b off) (by rw [hps]; exact MemPlace.mem_row.2 ⟨0, by omega, by simp⟩), fun j hj => ?_⟩
      rw [hl2] at hj
      have h1 := hcell j (by omega)
      rw [add_plain] at h1
      rw [h1]
      simp only [List.getD]
      rw [List.getElem?_take, if_pos hj]
    · have := bounds_u64 (hwz n (List.mem_of_mem_take hn))
      omega

end Go.Proofs.Ytoljhoabbaigdaa
