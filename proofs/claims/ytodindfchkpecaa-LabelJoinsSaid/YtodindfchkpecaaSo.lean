/- slices.Sort at uint64, walked. -/
import Derived.Test.YtodindfchkpecaaPq
namespace Go.Proofs.Ytodindfchkpecaa
open Go.RowKit Go.Sort

set_option maxHeartbeats 1000000 in
set_option maxRecDepth 100000 in
/-- slices.Sort of fewer than 256 numbers -/
theorem osort (g cap : Nat) (Z : List Value) (N : Nat) (hsz : N < 256) (d : Array Int) (w : World) (h : Sw w w g Z d) (hN : d.size = N) :
    Calls Try.prog 36 #[.slice (some ⟨g, 0, none⟩) N cap] w (SortPost g Z 0 N d w) := by
  have H := Lib.hid h
  have b8 := (bitLen_small ⟨N, hsz⟩).1
  have O := Lib.hid (olen N hsz)
  simp only [] at b8
  generalize Lib.bitLen N = K at O b8
  clear h
  go_enter Try.func36, Try.ntmps36
  go_wp2_with fail
  refine (O.out _).mono ?_
  rintro e w1 ⟨rfl, rfl⟩
  go_wp2_with fail
  refine (opdq g cap Z N hsz (N + 1) d 0 N (K : Int) _ H.out hN (by omega) (Nat.zero_le _) (Nat.le_refl _) (.inl rfl) (by omega) (by omega)).mono ?_
  rintro e w2 ⟨rfl, d2, p2, s2, hw2⟩
  have F := Lib.hid (show SortPost g Z 0 N d w1 (.returned (.tuple #[])) w2 from ⟨rfl, d2, p2, s2, hw2⟩)
  clear p2 s2 hw2
  go_wp2_with fail
  refine bodyPost_ret (results_none rfl _ _ _) rfl ?_
  exact F.out

end Go.Proofs.Ytodindfchkpecaa
