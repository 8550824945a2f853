/- slices.Clone at uint64, walked. -/
import Derived.Test.YtagodofcjnlnbaaLs
import Derived.Test.YtagodofcjnlnbaaOw
import Derived.Lib.SliceRun
namespace Go.Proofs.Ytagodofcjnlnbaa
open Go.RowKit

set_option maxHeartbeats 1000000 in
set_option maxRecDepth 100000 in
/-- slices.Clone of a row that isn't empty -/
theorem sclone (A : Option Addr) (c : Nat) (zs : List Int) (w : World) (h : Sl w A zs) (hp : 0 < zs.length) (hl : zs.length ≤ 1024) :
    Calls Try.prog 18 #[.slice A zs.length c] w fun e w' => ∃ v, e = .returned v ∧ Own w' w.heap.size v zs ∧ Below w.heap.size w w' := by
  obtain ⟨b, o, rfl, _, _⟩ := h.at_ hp
  have HA := Lib.hid h
  have OM := Lib.hid (Own.made w w.heap.size (Nat.le_refl _) [] (by simp))
  have BM := Lib.hid ((Below.refl w.heap.size w).alloc (Nat.le_refl _) (.cells (([] : List Int).map (Value.int .u64)).toArray 35))
  have RUN := fun w' : World => Lib.run_eql_slice_nil (P := Try.prog) w' 22 35 (some ⟨b, o, none⟩) zs.length c 0 0 Try.underlying22
  simp only [Option.isNone_some] at RUN
  clear h
  go_enter Try.func18, Try.ntmps18
  go_wp2_with (at_builtin; refine wp_putN rfl (.tmp 5) (.tmp 6) rfl w.heap.size _ [] rfl OM.out (some ⟨b, o, none⟩) c zs rfl (HA.out.alloc _) (fun e => by cases e) (by simp; omega) (by simp) ?_; intro v2 w2 hown2 hb2; have HO2 := Lib.hid hown2; have HB2 := Lib.hid (BM.out.trans hb2); clear hown2 hb2)
  go_ret
  exact ⟨v2, rfl, by simpa using HO2.out, HB2.out⟩

end Go.Proofs.Ytagodofcjnlnbaa
