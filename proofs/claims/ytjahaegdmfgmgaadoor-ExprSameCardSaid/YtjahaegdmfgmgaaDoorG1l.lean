/- The laws of layer 14: what they share; awake. -/
import Derived.Test.YtjahaegdmfgmgaaDoorG1u
import Derived.Test.YtjahaegdmfgmgaaDoorG1q
import Derived.Test.YtjahaegdmfgmgaaDoorG1i
namespace Go.Proofs.YtjahaegdmfgmgaaDoor
open Go.RowKit Ex Fl

def ccs (l : List Cd) : List Value := l.flatMap Cd.cs
theorem slC_new (w : World) (p : List Cd) (t : TypeId) : SlC (w.alloc (.cells (ccs p).toArray t)) (some ⟨w.heap.size, 0, none⟩) p := fun hp => by
  have r := RowAt.new w (ccs p) t
  refine ⟨w.heap.size, 0, rfl, r.lt, fun j hj => ?_⟩
  have e : p.getD j Cd.Z = p[j] := by rw [List.getD_eq_getElem?_getD, List.getElem?_eq_getElem hj]; rfl
  have f0 := flat_at (f := Cd.cs) (n := 2) (fun _ => rfl) p j 0 hj (by decide)
  have f1 := flat_at (f := Cd.cs) (n := 2) (fun _ => rfl) p j 1 hj (by decide)
  rw [Nat.zero_add, e]
  exact ⟨(r.cell (j * 2)).trans f0, (r.cell (j * 2 + 1)).trans f1⟩
/-- math.Inf(1) -/
theorem minf (w : World) : Calls Tryd.prog 20 #[.int .i64 1] w fun e w' => e = .returned (.float .f64 9218868437227405312) ∧ w = w' := by
  go_enter Tryd.func20, Tryd.ntmps20
  go_wp2
  go_ret
  exact ⟨rfl, rfl⟩
theorem awk1 : runV [⟨1, 0⟩, ⟨2, 4611686018427387904⟩, ⟨5, 0⟩] 4626604192193052672 = (4631107791820423168, 0) := by decide +kernel
theorem awk2 : runV [⟨1, 0⟩, ⟨15, 0⟩] 9218868437227405312 = (0, 20) := by decide +kernel
theorem fit_small {b : Nat} (h : b ≤ 9218868437227405312) : Fits b := Fits.mk (by omega)

set_option maxRecDepth 100000 in
/-- awake -/
theorem awake14 (w : World) (ht : TabH w) : Calls Tryd.prog 7 #[] w fun e w' => e = .returned (.bool true) ∧ Below w.heap.size w w' := by
  have e42 : (FloatKind.f64.format.order 4631107791820423168 4631107791820423168 == some Ordering.eq) = true := by decide +kernel
  have b1 := (Below.refl w.heap.size w).alloc (Nat.le_refl _) (.cells (ccs [⟨1, 0⟩, ⟨2, 4611686018427387904⟩, ⟨5, 0⟩]).toArray 42)
  have R1 := Lib.hid (xRun [⟨1, 0⟩, ⟨2, 4611686018427387904⟩, ⟨5, 0⟩] 4626604192193052672 _ 3 _ (slC_new w [⟨1, 0⟩, ⟨2, 4611686018427387904⟩, ⟨5, 0⟩] 42) (fun c hc => by simp at hc; rcases hc with rfl | rfl | rfl <;> exact fit_small (by decide)) (by decide) (fit_small (by decide)) (ht.bel b1))
  rw [awk1] at R1
  have R2 := Lib.hid (fun W (hb : Below w.heap.size w W) => xRun [⟨1, 0⟩, ⟨15, 0⟩] 9218868437227405312 _ 2 _ (slC_new W [⟨1, 0⟩, ⟨15, 0⟩] 42) (fun c hc => by simp at hc; rcases hc with rfl | rfl <;> exact fit_small (by decide)) (by decide) (fit_small (by decide)) (ht.bel (hb.alloc hb.size _)))
  simp only [awk2] at R2
  have MI := Lib.hid minf
  have B1 := Lib.hid b1
  clear b1 ht
  go_enter Tryd.func7, Tryd.ntmps7
  go_wp2_with fail
  refine R1.out.mono ?_
  rintro e w1 ⟨rfl, hb1⟩
  have B2 := Lib.hid (below_then B1.out hb1)
  clear hb1
  go_wp2_with fail
  refine (MI.out _).mono ?_
  rintro e w' ⟨rfl, rfl⟩
  go_wp2_with fail
  refine (R2.out w1 B2.out).mono ?_
  rintro e w2 ⟨rfl, hb2⟩
  have B3 := Lib.hid (below_then B2.out (below_then ((Below.refl w1.heap.size w1).alloc (Nat.le_refl _) _) hb2))
  clear hb2
  go_wp2_with fail
  go_ret
  exact ⟨rfl, B3.out⟩

end Go.Proofs.YtjahaegdmfgmgaaDoor
