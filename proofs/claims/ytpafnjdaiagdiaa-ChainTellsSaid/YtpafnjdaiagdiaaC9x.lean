/- What the program's chain does; awake. -/
import Derived.Test.YtpafnjdaiagdiaaC9w
namespace Go.Proofs.Ytpafnjdaiagdiaa
open Go.RowKit

/-- versions that the laws hand on -/
structure GoodL (l : List Ver) : Prop where
  fits : FitsL l
  texts : ∀ x, x ∈ l → x.val.txt.size ≤ 1000
  len : l.length ≤ 1000
theorem GoodL.drop {l : List Ver} (h : GoodL l) (k : Nat) : GoodL (l.drop k) :=
  ⟨fun x hx => h.fits x (List.mem_of_mem_drop hx), fun x hx => h.texts x (List.mem_of_mem_drop hx), by rw [List.length_drop]; have := h.len; omega⟩
theorem GoodL.sweep {l : List Ver} (h : GoodL l) (f : Int) : GoodL (sweepL l f) := h.drop _
theorem GoodL.nil : GoodL [] := ⟨fun x hx => (by cases hx), fun x hx => (by cases hx), by decide⟩
/-- the contracts -/
structure ChainAt : Prop where
  right : ∀ (l : List Ver) (A : Option Addr) (c : Nat) (w : World), SlV w A l → GoodL l → Calls Try.prog 12 #[.slice A l.length c] w fun e w' => e = .returned (.bool (rightL l)) ∧ Below w.heap.size w w'
  at_ : ∀ (l : List Ver) (A : Option Addr) (c : Nat) (s : Int) (w : World), l.length ≤ c → SlV w A l → GoodL l → Calls Try.prog 10 #[.slice A l.length c, .int .i64 s] w fun e w' => e = .returned (.tuple #[(if rightL l then atL l s else Ver.Z).v, .bool (rightL l && atOk l s)]) ∧ Below w.heap.size w w'
  last : ∀ (l : List Ver) (A : Option Addr) (c : Nat) (w : World), SlV w A l → GoodL l → Calls Try.prog 11 #[.slice A l.length c] w fun e w' => e = .returned (.tuple #[(if rightL l && decide (0 < l.length) then lastL l else Ver.Z).v, .bool (rightL l && decide (0 < l.length))]) ∧ Below w.heap.size w w'
  weight : ∀ (l : List Ver) (A : Option Addr) (c : Nat) (w : World), SlV w A l → GoodL l → Calls Try.prog 13 #[.slice A l.length c] w fun e w' => e = .returned (.int .i64 (if rightL l then weightL l else 0 : Nat)) ∧ Below w.heap.size w w'
  old : ∀ (l : List Ver) (A : Option Addr) (c : Nat) (f : Int) (w : World), SlV w A l → GoodL l → Calls Try.prog 14 #[.slice A l.length c, .int .i64 f] w fun e w' => e = .returned (.int .i64 (if rightL l then oldL l f else 0 : Nat)) ∧ Below w.heap.size w w'
  sweep : ∀ (l : List Ver) (A : Option Addr) (c : Nat) (f : Int) (w : World), l.length ≤ c → SlV w A l → GoodL l → Calls Try.prog 20 #[.slice A l.length c, .int .i64 f] w fun e w' => ∃ A' c', e = .returned (.slice A' (if rightL l then sweepL l f else []).length c') ∧ (if rightL l then sweepL l f else []).length ≤ c' ∧ SlV w' A' (if rightL l then sweepL l f else []) ∧ Below w.heap.size w w'
  add : ∀ (l : List Ver) (v : Ver) (A : Option Addr) (c : Nat) (w : World), SlV w A l → GoodL (l ++ [v]) → Calls Try.prog 18 #[.slice A l.length c, v.v] w fun e w' => ∃ A' c', e = .returned (.tuple #[.slice A' (if rightL (l ++ [v]) then l ++ [v] else []).length c', .int .i64 (if rightL (l ++ [v]) then 0 else 1)]) ∧ SlV w' A' (if rightL (l ++ [v]) then l ++ [v] else []) ∧ Below w.heap.size w w'

def vn (s : Int) : Ver := ⟨s, false, Val.V0⟩
def aw9 : List Ver := [vn 2, vn 5, vn 9]
theorem aw9_row (w : World) : SlV (w.alloc (.cells (vcs aw9).toArray 29)) (some ⟨w.heap.size, 0, none⟩) aw9 := fun _ => by
  have r := RowAt.new w (vcs aw9) 29
  refine ⟨w.heap.size, 0, rfl, r.lt, fun j hj => ?_⟩
  have hj3 : j < 3 := hj
  match j, hj3 with
  | 0, _ => exact ⟨r.cell 0, r.cell 1, r.cell 2, r.cell 3, r.cell 4⟩
  | 1, _ => exact ⟨r.cell 5, r.cell 6, r.cell 7, r.cell 8, r.cell 9⟩
  | 2, _ => exact ⟨r.cell 10, r.cell 11, r.cell 12, r.cell 13, r.cell 14⟩
theorem v0_fits : Val.V0.Fits := ⟨by decide, by decide⟩
theorem vn_fits (s : Int) : (vn s).val.Fits := v0_fits
theorem aw9_good : GoodL aw9 := by
  refine ⟨fun x hx => ?_, fun x hx => ?_, by decide⟩
  · unfold aw9 at hx
    simp only [List.mem_cons, List.not_mem_nil, or_false] at hx
    rcases hx with rfl | rfl | rfl <;> exact vn_fits _
  · unfold aw9 at hx
    simp only [List.mem_cons, List.not_mem_nil, or_false] at hx
    rcases hx with rfl | rfl | rfl <;> decide
set_option maxRecDepth 100000 in
set_option maxHeartbeats 1000000 in
/-- cloisonnelaw09.awake -/
theorem awake9 (X : ChainAt) (w : World) : Calls Try.prog 7 #[] w fun e w' => e = .returned (.bool true) ∧ Below w.heap.size w w' := by
  have r0 : rightL aw9 = true := by kernel_rfl
  have B0 := Lib.hid (show Below w.heap.size w (w.alloc (.cells (vcs aw9).toArray 29)) from (Below.refl _ _).alloc (Nat.le_refl _) _)
  have SR := Lib.hid (fun w' (hb : Below (w.alloc (.cells (vcs aw9).toArray 29)).heap.size (w.alloc (.cells (vcs aw9).toArray 29)) w') => (aw9_row w).below hb)
  have XA := Lib.hid (show ∀ W, SlV W (some ⟨w.heap.size, 0, none⟩) aw9 → Calls Try.prog 10 #[.slice (some ⟨w.heap.size, 0, none⟩) 3 3, .int .i64 7] W fun e w' => e = .returned (.tuple #[.agg #[.int .i64 5, .bool false, .bool false, .string ⟨#[]⟩, .int .u64 0], .bool true]) ∧ Below W.heap.size W w' from fun W h => by
    have := X.at_ aw9 _ 3 7 W (by decide) h aw9_good
    rw [r0, if_pos rfl, show atL aw9 7 = vn 5 by kernel_rfl, show atOk aw9 7 = true by kernel_rfl] at this
    exact this)
  have XS := Lib.hid (show ∀ W, SlV W (some ⟨w.heap.size, 0, none⟩) aw9 → Calls Try.prog 20 #[.slice (some ⟨w.heap.size, 0, none⟩) 3 3, .int .i64 5] W fun e w' => ∃ A' c', e = .returned (.slice A' 2 c') ∧ Below W.heap.size W w' from fun W h => by
    have := X.sweep aw9 _ 3 5 W (by decide) h aw9_good
    rw [r0, if_pos rfl, show (sweepL aw9 5) = [vn 5, vn 9] by kernel_rfl] at this
    exact this.mono fun e w' ⟨A', c', h1, _, _, h3⟩ => ⟨A', c', h1, h3⟩)
  have XO := Lib.hid (show ∀ W, SlV W (some ⟨w.heap.size, 0, none⟩) aw9 → Calls Try.prog 14 #[.slice (some ⟨w.heap.size, 0, none⟩) 3 3, .int .i64 5] W fun e w' => e = .returned (.int .i64 1) ∧ Below W.heap.size W w' from fun W h => by
    have := X.old aw9 _ 3 5 W h aw9_good
    rw [r0, if_pos rfl, show oldL aw9 5 = 1 by kernel_rfl] at this
    exact this)
  clear X r0
  go_enter Try.func7, Try.ntmps7
  go_wp2_with fail
  refine (XA.out _ (SR.out _ (Below.refl _ _))).mono ?_
  rintro e w1 ⟨rfl, hb1⟩
  have S1 := Lib.hid (SR.out _ hb1)
  have B1 := Lib.hid (below_then B0.out hb1)
  clear hb1
  go_wp2_with fail
  refine (XS.out _ (S1.out.below ((Below.refl _ _).alloc (Nat.le_refl _) _))).mono ?_
  rintro e w2 ⟨A', c', rfl, hb2⟩
  have q2 : Below w1.heap.size w1 w2 := ((Below.refl _ _).alloc (Nat.le_refl _) _).trans (hb2.mono (by simp))
  have S2 := Lib.hid (S1.out.below q2)
  have B2 := Lib.hid (below_then B1.out q2)
  clear hb2 q2
  go_wp2_with fail
  refine (XO.out _ S2.out).mono ?_
  rintro e w3 ⟨rfl, hb3⟩
  have B3 := Lib.hid (below_then B2.out hb3)
  clear hb3
  go_wp2_with fail
  go_ret
  exact ⟨rfl, B3.out⟩

end Go.Proofs.Ytpafnjdaiagdiaa
