/- The chapter's example of layer 3 holds: the statements' own 'awake' answers true. -/
import Derived.Test.YtmcackghpkegbaaPt
namespace Go.Proofs.Ytmcackghpkegbaa
open Go.RowKit

def ex1 : Item := .mk 7 ⟨#[]⟩ [] []
def ex2 : Item := .mk 300 ⟨#[]⟩ [] []
def exCells : Array Value := #[.int .u64 7, .string ⟨#[]⟩, .slice none 0 0, .slice none 0 0, .int .u64 300, .string ⟨#[]⟩, .slice none 0 0, .slice none 0 0]

theorem ex_slit (d : Nat) (w : World) : SlIt d (w.alloc (.cells exCells 44)) (some ⟨w.heap.size, 0, none⟩) [ex1, ex2] := by
  cases d with
  | zero => trivial
  | succ d =>
    intro _
    refine ⟨w.heap.size, 0, rfl, by simp, fun j hj => ?_⟩
    have hc : ∀ i, (w.alloc (.cells exCells 44)).cell? ⟨w.heap.size, i, none⟩ = exCells[i]? := fun i => World.cell?_alloc_at _ _ _ _ rfl
    match j, hj with
    | 0, _ => exact ⟨none, 0, none, 0, hc 0, hc 1, hc 2, hc 3, Sl.nil _ _, SlIt.nil _ _ _⟩
    | 1, _ => exact ⟨none, 0, none, 0, hc 4, hc 5, hc 6, hc 7, Sl.nil _ _, SlIt.nil _ _ _⟩
theorem ex_fit (d : Nat) : FitIt d [ex1, ex2] := by
  have h0 : ∀ d, FitIt d [] := by
    intro d; cases d with
    | zero => exact Nat.zero_le _
    | succ d => exact ⟨Nat.zero_le _, fun x hx => by cases hx⟩
  cases d with
  | zero => show 2 ≤ maxLen; unfold maxLen; omega
  | succ d =>
    refine ⟨by show 2 ≤ maxLen; unfold maxLen; omega, fun x hx => ?_⟩
    simp only [List.mem_cons, List.not_mem_nil, or_false] at hx
    rcases hx with rfl | rfl
    · exact ⟨by show (0 : Int) ≤ 7; omega, by show (7 : Int) < _; omega, Nat.zero_le _, Nat.zero_le _, La.U64.nil, h0 d⟩
    · exact ⟨by show (0 : Int) ≤ 300; omega, by show (300 : Int) < _; omega, Nat.zero_le _, Nat.zero_le _, La.U64.nil, h0 d⟩
theorem ex_kinds : kindsOf ⟨#[98, 110]⟩ = some [(.b, false), (.n, false)] := by decide
theorem ex_bytes : encAll [(.b, false), (.n, false)] [ex1, ex2] = [7, 172, 2] := by
  have e1 : leb 300 = [172, 2] := by rw [leb_big (by omega), leb_small (by omega)]; rfl
  show [7 % 256] ++ (leb 300 ++ []) = [7, 172, 2]
  rw [e1]; rfl
theorem ex_print : prC ⟨#[98, 110]⟩ [ex1, ex2] = 0 ∧ prS ⟨#[98, 110]⟩ [ex1, ex2] = ⟨#[7, 172, 2]⟩ := by
  have h := prC_yes (xs := [ex1, ex2]) ex_kinds (by decide)
  refine ⟨h.1, ?_⟩
  rw [h.2, ex_bytes]; rfl

set_option maxRecDepth 100000 in
/-- cloisonnelaw03.awake -/
theorem awake3 (w : World) : Calls Try.prog 7 #[] w fun e w' => e = .returned (.bool true) ∧ Below w.heap.size w w' := by
  have E := Lib.hid ex_print
  have CP := Lib.hid (lPrint 0 ⟨#[98, 110]⟩ (some ⟨w.heap.size, 0, none⟩) 2 [ex1, ex2] (w.alloc (.cells exCells 44)) (by show 2 ≤ maxLen; unfold maxLen; omega) (ex_fit 2) (ex_slit 2 w))
  have B0 := Lib.hid ((Below.refl w.heap.size w).alloc (Nat.le_refl _) (.cells exCells 44))
  go_enter Try.func7, Try.ntmps7
  go_wp2_with fail
  refine CP.out.mono ?_
  rintro e w1 ⟨rfl, hb⟩
  rw [E.out.1, E.out.2]
  have HB := Lib.hid (below_then B0.out hb)
  clear hb
  go_wp2_with fail
  go_ret
  exact ⟨rfl, HB.out⟩

end Go.Proofs.Ytmcackghpkegbaa
