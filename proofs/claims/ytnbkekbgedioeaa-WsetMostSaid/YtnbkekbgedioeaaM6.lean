/- Proved parts: Vr C9m C9e Rgn Vu. Conditions: each theorem's own. -/
import Derived.Test.YtnbkekbgedioeaaM5
import Derived.Test.YtnbkekbgedioeaaM3
import Derived.Deep.RegionHeld3
import Derived.BigQuiet
import Derived.Deep.RegionWith
import Derived.Laws.BitsLemmas
import Derived.RowKit3
import Derived.Below
import Derived.Test.YtnbkekbgedioeaaM2
import Derived.WalkKit
namespace Go.Proofs.Ytnbkekbgedioeaa
open Go.RowKit

theorem vbelow_cellOf {B : Nat} {w w' : World} (h : Below B w w') {a : Addr} {v : Value} (hc : w.cell? a = some v) (hB : w.heap.size ≤ B) : w'.cell? a = some v := by
  rw [h.cell (p := a) (Nat.lt_of_lt_of_le (World.block_lt_of_cell? w a hc) hB)]; exact hc

set_option maxRecDepth 100000 in
set_option maxHeartbeats 4000000 in
/-- cloisonneref04.Right -/
theorem vrRight (x : Val) (w : World) (hf : x.Fits) : Calls Try.prog 34 #[x.v] w fun e w' => e = .returned (.bool x.ok) ∧ Below w.heap.size w w' := by
  obtain ⟨n, t, b⟩ := x
  obtain ⟨hb, ht⟩ := hf
  change b < 18446744073709551616 at hb
  change t.size ≤ maxLen at ht
  unfold maxLen at ht
  have HB := Lib.hid hb
  show Calls Try.prog 34 #[.agg #[.bool n, .string t, .int .u64 (b : Int)]] w _
  have B0 := Lib.hid ((Below.refl w.heap.size w).alloc (Nat.le_refl _) (.cells #[.bool n, .string t, .int .u64 (b : Int)] 34))
  cases n with
  | false =>
    have R := Lib.hid (show Val.ok ⟨false, t, b⟩ = (decide (b = 0) && decide (t.size ≤ 64)) from rfl)
    by_cases b0 : b = 0
    · have T0 : ((b : Int) == 0) = true := by rw [beq_iff_eq]; omega
      have D0 := Lib.hid b0
      clear b0 hb
      go_enter Try.func34, Try.ntmps34
      go_wp2_with fail
      go_ret
      refine ⟨ret_bool ?_, B0.out⟩
      rw [R.out, decide_eq_true D0.out, Bool.true_and, Bool.eq_iff_iff]
      simp only [decide_eq_true_eq]
      omega
    · have T0 : ((b : Int) == 0) = false := by rw [beq_eq_false_iff_ne]; omega
      have D0 := Lib.hid b0
      clear b0 hb
      go_enter Try.func34, Try.ntmps34
      go_wp2_with fail
      go_ret
      refine ⟨ret_bool ?_, B0.out⟩
      rw [R.out, decide_eq_false D0.out]; rfl
  | true =>
    have R := Lib.hid (show Val.ok ⟨true, t, b⟩ = (decide (t.size = 0) && decide (Fl.bitsOf b = b)) from rfl)
    have FB := Lib.hid (fits_small b hb)
    by_cases t0 : t.size = 0
    · have T0 : ((t.size : Int) == 0) = true := by rw [beq_iff_eq]; omega
      have D0 := Lib.hid t0
      have bn : ((b : Int)).toNat = b := by omega
      clear t0 hb
      go_enter Try.func34, Try.ntmps34
      go_wp2_with fail
      go_quiet (first | (go_at_call 41; exact Calls.quiet_of_same ((rbits b FB.out _).mono fun _ _ hh => ⟨hh.1, hh.2.symm⟩)))
      go_wp2_with fail
      go_ret
      refine ⟨ret_bool ?_, below_drewN B0.out _⟩
      rw [R.out, decide_eq_true D0.out, Bool.true_and, Bool.eq_iff_iff, beq_iff_eq, decide_eq_true_eq]
      omega
    · have T0 : ((t.size : Int) == 0) = false := by rw [beq_eq_false_iff_ne]; omega
      have D0 := Lib.hid t0
      clear t0 hb
      go_enter Try.func34, Try.ntmps34
      go_wp2_with fail
      go_quiet (fail)
      go_wp2_with fail
      go_ret
      refine ⟨ret_bool ?_, below_drewN B0.out _⟩
      rw [R.out, decide_eq_false D0.out]; rfl

end Go.Proofs.Ytnbkekbgedioeaa

namespace Go.Proofs.Ytnbkekbgedioeaa
open Go.RowKit

structure Ver where
  seq : Int
  gone : Bool
  val : Val
namespace Ver
/-- its five cells -/
def cs (x : Ver) : List Value := [.int .i64 x.seq, .bool x.gone, .bool x.val.num, .string x.val.txt, .int .u64 (x.val.bits : Int)]
/-- as Go has it -/
def v (x : Ver) : Value := .agg #[.int .i64 x.seq, .bool x.gone, .bool x.val.num, .string x.val.txt, .int .u64 (x.val.bits : Int)]
def Z : Ver := ⟨0, false, Val.V0⟩
end Ver
/-- how many ahead are not above f -/
def cnt (f : Int) : List Ver → Nat
  | [] => 0
  | x :: l => if x.seq ≤ f then cnt f l + 1 else 0
/-- the version at a number: none, or one that isn't gone -/
def atOk (l : List Ver) (s : Int) : Bool := decide (0 < cnt s l) && !(l.getD (cnt s l - 1) Ver.Z).gone
/-- its Seqs rise -/
def RiseV (l : List Ver) : Prop := ∀ i j, i < j → j < l.length → (l.getD i Ver.Z).seq < (l.getD j Ver.Z).seq
theorem getD_drop (l : List Ver) (k i : Nat) : (l.drop k).getD i Ver.Z = l.getD (k + i) Ver.Z := by
  rw [List.getD_eq_getElem?_getD, List.getD_eq_getElem?_getD, List.getElem?_drop]
end Go.Proofs.Ytnbkekbgedioeaa

namespace Go.Proofs.Ytnbkekbgedioeaa
open Go.RowKit

set_option maxRecDepth 100000 in
theorem eqIn_val (d : Nat) (w : World) (b b' : Bool) (s s' : ByteArray) (k k' : Int) :
    (Op.equalIn (d + 2) 34 (.agg #[.bool b, .string s, .int .u64 k]) (.agg #[.bool b', .string s', .int .u64 k'])).run Try.prog w = .ok ((b == b') && ((s.toList == s'.toList) && (k == k'))) w := by
  rw [run_equalIn_struct w (d + 1) 34 _ _ (by kernel_rfl) (by kernel_rfl)]
  simp [go_sem]
  by_cases h1 : b = b' <;> by_cases h2 : s.toList = s'.toList <;> by_cases h3 : k = k' <;> simp [h1, h2, h3]
end Go.Proofs.Ytnbkekbgedioeaa

namespace Go.Proofs.Ytnbkekbgedioeaa
open Go

section
variable {P : Program} {ops : Array Oper} {Q : Exit → Act → World → Prop} {md : Region.Mode} {S T : World → Prop}
/-- what is held may be raised -/
theorem rgnMono (h : ∀ w, T w → S w) : ∀ (fuel : Nat) (listed : Array Bool) (a : Act) (w : World), wpAnyH P md ops Q T fuel listed a w → wpAnyH P md ops Q S fuel listed a w
  | 0, _, _, _, k => k
  | fuel + 1, _, _, _, k => ⟨k.1, fun i hi => wpOp_mono (fun a' w' h' => ⟨h w' h'.1, rgnMono h fuel _ a' w' h'.2⟩) (k.2 i hi)⟩
/-- .. and is held from here on -/
theorem rgnRaise {fuel : Nat} {listed : Array Bool} {a : Act} {w : World} (T : World → Prop) (h : ∀ w, T w → S w) (hT : T w) (k : T w → wpAnyH P md ops Q T fuel listed a w) : wpAnyH P md ops Q S fuel listed a w :=
  rgnMono h fuel listed a w (k hT)
/-- take number i first; the operation is found by the list -/
theorem rgnTake (i : Nat) {oi : Oper} {v : Value} {fuel : Nat} {listed : Array Bool} {a : Act} {w : World} (hi : ops.toList[i]? = some oi)
    (hs : Region.noSelect ops = true) (hf : Region.free md ops listed i = true) (hr : (Region.ready md ops listed).contains i = true)
    (hQ : ∀ c a w, Q (.panic c) (a.put oi.dst v) w → Q (.panic c) a w) (hw : Region.wanted oi (yielded ops a.tmps) = true) (hy : ∀ w, S w → (execOp a.eval oi).run P w = .ok (.value v) w) (hS : S w)
    (h : wpAnyH P md ops Q S fuel (listed.setIfInBounds i true) (a.put oi.dst v) w) : wpAnyH P md ops Q S (fuel + 1) listed a w :=
  wpAnyH_take (by rw [← Array.getElem?_toList]; exact hi) hs hf hr hQ (.inl ⟨hw, hy⟩) hS h
/-- number i alone may come up -/
theorem rgnOne (i : Nat) {o : Oper} {fuel : Nat} {listed : Array Bool} {a : Act} {w : World} (ho : ops.toList[i]? = some o) (hr : Region.ready md ops listed = [i])
    (h : ∀ K' : Act → World → Prop, Shut (∀ a w, S w → (S w → wpAnyH P md ops Q S fuel (listed.setIfInBounds i true) a w) → K' a w) → if Region.wanted o (yielded ops a.tmps) = true then Oper.wp P o a w K' Q else K' (a.put o.dst undef) w) :
    wpAnyH P md ops Q S (fuel + 1) listed a w :=
  wpAnyH_ready hr (by simp) (AllReadyH.cons (by rw [← Array.getElem?_toList]; exact ho) h AllReadyH.nil)
/-- of numbers i and j either may come up -/
theorem rgnTwo (i j : Nat) {oi oj : Oper} {fuel : Nat} {listed : Array Bool} {a : Act} {w : World} (hi : ops.toList[i]? = some oi) (hj : ops.toList[j]? = some oj) (hr : Region.ready md ops listed = [i, j])
    (h1 : ∀ K' : Act → World → Prop, Shut (∀ a w, S w → (S w → wpAnyH P md ops Q S fuel (listed.setIfInBounds i true) a w) → K' a w) → if Region.wanted oi (yielded ops a.tmps) = true then Oper.wp P oi a w K' Q else K' (a.put oi.dst undef) w)
    (h2 : ∀ K' : Act → World → Prop, Shut (∀ a w, S w → (S w → wpAnyH P md ops Q S fuel (listed.setIfInBounds j true) a w) → K' a w) → if Region.wanted oj (yielded ops a.tmps) = true then Oper.wp P oj a w K' Q else K' (a.put oj.dst undef) w) :
    wpAnyH P md ops Q S (fuel + 1) listed a w :=
  wpAnyH_ready hr (by simp) (AllReadyH.cons (by rw [← Array.getElem?_toList]; exact hi) h1 (AllReadyH.cons (by rw [← Array.getElem?_toList]; exact hj) h2 AllReadyH.nil))

end

end Go.Proofs.Ytnbkekbgedioeaa

namespace Go.Proofs.Ytnbkekbgedioeaa
open Go.RowKit

/-- at g lies the value in a box -/
structure BoxV (w : World) (g : Nat) (n : Bool) (t : ByteArray) (b : Nat) : Prop where
  c0 : w.cell? ⟨g, 0, none⟩ = some (.bool n)
  c1 : w.cell? ⟨g, 1, none⟩ = some (.string t)
  c2 : w.cell? ⟨g, 2, none⟩ = some (.int .u64 (b : Int))
theorem BoxV.below {w w' : World} {g : Nat} {n : Bool} {t : ByteArray} {b : Nat} (h : BoxV w g n t b) (hb : Below w.heap.size w w') : BoxV w' g n t b :=
  ⟨vbelow_cellOf hb h.c0 (Nat.le_refl _), vbelow_cellOf hb h.c1 (Nat.le_refl _), vbelow_cellOf hb h.c2 (Nat.le_refl _)⟩
theorem BoxV.new (w : World) (n : Bool) (t : ByteArray) (b : Nat) (ty : TypeId) : BoxV (w.alloc (.cells #[.bool n, .string t, .int .u64 (b : Int)] ty)) w.heap.size n t b := by
  refine ⟨?_, ?_, ?_⟩ <;> (rw [World.cell?_alloc_at _ _ _ _ rfl]; rfl)
theorem BoxV.drew {w : World} {g : Nat} {n : Bool} {t : ByteArray} {b : Nat} (h : BoxV w g n t b) : BoxV w.drew g n t b := ⟨h.c0, h.c1, h.c2⟩

end Go.Proofs.Ytnbkekbgedioeaa
