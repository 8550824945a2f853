/- The program's World: Wet. -/
import Derived.Test.YtjghpacpeojejaaE5ly
import Derived.Test.YtjghpacpeojejaaE5e
namespace Go.Proofs.Ytjghpacpeojejaa
open Go.RowKit Go.Maps

set_option maxRecDepth 100000 in
set_option maxHeartbeats 1000000 in
/-- Wet -/
theorem xWet (b : Nat) (F : Nat → Prop) (m : Ext) (e : Int) (w : World) (h : RelX w b F m) (_ : In64 e) :
    Calls Try.prog 14 #[.pointer (some ⟨b, 0, none⟩), .int .i64 e] w fun x w' => (∃ A c, x = .returned (.slice A (m.wet e).length c) ∧ SlJ w' A (m.wet e)) ∧ LeftE RelX b F w m w' := by
  refine Calls.mono (R := fun x w' => (∃ A c, x = .returned (.slice A (m.wet e).length c) ∧ SlJ w' A (m.wet e)) ∧ Below w.heap.size w w') ?_ fun x w' hq => ⟨hq.1, h.left_below hq.2⟩
  obtain ⟨g, cap, ds, ms, Ds, hr, hb', hg, hd, hF⟩ := h
  clear hb' hg hd hF
  have c1 := hr.sec
  have c2 := hr.ext
  by_cases hh : m.has e 0
  · obtain ⟨e', z, rfl, hz, he, _⟩ := has_nat hh
    clear hz
    have C2 := Lib.hid (xHasYes b m e' 0 cap (some ⟨g, 0, none⟩) w hh c1 c2)
    have c3 := hr.mc e' he
    have HR := Lib.hid hr
    have i0 : (0 : Int) ≤ (e' : Int) := by omega
    have i1 : (e' : Int) < (m.ext : Int) := by omega
    have S := Lib.hid (size_wet (hr.map e' he) (hr.says e' he) he)
    have CS := Lib.hid (xSorted (ms e') _ (Ds e') secElem w (hr.map e' he) (by have := S.out; have := hr.ok.2.2.2.1; unfold maxLen; omega) (by have := S.out; have := hr.ok.2.2.2.1; omega))
    clear hr hh c1
    go_enter Try.func14, Try.ntmps14
    go_wp2_with fail
    refine C2.out.mono ?_
    rintro x w' ⟨rfl, rfl⟩
    go_wp2_with fail
    refine (xKeys (some (ms e')) _).mono ?_
    rintro x w2 ⟨rfl, rfl⟩
    go_wp2_with fail
    refine CS.out.mono ?_
    rintro x w3 ⟨v, ss, rfl, hS, hrow, _, hb⟩
    have HB := Lib.hid hb
    have hw := wet_sort (wet_perm (HR.out.map e' he) (HR.out.says e' he) he) hS
    have ho : OwnJ w3 (w'.heap.size + 1) v (m.wet e') := by
      unfold OwnJ
      rw [← hw, List.length_mergeSort]
      exact hrow
    obtain ⟨A, c, rfl, hsl⟩ := ho.form
    have SL := Lib.hid hsl
    clear hS hrow hb hw ho hsl
    go_wp2_with fail
    go_ret
    exact ⟨⟨A, c, rfl, SL.out⟩, HB.out⟩
  · have hn : m.wet e = [] := by
      unfold Ext.wet Ext.wetTo
      rw [List.filter_eq_nil_iff.2]
      · rfl
      · intro a ha hq
        simp only [Bool.and_eq_true, decide_eq_true_eq] at hq
        exact hh ⟨hq.1.1, hq.1.2.1, by omega, by have := hq.1.2.2; omega⟩
    rw [hn]
    have C2 := Lib.hid (xHasNo b m e 0 cap (some ⟨g, 0, none⟩) w hh c1 c2)
    clear hr hh c1 c2 hn
    go_enter Try.func14, Try.ntmps14
    go_wp2_with fail
    refine C2.out.mono ?_
    rintro x w' ⟨rfl, rfl⟩
    go_wp2_with fail
    go_ret
    exact ⟨⟨none, 0, rfl, SlJ.nil _ _⟩, Below.refl _ _⟩

end Go.Proofs.Ytjghpacpeojejaa
