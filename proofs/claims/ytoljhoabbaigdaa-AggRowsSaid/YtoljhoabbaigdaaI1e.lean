/- Exact, the program's and the reference's: walked. -/
import Derived.Test.YtoljhoabbaigdaaI1d
import Derived.Test.YtoljhoabbaigdaaWhr
namespace Go.Proofs.Ytoljhoabbaigdaa
open Go.RowKit Ex Fl Ag Ieee
attribute [local go_sem] Oper.semAt_some

namespace Ag
/-- one that Exact adds -/
def isX (b : Nat) : Bool := wOk b && (decide (-9007199254740992 ≤ wVal b) && decide (wVal b ≤ 9007199254740992))
def tot (zs : List Nat) : Int := (zs.map wVal).foldl (· + ·) 0
def exE (zs : List Nat) : Int := if zs.all isX then (if 512 < zs.length then 5 else 0) else 1
def exV (zs : List Nat) : Nat := if exE zs = 0 then ofI (tot zs) else 0
theorem tot_snoc (zs : List Nat) (x : Nat) : tot (zs ++ [x]) = tot zs + wVal x := by unfold tot; rw [List.map_append, List.foldl_append]; rfl
theorem all_at {zs : List Nat} (h : zs.all isX = true) {i : Nat} (hi : i < zs.length) : isX (zs.getD i 0) = true := by
  rw [List.all_eq_true] at h
  rw [List.getD_eq_getElem?_getD, List.getElem?_eq_getElem hi]
  exact h _ (List.getElem_mem hi)
theorem all_of {zs : List Nat} (h : ∀ i, i < zs.length → isX (zs.getD i 0) = true) : zs.all isX = true := by
  rw [List.all_eq_true]
  intro x hx
  obtain ⟨i, hi, rfl⟩ := List.mem_iff_getElem.1 hx
  have := h i hi
  rw [List.getD_eq_getElem?_getD, List.getElem?_eq_getElem hi] at this
  exact this
theorem not_all {zs : List Nat} {i : Nat} (hi : i < zs.length) (h : isX (zs.getD i 0) = false) : zs.all isX = false := by
  cases h2 : zs.all isX with
  | false => rfl
  | true => rw [all_at h2 hi] at h; cases h
theorem isX_parts {b : Nat} (h : isX b = true) : wOk b = true ∧ -9007199254740992 ≤ wVal b ∧ wVal b ≤ 9007199254740992 := by
  unfold isX at h; simp at h; exact h
theorem tot_bound {zs : List Nat} : ∀ i, i ≤ zs.length → (∀ j, j < i → isX (zs.getD j 0) = true) → -(9007199254740992 * (i : Int)) ≤ tot (zs.take i) ∧ tot (zs.take i) ≤ 9007199254740992 * (i : Int)
  | 0, _, _ => by rw [List.take_zero]; decide
  | i + 1, hi, h => by
    have ih := tot_bound i (by omega) (fun j hj => h j (by omega))
    have e : zs.take (i + 1) = zs.take i ++ [zs.getD i 0] := by
      rw [List.take_add_one, List.getElem?_eq_getElem (by omega), List.getD_eq_getElem?_getD, List.getElem?_eq_getElem (by omega)]; rfl
    obtain ⟨_, h1, h2⟩ := isX_parts (h i (by omega))
    rw [e, tot_snoc]
    omega
end Ag

theorem trunc_nan15 (b : Nat) (hn : Fl.nanB b = true) (w : World) : Calls Try.prog 41 #[.float .f64 b] w fun e w' => (∃ y, e = .returned (.float .f64 y)) ∧ Below w.heap.size w w' := by
  obtain ⟨y, w1, hr0, hw⟩ := decode_nan hn w
  have hr : (callFunc 42 #[.float .f64 b]).run Try.prog w = .ok (.value (.float .f64 y)) w1 := by
    rw [run_callFunc_extern Try.func42 (by kernel_rfl) (by kernel_rfl) (by kernel_rfl) (e := Extern.MathFloor.toIntegral "math.archTrunc" .zero) (by kernel_rfl), hr0]
    rfl
  have hg1 : Below w.heap.size w w1 := by
    rcases hw with rfl | rfl
    · exact Below.refl _ _
    · exact (Below.refl _ _).drew
  have HG := Lib.hid hg1
  clear hr0 hw hn hg1
  go_enter Try.func41, Try.ntmps41
  go_wp2
  go_ret
  exact ⟨⟨y, rfl⟩, HG.out⟩

theorem nwhole15 (b : Nat) (h : Fits b) (w : World) : Calls Try.prog 38 #[.float .f64 b] w fun e w' => (e = .returned (.tuple #[.int .i64 (if wOk b then wVal b else 0), .int .i64 (if wOk b then 0 else 1)])) ∧ Below w.heap.size w w' := by
  cases hn : nanB b
  · cases hw : wOk b
    · exact (nwhole_no b h hn hw w).mono (by rintro e w' ⟨rfl, rfl⟩; exact ⟨rfl, Below.refl _ _⟩)
    · exact (nwhole_yes b h hn hw w).mono (by rintro e w' ⟨rfl, rfl⟩; exact ⟨rfl, Below.refl _ _⟩)
  · rw [wOk_nan hn]
    have hb : Fl.INF < b % Fl.S63 := by unfold Fl.nanB at hn; simpa using hn
    have T : ∀ y, (FloatKind.f64.format.order y b != some Ordering.eq) = true := by
      intro y; rw [fcmp, Fl.order_nan_right y b hb]; rfl
    have N := Lib.hid hn
    clear hb hn h
    go_enter Try.func38, Try.ntmps38
    go_wp2_with fail
    refine (trunc_nan15 b N.out _).mono ?_
    rintro e w1 ⟨⟨y, rfl⟩, hg1⟩
    have HG1 := Lib.hid hg1
    clear hg1
    go_wp2
    go_ret2
    exact ⟨rfl, HG1.out⟩

theorem xIsExact (b : Nat) (h : Fits b) (w : World) : Calls Try.prog 28 #[.float .f64 b] w fun e w' => e = .returned (.bool (isX b)) ∧ Below w.heap.size w w' := by
  have NW := Lib.hid (nwhole15 b h)
  cases hw : wOk b
  · have EX := Lib.hid (show isX b = false by unfold isX; rw [hw]; rfl)
    simp only [hw, Bool.false_eq_true, if_false] at NW
    clear h hw
    go_enter Try.func28, Try.ntmps28
    go_wp2_with fail
    refine (NW.out _).mono ?_
    rintro e w1 ⟨rfl, hb1⟩
    have HB1 := Lib.hid hb1
    clear hb1
    go_wp2_with fail
    go_ret
    exact ⟨ret_bool EX.out.symm, HB1.out⟩
  · have hr := wVal_range h hw
    have EX : isX b = (decide (-9007199254740992 ≤ wVal b) && decide (wVal b ≤ 9007199254740992)) := by unfold isX; rw [hw]; rfl
    simp only [hw, if_true] at NW
    generalize wVal b = n at *
    have HX := Lib.hid EX
    clear h hw EX
    by_cases p1 : -9007199254740992 ≤ n
    · by_cases p2 : n ≤ 9007199254740992
      · go_enter Try.func28, Try.ntmps28
        go_wp2_with fail
        refine (NW.out _).mono ?_
        rintro e w1 ⟨rfl, hb1⟩
        have HB1 := Lib.hid hb1
        clear hb1
        go_wp2_with fail
        go_ret
        exact ⟨ret_bool (by rw [HX.out, Bool.eq_iff_iff]; first | (simp; done) | (simp; omega)), HB1.out⟩
      · go_enter Try.func28, Try.ntmps28
        go_wp2_with fail
        refine (NW.out _).mono ?_
        rintro e w1 ⟨rfl, hb1⟩
        have HB1 := Lib.hid hb1
        clear hb1
        go_wp2_with fail
        go_ret
        exact ⟨ret_bool (by rw [HX.out, Bool.eq_iff_iff]; first | (simp; done) | (simp; omega)), HB1.out⟩
    · go_enter Try.func28, Try.ntmps28
      go_wp2_with fail
      refine (NW.out _).mono ?_
      rintro e w1 ⟨rfl, hb1⟩
      have HB1 := Lib.hid hb1
      clear hb1
      go_wp2_with fail
      go_ret
      exact ⟨ret_bool (by rw [HX.out, Bool.eq_iff_iff]; first | (simp; done) | (simp; omega)), HB1.out⟩

set_option maxRecDepth 100000 in
set_option maxHeartbeats 2000000 in
/-- Exact -/
theorem xExact (zs : List Nat) (A : Option Addr) (c : Nat) (w : World) (h : SlF w A zs) (hf : AllFits zs) (hl : zs.length ≤ 1000) :
    Calls Try.prog 16 #[.slice A zs.length c] w fun e w' => e = .returned (.tuple #[.float .f64 (exV zs), .int .i64 (exE zs)]) ∧ Below w.heap.size w w' := by
  obtain ⟨n, hn⟩ : ∃ n, n = zs.length := ⟨_, rfl⟩
  obtain ⟨E, hE⟩ : ∃ E, E = exE zs := ⟨_, rfl⟩
  obtain ⟨Y, hY⟩ : ∃ Y, Y = exV zs := ⟨_, rfl⟩
  rw [← hn, ← hE, ← hY]
  have NO := Lib.hid (show ∀ i, i < n → isX (zs.getD i 0) = false → E = 1 ∧ Y = 0 from fun i hi hx => by
    have e : exE zs = 1 := by unfold exE; rw [not_all (by omega) hx]; rfl
    refine ⟨by rw [hE, e], ?_⟩
    rw [hY]; unfold exV; rw [e]; rfl)
  have LONG := Lib.hid (show (∀ j, j < n → isX (zs.getD j 0) = true) → 512 < n → E = 5 ∧ Y = 0 from fun ha hx => by
    have e : exE zs = 5 := by unfold exE; rw [all_of (fun i hi => ha i (by omega)), if_pos rfl, if_pos (by omega)]
    refine ⟨by rw [hE, e], ?_⟩
    rw [hY]; unfold exV; rw [e]; rfl)
  have YES := Lib.hid (show (∀ j, j < n → isX (zs.getD j 0) = true) → ¬ 512 < n → E = 0 ∧ Y = ofI (tot (zs.take n)) from fun ha hx => by
    have e : exE zs = 0 := by unfold exE; rw [all_of (fun i hi => ha i (by omega)), if_pos rfl, if_neg (by omega)]
    refine ⟨by rw [hE, e], ?_⟩
    rw [hY, hn, List.take_length]; unfold exV; rw [e]; rfl)
  have TB := Lib.hid (fun i (hi : i ≤ n) (ha : ∀ j, j < n → isX (zs.getD j 0) = true) => tot_bound (zs := zs) i (by omega) (fun j hj => ha j (by omega)))
  have TS := Lib.hid (fun i (hi : i < n) => show tot (zs.take (i + 1)) = tot (zs.take i) + wVal (zs.getD i 0) by rw [take_snoc (by omega), tot_snoc])
  have XC := Lib.hid (fun i (hi : i < n) W (hb : Below w.heap.size w W) => show ∃ b o, A = some ⟨b, o, none⟩ ∧ b < W.heap.size ∧ W.cell? ⟨b, o + i, none⟩ = some (.float .f64 (zs.getD i 0)) by
    obtain ⟨b, o, e, hlt, k⟩ := (h.below hb).at_ (k := i) (by omega)
    exact ⟨b, o, e, hlt, k i (by omega)⟩)
  have XI := Lib.hid (fun i (hi : i < n) => xIsExact (zs.getD i 0) (hf.get (by omega)))
  have XF := Lib.hid (fun i (hi : i < n) => hf.get (k := i) (by omega))
  have hl' : n ≤ 1000 := by omega
  clear h hf hl hE hY hn
  go_enter Try.func16, Try.ntmps16
  go_wp2_with fail
  go_loopw [11] (fun vi wr => ∃ i : Nat, i ≤ n ∧ vi = .int .i64 i ∧ Hid (∀ j, j < i → isX (zs.getD j 0) = true) ∧ Hid (Below w.heap.size w wr)) (fun vi _ => n - (intOf vi).toNat)
  case atStart => exact ⟨0, Nat.zero_le _, rfl, Lib.hid (fun j hj => by cases hj), Lib.hid (Below.refl _ _)⟩
  case round =>
    obtain ⟨i, hi, rfl, HM, HB⟩ := hrel
    by_cases q : i < n
    · obtain ⟨b, o, rfl, hb, ci⟩ := XC.out i q _ HB.out
      have O1 := Lib.hid (XI.out i q)
      obtain ⟨x, hx⟩ : ∃ x, x = zs.getD i 0 := ⟨_, rfl⟩
      rw [← hx] at ci O1
      cases hX : isX x with
      | true =>
        have HM2 := Lib.hid (show ∀ j, j < i + 1 → isX (zs.getD j 0) = true from fun j hj => by
          rcases Nat.lt_or_ge j i with q2 | q2
          · exact HM.out j q2
          · rw [show j = i by omega, ← hx]; exact hX)
        simp only [hX] at O1
        clear hX hx hb
        go_wp2_with fail
        refine (O1.out _).mono ?_
        rintro e w3 ⟨rfl, hb3⟩
        have B3 := Lib.hid (below_then HB.out hb3)
        clear hb3
        go_wp2_with fail
        go_roundw
        case rel => exact ⟨i + 1, by omega, by go_num, HM2, B3⟩
        case measure => simp [intOf]; omega
      | false =>
        obtain ⟨e1, e2⟩ := NO.out i q (by rw [← hx]; exact hX)
        simp only [hX] at O1
        clear hX hx hb
        go_wp2_with fail
        refine (O1.out _).mono ?_
        rintro e w3 ⟨rfl, hb3⟩
        have B3 := Lib.hid (below_then HB.out hb3)
        clear hb3
        go_wp2_with fail
        go_ret2
        exact ⟨by rw [e1, e2]; rfl, B3.out⟩
    · have hin : i = n := by omega
      subst hin
      by_cases q5 : 512 < i
      · obtain ⟨e1, e2⟩ := LONG.out HM.out q5
        go_wp2_with fail
        go_ret2
        exact ⟨by rw [e1, e2]; rfl, HB.out⟩
      · obtain ⟨e1, e2⟩ := YES.out HM.out q5
        obtain ⟨wo, hwo⟩ : ∃ wo, wo = wr := ⟨_, rfl⟩
        subst hwo
        have TB2 := Lib.hid (fun k (hk : k ≤ i) => TB.out k hk HM.out)
        have CV := Lib.hid (fun k (hk : k < i) W => show (convert 36 2 (.float .f64 (zs.getD k 0))).run Try.prog W = .ok (.int .i64 (wVal (zs.getD k 0))) W by
          have hb := XF.out k hk
          obtain ⟨hw, hr⟩ := isX_parts (HM.out k hk)
          have hE := Fl.wOk_E hb hw
          have hv : floatToIntVal .f64 (zs.getD k 0) .i64 = some (Fl.wVal (zs.getD k 0)) := by
            have e1 := Fl.toInt_eq hb (by omega)
            have e2 : (FloatKind.f64.decode (zs.getD k 0)).toInt .zero = some (Fl.wVal (zs.getD k 0)) := e1
            unfold floatToIntVal
            rw [e2]
            simp only []
            rw [if_pos ⟨by show IntKind.i64.min ≤ _; rw [show IntKind.i64.min = -9223372036854775808 from by decide]; omega, by show _ ≤ IntKind.i64.max; rw [show IntKind.i64.max = 9223372036854775807 from by decide]; omega⟩]
          exact run_convert_float_int W 36 2 .f64 .i64 _ _ (by kernel_rfl) (by kernel_rfl) hv)
        clear TB LONG YES NO XI HM
        go_wp2_with fail
        go_loopw [6, 24] (fun vs vi wr => ∃ (k : Nat) (t : Int), k ≤ i ∧ vs = .int .i64 t ∧ vi = .int .i64 k ∧ Hid (t = tot (zs.take k)) ∧ Hid (Below w.heap.size w wr)) (fun _ vi _ => i - (intOf vi).toNat)
        case atStart => exact ⟨0, 0, Nat.zero_le _, rfl, rfl, Lib.hid rfl, HB⟩
        case round =>
          obtain ⟨k, t, hk, rfl, rfl, HT, HB2⟩ := hrel
          by_cases q : k < i
          · obtain ⟨b, o, rfl, hb, ci⟩ := XC.out k q _ HB2.out
            have cv := CV.out k q
            obtain ⟨y, hy⟩ : ∃ y, y = wVal (zs.getD k 0) := ⟨_, rfl⟩
            have g1 := TB2.out k (by omega)
            have g2 := TB2.out (k + 1) (by omega)
            rw [TS.out k q, ← hy, ← HT.out] at g2
            rw [← HT.out] at g1
            have HT2 := Lib.hid (show t + y = tot (zs.take (k + 1)) by rw [TS.out k q, ← hy, HT.out])
            rw [← hy] at cv
            obtain ⟨x, hx⟩ : ∃ x, x = zs.getD k 0 := ⟨_, rfl⟩
            rw [← hx] at ci cv
            have b1 : -9223372036854775808 ≤ t + y := by omega
            have b2 : t + y ≤ 9223372036854775807 := by omega
            clear hy hx hb g1 g2
            go_wp2_with fail
            go_roundw
            case rel => exact ⟨k + 1, t + y, by omega, by go_num, by go_num, HT2, HB2⟩
            case measure => simp [intOf]; omega
          · have hki : k = i := by omega
            subst hki
            go_wp2_with fail
            go_ret2
            exact ⟨by rw [e1, e2, ← HT.out]; rfl, HB2.out⟩

end Go.Proofs.Ytoljhoabbaigdaa
