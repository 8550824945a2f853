/- cloisonneref09: At: walked. -/
import Derived.Test.YtpafnjdaiagdiaaC9t
import Derived.Laws.Rows
namespace Go.Proofs.Ytpafnjdaiagdiaa
open Go.RowKit

/-- what At holds behind i rounds -/
def stA (l : List Ver) (s : Int) (i : Nat) : Ver × Bool := if min i (cnt s l) = 0 then (Ver.Z, false) else (l.getD (min i (cnt s l) - 1) Ver.Z, !(l.getD (min i (cnt s l) - 1) Ver.Z).gone)
theorem stA_zero (l : List Ver) (s : Int) : stA l s 0 = (Ver.Z, false) := by unfold stA; rw [if_pos (by omega)]
theorem stA_in {l : List Ver} {s : Int} {i : Nat} (h : i < cnt s l) : stA l s (i + 1) = (l.getD i Ver.Z, !(l.getD i Ver.Z).gone) := by
  unfold stA
  rw [if_neg (by omega), show min (i + 1) (cnt s l) - 1 = i by omega]
theorem stA_out {l : List Ver} {s : Int} {i : Nat} (h : ¬ i < cnt s l) : stA l s (i + 1) = stA l s i := by
  unfold stA
  rw [show min (i + 1) (cnt s l) = min i (cnt s l) by omega]
theorem stA_end (l : List Ver) (s : Int) : (stA l s l.length).2 = atOk l s ∧ (atOk l s = true → (stA l s l.length).1 = atL l s) := by
  have := cnt_le s l
  unfold stA atOk
  rw [show min l.length (cnt s l) = cnt s l by omega]
  by_cases c : cnt s l = 0
  · rw [if_pos c, decide_eq_false (by omega), Bool.false_and]
    exact ⟨rfl, fun t => by cases t⟩
  · rw [if_neg c, decide_eq_true (by omega), Bool.true_and]
    refine ⟨rfl, fun t => ?_⟩
    unfold atL atOk
    rw [decide_eq_true (by omega), Bool.true_and, if_pos t]

/-- a version laid into a block -/
def setV (w : World) (g : Nat) (x : Ver) : World := ((((w.setCell ⟨g, 0, none⟩ (.int .i64 x.seq)).setCell ⟨g, 1, none⟩ (.bool x.gone)).setCell ⟨g, 2, none⟩ (.bool x.val.num)).setCell ⟨g, 3, none⟩ (.string x.val.txt)).setCell ⟨g, 4, none⟩ (.int .u64 (x.val.bits : Int))
theorem setV_row {w : World} {g : Nat} {x y : Ver} {t : TypeId} (h : RowAt w g y.cs t) : RowAt (setV w g x) g x.cs t := ((((h.set 0 (.int .i64 x.seq)).set 1 (.bool x.gone)).set 2 (.bool x.val.num)).set 3 (.string x.val.txt)).set 4 (.int .u64 (x.val.bits : Int))
theorem setV_other {w : World} {g q : Nat} {x : Ver} {cs : List Value} {t : TypeId} (h : RowAt w q cs t) (hn : g ≠ q) : RowAt (setV w g x) q cs t := ((((h.other hn _).other hn _).other hn _).other hn _).other hn _
theorem setV_below {w0 w : World} {B g : Nat} {x : Ver} (h : Below B w0 w) (hg : B ≤ g) : Below B w0 (setV w g x) := ((((h.setCell hg _).setCell hg _).setCell hg _).setCell hg _).setCell hg _

theorem results_cell_tmp {P : Program} {fn : Func} {p q : Tmp} {ty : TypeId} (h : fn.results = #[.cell p ty, .tmp q]) (tmps : Array Value) (w : World) (g : Nat) (t : TypeId) (cs : List Value) (d : TypeDesc)
    (hp : tmps.getD p undef = .pointer (some ⟨g, 0, none⟩)) (hg : RowAt w g cs t)
    (hu : P.underlying ty = some d) (hd : (match d with | .struct _ | .array _ _ => true | _ => false) = true) (hi : (P.info? ty).map (·.size) = some cs.toArray.size) :
    (results fn tmps).run P w = .ok (.tuple #[.agg cs.toArray, tmps.getD q undef]) w := by
  have hp' : tmps[p]?.getD undef = .pointer (some ⟨g, 0, none⟩) := by simpa using hp
  simp [results, h, hp', asAddr, run_loadVar_row w g t ty cs.toArray _ d hg hu hd hi]

set_option maxRecDepth 100000 in
set_option maxHeartbeats 2000000 in
/-- At -/
theorem rAt9 (l : List Ver) (A : Option Addr) (c : Nat) (s : Int) (w : World) (h : SlV w A l) (hr : RiseV l) (hl : l.length ≤ 1000) :
    Calls Try.prog 15 #[.slice A l.length c, .int .i64 s] w fun e w' => e = .returned (.tuple #[(atL l s).v, .bool (atOk l s)]) ∧ Below w.heap.size w w' := by
  obtain ⟨n, hn⟩ : ∃ n, n = l.length := ⟨_, rfl⟩
  obtain ⟨B, hB⟩ : ∃ B, B = w.heap.size := ⟨_, rfl⟩
  rw [← hn] at hl
  have EA := Lib.hid (stA_end l s)
  rw [← hn] at EA ⊢
  rw [← hB]
  have HN := Lib.hid hn
  have HB := Lib.hid hB
  have HS := Lib.hid h
  have CI := Lib.hid (fun i hi => cnt_iff (f := s) hr i hi)
  clear hn hB h hr
  go_enter Try.func15, Try.ntmps15
  go_wp2_with fail
  rw [← HB.out]
  go_loopw [7, 8] (fun vo vi wr => ∃ i : Nat, i ≤ n ∧ vo = .bool (stA l s i).2 ∧ vi = .int .i64 i ∧ Hid (RowAt wr B Ver.Z.cs 29) ∧ Hid (RowAt wr (B + 1) (stA l s i).1.cs 29) ∧ Hid (Below B w wr)) (fun _ vi _ => n - (intOf vi).toNat)
  case atStart =>
    have h2 := RowAt.new (w.alloc (.cells Ver.Z.cs.toArray 29)) Ver.Z.cs 29
    rw [show (w.alloc (.cells Ver.Z.cs.toArray 29)).heap.size = w.heap.size + 1 by simp, ← HB.out] at h2
    refine ⟨0, Nat.zero_le _, by rw [stA_zero], rfl, Lib.hid ?_, Lib.hid ?_, Lib.hid ?_⟩
    · rw [HB.out]; exact (RowAt.new w Ver.Z.cs _).alloc _
    · rw [stA_zero]; exact h2
    · rw [HB.out]; exact ((Below.refl _ _).alloc (Nat.le_refl _) _).alloc (by simp) _
  case round =>
    obtain ⟨i, hi, rfl, rfl, HR, HX, HW⟩ := hrel
    by_cases q : i < n
    · have hw : Below w.heap.size w wr := by rw [← HB.out]; exact HW.out
      obtain ⟨b, o, rfl, hb, cc⟩ := HS.out.at (by rw [← HN.out]; exact q)
      obtain ⟨c0, c1, c2, c3, c4⟩ := cells_later hw cc
      obtain ⟨x, hx⟩ : ∃ x, x = l.getD i Ver.Z := ⟨_, rfl⟩
      have CX := Lib.hid (CI.out i (by rw [← HN.out]; exact q))
      rw [← hx] at c0 c1 c2 c3 c4 CX
      have XI := Lib.hid (fun (t : i < cnt s l) => show stA l s (i + 1) = (x, !x.gone) by rw [hx]; exact stA_in t)
      obtain ⟨y, g, v⟩ := x
      obtain ⟨m, t, k⟩ := v
      change wr.cell? _ = some (.int .i64 y) at c0
      change wr.cell? _ = some (.bool g) at c1
      change wr.cell? _ = some (.bool m) at c2
      change wr.cell? _ = some (.string t) at c3
      change wr.cell? _ = some (.int .u64 (k : Int)) at c4
      have i0 : (0 : Int) ≤ (i : Int) := by omega
      have i1 : (i : Int) < (n : Int) := by omega
      clear hx cc hw hb
      by_cases p : y ≤ s
      · have e := HX.out
        have f0 := e.frozen 0
        have f1 := e.frozen 1
        have f2 := e.frozen 2
        have f3 := e.frozen 3
        have f4 := e.frozen 4
        have d0 := e.cell 0
        have d1 := e.cell 1
        have d2 := e.cell 2
        have d3 := e.cell 3
        have d4 := e.cell 4
        have XL := e.lt
        simp only [Ver.cs, List.getElem?_cons_succ, List.getElem?_cons_zero] at d0 d1 d2 d3 d4
        clear e
        have XE := Lib.hid (XI.out (CX.out.2 p))
        have W2 := Lib.hid (show Below B w (setV wr (B + 1) ⟨y, g, ⟨m, t, k⟩⟩) from setV_below HW.out (by omega))
        have R2 := Lib.hid (show RowAt (setV wr (B + 1) ⟨y, g, ⟨m, t, k⟩⟩) B Ver.Z.cs _ from setV_other HR.out (by omega))
        have X2 := Lib.hid (show RowAt (setV wr (B + 1) ⟨y, g, ⟨m, t, k⟩⟩) (B + 1) (Ver.cs ⟨y, g, ⟨m, t, k⟩⟩) _ from setV_row HX.out)
        go_wp2_with fail
        go_roundw
        case rel => exact ⟨i + 1, by omega, by rw [XE.out], by go_num, R2, by rw [XE.out]; exact X2, W2⟩
        case measure => simp [intOf]; omega
      · go_wp2_with fail
        go_roundw
        case rel => exact ⟨i + 1, by omega, by rw [stA_out (fun z => p (CX.out.1 z))], by go_num, HR, by rw [stA_out (fun z => p (CX.out.1 z))]; exact HX, HW⟩
        case measure => simp [intOf]; omega
    · obtain rfl : i = n := by omega
      obtain ⟨z, hz⟩ : ∃ z, z = stA l s i := ⟨_, rfl⟩
      rw [← hz] at EA HX ⊢
      obtain ⟨x, ok⟩ := z
      have E1 := Lib.hid (show ok = atOk l s from EA.out.1)
      have E2 := Lib.hid (show ok = true → x = atL l s from fun h => EA.out.2 (E1.out.symm.trans h))
      have HX : Hid (RowAt wr (B + 1) x.cs 29) := HX
      have e := HR.out
      have f0 := e.frozen 0
      have f1 := e.frozen 1
      have f2 := e.frozen 2
      have f3 := e.frozen 3
      have f4 := e.frozen 4
      have d0 := e.cell 0
      have d1 := e.cell 1
      have d2 := e.cell 2
      have d3 := e.cell 3
      have d4 := e.cell 4
      have RL := e.lt
      have e1 := HX.out
      have g0 := e1.cell 0
      have g1 := e1.cell 1
      have g2 := e1.cell 2
      have g3 := e1.cell 3
      have g4 := e1.cell 4
      have XL := e1.lt
      simp only [Ver.cs, List.getElem?_cons_succ, List.getElem?_cons_zero] at d0 d1 d2 d3 d4 g0 g1 g2 g3 g4
      clear e e1 hz EA
      cases ok with
      | false =>
        have EZ := Lib.hid (show atL l s = Ver.Z by unfold atL; rw [← E1.out]; rfl)
        have FB := Lib.hid (show Below B w (setV wr B Ver.Z) from setV_below HW.out (Nat.le_refl _))
        have FR := (show RowAt (setV wr B Ver.Z) B Ver.Z.cs _ from setV_row HR.out)
        have FX := Lib.hid FR
        clear FR
        go_wp2_with fail
        refine bodyPost_ret (results_cell_tmp rfl _ (setV wr B Ver.Z) B _ _ _ rfl FX.out Try.underlying29 rfl (by kernel_rfl)) rfl ?_
        exact ⟨by rw [EZ.out, ← E1.out]; rfl, FB.out⟩
      | true =>
        have EZ := Lib.hid (E2.out rfl)
        have FB := Lib.hid (show Below B w (setV wr B x) from setV_below HW.out (Nat.le_refl _))
        have FX := Lib.hid (show RowAt (setV wr B x) B x.cs _ from setV_row HR.out)
        go_wp2_with fail
        refine bodyPost_ret (results_cell_tmp rfl _ (setV wr B x) B _ _ _ rfl FX.out Try.underlying29 rfl (by kernel_rfl)) rfl ?_
        exact ⟨by rw [← EZ.out, ← E1.out]; rfl, FB.out⟩

end Go.Proofs.Ytpafnjdaiagdiaa
