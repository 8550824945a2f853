/- agg's adder in memory; its New, Add, Tally: walked. -/
import Derived.Test.YtoljhoabbaigdaaI2m
import Derived.Test.YtoljhoabbaigdaaI1v
import Derived.Test.YtoljhoabbaigdaaG1a
import Derived.Test.YtoljhoabbaigdaaRgc
import Derived.Laws.Cover2
namespace Go.Proofs.Ytoljhoabbaigdaa
open Go.RowKit Ex Fl Ag Ieee
attribute [local go_sem] Oper.semAt_some

@[go_sem] theorem run_store_float15 {P : Program} {w : World} {a : Addr} {m : Mode} (k : FloatKind) (x : Nat) : (store a (.float k x) m).run P w = stored P w a (.float k x) m := run_store P w a _ m rfl
abbrev PtrA (b : Nat) : Value := .pointer (some ⟨b, 0, none⟩)
/-- the adder at b -/
def AdrAt (w : World) (b : Nat) (zs : List Nat) : Prop :=
  ∃ s l m, RowAt w b [.int .i64 (zs.length : Nat), .float .f64 s, .float .f64 l, .float .f64 m] 58 ∧ bitsOf s = sm zs ∧ (zs ≠ [] → l = lst zs ∧ m = mst zs)
theorem AdrAt.lt {w : World} {b : Nat} {zs : List Nat} (h : AdrAt w b zs) : b < w.heap.size := by obtain ⟨_, _, _, r, _⟩ := h; exact r.lt
theorem AdrAt.below {w w' : World} {b : Nat} {zs : List Nat} (h : AdrAt w b zs) (hb : Below w.heap.size w w') : AdrAt w' b zs := by
  obtain ⟨s, l, m, r, q⟩ := h; exact ⟨s, l, m, r.below hb, q⟩

set_option maxRecDepth 100000 in
theorem xNew15 (w : World) : Calls Try.prog 10 #[] w fun e w' => e = .returned (PtrA w.heap.size) ∧ AdrAt w' w.heap.size [] ∧ Below w.heap.size w w' := by
  have RA := Lib.hid (RowAt.new w [.int .i64 0, .float .f64 0, .float .f64 0, .float .f64 0] 58)
  have BA := Lib.hid ((Below.refl w.heap.size w).alloc (Nat.le_refl _) (.cells #[.int .i64 0, .float .f64 0, .float .f64 0, .float .f64 0] 58))
  go_enter Try.func10, Try.ntmps10
  go_wp2_with fail
  go_ret
  exact ⟨rfl, ⟨0, 0, 0, RA.out, by decide, fun h => absurd rfl h⟩, BA.out⟩

/-- a nil adder -/
theorem xAddNil (x : Nat) (w : World) : Calls Try.prog 12 #[.pointer none, .float .f64 x] w fun e w' => e = .returned (.int .i64 2) ∧ Below w.heap.size w w' := by
  have B0 := Lib.hid (Below.refl w.heap.size w)
  go_enter Try.func12, Try.ntmps12
  go_wp2_with fail
  go_ret
  exact ⟨rfl, B0.out⟩

/-- what Add leaves -/
def AddP (b : Nat) (zs : List Nat) (x : Nat) (w : World) (e : Ending) (w' : World) : Prop :=
  e = .returned (.int .i64 0) ∧ AdrAt w' b (zs ++ [x]) ∧ Chg (fun k => k = b) w w'

set_option maxRecDepth 100000 in
set_option maxHeartbeats 2000000 in
theorem xAdd (b : Nat) (zs : List Nat) (x : Nat) (w : World) (h : AdrAt w b zs) (hx : Fits x) (hz : AllFits zs) (hl : zs.length ≤ 1099511627776) :
    Calls Try.prog 12 #[PtrA b, .float .f64 x] w (AddP b zs x w) := by
  obtain ⟨s, l, m, row, hs, hlm⟩ := h
  obtain ⟨n, hn⟩ : ∃ n, n = zs.length := ⟨_, rfl⟩
  rw [← hn] at row hl
  have HN := Lib.hid hn
  -- the last of the worlds
  have fin : ∀ (W : World) (l' m' r : Nat), RowAt W b [.int .i64 (n : Nat), .float .f64 s, .float .f64 l', .float .f64 m'] 58 → Chg (fun k => k = b) w W →
      bitsOf r = fopB (double.add s x) → ((zs ++ [x]) ≠ [] → l' = lst (zs ++ [x]) ∧ m' = mst (zs ++ [x])) → ∀ wq, (wq = W.setCell ⟨b, 0, none⟩ (.int .i64 ((n : Int) + 1)) ∨ wq = (W.setCell ⟨b, 0, none⟩ (.int .i64 ((n : Int) + 1))).drew) →
      (wq.frozen? ⟨b, 1, none⟩ = false ∧ wq.cell? ⟨b, 1, none⟩ = some (.float .f64 s)) ∧ AddP b zs x w (.returned (.int .i64 0)) (wq.setCell ⟨b, 1, none⟩ (.float .f64 r)) := by
    intro W l' m' r hR hC hr hlm wq hw
    have e1 : bitsOf r = sm (zs ++ [x]) := by rw [sm_snoc, hr, add_bits, hs]
    have e2 : (zs ++ [x]).length = n + 1 := by rw [List.length_append, hn]; rfl
    have r0 := hR.set 0 (.int .i64 ((n : Int) + 1))
    have c0 := hC.setCell (p := ⟨b, 0, none⟩) (.inl rfl) (.int .i64 ((n : Int) + 1))
    have hq : RowAt wq b [.int .i64 ((n : Int) + 1), .float .f64 s, .float .f64 l', .float .f64 m'] 58 ∧ Chg (fun k => k = b) w wq := by
      rcases hw with rfl | rfl
      · exact ⟨r0, c0⟩
      · exact ⟨r0, c0.drew⟩
    refine ⟨⟨hq.1.frozen 1, hq.1.cell 1⟩, rfl, ⟨r, l', m', ?_, e1, hlm⟩, hq.2.setCell (.inl rfl) _⟩
    rw [e2, show (((n + 1 : Nat) : Nat) : Int) = (n : Int) + 1 by omega]
    exact hq.1.set 1 _
  have FIN := Lib.hid fin
  have c0 := row.cell 0
  have c1 := row.cell 1
  have c2 := row.cell 2
  have c3 := row.cell 3
  simp only [List.getElem?_cons_succ, List.getElem?_cons_zero] at c0 c1 c2 c3
  have f0 := row.frozen 0
  have f1 := row.frozen 1
  have f2 := row.frozen 2
  have f3 := row.frozen 3
  have ROW := Lib.hid row
  have C0 := Lib.hid (Chg.refl (fun k => k = b) w)
  by_cases h0 : zs = []
  · subst h0
    obtain rfl : n = 0 := hn
    obtain ⟨W, hW⟩ : ∃ W, W = (w.setCell ⟨b, 2, none⟩ (.float .f64 x)).setCell ⟨b, 3, none⟩ (.float .f64 x) := ⟨_, rfl⟩
    have R2 := (ROW.out.set 2 (.float .f64 x)).set 3 (.float .f64 x)
    have C2 := (C0.out.setCell (p := ⟨b, 2, none⟩) (.inl rfl) (.float .f64 x)).setCell (p := ⟨b, 3, none⟩) (.inl rfl) (.float .f64 x)
    rw [← hW] at C2
    obtain ⟨r, wq, hrun, hr, hw⟩ := wl_float (P := Try.prog) (((w.setCell ⟨b, 2, none⟩ (.float .f64 x)).setCell ⟨b, 3, none⟩ (.float .f64 x)).setCell ⟨b, 0, none⟩ (.int .i64 1)) .add 36 s x (by simp)
    obtain ⟨⟨g1, g2⟩, he⟩ := FIN.out W x x r (by rw [hW]; exact R2) C2 hr (fun _ => ⟨rfl, rfl⟩) wq (by rw [hW]; exact hw)
    have END := Lib.hid he
    clear he hr hw R2 C2 hW hlm hs hz fin FIN hx
    go_enter Try.func12, Try.ntmps12
    go_wp2_with fail
    go_ret
    exact END.out
  · obtain ⟨h1, h2⟩ := hlm h0
    have fl : Fits l := by rw [h1]; exact lst_fits hz
    have fm : Fits m := by rw [h2]; exact mst_fits hz
    have n0 : ((n : Int) == 0) = false := by
      have : n ≠ 0 := by rw [hn]; exact fun e => h0 (List.eq_nil_of_length_eq_zero e)
      simp; omega
    have O1 := Lib.hid (norder x l hx fl)
    have O2 := Lib.hid (norder x m hx fm)
    have L1 := lst_snoc h0 x
    have L2 := mst_snoc h0 x
    rw [← h1] at L1
    rw [← h2] at L2
    by_cases p1 : place x < place l
    · have d1 : decide (cmpI (place x) (place l) < 0) = true := by rw [cmp_lt0]; simpa using p1
      by_cases p2 : place m < place x
      · have d2 : decide (0 < cmpI (place x) (place m)) = true := by rw [cmp_gt0]; simpa using p2
        rw [if_pos p1] at L1
        rw [if_pos p2] at L2
        obtain ⟨r, wq, hrun, hr, hw⟩ := wl_float (P := Try.prog) (((w.setCell ⟨b, 2, none⟩ (.float .f64 x)).setCell ⟨b, 3, none⟩ (.float .f64 x)).setCell ⟨b, 0, none⟩ (.int .i64 ((n : Int) + 1))) .add 36 s x (by simp)
        obtain ⟨⟨g1, g2⟩, he⟩ := FIN.out _ x x r ((ROW.out.set 2 (.float .f64 x)).set 3 (.float .f64 x)) ((C0.out.setCell (p := ⟨b, 2, none⟩) (.inl rfl) (.float .f64 x)).setCell (p := ⟨b, 3, none⟩) (.inl rfl) (.float .f64 x)) hr (fun _ => ⟨L1.symm, L2.symm⟩) wq hw
        have END := Lib.hid he
        clear he hr hw hlm hs hz fin FIN hx hn h1 h2 fl fm L1 L2 p1 p2 h0
        go_enter Try.func12, Try.ntmps12
        go_wp2_with fail
        refine (O1.out _).mono ?_
        rintro e w1 ⟨rfl, rfl⟩
        go_wp2_with fail
        refine (O2.out _).mono ?_
        rintro e w1 ⟨rfl, rfl⟩
        go_wp2_with fail
        go_ret
        exact END.out
      · have d2 : decide (0 < cmpI (place x) (place m)) = false := by rw [cmp_gt0]; simpa using p2
        rw [if_pos p1] at L1
        rw [if_neg p2] at L2
        obtain ⟨r, wq, hrun, hr, hw⟩ := wl_float (P := Try.prog) ((w.setCell ⟨b, 2, none⟩ (.float .f64 x)).setCell ⟨b, 0, none⟩ (.int .i64 ((n : Int) + 1))) .add 36 s x (by simp)
        obtain ⟨⟨g1, g2⟩, he⟩ := FIN.out _ x m r (ROW.out.set 2 (.float .f64 x)) (C0.out.setCell (p := ⟨b, 2, none⟩) (.inl rfl) (.float .f64 x)) hr (fun _ => ⟨L1.symm, L2.symm⟩) wq hw
        have END := Lib.hid he
        clear he hr hw hlm hs hz fin FIN hx hn h1 h2 fl fm L1 L2 p1 p2 h0
        go_enter Try.func12, Try.ntmps12
        go_wp2_with fail
        refine (O1.out _).mono ?_
        rintro e w1 ⟨rfl, rfl⟩
        go_wp2_with fail
        refine (O2.out _).mono ?_
        rintro e w1 ⟨rfl, rfl⟩
        go_wp2_with fail
        go_ret
        exact END.out
    · have d1 : decide (cmpI (place x) (place l) < 0) = false := by rw [cmp_lt0]; simpa using p1
      by_cases p2 : place m < place x
      · have d2 : decide (0 < cmpI (place x) (place m)) = true := by rw [cmp_gt0]; simpa using p2
        rw [if_neg p1] at L1
        rw [if_pos p2] at L2
        obtain ⟨r, wq, hrun, hr, hw⟩ := wl_float (P := Try.prog) ((w.setCell ⟨b, 3, none⟩ (.float .f64 x)).setCell ⟨b, 0, none⟩ (.int .i64 ((n : Int) + 1))) .add 36 s x (by simp)
        obtain ⟨⟨g1, g2⟩, he⟩ := FIN.out _ l x r (ROW.out.set 3 (.float .f64 x)) (C0.out.setCell (p := ⟨b, 3, none⟩) (.inl rfl) (.float .f64 x)) hr (fun _ => ⟨L1.symm, L2.symm⟩) wq hw
        have END := Lib.hid he
        clear he hr hw hlm hs hz fin FIN hx hn h1 h2 fl fm L1 L2 p1 p2 h0
        go_enter Try.func12, Try.ntmps12
        go_wp2_with fail
        refine (O1.out _).mono ?_
        rintro e w1 ⟨rfl, rfl⟩
        go_wp2_with fail
        refine (O2.out _).mono ?_
        rintro e w1 ⟨rfl, rfl⟩
        go_wp2_with fail
        go_ret
        exact END.out
      · have d2 : decide (0 < cmpI (place x) (place m)) = false := by rw [cmp_gt0]; simpa using p2
        rw [if_neg p1] at L1
        rw [if_neg p2] at L2
        obtain ⟨r, wq, hrun, hr, hw⟩ := wl_float (P := Try.prog) (w.setCell ⟨b, 0, none⟩ (.int .i64 ((n : Int) + 1))) .add 36 s x (by simp)
        obtain ⟨⟨g1, g2⟩, he⟩ := FIN.out _ l m r ROW.out C0.out hr (fun _ => ⟨L1.symm, L2.symm⟩) wq hw
        have END := Lib.hid he
        clear he hr hw hlm hs hz fin FIN hx hn h1 h2 fl fm L1 L2 p1 p2 h0
        go_enter Try.func12, Try.ntmps12
        go_wp2_with fail
        refine (O1.out _).mono ?_
        rintro e w1 ⟨rfl, rfl⟩
        go_wp2_with fail
        refine (O2.out _).mono ?_
        rintro e w1 ⟨rfl, rfl⟩
        go_wp2_with fail
        go_ret
        exact END.out

end Go.Proofs.Ytoljhoabbaigdaa
