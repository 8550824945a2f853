/- expr's made: walked, step by step; slices.Clone of floats. -/
import Derived.Test.YtjahaegdmfgmgaaDoorG1c
import Derived.Lib.SliceRun
import Derived.StillTailTactics
namespace Go.Proofs.YtjahaegdmfgmgaaDoor
open Go.RowKit Ex Fl

theorem slF_one (w : World) (y : Nat) (t : TypeId) : SlF (w.alloc (.cells #[.float .f64 y] t)) (some ⟨w.heap.size, 0, none⟩) [y] := fun _ =>
  ⟨w.heap.size, 0, rfl, by simp, fun j hj => by
    obtain rfl : j = 0 := by simpa using hj
    rw [World.cell?_alloc_at _ _ _ _ rfl]; rfl⟩
theorem slF_two (w : World) (x y : Nat) (t : TypeId) : SlF (w.alloc (.cells #[.float .f64 x, .float .f64 y] t)) (some ⟨w.heap.size, 0, none⟩) [x, y] := fun _ =>
  ⟨w.heap.size, 0, rfl, by simp, fun j hj => by
    have : j = 0 ∨ j = 1 := by simp at hj; omega
    rcases this with rfl | rfl <;> (rw [World.cell?_alloc_at _ _ _ _ rfl]; rfl)⟩
/-- what made leaves: what it answers is bits of one's own yet to be -/
def MadeP (r : Option (List Nat)) (w : World) (e : Ending) (w' : World) : Prop :=
  Below w.heap.size w w' ∧ (∀ l, r = some l → ∃ A c rs, e = .returned (.slice A l.length c) ∧ SlF w' A rs ∧ rs.map bitsOf = l ∧ ∀ g o, A = some ⟨g, o, none⟩ → w.heap.size ≤ g) ∧ (r = none → e = .panicked oddE)
theorem MadeP.one {w W : World} {y r n : Nat} {t : TypeId} (hr : bitsOf r = y) (hb : Below w.heap.size w W) (hn : n = W.heap.size) : MadeP (some [y]) w (.returned (.slice (some ⟨n, 0, none⟩) 1 1)) (W.alloc (.cells #[.float .f64 r] t)) :=
  ⟨hb.alloc hb.size _, fun l e => by
    injection e with e; subst e; subst hn
    exact ⟨_, 1, [r], rfl, slF_one W r t, by rw [List.map_cons, List.map_nil, hr], fun g o q => by injection q with q; injection q with q; rw [← q]; exact hb.size⟩, fun e => by cases e⟩
theorem MadeP.two {w W : World} {x y n : Nat} {t : TypeId} (hx : bitsOf x = x) (hy : bitsOf y = y) (hb : Below w.heap.size w W) (hn : n = W.heap.size) : MadeP (some [x, y]) w (.returned (.slice (some ⟨n, 0, none⟩) 2 2)) (W.alloc (.cells #[.float .f64 x, .float .f64 y] t)) :=
  ⟨hb.alloc hb.size _, fun l e => by
    injection e with e; subst e; subst hn
    exact ⟨_, 2, [x, y], rfl, slF_two W x y t, by rw [List.map_cons, List.map_cons, List.map_nil, hx, hy], fun g o q => by injection q with q; injection q with q; rw [← q]; exact hb.size⟩, fun e => by cases e⟩
theorem MadeP.drew {w W : World} {r : Option (List Nat)} {e : Ending} (h : MadeP r w e W) : MadeP r w e W.drew :=
  ⟨h.1.drew, fun l q => by
    obtain ⟨A, c, rs, h1, h2, h3, h4⟩ := h.2.1 l q
    exact ⟨A, c, rs, h1, h2.drew, h3, h4⟩, h.2.2⟩
theorem MadeP.nil {w W : World} (hb : Below w.heap.size w W) : MadeP (some []) w (.returned (.slice none 0 0)) W :=
  ⟨hb, fun l e => by
    injection e with e; subst e
    exact ⟨none, 0, [], rfl, SlF.nil _ _, rfl, fun g o q => by cases q⟩, fun e => by cases e⟩
theorem MadeP.odd {w W : World} (hb : Below w.heap.size w W) : MadeP none w (.panicked oddE) W := ⟨hb, (fun l e => by cases e), fun _ => rfl⟩

set_option maxHeartbeats 1000000 in
set_option maxRecDepth 100000 in
/-- slices.Clone of floats -/
theorem xcloneF (A : Option Addr) (c : Nat) (zs : List Nat) (w : World) (h : SlF w A zs) (hc : zs.length ≤ c) (hn : A = none → c = 0) (hl : zs.length ≤ 1024) :
    Calls Tryd.prog 36 #[.slice A zs.length c] w fun e w' => ∃ v, e = .returned v ∧ OwnF w' w.heap.size v zs ∧ Below w.heap.size w w' := by
  cases A with
  | none =>
    have c0 := hn rfl
    have z0 : zs = [] := List.eq_nil_of_length_eq_zero (by omega)
    subst z0
    subst c0
    show Calls Tryd.prog 36 #[.slice none 0 0] w _
    clear h hc hn hl
    have RUN := fun w' : World => Lib.run_eql_slice_nil (P := Tryd.prog) w' 34 25 none 0 0 0 0 Tryd.underlying34
    simp only [Option.isNone_none] at RUN
    go_enter Tryd.func36, Tryd.ntmps36
    go_wp2_with fail
    go_ret
    exact ⟨_, rfl, OwnF.nil _ _, Below.refl _ _⟩
  | some ad =>
    have HA := Lib.hid h
    have OM := Lib.hid (OwnF.made w w.heap.size (Nat.le_refl _) [] (by simp))
    have BM := Lib.hid ((Below.refl w.heap.size w).alloc (Nat.le_refl _) (.cells (([] : List Nat).map (Value.float .f64)).toArray 25))
    have RUN := fun w' : World => Lib.run_eql_slice_nil (P := Tryd.prog) w' 34 25 (some ad) zs.length c 0 0 Tryd.underlying34
    simp only [Option.isNone_some] at RUN
    clear h hc hn
    go_enter Tryd.func36, Tryd.ntmps36
    go_wp2_with (at_builtin; refine wp_putNF rfl (.tmp 5) (.tmp 6) rfl w.heap.size _ [] rfl OM.out (some ad) c zs rfl (HA.out.alloc _) (fun e => by cases e) (by simp; omega) (by simp) ?_; intro v2 w2 hown2 hb2; have HO2 := Lib.hid hown2; have HB2 := Lib.hid (BM.out.trans hb2); clear hown2 hb2)
    go_ret
    exact ⟨v2, rfl, by simpa using HO2.out, HB2.out⟩

set_option maxRecDepth 100000 in
set_option maxHeartbeats 1000000 in
theorem xmade1 (own x : Nat) (w : World) (A : Option Addr) (kk cc : Nat) :
    Calls Tryd.prog 37 #[.agg #[.int .i64 1, .int .u64 (own : Int)], .float .f64 x, .slice A kk cc] w (MadeP (some [bitsOf x]) w) := by
  have r0 := RowAt.new w [.int .i64 1, .int .u64 (own : Int)] 42
  have hb0 := (Below.refl w.heap.size w).alloc (Nat.le_refl _) (.cells [.int .i64 1, .int .u64 (own : Int)].toArray 42)
  have B0 := Lib.hid hb0
  obtain ⟨c0, c1⟩ : (w.alloc (.cells [.int .i64 1, .int .u64 (own : Int)].toArray 42)).cell? ⟨w.heap.size, 0, none⟩ = some (.int .i64 1) ∧ (w.alloc (.cells [.int .i64 1, .int .u64 (own : Int)].toArray 42)).cell? ⟨w.heap.size, 1, none⟩ = some (.int .u64 (own : Int)) := ⟨r0.cell 0, r0.cell 1⟩
  clear r0 hb0
  go_enter Tryd.func37, Tryd.ntmps37
  go_wp2_with fail
  go_ret
  exact MadeP.one rfl B0.out (by simp)

set_option maxRecDepth 100000 in
set_option maxHeartbeats 1000000 in
theorem xmade2 (own x : Nat) (w : World) (A : Option Addr) (kk cc : Nat) (ho : bitsOf own = own) :
    Calls Tryd.prog 37 #[.agg #[.int .i64 2, .int .u64 (own : Int)], .float .f64 x, .slice A kk cc] w (MadeP (some [own]) w) := by
  have r0 := RowAt.new w [.int .i64 2, .int .u64 (own : Int)] 42
  have hb0 := (Below.refl w.heap.size w).alloc (Nat.le_refl _) (.cells [.int .i64 2, .int .u64 (own : Int)].toArray 42)
  have B0 := Lib.hid hb0
  obtain ⟨c0, c1⟩ : (w.alloc (.cells [.int .i64 2, .int .u64 (own : Int)].toArray 42)).cell? ⟨w.heap.size, 0, none⟩ = some (.int .i64 2) ∧ (w.alloc (.cells [.int .i64 2, .int .u64 (own : Int)].toArray 42)).cell? ⟨w.heap.size, 1, none⟩ = some (.int .u64 (own : Int)) := ⟨r0.cell 0, r0.cell 1⟩
  have NF := Lib.hid (nfrom (own : Int))
  have HO := Lib.hid (show bitsOf (bitsOf ((own : Int)).toNat) = own by rw [Int.toNat_natCast, ho, ho])
  clear r0 hb0 ho
  go_enter Tryd.func37, Tryd.ntmps37
  go_wp2_with fail
  refine (NF.out _).mono ?_
  rintro e w' ⟨rfl, rfl⟩
  go_wp2_with fail
  go_ret
  exact MadeP.one HO.out B0.out (by simp)

set_option maxRecDepth 100000 in
set_option maxHeartbeats 1000000 in
theorem xmade9 (a b c y : Nat) (own x : Nat) (w : World) (A : Option Addr) (kk cc : Nat) (h : SlF w A [a]) (hk : kk = 1) (ha : Fits a ∧ bitsOf a = a) (hm : mk 9 own x a b c = some [y]) :
    Calls Tryd.prog 37 #[.agg #[.int .i64 9, .int .u64 (own : Int)], .float .f64 x, .slice A kk cc] w (MadeP (some [y]) w) := by
  have r0 := RowAt.new w [.int .i64 9, .int .u64 (own : Int)] 42
  have hb0 := (Below.refl w.heap.size w).alloc (Nat.le_refl _) (.cells [.int .i64 9, .int .u64 (own : Int)].toArray 42)
  have B0 := Lib.hid hb0
  obtain ⟨c0, c1⟩ : (w.alloc (.cells [.int .i64 9, .int .u64 (own : Int)].toArray 42)).cell? ⟨w.heap.size, 0, none⟩ = some (.int .i64 9) ∧ (w.alloc (.cells [.int .i64 9, .int .u64 (own : Int)].toArray 42)).cell? ⟨w.heap.size, 1, none⟩ = some (.int .u64 (own : Int)) := ⟨r0.cell 0, r0.cell 1⟩
  subst hk
  obtain ⟨g, o, rfl, hg, hc⟩ := (h.below hb0) (by simp)
  have a0 := hc 0 (by simp)
  simp only [List.getD_cons_zero, Nat.add_zero] at a0
  have XO := Lib.hid (xofOne 9 own x a b c y ha.1 ha.2 (by simp) hm)
  clear r0 hb0 h hc hg ha hm
  go_enter Tryd.func37, Tryd.ntmps37
  go_wp2_with fail
  refine wp_region_still_tail 5 (by kernel_rfl) (by kernel_rfl) ?_
  simp only [List.take_succ_cons, List.take_zero, List.drop_succ_cons, List.drop_zero]
  change wpStill _ _ (World.drew _) (fun a' => wpList _ _ _ _ a' (World.drew _)) _ _
  repeat still_step
  refine wpStill_nil ?_
  go_wp2_with fail
  refine (XO.out _).mono ?_
  rintro e w' ⟨⟨r, rfl, hr⟩, rfl⟩
  have HR := Lib.hid hr
  clear hr
  go_wp2_with fail
  go_ret
  exact MadeP.drew (MadeP.one HR.out B0.out (by simp))

set_option maxRecDepth 100000 in
set_option maxHeartbeats 1000000 in
theorem xmade10 (a b c y : Nat) (own x : Nat) (w : World) (A : Option Addr) (kk cc : Nat) (h : SlF w A [a]) (hk : kk = 1) (ha : Fits a ∧ bitsOf a = a) (hm : mk 10 own x a b c = some [y]) :
    Calls Tryd.prog 37 #[.agg #[.int .i64 10, .int .u64 (own : Int)], .float .f64 x, .slice A kk cc] w (MadeP (some [y]) w) := by
  have r0 := RowAt.new w [.int .i64 10, .int .u64 (own : Int)] 42
  have hb0 := (Below.refl w.heap.size w).alloc (Nat.le_refl _) (.cells [.int .i64 10, .int .u64 (own : Int)].toArray 42)
  have B0 := Lib.hid hb0
  obtain ⟨c0, c1⟩ : (w.alloc (.cells [.int .i64 10, .int .u64 (own : Int)].toArray 42)).cell? ⟨w.heap.size, 0, none⟩ = some (.int .i64 10) ∧ (w.alloc (.cells [.int .i64 10, .int .u64 (own : Int)].toArray 42)).cell? ⟨w.heap.size, 1, none⟩ = some (.int .u64 (own : Int)) := ⟨r0.cell 0, r0.cell 1⟩
  subst hk
  obtain ⟨g, o, rfl, hg, hc⟩ := (h.below hb0) (by simp)
  have a0 := hc 0 (by simp)
  simp only [List.getD_cons_zero, Nat.add_zero] at a0
  have XO := Lib.hid (xofOne 10 own x a b c y ha.1 ha.2 (by simp) hm)
  clear r0 hb0 h hc hg ha hm
  go_enter Tryd.func37, Tryd.ntmps37
  go_wp2_with fail
  refine wp_region_still_tail 5 (by kernel_rfl) (by kernel_rfl) ?_
  simp only [List.take_succ_cons, List.take_zero, List.drop_succ_cons, List.drop_zero]
  change wpStill _ _ (World.drew _) (fun a' => wpList _ _ _ _ a' (World.drew _)) _ _
  repeat still_step
  refine wpStill_nil ?_
  go_wp2_with fail
  refine (XO.out _).mono ?_
  rintro e w' ⟨⟨r, rfl, hr⟩, rfl⟩
  have HR := Lib.hid hr
  clear hr
  go_wp2_with fail
  go_ret
  exact MadeP.drew (MadeP.one HR.out B0.out (by simp))

set_option maxRecDepth 100000 in
set_option maxHeartbeats 1000000 in
theorem xmade11 (a b c y : Nat) (own x : Nat) (w : World) (A : Option Addr) (kk cc : Nat) (h : SlF w A [a]) (hk : kk = 1) (ha : Fits a ∧ bitsOf a = a) (hm : mk 11 own x a b c = some [y]) :
    Calls Tryd.prog 37 #[.agg #[.int .i64 11, .int .u64 (own : Int)], .float .f64 x, .slice A kk cc] w (MadeP (some [y]) w) := by
  have r0 := RowAt.new w [.int .i64 11, .int .u64 (own : Int)] 42
  have hb0 := (Below.refl w.heap.size w).alloc (Nat.le_refl _) (.cells [.int .i64 11, .int .u64 (own : Int)].toArray 42)
  have B0 := Lib.hid hb0
  obtain ⟨c0, c1⟩ : (w.alloc (.cells [.int .i64 11, .int .u64 (own : Int)].toArray 42)).cell? ⟨w.heap.size, 0, none⟩ = some (.int .i64 11) ∧ (w.alloc (.cells [.int .i64 11, .int .u64 (own : Int)].toArray 42)).cell? ⟨w.heap.size, 1, none⟩ = some (.int .u64 (own : Int)) := ⟨r0.cell 0, r0.cell 1⟩
  subst hk
  obtain ⟨g, o, rfl, hg, hc⟩ := (h.below hb0) (by simp)
  have a0 := hc 0 (by simp)
  simp only [List.getD_cons_zero, Nat.add_zero] at a0
  have XO := Lib.hid (xofOne 11 own x a b c y ha.1 ha.2 (by simp) hm)
  clear r0 hb0 h hc hg ha hm
  go_enter Tryd.func37, Tryd.ntmps37
  go_wp2_with fail
  refine wp_region_still_tail 5 (by kernel_rfl) (by kernel_rfl) ?_
  simp only [List.take_succ_cons, List.take_zero, List.drop_succ_cons, List.drop_zero]
  change wpStill _ _ (World.drew _) (fun a' => wpList _ _ _ _ a' (World.drew _)) _ _
  repeat still_step
  refine wpStill_nil ?_
  go_wp2_with fail
  refine (XO.out _).mono ?_
  rintro e w' ⟨⟨r, rfl, hr⟩, rfl⟩
  have HR := Lib.hid hr
  clear hr
  go_wp2_with fail
  go_ret
  exact MadeP.drew (MadeP.one HR.out B0.out (by simp))

set_option maxRecDepth 100000 in
set_option maxHeartbeats 1000000 in
theorem xmade12 (a : Nat) (own x : Nat) (w : World) (A : Option Addr) (kk cc : Nat) (h : SlF w A [a]) (hk : kk = 1) (ha : bitsOf a = a) :
    Calls Tryd.prog 37 #[.agg #[.int .i64 12, .int .u64 (own : Int)], .float .f64 x, .slice A kk cc] w (MadeP (some [a, a]) w) := by
  have r0 := RowAt.new w [.int .i64 12, .int .u64 (own : Int)] 42
  have hb0 := (Below.refl w.heap.size w).alloc (Nat.le_refl _) (.cells [.int .i64 12, .int .u64 (own : Int)].toArray 42)
  have B0 := Lib.hid hb0
  obtain ⟨c0, c1⟩ : (w.alloc (.cells [.int .i64 12, .int .u64 (own : Int)].toArray 42)).cell? ⟨w.heap.size, 0, none⟩ = some (.int .i64 12) ∧ (w.alloc (.cells [.int .i64 12, .int .u64 (own : Int)].toArray 42)).cell? ⟨w.heap.size, 1, none⟩ = some (.int .u64 (own : Int)) := ⟨r0.cell 0, r0.cell 1⟩
  subst hk
  obtain ⟨g, o, rfl, hg, hc⟩ := (h.below hb0) (by simp)
  have a0 := hc 0 (by simp)
  simp only [List.getD_cons_zero, Nat.add_zero] at a0
  have HA := Lib.hid ha
  clear r0 hb0 h hc hg ha
  go_enter Tryd.func37, Tryd.ntmps37
  go_wp2_with fail
  refine wp_region_still_tail 6 (by kernel_rfl) (by kernel_rfl) ?_
  simp only [List.take_succ_cons, List.take_zero, List.drop_succ_cons, List.drop_zero]
  change wpStill _ _ (World.drew _) (fun a' => wpList _ _ _ _ a' (World.drew _)) _ _
  repeat still_step
  refine wpStill_nil ?_
  go_wp2_with fail
  go_ret
  exact MadeP.drew (MadeP.two HA.out HA.out B0.out (by simp))

set_option maxRecDepth 100000 in
set_option maxHeartbeats 1000000 in
theorem xmade13 (a b : Nat) (own x : Nat) (w : World) (A : Option Addr) (kk cc : Nat) (h : SlF w A [a, b]) (hk : kk = 2) (ha : bitsOf a = a) (hb : bitsOf b = b) :
    Calls Tryd.prog 37 #[.agg #[.int .i64 13, .int .u64 (own : Int)], .float .f64 x, .slice A kk cc] w (MadeP (some [b, a]) w) := by
  have r0 := RowAt.new w [.int .i64 13, .int .u64 (own : Int)] 42
  have hb0 := (Below.refl w.heap.size w).alloc (Nat.le_refl _) (.cells [.int .i64 13, .int .u64 (own : Int)].toArray 42)
  have B0 := Lib.hid hb0
  obtain ⟨c0, c1⟩ : (w.alloc (.cells [.int .i64 13, .int .u64 (own : Int)].toArray 42)).cell? ⟨w.heap.size, 0, none⟩ = some (.int .i64 13) ∧ (w.alloc (.cells [.int .i64 13, .int .u64 (own : Int)].toArray 42)).cell? ⟨w.heap.size, 1, none⟩ = some (.int .u64 (own : Int)) := ⟨r0.cell 0, r0.cell 1⟩
  subst hk
  obtain ⟨g, o, rfl, hg, hc⟩ := (h.below hb0) (by simp)
  have a0 := hc 0 (by simp)
  have a1 := hc 1 (by simp)
  simp only [List.getD_cons_zero, List.getD_cons_succ, Nat.add_zero] at a0 a1
  have HA := Lib.hid ha
  have HBB := Lib.hid hb
  clear r0 hb0 h hc hg ha hb
  go_enter Tryd.func37, Tryd.ntmps37
  go_wp2_with fail
  refine wp_region_still_tail 6 (by kernel_rfl) (by kernel_rfl) ?_
  simp only [List.take_succ_cons, List.take_zero, List.drop_succ_cons, List.drop_zero]
  change wpStill _ _ (World.drew _) (fun a' => wpList _ _ _ _ a' (World.drew _)) _ _
  repeat still_step
  refine wpStill_nil ?_
  go_wp2_with fail
  go_ret
  exact MadeP.drew (MadeP.two HBB.out HA.out B0.out (by simp))

set_option maxRecDepth 100000 in
set_option maxHeartbeats 1000000 in
theorem xmade14 (own x : Nat) (w : World) (A : Option Addr) (kk cc : Nat) :
    Calls Tryd.prog 37 #[.agg #[.int .i64 14, .int .u64 (own : Int)], .float .f64 x, .slice A kk cc] w (MadeP (some []) w) := by
  have r0 := RowAt.new w [.int .i64 14, .int .u64 (own : Int)] 42
  have hb0 := (Below.refl w.heap.size w).alloc (Nat.le_refl _) (.cells [.int .i64 14, .int .u64 (own : Int)].toArray 42)
  have B0 := Lib.hid hb0
  obtain ⟨c0, c1⟩ : (w.alloc (.cells [.int .i64 14, .int .u64 (own : Int)].toArray 42)).cell? ⟨w.heap.size, 0, none⟩ = some (.int .i64 14) ∧ (w.alloc (.cells [.int .i64 14, .int .u64 (own : Int)].toArray 42)).cell? ⟨w.heap.size, 1, none⟩ = some (.int .u64 (own : Int)) := ⟨r0.cell 0, r0.cell 1⟩
  clear r0 hb0
  go_enter Tryd.func37, Tryd.ntmps37
  go_wp2_with fail
  go_ret
  exact MadeP.nil B0.out

set_option maxRecDepth 100000 in
set_option maxHeartbeats 1000000 in
theorem xmade15y (a : Nat) (own x : Nat) (w : World) (A : Option Addr) (kk cc : Nat) (h : SlF w A [a]) (hk : kk = 1) (ha : Fits a ∧ bitsOf a = a) (hf : fin a = true) :
    Calls Tryd.prog 37 #[.agg #[.int .i64 15, .int .u64 (own : Int)], .float .f64 x, .slice A kk cc] w (MadeP (some [a]) w) := by
  have r0 := RowAt.new w [.int .i64 15, .int .u64 (own : Int)] 42
  have hb0 := (Below.refl w.heap.size w).alloc (Nat.le_refl _) (.cells [.int .i64 15, .int .u64 (own : Int)].toArray 42)
  have B0 := Lib.hid hb0
  obtain ⟨c0, c1⟩ : (w.alloc (.cells [.int .i64 15, .int .u64 (own : Int)].toArray 42)).cell? ⟨w.heap.size, 0, none⟩ = some (.int .i64 15) ∧ (w.alloc (.cells [.int .i64 15, .int .u64 (own : Int)].toArray 42)).cell? ⟨w.heap.size, 1, none⟩ = some (.int .u64 (own : Int)) := ⟨r0.cell 0, r0.cell 1⟩
  subst hk
  obtain ⟨g, o, rfl, hg, hc⟩ := (h.below hb0) (by simp)
  have a0 := hc 0 (by simp)
  simp only [List.getD_cons_zero, Nat.add_zero] at a0
  have XO := Lib.hid (xfinite a ha.1)
  rw [hf] at XO
  simp only [if_true] at XO
  have HA := Lib.hid ha.2
  clear r0 hb0 h hc hg ha hf
  go_enter Tryd.func37, Tryd.ntmps37
  go_wp2_with fail
  refine (XO.out _).mono ?_
  rintro e w' ⟨rfl, rfl⟩
  go_wp2_with fail
  go_ret
  exact MadeP.one HA.out B0.out (by simp)

set_option maxRecDepth 100000 in
set_option maxHeartbeats 1000000 in
theorem xmade15n (a : Nat) (own x : Nat) (w : World) (A : Option Addr) (kk cc : Nat) (h : SlF w A [a]) (hk : kk = 1) (ha : Fits a) (hf : fin a = false) :
    Calls Tryd.prog 37 #[.agg #[.int .i64 15, .int .u64 (own : Int)], .float .f64 x, .slice A kk cc] w (MadeP (none) w) := by
  have r0 := RowAt.new w [.int .i64 15, .int .u64 (own : Int)] 42
  have hb0 := (Below.refl w.heap.size w).alloc (Nat.le_refl _) (.cells [.int .i64 15, .int .u64 (own : Int)].toArray 42)
  have B0 := Lib.hid hb0
  obtain ⟨c0, c1⟩ : (w.alloc (.cells [.int .i64 15, .int .u64 (own : Int)].toArray 42)).cell? ⟨w.heap.size, 0, none⟩ = some (.int .i64 15) ∧ (w.alloc (.cells [.int .i64 15, .int .u64 (own : Int)].toArray 42)).cell? ⟨w.heap.size, 1, none⟩ = some (.int .u64 (own : Int)) := ⟨r0.cell 0, r0.cell 1⟩
  subst hk
  obtain ⟨g, o, rfl, hg, hc⟩ := (h.below hb0) (by simp)
  have a0 := hc 0 (by simp)
  simp only [List.getD_cons_zero, Nat.add_zero] at a0
  have XO := Lib.hid (xfinite a ha)
  rw [hf] at XO
  simp only [Bool.false_eq_true, if_false] at XO
  clear r0 hb0 h hc hg ha hf
  go_enter Tryd.func37, Tryd.ntmps37
  go_wp2_with fail
  refine (XO.out _).mono ?_
  rintro e w' ⟨rfl, rfl⟩
  go_wp2_with fail
  exact ⟨rfl, MadeP.odd B0.out⟩

set_option maxRecDepth 100000 in
set_option maxHeartbeats 1000000 in
theorem xmade16 (a b c : Nat) (own x : Nat) (w : World) (A : Option Addr) (kk cc : Nat) (h : SlF w A [a, b, c]) (hk : kk = 3) (ha : bitsOf a = a) (hb : bitsOf b = b) (hcc : Fits c) :
    Calls Tryd.prog 37 #[.agg #[.int .i64 16, .int .u64 (own : Int)], .float .f64 x, .slice A kk cc] w (MadeP (some [if pos c then a else b]) w) := by
  have r0 := RowAt.new w [.int .i64 16, .int .u64 (own : Int)] 42
  have hb0 := (Below.refl w.heap.size w).alloc (Nat.le_refl _) (.cells [.int .i64 16, .int .u64 (own : Int)].toArray 42)
  have B0 := Lib.hid hb0
  obtain ⟨c0, c1⟩ : (w.alloc (.cells [.int .i64 16, .int .u64 (own : Int)].toArray 42)).cell? ⟨w.heap.size, 0, none⟩ = some (.int .i64 16) ∧ (w.alloc (.cells [.int .i64 16, .int .u64 (own : Int)].toArray 42)).cell? ⟨w.heap.size, 1, none⟩ = some (.int .u64 (own : Int)) := ⟨r0.cell 0, r0.cell 1⟩
  subst hk
  obtain ⟨g, o, rfl, hg, hc⟩ := (h.below hb0) (by simp)
  have a0 := hc 0 (by simp)
  have a1 := hc 1 (by simp)
  have a2 := hc 2 (by simp)
  simp only [List.getD_cons_zero, List.getD_cons_succ, Nat.add_zero] at a0 a1 a2
  have XO := Lib.hid (xpick a b c hcc)
  have HY := Lib.hid (show bitsOf (if pos c = true then a else b) = (if pos c = true then a else b) by split; exact ha; exact hb)
  obtain ⟨y, hy⟩ : ∃ y, y = (if pos c = true then a else b) := ⟨_, rfl⟩
  simp only [← hy] at XO HY ⊢
  clear r0 hb0 h hc hg ha hb hcc hy
  go_enter Tryd.func37, Tryd.ntmps37
  go_wp2_with fail
  refine wp_region_still_tail 9 (by kernel_rfl) (by kernel_rfl) ?_
  simp only [List.take_succ_cons, List.take_zero, List.drop_succ_cons, List.drop_zero]
  change wpStill _ _ (World.drew _) (fun a' => wpList _ _ _ _ a' (World.drew _)) _ _
  repeat still_step
  refine wpStill_nil ?_
  go_wp2_with fail
  refine (XO.out _).mono ?_
  rintro e w' ⟨rfl, rfl⟩
  go_wp2_with fail
  go_ret
  exact MadeP.drew (MadeP.one HY.out B0.out (by simp))

set_option maxRecDepth 100000 in
set_option maxHeartbeats 1000000 in
theorem xmade3 (a b c y : Nat) (own x : Nat) (w : World) (A : Option Addr) (kk cc : Nat) (h : SlF w A [a, b]) (hk : kk = 2) (ha : Fits a ∧ bitsOf a = a) (hb : Fits b ∧ bitsOf b = b) (hm : mk 3 own x a b c = some [y]) :
    Calls Tryd.prog 37 #[.agg #[.int .i64 3, .int .u64 (own : Int)], .float .f64 x, .slice A kk cc] w (MadeP (some [y]) w) := by
  have r0 := RowAt.new w [.int .i64 3, .int .u64 (own : Int)] 42
  have hb0 := (Below.refl w.heap.size w).alloc (Nat.le_refl _) (.cells [.int .i64 3, .int .u64 (own : Int)].toArray 42)
  have B0 := Lib.hid hb0
  obtain ⟨c0, c1⟩ : (w.alloc (.cells [.int .i64 3, .int .u64 (own : Int)].toArray 42)).cell? ⟨w.heap.size, 0, none⟩ = some (.int .i64 3) ∧ (w.alloc (.cells [.int .i64 3, .int .u64 (own : Int)].toArray 42)).cell? ⟨w.heap.size, 1, none⟩ = some (.int .u64 (own : Int)) := ⟨r0.cell 0, r0.cell 1⟩
  subst hk
  obtain ⟨g, o, rfl, hg, hc⟩ := (h.below hb0) (by simp)
  have a0 := hc 0 (by simp)
  have a1 := hc 1 (by simp)
  simp only [List.getD_cons_zero, List.getD_cons_succ, Nat.add_zero] at a0 a1
  have XO := Lib.hid (xofTwo 3 own x a b c y ha hb (by decide) (by decide) hm)
  clear r0 hb0 h hc hg ha hb hm
  go_enter Tryd.func37, Tryd.ntmps37
  go_wp2_with fail
  refine wp_region_still_tail 8 (by kernel_rfl) (by kernel_rfl) ?_
  simp only [List.take_succ_cons, List.take_zero, List.drop_succ_cons, List.drop_zero]
  change wpStill _ _ (World.drew _) (fun a' => wpList _ _ _ _ a' (World.drew _)) _ _
  repeat still_step
  refine wpStill_nil ?_
  go_wp2_with fail
  refine (XO.out _).mono ?_
  rintro e w' ⟨⟨r, rfl, hr⟩, hb⟩
  have HR := Lib.hid hr
  have HB := Lib.hid (B0.out.drew.trans (hb.mono B0.out.drew.size))
  clear hr hb
  go_wp2_with fail
  go_ret
  exact MadeP.one HR.out HB.out rfl

set_option maxRecDepth 100000 in
set_option maxHeartbeats 1000000 in
theorem xmade4 (a b c y : Nat) (own x : Nat) (w : World) (A : Option Addr) (kk cc : Nat) (h : SlF w A [a, b]) (hk : kk = 2) (ha : Fits a ∧ bitsOf a = a) (hb : Fits b ∧ bitsOf b = b) (hm : mk 4 own x a b c = some [y]) :
    Calls Tryd.prog 37 #[.agg #[.int .i64 4, .int .u64 (own : Int)], .float .f64 x, .slice A kk cc] w (MadeP (some [y]) w) := by
  have r0 := RowAt.new w [.int .i64 4, .int .u64 (own : Int)] 42
  have hb0 := (Below.refl w.heap.size w).alloc (Nat.le_refl _) (.cells [.int .i64 4, .int .u64 (own : Int)].toArray 42)
  have B0 := Lib.hid hb0
  obtain ⟨c0, c1⟩ : (w.alloc (.cells [.int .i64 4, .int .u64 (own : Int)].toArray 42)).cell? ⟨w.heap.size, 0, none⟩ = some (.int .i64 4) ∧ (w.alloc (.cells [.int .i64 4, .int .u64 (own : Int)].toArray 42)).cell? ⟨w.heap.size, 1, none⟩ = some (.int .u64 (own : Int)) := ⟨r0.cell 0, r0.cell 1⟩
  subst hk
  obtain ⟨g, o, rfl, hg, hc⟩ := (h.below hb0) (by simp)
  have a0 := hc 0 (by simp)
  have a1 := hc 1 (by simp)
  simp only [List.getD_cons_zero, List.getD_cons_succ, Nat.add_zero] at a0 a1
  have XO := Lib.hid (xofTwo 4 own x a b c y ha hb (by decide) (by decide) hm)
  clear r0 hb0 h hc hg ha hb hm
  go_enter Tryd.func37, Tryd.ntmps37
  go_wp2_with fail
  refine wp_region_still_tail 8 (by kernel_rfl) (by kernel_rfl) ?_
  simp only [List.take_succ_cons, List.take_zero, List.drop_succ_cons, List.drop_zero]
  change wpStill _ _ (World.drew _) (fun a' => wpList _ _ _ _ a' (World.drew _)) _ _
  repeat still_step
  refine wpStill_nil ?_
  go_wp2_with fail
  refine (XO.out _).mono ?_
  rintro e w' ⟨⟨r, rfl, hr⟩, hb⟩
  have HR := Lib.hid hr
  have HB := Lib.hid (B0.out.drew.trans (hb.mono B0.out.drew.size))
  clear hr hb
  go_wp2_with fail
  go_ret
  exact MadeP.one HR.out HB.out rfl

set_option maxRecDepth 100000 in
set_option maxHeartbeats 1000000 in
theorem xmade5 (a b c y : Nat) (own x : Nat) (w : World) (A : Option Addr) (kk cc : Nat) (h : SlF w A [a, b]) (hk : kk = 2) (ha : Fits a ∧ bitsOf a = a) (hb : Fits b ∧ bitsOf b = b) (hm : mk 5 own x a b c = some [y]) :
    Calls Tryd.prog 37 #[.agg #[.int .i64 5, .int .u64 (own : Int)], .float .f64 x, .slice A kk cc] w (MadeP (some [y]) w) := by
  have r0 := RowAt.new w [.int .i64 5, .int .u64 (own : Int)] 42
  have hb0 := (Below.refl w.heap.size w).alloc (Nat.le_refl _) (.cells [.int .i64 5, .int .u64 (own : Int)].toArray 42)
  have B0 := Lib.hid hb0
  obtain ⟨c0, c1⟩ : (w.alloc (.cells [.int .i64 5, .int .u64 (own : Int)].toArray 42)).cell? ⟨w.heap.size, 0, none⟩ = some (.int .i64 5) ∧ (w.alloc (.cells [.int .i64 5, .int .u64 (own : Int)].toArray 42)).cell? ⟨w.heap.size, 1, none⟩ = some (.int .u64 (own : Int)) := ⟨r0.cell 0, r0.cell 1⟩
  subst hk
  obtain ⟨g, o, rfl, hg, hc⟩ := (h.below hb0) (by simp)
  have a0 := hc 0 (by simp)
  have a1 := hc 1 (by simp)
  simp only [List.getD_cons_zero, List.getD_cons_succ, Nat.add_zero] at a0 a1
  have XO := Lib.hid (xofTwo 5 own x a b c y ha hb (by decide) (by decide) hm)
  clear r0 hb0 h hc hg ha hb hm
  go_enter Tryd.func37, Tryd.ntmps37
  go_wp2_with fail
  refine wp_region_still_tail 8 (by kernel_rfl) (by kernel_rfl) ?_
  simp only [List.take_succ_cons, List.take_zero, List.drop_succ_cons, List.drop_zero]
  change wpStill _ _ (World.drew _) (fun a' => wpList _ _ _ _ a' (World.drew _)) _ _
  repeat still_step
  refine wpStill_nil ?_
  go_wp2_with fail
  refine (XO.out _).mono ?_
  rintro e w' ⟨⟨r, rfl, hr⟩, hb⟩
  have HR := Lib.hid hr
  have HB := Lib.hid (B0.out.drew.trans (hb.mono B0.out.drew.size))
  clear hr hb
  go_wp2_with fail
  go_ret
  exact MadeP.one HR.out HB.out rfl

set_option maxRecDepth 100000 in
set_option maxHeartbeats 1000000 in
theorem xmade6 (a b c y : Nat) (own x : Nat) (w : World) (A : Option Addr) (kk cc : Nat) (h : SlF w A [a, b]) (hk : kk = 2) (ha : Fits a ∧ bitsOf a = a) (hb : Fits b ∧ bitsOf b = b) (hm : mk 6 own x a b c = some [y]) :
    Calls Tryd.prog 37 #[.agg #[.int .i64 6, .int .u64 (own : Int)], .float .f64 x, .slice A kk cc] w (MadeP (some [y]) w) := by
  have r0 := RowAt.new w [.int .i64 6, .int .u64 (own : Int)] 42
  have hb0 := (Below.refl w.heap.size w).alloc (Nat.le_refl _) (.cells [.int .i64 6, .int .u64 (own : Int)].toArray 42)
  have B0 := Lib.hid hb0
  obtain ⟨c0, c1⟩ : (w.alloc (.cells [.int .i64 6, .int .u64 (own : Int)].toArray 42)).cell? ⟨w.heap.size, 0, none⟩ = some (.int .i64 6) ∧ (w.alloc (.cells [.int .i64 6, .int .u64 (own : Int)].toArray 42)).cell? ⟨w.heap.size, 1, none⟩ = some (.int .u64 (own : Int)) := ⟨r0.cell 0, r0.cell 1⟩
  subst hk
  obtain ⟨g, o, rfl, hg, hc⟩ := (h.below hb0) (by simp)
  have a0 := hc 0 (by simp)
  have a1 := hc 1 (by simp)
  simp only [List.getD_cons_zero, List.getD_cons_succ, Nat.add_zero] at a0 a1
  have XO := Lib.hid (xofTwo 6 own x a b c y ha hb (by decide) (by decide) hm)
  clear r0 hb0 h hc hg ha hb hm
  go_enter Tryd.func37, Tryd.ntmps37
  go_wp2_with fail
  refine wp_region_still_tail 8 (by kernel_rfl) (by kernel_rfl) ?_
  simp only [List.take_succ_cons, List.take_zero, List.drop_succ_cons, List.drop_zero]
  change wpStill _ _ (World.drew _) (fun a' => wpList _ _ _ _ a' (World.drew _)) _ _
  repeat still_step
  refine wpStill_nil ?_
  go_wp2_with fail
  refine (XO.out _).mono ?_
  rintro e w' ⟨⟨r, rfl, hr⟩, hb⟩
  have HR := Lib.hid hr
  have HB := Lib.hid (B0.out.drew.trans (hb.mono B0.out.drew.size))
  clear hr hb
  go_wp2_with fail
  go_ret
  exact MadeP.one HR.out HB.out rfl

set_option maxRecDepth 100000 in
set_option maxHeartbeats 1000000 in
theorem xmade7 (a b c y : Nat) (own x : Nat) (w : World) (A : Option Addr) (kk cc : Nat) (h : SlF w A [a, b]) (hk : kk = 2) (ha : Fits a ∧ bitsOf a = a) (hb : Fits b ∧ bitsOf b = b) (hm : mk 7 own x a b c = some [y]) :
    Calls Tryd.prog 37 #[.agg #[.int .i64 7, .int .u64 (own : Int)], .float .f64 x, .slice A kk cc] w (MadeP (some [y]) w) := by
  have r0 := RowAt.new w [.int .i64 7, .int .u64 (own : Int)] 42
  have hb0 := (Below.refl w.heap.size w).alloc (Nat.le_refl _) (.cells [.int .i64 7, .int .u64 (own : Int)].toArray 42)
  have B0 := Lib.hid hb0
  obtain ⟨c0, c1⟩ : (w.alloc (.cells [.int .i64 7, .int .u64 (own : Int)].toArray 42)).cell? ⟨w.heap.size, 0, none⟩ = some (.int .i64 7) ∧ (w.alloc (.cells [.int .i64 7, .int .u64 (own : Int)].toArray 42)).cell? ⟨w.heap.size, 1, none⟩ = some (.int .u64 (own : Int)) := ⟨r0.cell 0, r0.cell 1⟩
  subst hk
  obtain ⟨g, o, rfl, hg, hc⟩ := (h.below hb0) (by simp)
  have a0 := hc 0 (by simp)
  have a1 := hc 1 (by simp)
  simp only [List.getD_cons_zero, List.getD_cons_succ, Nat.add_zero] at a0 a1
  have XO := Lib.hid (xofTwo 7 own x a b c y ha hb (by decide) (by decide) hm)
  clear r0 hb0 h hc hg ha hb hm
  go_enter Tryd.func37, Tryd.ntmps37
  go_wp2_with fail
  refine wp_region_still_tail 8 (by kernel_rfl) (by kernel_rfl) ?_
  simp only [List.take_succ_cons, List.take_zero, List.drop_succ_cons, List.drop_zero]
  change wpStill _ _ (World.drew _) (fun a' => wpList _ _ _ _ a' (World.drew _)) _ _
  repeat still_step
  refine wpStill_nil ?_
  go_wp2_with fail
  refine (XO.out _).mono ?_
  rintro e w' ⟨⟨r, rfl, hr⟩, hb⟩
  have HR := Lib.hid hr
  have HB := Lib.hid (B0.out.drew.trans (hb.mono B0.out.drew.size))
  clear hr hb
  go_wp2_with fail
  go_ret
  exact MadeP.one HR.out HB.out rfl

set_option maxRecDepth 100000 in
set_option maxHeartbeats 1000000 in
theorem xmade8 (a b c y : Nat) (own x : Nat) (w : World) (A : Option Addr) (kk cc : Nat) (h : SlF w A [a, b]) (hk : kk = 2) (ha : Fits a ∧ bitsOf a = a) (hb : Fits b ∧ bitsOf b = b) (hm : mk 8 own x a b c = some [y]) :
    Calls Tryd.prog 37 #[.agg #[.int .i64 8, .int .u64 (own : Int)], .float .f64 x, .slice A kk cc] w (MadeP (some [y]) w) := by
  have r0 := RowAt.new w [.int .i64 8, .int .u64 (own : Int)] 42
  have hb0 := (Below.refl w.heap.size w).alloc (Nat.le_refl _) (.cells [.int .i64 8, .int .u64 (own : Int)].toArray 42)
  have B0 := Lib.hid hb0
  obtain ⟨c0, c1⟩ : (w.alloc (.cells [.int .i64 8, .int .u64 (own : Int)].toArray 42)).cell? ⟨w.heap.size, 0, none⟩ = some (.int .i64 8) ∧ (w.alloc (.cells [.int .i64 8, .int .u64 (own : Int)].toArray 42)).cell? ⟨w.heap.size, 1, none⟩ = some (.int .u64 (own : Int)) := ⟨r0.cell 0, r0.cell 1⟩
  subst hk
  obtain ⟨g, o, rfl, hg, hc⟩ := (h.below hb0) (by simp)
  have a0 := hc 0 (by simp)
  have a1 := hc 1 (by simp)
  simp only [List.getD_cons_zero, List.getD_cons_succ, Nat.add_zero] at a0 a1
  have XO := Lib.hid (xofTwo 8 own x a b c y ha hb (by decide) (by decide) hm)
  clear r0 hb0 h hc hg ha hb hm
  go_enter Tryd.func37, Tryd.ntmps37
  go_wp2_with fail
  refine wp_region_still_tail 8 (by kernel_rfl) (by kernel_rfl) ?_
  simp only [List.take_succ_cons, List.take_zero, List.drop_succ_cons, List.drop_zero]
  change wpStill _ _ (World.drew _) (fun a' => wpList _ _ _ _ a' (World.drew _)) _ _
  repeat still_step
  refine wpStill_nil ?_
  go_wp2_with fail
  refine (XO.out _).mono ?_
  rintro e w' ⟨⟨r, rfl, hr⟩, hb⟩
  have HR := Lib.hid hr
  have HB := Lib.hid (B0.out.drew.trans (hb.mono B0.out.drew.size))
  clear hr hb
  go_wp2_with fail
  go_ret
  exact MadeP.one HR.out HB.out rfl

end Go.Proofs.YtjahaegdmfgmgaaDoor
