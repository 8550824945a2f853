/- cloisonneref14: Step, walked, step by step. -/
import Derived.Test.YtjahaegdmfgmgaaDoorG1f2
namespace Go.Proofs.YtjahaegdmfgmgaaDoor
open Go.RowKit Ex Fl

theorem wl_floatF {P : Program} (w : World) (op : BinOp) (t : TypeId) (a b : Nat) (h3 : op = .add ∨ op = .sub ∨ op = .mul ∨ op = .quo) :
    ∃ r w', (binOp op t (.float .f64 a) (.float .f64 b)).run P w = .ok (.float .f64 r) w' ∧ bitsOf r = fopB (floatBits op .f64 a b) ∧ Fits r ∧ (w' = w ∨ w' = w.drew) := by
  cases h : floatBits op .f64 a b with
  | some r =>
    refine ⟨r, w, run_float_arith w op t .f64 a b r h, rfl, ?_, .inl rfl⟩
    unfold floatBits at h
    rcases h3 with rfl | rfl | rfl | rfl <;> simp only at h
    · exact Ieee.double.add_lt h
    · exact Ieee.double.sub_lt h
    · exact Ieee.double.mul_lt h
    · exact Ieee.double.div_lt h
  | none =>
    have nan : ∀ t : Nat, bitsOf ((t % 2) * 2 ^ 63 + 0x7ff0000000000000 + 1 + (t / 2) % (2 ^ 52 - 1)) = NANB ∧ Fits ((t % 2) * 2 ^ 63 + 0x7ff0000000000000 + 1 + (t / 2) % (2 ^ 52 - 1)) := by
      intro t
      have hr : t / 2 % (2 ^ 52 - 1) < 4503599627370495 := Nat.mod_lt _ (by decide)
      generalize t / 2 % (2 ^ 52 - 1) = r at *
      refine ⟨?_, Fits.mk ?_⟩
      · unfold bitsOf
        rw [if_pos]
        rw [nanB_iff]
        rcases Nat.mod_two_eq_zero_or_one t with e | e <;> rw [e] <;> simp <;> omega
      · rcases Nat.mod_two_eq_zero_or_one t with e | e <;> rw [e] <;> omega
    refine ⟨_, w.drew, ?_, (nan (w.tape w.drawn (.nanBits .f64 a b))).1, (nan (w.tape w.drawn (.nanBits .f64 a b))).2, .inr rfl⟩
    unfold floatBits at h
    rcases h3 with rfl | rfl | rfl | rfl <;> simp only at h <;> simp [binOp, Op.floatArith, h, Question.forced, Question.cut]
theorem fin_cls {a : Nat} : (fin a = true → Fl.cls a ≠ 0 ∧ Fl.cls a ≠ 1 ∧ Fl.cls a ≠ 8) ∧ (fin a = false → Fl.cls a = 0 ∨ Fl.cls a = 1 ∨ Fl.cls a = 8) := by
  have hn := nanB_iff a
  unfold fin Fl.cls Fl.ucr
  rw [INF_eq, S52_eq, S63_eq]
  generalize a % 9223372036854775808 = q at *
  rw [hn]
  constructor
  · intro h
    have h2 : q < 9218868437227405312 := by simpa using h
    rw [if_neg (by simp; omega)]
    refine ⟨?_, ?_, ?_⟩ <;> (repeat' split) <;> omega
  · intro h
    have h2 : ¬ q < 9218868437227405312 := by simpa using h
    by_cases h3 : 9218868437227405312 < q
    · left; rw [if_pos (by simpa using h3)]
    · right; rw [if_neg (by simpa using h3)]
      (repeat' split) <;> omega
theorem pos_cls {c : Nat} (hc : Fits c) : decide (6 ≤ Fl.cls c) = pos c := by
  have hl := hc.lt
  have hn := nanB_iff c
  have hg := neg_iff hc
  unfold pos Fl.cls Fl.ucr
  rw [INF_eq, S52_eq, S63_eq, hn, hg, Bool.eq_iff_iff]
  simp only [decide_eq_true_eq, Bool.and_eq_true]
  (repeat' split) <;> omega

/-- what Step leaves -/
def StpR (r : Option (List Nat)) (w : World) (e : Ending) (w' : World) : Prop :=
  Below w.heap.size w w' ∧ (∀ l, r = some l → ∃ A c, e = .returned (.tuple #[.slice A l.length c, .bool true]) ∧ SlF w' A l ∧ (A = none → l = [] ∧ c = 0)) ∧ (r = none → ∃ v, e = .returned (.tuple #[v, .bool false]))
theorem StpR.one {w W : World} {y r n : Nat} {t : TypeId} (hr : r = y) (hb : Below w.heap.size w W) (hn : n = W.heap.size) : StpR (some [y]) w (.returned (.tuple #[.slice (some ⟨n, 0, none⟩) 1 1, .bool true])) (W.alloc (.cells #[.float .f64 r] t)) :=
  ⟨hb.alloc hb.size _, fun l e => by
    injection e with e; subst e; subst hn; subst hr
    exact ⟨_, 1, rfl, slF_one W r t, fun q => by cases q⟩, fun e => by cases e⟩
theorem StpR.two {w W : World} {x y n : Nat} {t : TypeId} (hb : Below w.heap.size w W) (hn : n = W.heap.size) : StpR (some [x, y]) w (.returned (.tuple #[.slice (some ⟨n, 0, none⟩) 2 2, .bool true])) (W.alloc (.cells #[.float .f64 x, .float .f64 y] t)) :=
  ⟨hb.alloc hb.size _, fun l e => by
    injection e with e; subst e; subst hn
    exact ⟨_, 2, rfl, slF_two W x y t, fun q => by cases q⟩, fun e => by cases e⟩
theorem StpR.none {w W : World} {n : Nat} {t : TypeId} (hb : Below w.heap.size w W) : StpR (some []) w (.returned (.tuple #[.slice (some ⟨n, 0, none⟩) 0 0, .bool true])) (W.alloc (.cells #[] t)) :=
  ⟨hb.alloc hb.size _, fun l e => by
    injection e with e; subst e
    exact ⟨_, 0, rfl, SlF.nil _ _, fun q => by cases q⟩, fun e => by cases e⟩
theorem StpR.sub {w W : World} {g o cc y : Nat} (hc : W.cell? ⟨g, o, Option.none⟩ = some (.float .f64 y)) (hb : Below w.heap.size w W) : StpR (some [y]) w (.returned (.tuple #[.slice (some ⟨g, o, Option.none⟩) 1 cc, .bool true])) W :=
  ⟨hb, fun l e => by
    injection e with e; subst e
    refine ⟨_, cc, rfl, fun _ => ⟨g, o, rfl, World.block_lt_of_cell? W _ hc, fun j hj => ?_⟩, fun q => by cases q⟩
    obtain rfl : j = 0 := by simpa using hj
    exact hc, fun e => by cases e⟩
theorem StpR.odd {w W : World} {v : Value} (hb : Below w.heap.size w W) : StpR Option.none w (.returned (.tuple #[v, .bool false])) W := ⟨hb, (fun l e => by cases e), fun _ => ⟨v, rfl⟩⟩
theorem StpR.drew {w W : World} {r : Option (List Nat)} {e : Ending} (h : StpR r w e W) : StpR r w e W.drew :=
  ⟨h.1.drew, fun l q => by
    obtain ⟨A, c, h1, h2, h3⟩ := h.2.1 l q
    exact ⟨A, c, h1, h2.drew, h3⟩, h.2.2⟩

set_option maxRecDepth 100000 in
set_option maxHeartbeats 1000000 in
theorem rstep1 (own x : Nat) (w : World) (A : Option Addr) (kk cc : Nat) (hx : Fits x) :
    Calls Tryd.prog 25 #[.int .i64 1, .float .f64 own, .float .f64 x, .slice A kk cc] w (StpR (some [bitsOf x]) w) := by
  have RO := Lib.hid (rone x hx)
  clear hx
  go_enter Tryd.func25, Tryd.ntmps25
  go_wp2_with fail
  refine (RO.out _).mono ?_
  rintro e w' ⟨rfl, rfl⟩
  go_wp2_with fail
  go_ret2
  exact StpR.one rfl (Below.refl _ _) rfl

set_option maxRecDepth 100000 in
set_option maxHeartbeats 1000000 in
theorem rstep2 (own x : Nat) (w : World) (A : Option Addr) (kk cc : Nat) :
    Calls Tryd.prog 25 #[.int .i64 2, .float .f64 own, .float .f64 x, .slice A kk cc] w (StpR (some [own]) w) := by
  go_enter Tryd.func25, Tryd.ntmps25
  go_wp2_with fail
  go_ret2
  exact StpR.one rfl (Below.refl _ _) rfl

set_option maxRecDepth 100000 in
set_option maxHeartbeats 1000000 in
theorem rstep3 (a b : Nat) (own x : Nat) (w : World) (A : Option Addr) (kk cc : Nat) (h : SlF w A [a, b]) (hk : kk = 2) (hcc : kk ≤ cc) :
    Calls Tryd.prog 25 #[.int .i64 3, .float .f64 own, .float .f64 x, .slice A kk cc] w (StpR (some [fopB (ops4 3 a b)]) w) := by
  subst hk
  obtain ⟨g, o, rfl, hg, hc⟩ := h (by simp)
  have a0 := hc 0 (by simp)
  have a1 := hc 1 (by simp)
  simp only [List.getD_cons_zero, List.getD_cons_succ, Nat.add_zero] at a0 a1
  have A0 := Lib.hid a0
  have A1 := Lib.hid a1
  obtain ⟨r, w1, hrun, hr, hfit, hw⟩ := wl_floatF (P := Tryd.prog) w.drew .add 25 a b (by simp)
  have RO := Lib.hid (rone r hfit)
  have HR := Lib.hid (show bitsOf r = fopB (ops4 3 a b) from hr)
  have HB := Lib.hid (show Below w.heap.size w w1 by rcases hw with rfl | rfl; exact (Below.refl _ _).drew; exact (Below.refl _ _).drew.drew)
  clear h hc hg hr hfit hw
  go_enter Tryd.func25, Tryd.ntmps25
  go_wp2_with fail
  refine wp_region_still_tail 6 (by kernel_rfl) (by kernel_rfl) ?_
  simp only [List.take_succ_cons, List.take_zero, List.drop_succ_cons, List.drop_zero]
  change wpStill _ _ (World.drew _) (fun a' => wpList _ _ _ _ a' (World.drew _)) _ _
  repeat still_step
  refine wpStill_nil ?_
  go_wp2_with fail
  refine (RO.out _).mono ?_
  rintro e w' ⟨rfl, rfl⟩
  go_wp2_with fail
  go_ret2
  exact StpR.one HR.out HB.out rfl

set_option maxRecDepth 100000 in
set_option maxHeartbeats 1000000 in
theorem rstep4 (a b : Nat) (own x : Nat) (w : World) (A : Option Addr) (kk cc : Nat) (h : SlF w A [a, b]) (hk : kk = 2) (hcc : kk ≤ cc) :
    Calls Tryd.prog 25 #[.int .i64 4, .float .f64 own, .float .f64 x, .slice A kk cc] w (StpR (some [fopB (ops4 4 a b)]) w) := by
  subst hk
  obtain ⟨g, o, rfl, hg, hc⟩ := h (by simp)
  have a0 := hc 0 (by simp)
  have a1 := hc 1 (by simp)
  simp only [List.getD_cons_zero, List.getD_cons_succ, Nat.add_zero] at a0 a1
  have A0 := Lib.hid a0
  have A1 := Lib.hid a1
  obtain ⟨r, w1, hrun, hr, hfit, hw⟩ := wl_floatF (P := Tryd.prog) w.drew .sub 25 a b (by simp)
  have RO := Lib.hid (rone r hfit)
  have HR := Lib.hid (show bitsOf r = fopB (ops4 4 a b) from hr)
  have HB := Lib.hid (show Below w.heap.size w w1 by rcases hw with rfl | rfl; exact (Below.refl _ _).drew; exact (Below.refl _ _).drew.drew)
  clear h hc hg hr hfit hw
  go_enter Tryd.func25, Tryd.ntmps25
  go_wp2_with fail
  refine wp_region_still_tail 6 (by kernel_rfl) (by kernel_rfl) ?_
  simp only [List.take_succ_cons, List.take_zero, List.drop_succ_cons, List.drop_zero]
  change wpStill _ _ (World.drew _) (fun a' => wpList _ _ _ _ a' (World.drew _)) _ _
  repeat still_step
  refine wpStill_nil ?_
  go_wp2_with fail
  refine (RO.out _).mono ?_
  rintro e w' ⟨rfl, rfl⟩
  go_wp2_with fail
  go_ret2
  exact StpR.one HR.out HB.out rfl

set_option maxRecDepth 100000 in
set_option maxHeartbeats 1000000 in
theorem rstep5 (a b : Nat) (own x : Nat) (w : World) (A : Option Addr) (kk cc : Nat) (h : SlF w A [a, b]) (hk : kk = 2) (hcc : kk ≤ cc) :
    Calls Tryd.prog 25 #[.int .i64 5, .float .f64 own, .float .f64 x, .slice A kk cc] w (StpR (some [fopB (ops4 5 a b)]) w) := by
  subst hk
  obtain ⟨g, o, rfl, hg, hc⟩ := h (by simp)
  have a0 := hc 0 (by simp)
  have a1 := hc 1 (by simp)
  simp only [List.getD_cons_zero, List.getD_cons_succ, Nat.add_zero] at a0 a1
  have A0 := Lib.hid a0
  have A1 := Lib.hid a1
  obtain ⟨r, w1, hrun, hr, hfit, hw⟩ := wl_floatF (P := Tryd.prog) w.drew .mul 25 a b (by simp)
  have RO := Lib.hid (rone r hfit)
  have HR := Lib.hid (show bitsOf r = fopB (ops4 5 a b) from hr)
  have HB := Lib.hid (show Below w.heap.size w w1 by rcases hw with rfl | rfl; exact (Below.refl _ _).drew; exact (Below.refl _ _).drew.drew)
  clear h hc hg hr hfit hw
  go_enter Tryd.func25, Tryd.ntmps25
  go_wp2_with fail
  refine wp_region_still_tail 6 (by kernel_rfl) (by kernel_rfl) ?_
  simp only [List.take_succ_cons, List.take_zero, List.drop_succ_cons, List.drop_zero]
  change wpStill _ _ (World.drew _) (fun a' => wpList _ _ _ _ a' (World.drew _)) _ _
  repeat still_step
  refine wpStill_nil ?_
  go_wp2_with fail
  refine (RO.out _).mono ?_
  rintro e w' ⟨rfl, rfl⟩
  go_wp2_with fail
  go_ret2
  exact StpR.one HR.out HB.out rfl

set_option maxRecDepth 100000 in
set_option maxHeartbeats 1000000 in
theorem rstep6 (a b : Nat) (own x : Nat) (w : World) (A : Option Addr) (kk cc : Nat) (h : SlF w A [a, b]) (hk : kk = 2) (hcc : kk ≤ cc) :
    Calls Tryd.prog 25 #[.int .i64 6, .float .f64 own, .float .f64 x, .slice A kk cc] w (StpR (some [fopB (ops4 6 a b)]) w) := by
  subst hk
  obtain ⟨g, o, rfl, hg, hc⟩ := h (by simp)
  have a0 := hc 0 (by simp)
  have a1 := hc 1 (by simp)
  simp only [List.getD_cons_zero, List.getD_cons_succ, Nat.add_zero] at a0 a1
  have A0 := Lib.hid a0
  have A1 := Lib.hid a1
  obtain ⟨r, w1, hrun, hr, hfit, hw⟩ := wl_floatF (P := Tryd.prog) w.drew .quo 25 a b (by simp)
  have RO := Lib.hid (rone r hfit)
  have HR := Lib.hid (show bitsOf r = fopB (ops4 6 a b) from hr)
  have HB := Lib.hid (show Below w.heap.size w w1 by rcases hw with rfl | rfl; exact (Below.refl _ _).drew; exact (Below.refl _ _).drew.drew)
  clear h hc hg hr hfit hw
  go_enter Tryd.func25, Tryd.ntmps25
  go_wp2_with fail
  refine wp_region_still_tail 6 (by kernel_rfl) (by kernel_rfl) ?_
  simp only [List.take_succ_cons, List.take_zero, List.drop_succ_cons, List.drop_zero]
  change wpStill _ _ (World.drew _) (fun a' => wpList _ _ _ _ a' (World.drew _)) _ _
  repeat still_step
  refine wpStill_nil ?_
  go_wp2_with fail
  refine (RO.out _).mono ?_
  rintro e w' ⟨rfl, rfl⟩
  go_wp2_with fail
  go_ret2
  exact StpR.one HR.out HB.out rfl

set_option maxRecDepth 100000 in
set_option maxHeartbeats 1000000 in
theorem rstep7 (a b : Nat) (own x : Nat) (w : World) (A : Option Addr) (kk cc : Nat) (h : SlF w A [a, b]) (hk : kk = 2) (hcc : kk ≤ cc) (ha : Fits a) (hb : Fits b) :
    Calls Tryd.prog 25 #[.int .i64 7, .float .f64 own, .float .f64 x, .slice A kk cc] w (StpR (some [if place b < place a then b else a]) w) := by
  subst hk
  obtain ⟨g, o, rfl, hg, hc⟩ := h (by simp)
  have a0 := hc 0 (by simp)
  have a1 := hc 1 (by simp)
  simp only [List.getD_cons_zero, List.getD_cons_succ, Nat.add_zero] at a0 a1
  have A0 := Lib.hid a0
  have A1 := Lib.hid a1
  have RL := Lib.hid (rless b a hb ha)
  have i2 : ¬ cc = 1 := by omega
  have i3 : 2 ≤ cc := hcc
  obtain ⟨D, hD⟩ : ∃ D, D = decide (place b < place a) := ⟨_, rfl⟩
  have hi : (if place b < place a then b else a) = if D = true then b else a := by rw [hD]; simp
  rw [hi]
  rw [← hD] at RL
  clear h hc hg ha hb hD hi hcc
  cases D
  · go_enter Tryd.func25, Tryd.ntmps25
    go_wp2_with fail
    refine wp_region_still_tail 6 (by kernel_rfl) (by kernel_rfl) ?_
    simp only [List.take_succ_cons, List.take_zero, List.drop_succ_cons, List.drop_zero]
    change wpStill _ _ (World.drew _) (fun a' => wpList _ _ _ _ a' (World.drew _)) _ _
    repeat still_step
    refine wpStill_nil ?_
    go_wp2_with fail
    refine (RL.out _).mono ?_
    rintro e w' ⟨rfl, rfl⟩
    go_wp2_with fail
    go_ret2
    exact StpR.drew (StpR.sub A0.out (Below.refl _ _))
  · go_enter Tryd.func25, Tryd.ntmps25
    go_wp2_with fail
    refine wp_region_still_tail 6 (by kernel_rfl) (by kernel_rfl) ?_
    simp only [List.take_succ_cons, List.take_zero, List.drop_succ_cons, List.drop_zero]
    change wpStill _ _ (World.drew _) (fun a' => wpList _ _ _ _ a' (World.drew _)) _ _
    repeat still_step
    refine wpStill_nil ?_
    go_wp2_with fail
    refine (RL.out _).mono ?_
    rintro e w' ⟨rfl, rfl⟩
    go_wp2_with fail
    go_ret2
    exact StpR.drew (StpR.sub A1.out (Below.refl _ _))

set_option maxRecDepth 100000 in
set_option maxHeartbeats 1000000 in
theorem rstep8 (a b : Nat) (own x : Nat) (w : World) (A : Option Addr) (kk cc : Nat) (h : SlF w A [a, b]) (hk : kk = 2) (hcc : kk ≤ cc) (ha : Fits a) (hb : Fits b) :
    Calls Tryd.prog 25 #[.int .i64 8, .float .f64 own, .float .f64 x, .slice A kk cc] w (StpR (some [if place a < place b then b else a]) w) := by
  subst hk
  obtain ⟨g, o, rfl, hg, hc⟩ := h (by simp)
  have a0 := hc 0 (by simp)
  have a1 := hc 1 (by simp)
  simp only [List.getD_cons_zero, List.getD_cons_succ, Nat.add_zero] at a0 a1
  have A0 := Lib.hid a0
  have A1 := Lib.hid a1
  have RL := Lib.hid (rless a b ha hb)
  have i2 : ¬ cc = 1 := by omega
  have i3 : 2 ≤ cc := hcc
  obtain ⟨D, hD⟩ : ∃ D, D = decide (place a < place b) := ⟨_, rfl⟩
  have hi : (if place a < place b then b else a) = if D = true then b else a := by rw [hD]; simp
  rw [hi]
  rw [← hD] at RL
  clear h hc hg ha hb hD hi hcc
  cases D
  · go_enter Tryd.func25, Tryd.ntmps25
    go_wp2_with fail
    refine wp_region_still_tail 6 (by kernel_rfl) (by kernel_rfl) ?_
    simp only [List.take_succ_cons, List.take_zero, List.drop_succ_cons, List.drop_zero]
    change wpStill _ _ (World.drew _) (fun a' => wpList _ _ _ _ a' (World.drew _)) _ _
    repeat still_step
    refine wpStill_nil ?_
    go_wp2_with fail
    refine (RL.out _).mono ?_
    rintro e w' ⟨rfl, rfl⟩
    go_wp2_with fail
    go_ret2
    exact StpR.drew (StpR.sub A0.out (Below.refl _ _))
  · go_enter Tryd.func25, Tryd.ntmps25
    go_wp2_with fail
    refine wp_region_still_tail 6 (by kernel_rfl) (by kernel_rfl) ?_
    simp only [List.take_succ_cons, List.take_zero, List.drop_succ_cons, List.drop_zero]
    change wpStill _ _ (World.drew _) (fun a' => wpList _ _ _ _ a' (World.drew _)) _ _
    repeat still_step
    refine wpStill_nil ?_
    go_wp2_with fail
    refine (RL.out _).mono ?_
    rintro e w' ⟨rfl, rfl⟩
    go_wp2_with fail
    go_ret2
    exact StpR.drew (StpR.sub A1.out (Below.refl _ _))

set_option maxRecDepth 100000 in
set_option maxHeartbeats 1000000 in
theorem rstep9 (a : Nat) (own x : Nat) (w : World) (A : Option Addr) (kk cc : Nat) (h : SlF w A [a]) (hk : kk = 1) (hcc : kk ≤ cc) (ha : Fits a) :
    Calls Tryd.prog 25 #[.int .i64 9, .float .f64 own, .float .f64 x, .slice A kk cc] w (StpR (some [bitsOf (a ^^^ 2 ^ 63)]) w) := by
  subst hk
  obtain ⟨g, o, rfl, hg, hc⟩ := h (by simp)
  have a0 := hc 0 (by simp)
  simp only [List.getD_cons_zero, Nat.add_zero] at a0
  have A0 := Lib.hid a0
  obtain ⟨X, hX⟩ : ∃ X, X = a ^^^ 2 ^ 63 := ⟨_, rfl⟩
  have hx : bits .xor .u64 (a : Int) 9223372036854775808 = (X : Int) := by
    rw [hX]
    exact u64_xor_nat a 9223372036854775808 ha.lt (by decide)
  have RO := Lib.hid (rone X (by rw [hX]; exact xor_fits ha))
  rw [← hX]
  clear h hc hg ha hX
  go_enter Tryd.func25, Tryd.ntmps25
  go_wp2_with fail
  refine (RO.out _).mono ?_
  rintro e w' ⟨rfl, rfl⟩
  go_wp2_with fail
  go_ret2
  exact StpR.one rfl (Below.refl _ _) rfl

set_option maxRecDepth 100000 in
set_option maxHeartbeats 1000000 in
theorem rstep10 (a : Nat) (own x : Nat) (w : World) (A : Option Addr) (kk cc : Nat) (h : SlF w A [a]) (hk : kk = 1) (hcc : kk ≤ cc) :
    Calls Tryd.prog 25 #[.int .i64 10, .float .f64 own, .float .f64 x, .slice A kk cc] w (StpR (some [bitsOf (a % S63)]) w) := by
  subst hk
  obtain ⟨g, o, rfl, hg, hc⟩ := h (by simp)
  have a0 := hc 0 (by simp)
  simp only [List.getD_cons_zero, Nat.add_zero] at a0
  have A0 := Lib.hid a0
  obtain ⟨X, hX⟩ : ∃ X, X = a % S63 := ⟨_, rfl⟩
  have hx : (a : Int) % 9223372036854775808 = (X : Int) := by rw [hX, S63_eq]; omega
  have RO := Lib.hid (rone X (Fits.mk (by rw [hX, S63_eq]; omega)))
  rw [← hX]
  clear h hc hg hX
  go_enter Tryd.func25, Tryd.ntmps25
  go_wp2_with fail
  refine (RO.out _).mono ?_
  rintro e w' ⟨rfl, rfl⟩
  go_wp2_with fail
  go_ret2
  exact StpR.one rfl (Below.refl _ _) rfl

set_option maxRecDepth 100000 in
set_option maxHeartbeats 1000000 in
theorem rstep11 (a : Nat) (own x : Nat) (w : World) (A : Option Addr) (kk cc : Nat) (h : SlF w A [a]) (hk : kk = 1) (hcc : kk ≤ cc) (ha : Fits a) :
    Calls Tryd.prog 25 #[.int .i64 11, .float .f64 own, .float .f64 x, .slice A kk cc] w (StpR (some [floorB a]) w) := by
  subst hk
  obtain ⟨g, o, rfl, hg, hc⟩ := h (by simp)
  have a0 := hc 0 (by simp)
  simp only [List.getD_cons_zero, Nat.add_zero] at a0
  have A0 := Lib.hid a0
  have RO := Lib.hid (rFloor a ha)
  clear h hc hg ha
  go_enter Tryd.func25, Tryd.ntmps25
  go_wp2_with fail
  refine (RO.out _).mono ?_
  rintro e w' ⟨rfl, rfl⟩
  go_wp2_with fail
  go_ret2
  exact StpR.one rfl (Below.refl _ _) rfl

set_option maxRecDepth 100000 in
set_option maxHeartbeats 1000000 in
theorem rstep12 (a : Nat) (own x : Nat) (w : World) (A : Option Addr) (kk cc : Nat) (h : SlF w A [a]) (hk : kk = 1) (hcc : kk ≤ cc) :
    Calls Tryd.prog 25 #[.int .i64 12, .float .f64 own, .float .f64 x, .slice A kk cc] w (StpR (some [a, a]) w) := by
  subst hk
  obtain ⟨g, o, rfl, hg, hc⟩ := h (by simp)
  have a0 := hc 0 (by simp)
  simp only [List.getD_cons_zero, Nat.add_zero] at a0
  have A0 := Lib.hid a0
  clear h hc hg
  go_enter Tryd.func25, Tryd.ntmps25
  go_wp2_with fail
  refine wp_region_still_tail 6 (by kernel_rfl) (by kernel_rfl) ?_
  simp only [List.take_succ_cons, List.take_zero, List.drop_succ_cons, List.drop_zero]
  change wpStill _ _ (World.drew _) (fun a' => wpList _ _ _ _ a' (World.drew _)) _ _
  repeat still_step
  refine wpStill_nil ?_
  go_wp2_with fail
  go_ret2
  exact StpR.drew (StpR.two (Below.refl _ _) rfl)

set_option maxRecDepth 100000 in
set_option maxHeartbeats 1000000 in
theorem rstep13 (a b : Nat) (own x : Nat) (w : World) (A : Option Addr) (kk cc : Nat) (h : SlF w A [a, b]) (hk : kk = 2) (hcc : kk ≤ cc) :
    Calls Tryd.prog 25 #[.int .i64 13, .float .f64 own, .float .f64 x, .slice A kk cc] w (StpR (some [b, a]) w) := by
  subst hk
  obtain ⟨g, o, rfl, hg, hc⟩ := h (by simp)
  have a0 := hc 0 (by simp)
  have a1 := hc 1 (by simp)
  simp only [List.getD_cons_zero, List.getD_cons_succ, Nat.add_zero] at a0 a1
  have A0 := Lib.hid a0
  have A1 := Lib.hid a1
  clear h hc hg
  go_enter Tryd.func25, Tryd.ntmps25
  go_wp2_with fail
  refine wp_region_still_tail 6 (by kernel_rfl) (by kernel_rfl) ?_
  simp only [List.take_succ_cons, List.take_zero, List.drop_succ_cons, List.drop_zero]
  change wpStill _ _ (World.drew _) (fun a' => wpList _ _ _ _ a' (World.drew _)) _ _
  repeat still_step
  refine wpStill_nil ?_
  go_wp2_with fail
  go_ret2
  exact StpR.drew (StpR.two (Below.refl _ _) rfl)

set_option maxRecDepth 100000 in
set_option maxHeartbeats 1000000 in
theorem rstep14 (own x : Nat) (w : World) (A : Option Addr) (kk cc : Nat) :
    Calls Tryd.prog 25 #[.int .i64 14, .float .f64 own, .float .f64 x, .slice A kk cc] w (StpR (some []) w) := by
  go_enter Tryd.func25, Tryd.ntmps25
  go_wp2_with fail
  go_ret2
  exact StpR.none (Below.refl _ _)

set_option maxRecDepth 100000 in
set_option maxHeartbeats 1000000 in
theorem rstep15y (a : Nat) (own x : Nat) (w : World) (A : Option Addr) (kk cc : Nat) (h : SlF w A [a]) (hk : kk = 1) (hcc : kk ≤ cc) (ha : Fits a) (hf : fin a = true) :
    Calls Tryd.prog 25 #[.int .i64 15, .float .f64 own, .float .f64 x, .slice A kk cc] w (StpR (some [a]) w) := by
  subst hk
  obtain ⟨g, o, rfl, hg, hc⟩ := h (by simp)
  have a0 := hc 0 (by simp)
  simp only [List.getD_cons_zero, Nat.add_zero] at a0
  have A0 := Lib.hid a0
  have RC := Lib.hid (rclass a ha)
  obtain ⟨f0, f1, f8⟩ := fin_cls.1 hf
  obtain ⟨K, hK⟩ : ∃ K, K = Fl.cls a := ⟨_, rfl⟩
  rw [← hK] at RC f0 f1 f8
  have g0 : (K != 0) = true := by simp; exact f0
  have g1 : (K != 1) = true := by simp; exact f1
  have g8 : (K != 8) = true := by simp; exact f8
  have i1 : 1 ≤ cc := hcc
  clear h hc hg ha hf hK f0 f1 f8 hcc
  go_enter Tryd.func25, Tryd.ntmps25
  go_wp2_with fail
  refine (RC.out _).mono ?_
  rintro e w' ⟨rfl, rfl⟩
  go_wp2_with fail
  go_ret2
  exact StpR.sub A0.out (Below.refl _ _)

set_option maxRecDepth 100000 in
set_option maxHeartbeats 1000000 in
theorem rstep15n (a : Nat) (own x : Nat) (w : World) (A : Option Addr) (kk cc : Nat) (h : SlF w A [a]) (hk : kk = 1) (hcc : kk ≤ cc) (ha : Fits a) (hf : fin a = false) :
    Calls Tryd.prog 25 #[.int .i64 15, .float .f64 own, .float .f64 x, .slice A kk cc] w (StpR (Option.none) w) := by
  subst hk
  obtain ⟨g, o, rfl, hg, hc⟩ := h (by simp)
  have a0 := hc 0 (by simp)
  simp only [List.getD_cons_zero, Nat.add_zero] at a0
  have A0 := Lib.hid a0
  have RC := Lib.hid (rclass a ha)
  have f3 := fin_cls.2 hf
  have i1 : 1 ≤ cc := hcc
  clear h hc hg ha hf hcc
  rcases f3 with f3 | f3 | f3
  all_goals
    rw [f3] at RC
    clear f3
    go_enter Tryd.func25, Tryd.ntmps25
    go_wp2_with fail
    refine (RC.out _).mono ?_
    rintro e w' ⟨rfl, rfl⟩
    go_wp2_with fail
    go_ret2
    exact StpR.odd (Below.refl _ _)

set_option maxRecDepth 100000 in
set_option maxHeartbeats 1000000 in
theorem rstep16 (a b c : Nat) (own x : Nat) (w : World) (A : Option Addr) (kk cc : Nat) (h : SlF w A [a, b, c]) (hk : kk = 3) (hcc : kk ≤ cc) (hc' : Fits c) :
    Calls Tryd.prog 25 #[.int .i64 16, .float .f64 own, .float .f64 x, .slice A kk cc] w (StpR (some [if pos c then a else b]) w) := by
  subst hk
  obtain ⟨g, o, rfl, hg, hc⟩ := h (by simp)
  have a0 := hc 0 (by simp)
  have a1 := hc 1 (by simp)
  have a2 := hc 2 (by simp)
  simp only [List.getD_cons_zero, List.getD_cons_succ, Nat.add_zero] at a0 a1 a2
  have A0 := Lib.hid a0
  have A1 := Lib.hid a1
  have A2 := Lib.hid a2
  have RC := Lib.hid (rclass c hc')
  have PC := pos_cls hc'
  obtain ⟨K, hK⟩ : ∃ K, K = Fl.cls c := ⟨_, rfl⟩
  rw [← hK] at RC PC
  obtain ⟨D, hD⟩ : ∃ D, D = pos c := ⟨_, rfl⟩
  rw [← hD] at PC ⊢
  have i1 : ¬ cc = 1 := by omega
  have i3 : 3 ≤ cc := hcc
  clear h hc hg hc' hK hD hcc
  cases D
  · go_enter Tryd.func25, Tryd.ntmps25
    go_wp2_with fail
    refine (RC.out _).mono ?_
    rintro e w' ⟨rfl, rfl⟩
    go_wp2_with fail
    go_ret2
    exact StpR.sub A1.out (Below.refl _ _)
  · go_enter Tryd.func25, Tryd.ntmps25
    go_wp2_with fail
    refine (RC.out _).mono ?_
    rintro e w' ⟨rfl, rfl⟩
    go_wp2_with fail
    go_ret2
    exact StpR.sub A0.out (Below.refl _ _)

end Go.Proofs.YtjahaegdmfgmgaaDoor
