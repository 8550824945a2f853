/- expr's functions of one and two numbers: walked. -/
import Derived.Test.YtjahaegdmfgmgaaDoorG1s
import Derived.Test.YtjahaegdmfgmgaaDoorWkb
import Derived.Deep.QuietTactic
import Derived.BigQuiet
import Derived.Laws.BitsAllLaws
namespace Go.Proofs.YtjahaegdmfgmgaaDoor
open Go.RowKit Ex Fl

theorem wl_float {P : Program} (w : World) (op : BinOp) (t : TypeId) (a b : Nat) (h3 : op = .add ∨ op = .sub ∨ op = .mul ∨ op = .quo) :
    ∃ r w', (binOp op t (.float .f64 a) (.float .f64 b)).run P w = .ok (.float .f64 r) w' ∧ bitsOf r = fopB (floatBits op .f64 a b) ∧ (w' = w ∨ w' = w.drew) := by
  cases h : floatBits op .f64 a b with
  | some r => exact ⟨r, w, run_float_arith w op t .f64 a b r h, rfl, .inl rfl⟩
  | none =>
    have nan : ∀ t : Nat, bitsOf ((t % 2) * 2 ^ 63 + 0x7ff0000000000000 + 1 + (t / 2) % (2 ^ 52 - 1)) = NANB := by
      intro t
      unfold bitsOf
      rw [if_pos]
      rw [nanB_iff]
      have hr : t / 2 % (2 ^ 52 - 1) < 4503599627370495 := Nat.mod_lt _ (by decide)
      generalize t / 2 % (2 ^ 52 - 1) = r at *
      rcases Nat.mod_two_eq_zero_or_one t with e | e <;> rw [e] <;> simp <;> omega
    refine ⟨_, w.drew, ?_, nan (w.tape w.drawn (.nanBits .f64 a b)), .inr rfl⟩
    unfold floatBits at h
    rcases h3 with rfl | rfl | rfl | rfl <;> simp only at h <;> simp [binOp, Op.floatArith, h, Question.forced, Question.cut]

/-- math.Abs -/
theorem mabs (a : Nat) (ha : Fits a) (w : World) : Calls Tryd.prog 42 #[.float .f64 a] w fun e w' => e = .returned (.float .f64 (a % S63)) ∧ w = w' := by
  go_enter Tryd.func42, Tryd.ntmps42
  go_wp2
  go_ret
  refine ⟨ret_fl ?_, rfl⟩
  rw [show (9223372036854775808 : Int) = ((9223372036854775808 : Nat) : Int) from rfl, u64_andNot_nat a 9223372036854775808 ha.lt (by decide)]
  show a &&& (2 ^ 63 - 1) = _
  rw [Nat.and_two_pow_sub_one_eq_mod]
  rfl

/-- math.IsInf -/
theorem misinf (a : Nat) (ha : Fits a) (hn : nanB a = false) (w : World) : Calls Tryd.prog 44 #[.float .f64 a, .int .i64 0] w fun e w' => e = .returned (.bool (decide (a % S63 = INF))) ∧ w = w' := by
  have hm : a % S63 ≤ INF := by unfold nanB at hn; simpa using hn
  have HA := Lib.hid (mabs a ha)
  have e1 : (FloatKind.f64.format.order (a % S63) 9218868437227405311 == some Ordering.gt) = decide (a % S63 = INF) := by
    show (Ieee.double.order (a % S63) 9218868437227405311 == some Ordering.gt) = _
    rw [Fl.order_up _ _ hm (by rw [INF_eq]; decide), Int.compare_eq_ite_lt]
    rw [INF_eq] at *
    rw [Bool.eq_iff_iff]
    split <;> (repeat' split) <;> simp <;> omega
  clear ha hn hm
  go_enter Tryd.func44, Tryd.ntmps44
  go_wp2_with fail
  refine (HA.out _).mono ?_
  rintro e w' ⟨rfl, rfl⟩
  go_wp2
  go_ret
  exact ⟨rfl, rfl⟩

/-- what comes up where a step goes wrong -/
def oddE : List PanicEntry := [{ v := .iface 64 (.agg #[]), recovered := false }]

/-- finite -/
theorem xfinite (a : Nat) (ha : Fits a) (w : World) : Calls Tryd.prog 39 #[.float .f64 a] w fun e w' => e = (if fin a then .returned (.float .f64 a) else .panicked oddE) ∧ w = w' := by
  cases hn : nanB a
  · have HI := Lib.hid (misinf a ha hn)
    have hm : a % S63 ≤ INF := by unfold nanB at hn; simpa using hn
    have hf : fin a = !decide (a % S63 = INF) := by unfold fin; rw [Bool.eq_iff_iff]; simp; omega
    have NA := Lib.hid hn
    rw [hf]
    cases hd : decide (a % S63 = INF)
    all_goals
      rw [hd] at HI
      clear hn hm hf hd
      go_enter Tryd.func39, Tryd.ntmps39
      go_wp2_with fail
      refine (isnan a _).mono ?_
      rintro e w' ⟨rfl, rfl⟩
      rw [NA.out]
      go_wp2_with fail
      refine (HI.out _).mono ?_
      rintro e w' ⟨rfl, rfl⟩
      go_wp2
    · go_ret
      exact ⟨rfl, rfl⟩
    · exact ⟨rfl, rfl, rfl⟩
  · have hf : fin a = false := by unfold fin nanB at *; simp at hn ⊢; omega
    have NA := Lib.hid hn
    rw [hf]
    clear hn hf
    go_enter Tryd.func39, Tryd.ntmps39
    go_wp2_with fail
    refine (isnan a _).mono ?_
    rintro e w' ⟨rfl, rfl⟩
    rw [NA.out]
    go_wp2
    exact ⟨rfl, rfl, rfl⟩

/-- pick -/
theorem xpick (a b c : Nat) (hc : Fits c) (w : World) : Calls Tryd.prog 40 #[.float .f64 a, .float .f64 b, .float .f64 c] w fun e w' => e = .returned (.float .f64 (if pos c then a else b)) ∧ w = w' := by
  have h1 := hc.lt
  have e1 : (FloatKind.f64.format.order c 0 == some Ordering.gt) = pos c := by
    show (Ieee.double.order c 0 == some Ordering.gt) = _
    cases hn : nanB c
    · have hm : ¬ INF < c % S63 := by unfold nanB at hn; simpa using hn
      rw [order_eq c 0 hm (by rw [INF_eq, S63_eq]; decide), show rank 0 = 0 by decide]
      unfold rank pos
      rw [neg_iff hc, Int.compare_eq_ite_lt]
      rw [INF_eq, S63_eq] at *
      rw [Bool.eq_iff_iff]
      (repeat' split) <;> simp_all <;> omega
    · have hm : INF < c % S63 := by unfold nanB at hn; simpa using hn
      rw [order_nan_left c 0 hm]
      unfold pos
      rw [INF_eq, S63_eq] at *
      rw [Bool.eq_iff_iff]
      simp; omega
  cases hp : pos c
  all_goals
    rw [hp] at e1
    clear h1 hc hp
    go_enter Tryd.func40, Tryd.ntmps40
    go_wp2
    go_ret
    exact ⟨rfl, rfl⟩

theorem floor_num {b : Nat} (h : Fl.Fits b) (hn : Fl.nanB b = false) (w : World) : (Extern.MathFloor.toIntegral "math.archFloor" .down #[.float .f64 b]).run Tryd.prog w = .ok (.float .f64 (Fl.floorB b)) w := by
  have ht := Fl.floor_eq h hn
  have hd : FloatKind.f64.decode b = Ieee.double.read b := rfl
  conv => lhs; arg 2; whnf
  rw [hd]
  cases hr : Ieee.double.read b with
  | number s m e => rw [hr] at ht; exact congrArg (fun x => Result.ok (Value.float FloatKind.f64 x) w) ht
  | infinity s => rw [hr] at ht; exact congrArg (fun x => Result.ok (Value.float FloatKind.f64 x) w) ht
  | nan s t =>
    exfalso
    have hb : ¬ Fl.INF < b % Fl.S63 := by unfold Fl.nanB at hn; simpa using hn
    rcases Nat.lt_or_ge (b % Fl.S63) Fl.INF with h1 | h1
    · obtain ⟨m, k, r1, _⟩ := Fl.read_num b h1
      rw [r1] at hr; cases hr
    · rw [Fl.read_inf b (by omega)] at hr; cases hr
theorem floor_nan (w : World) : (Extern.MathFloor.toIntegral "math.archFloor" .down #[.float .f64 NANB]).run Tryd.prog w = .ok (.float .f64 NANB) w := by
  conv => lhs; arg 2; whnf
  rfl
/-- math.Floor -/
theorem mfloor (b : Nat) (h : Fl.Fits b) (hb : bitsOf b = b) (w : World) : Calls Tryd.prog 43 #[.float .f64 b] w fun e w' => e = .returned (.float .f64 (Fl.floorB b)) ∧ w = w' := by
  have hrun : ∀ w : World, (callFunc 48 #[.float .f64 b]).run Tryd.prog w = .ok (.value (.float .f64 (Fl.floorB b))) w := by
    intro w
    rw [run_callFunc_extern Tryd.func48 (by kernel_rfl) (by kernel_rfl) (by kernel_rfl) (e := Extern.MathFloor.toIntegral "math.archFloor" .down) (by kernel_rfl)]
    cases hn : nanB b
    · rw [floor_num h hn]; rfl
    · have e : b = NANB := by unfold bitsOf at hb; rw [hn] at hb; exact hb.symm
      have e2 : floorB b = b := by rw [e]; decide
      rw [e2, e, floor_nan]; rfl
  clear hb
  go_enter Tryd.func43, Tryd.ntmps43
  go_wp2
  go_ret
  exact ⟨rfl, rfl⟩

/-- ofOne -/
theorem xofOne (op : Int) (own x a b c y : Nat) (ha : Fits a) (hb : bitsOf a = a) (h : op = 9 ∨ op = 10 ∨ op = 11) (hm : mk op own x a b c = some [y]) (w : World) :
    Calls Tryd.prog 38 #[.int .i64 op, .float .f64 a] w fun e w' => (∃ r, e = .returned (.float .f64 r) ∧ bitsOf r = y) ∧ w = w' := by
  have BX := Lib.hid (show op = 9 → bitsOf (a ^^^ 2 ^ 63) = y from fun e => by subst e; injection hm with hm; injection hm)
  have BA := Lib.hid (show op = 10 → bitsOf (a % S63) = y from fun e => by subst e; injection hm with hm; injection hm)
  have BF := Lib.hid (show op = 11 → bitsOf (floorB a) = y from fun e => by subst e; injection hm with hm; injection hm with hm; rw [← hm]; exact (floor_ok ha hb).2)
  have MA := Lib.hid (mabs a ha)
  have MF := Lib.hid (mfloor a ha hb)
  clear ha hb hm
  rcases h with rfl | rfl | rfl
  · go_enter Tryd.func38, Tryd.ntmps38
    go_wp2
    go_ret
    exact ⟨⟨_, rfl, BX.out trivial⟩, rfl⟩
  · go_enter Tryd.func38, Tryd.ntmps38
    go_wp2_with fail
    refine (MA.out _).mono ?_
    rintro e w' ⟨rfl, rfl⟩
    go_wp2
    go_ret
    exact ⟨⟨_, rfl, BA.out trivial⟩, rfl⟩
  · go_enter Tryd.func38, Tryd.ntmps38
    go_wp2_with fail
    refine (MF.out _).mono ?_
    rintro e w' ⟨rfl, rfl⟩
    go_wp2
    go_ret
    exact ⟨⟨_, rfl, BF.out trivial⟩, rfl⟩

theorem cmp_lt0 {x y : Nat} : decide (cmpI x y < 0) = decide (x < y) := by unfold cmpI; (repeat' split) <;> simp <;> omega
theorem cmp_gt0 {x y : Nat} : decide (0 < cmpI x y) = decide (y < x) := by unfold cmpI; (repeat' split) <;> simp <;> omega

set_option maxRecDepth 100000 in
/-- slices.MinFunc of two numbers by num.Order -/
theorem xmin (a b g : Nat) (ha : Fits a) (hb : Fits b) (w : World) (h0 : w.cell? ⟨g, 0, none⟩ = some (.float .f64 a)) (h1 : w.cell? ⟨g, 1, none⟩ = some (.float .f64 b)) :
    Calls Tryd.prog 45 #[.slice (some ⟨g, 0, none⟩) 2 2, .func (.func 46) #[] #[]] w fun e w' => e = .returned (.float .f64 (if place b < place a then b else a)) ∧ w = w' := by
  have OR := Lib.hid (norder b a hb ha)
  have CM := @cmp_lt0 (place b) (place a)
  obtain ⟨c, hc⟩ : ∃ c, c = cmpI (place b) (place a) := ⟨_, rfl⟩
  rw [← hc] at OR CM
  obtain ⟨D, hD⟩ : ∃ D, D = decide (place b < place a) := ⟨_, rfl⟩
  rw [← hD] at CM
  have hi : (if place b < place a then b else a) = if D = true then b else a := by rw [hD]; simp
  obtain ⟨Y, hY⟩ : ∃ Y, Y = if D = true then b else a := ⟨_, rfl⟩
  rw [hi, ← hY]
  have Y0 := Lib.hid hY
  clear hc hD hi ha hb hY
  cases D
  all_goals
    go_enter Tryd.func45, Tryd.ntmps45
    go_wp2_with fail
    go_loopw [5, 6] (fun vm vi wr => wr = w ∧ ((vi = .int .i64 1 ∧ vm = .float .f64 a) ∨ (vi = .int .i64 2 ∧ vm = .float .f64 Y))) (fun _ vi _ => 2 - (intOf vi).toNat)
    case atStart => exact ⟨rfl, .inl ⟨rfl, rfl⟩⟩
    case round =>
      obtain ⟨rfl, ⟨rfl, rfl⟩ | ⟨rfl, rfl⟩⟩ := hrel
      · go_wp2_with fail
        refine (OR.out _).mono ?_
        rintro e w' ⟨rfl, rfl⟩
        go_wp2_with fail
        go_roundw
        case rel => exact ⟨trivial, .inr ⟨by go_num, by rw [Y0.out]; rfl⟩⟩
        case measure => simp [intOf]
      · go_wp2_with fail
        go_ret
        exact ⟨rfl, rfl⟩

set_option maxRecDepth 100000 in
/-- slices.MaxFunc of two numbers by num.Order -/
theorem xmax (a b g : Nat) (ha : Fits a) (hb : Fits b) (w : World) (h0 : w.cell? ⟨g, 0, none⟩ = some (.float .f64 a)) (h1 : w.cell? ⟨g, 1, none⟩ = some (.float .f64 b)) :
    Calls Tryd.prog 47 #[.slice (some ⟨g, 0, none⟩) 2 2, .func (.func 46) #[] #[]] w fun e w' => e = .returned (.float .f64 (if place a < place b then b else a)) ∧ w = w' := by
  have OR := Lib.hid (norder b a hb ha)
  have CM := @cmp_gt0 (place b) (place a)
  obtain ⟨c, hc⟩ : ∃ c, c = cmpI (place b) (place a) := ⟨_, rfl⟩
  rw [← hc] at OR CM
  obtain ⟨D, hD⟩ : ∃ D, D = decide (place a < place b) := ⟨_, rfl⟩
  rw [← hD] at CM
  have hi : (if place a < place b then b else a) = if D = true then b else a := by rw [hD]; simp
  obtain ⟨Y, hY⟩ : ∃ Y, Y = if D = true then b else a := ⟨_, rfl⟩
  rw [hi, ← hY]
  have Y0 := Lib.hid hY
  clear hc hD hi ha hb hY
  cases D
  all_goals
    go_enter Tryd.func47, Tryd.ntmps47
    go_wp2_with fail
    go_loopw [5, 6] (fun vm vi wr => wr = w ∧ ((vi = .int .i64 1 ∧ vm = .float .f64 a) ∨ (vi = .int .i64 2 ∧ vm = .float .f64 Y))) (fun _ vi _ => 2 - (intOf vi).toNat)
    case atStart => exact ⟨rfl, .inl ⟨rfl, rfl⟩⟩
    case round =>
      obtain ⟨rfl, ⟨rfl, rfl⟩ | ⟨rfl, rfl⟩⟩ := hrel
      · go_wp2_with fail
        refine (OR.out _).mono ?_
        rintro e w' ⟨rfl, rfl⟩
        go_wp2_with fail
        go_roundw
        case rel => exact ⟨trivial, .inr ⟨by go_num, by rw [Y0.out]; rfl⟩⟩
        case measure => simp [intOf]
      · go_wp2_with fail
        go_ret
        exact ⟨rfl, rfl⟩


/-- what ofTwo leaves -/
def TwoP (y : Nat) (w : World) (e : Ending) (w' : World) : Prop := (∃ r, e = .returned (.float .f64 r) ∧ bitsOf r = y) ∧ Below w.heap.size w w'
set_option maxRecDepth 100000 in
/-- ofTwo: sums and the like -/
theorem xofTwo4 (op : Int) (a b : Nat) (h : op = 3 ∨ op = 4 ∨ op = 5 ∨ op = 6) (w : World) :
    Calls Tryd.prog 41 #[.int .i64 op, .float .f64 a, .float .f64 b] w (TwoP (fopB (ops4 op a b)) w) := by
  have key : ∀ (w1 : World) (r : Nat), bitsOf r = fopB (ops4 op a b) → (w1 = w ∨ w1 = w.drew) → TwoP (fopB (ops4 op a b)) w (.returned (.float .f64 r)) w1 := by
    intro w1 r hr hw
    refine ⟨⟨r, rfl, hr⟩, ?_⟩
    rcases hw with rfl | rfl
    · exact Below.refl _ _
    · exact (Below.refl _ _).drew
  have KEY := Lib.hid key
  clear key
  rcases h with rfl | rfl | rfl | rfl
  · obtain ⟨r, w1, hrun, hr, hw⟩ := wl_float (P := Tryd.prog) w .add 25 a b (by simp)
    have HR := Lib.hid (KEY.out w1 r hr hw)
    clear hr hw KEY
    go_enter Tryd.func41, Tryd.ntmps41
    go_wp2_with fail
    go_ret
    exact HR.out
  · obtain ⟨r, w1, hrun, hr, hw⟩ := wl_float (P := Tryd.prog) w .sub 25 a b (by simp)
    have HR := Lib.hid (KEY.out w1 r hr hw)
    clear hr hw KEY
    go_enter Tryd.func41, Tryd.ntmps41
    go_wp2_with fail
    go_ret
    exact HR.out
  · obtain ⟨r, w1, hrun, hr, hw⟩ := wl_float (P := Tryd.prog) w .mul 25 a b (by simp)
    have HR := Lib.hid (KEY.out w1 r hr hw)
    clear hr hw KEY
    go_enter Tryd.func41, Tryd.ntmps41
    go_wp2_with fail
    go_ret
    exact HR.out
  · obtain ⟨r, w1, hrun, hr, hw⟩ := wl_float (P := Tryd.prog) w .quo 25 a b (by simp)
    have HR := Lib.hid (KEY.out w1 r hr hw)
    clear hr hw KEY
    go_enter Tryd.func41, Tryd.ntmps41
    go_wp2_with fail
    go_ret
    exact HR.out
set_option maxRecDepth 100000 in
/-- ofTwo: the one ahead, the one behind -/
theorem xofTwo7 (a b : Nat) (ha : Fits a ∧ bitsOf a = a) (hb : Fits b ∧ bitsOf b = b) (w : World) :
    Calls Tryd.prog 41 #[.int .i64 7, .float .f64 a, .float .f64 b] w (TwoP (if place b < place a then b else a) w) := by
  have r0 := RowAt.new w [.float .f64 a, .float .f64 b] 25
  have MN := Lib.hid (xmin a b w.heap.size ha.1 hb.1 _ (r0.cell 0) (r0.cell 1))
  have BL := Lib.hid ((Below.refl w.heap.size w).alloc (Nat.le_refl _) (.cells [.float .f64 a, .float .f64 b].toArray 25))
  have YB := Lib.hid (show bitsOf (if place b < place a then b else a) = (if place b < place a then b else a) by split; exact hb.2; exact ha.2)
  obtain ⟨Y, hY⟩ : ∃ Y, Y = if place b < place a then b else a := ⟨_, rfl⟩
  rw [← hY] at MN YB ⊢
  clear ha hb r0 hY
  go_enter Tryd.func41, Tryd.ntmps41
  go_wp2_with fail
  refine (MN.out).mono ?_
  rintro e w' ⟨rfl, rfl⟩
  go_wp2_with fail
  go_ret
  exact ⟨⟨Y, rfl, YB.out⟩, BL.out⟩
set_option maxRecDepth 100000 in
theorem xofTwo8 (a b : Nat) (ha : Fits a ∧ bitsOf a = a) (hb : Fits b ∧ bitsOf b = b) (w : World) :
    Calls Tryd.prog 41 #[.int .i64 8, .float .f64 a, .float .f64 b] w (TwoP (if place a < place b then b else a) w) := by
  have r0 := RowAt.new w [.float .f64 a, .float .f64 b] 25
  have MN := Lib.hid (xmax a b w.heap.size ha.1 hb.1 _ (r0.cell 0) (r0.cell 1))
  have BL := Lib.hid ((Below.refl w.heap.size w).alloc (Nat.le_refl _) (.cells [.float .f64 a, .float .f64 b].toArray 25))
  have YB := Lib.hid (show bitsOf (if place a < place b then b else a) = (if place a < place b then b else a) by split; exact hb.2; exact ha.2)
  obtain ⟨Y, hY⟩ : ∃ Y, Y = if place a < place b then b else a := ⟨_, rfl⟩
  rw [← hY] at MN YB ⊢
  clear ha hb r0 hY
  go_enter Tryd.func41, Tryd.ntmps41
  go_wp2_with fail
  refine (MN.out).mono ?_
  rintro e w' ⟨rfl, rfl⟩
  go_wp2_with fail
  go_ret
  exact ⟨⟨Y, rfl, YB.out⟩, BL.out⟩
/-- ofTwo -/
theorem xofTwo (op : Int) (own x a b c y : Nat) (ha : Fits a ∧ bitsOf a = a) (hb : Fits b ∧ bitsOf b = b) (h1 : 3 ≤ op) (h2 : op ≤ 8) (hm : mk op own x a b c = some [y]) (w : World) :
    Calls Tryd.prog 41 #[.int .i64 op, .float .f64 a, .float .f64 b] w (TwoP y w) := by
  by_cases h7 : op = 7
  · subst h7
    injection hm with hm
    injection hm with hm
    rw [← hm]
    exact xofTwo7 a b ha hb w
  · by_cases h8 : op = 8
    · subst h8
      injection hm with hm
      injection hm with hm
      rw [← hm]
      exact xofTwo8 a b ha hb w
    · unfold mk at hm
      rw [if_neg (by omega), if_neg (by omega), if_pos (by omega)] at hm
      injection hm with hm
      injection hm with hm
      rw [← hm]
      exact xofTwo4 op a b (by omega) w

end Go.Proofs.YtjahaegdmfgmgaaDoor
