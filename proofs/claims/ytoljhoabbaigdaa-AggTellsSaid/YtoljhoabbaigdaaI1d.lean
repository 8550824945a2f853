/- The reference's Of: walked. -/
import Derived.Test.YtoljhoabbaigdaaI1c
namespace Go.Proofs.Ytoljhoabbaigdaa
open Go.RowKit Ex Fl Ag Ieee
attribute [local go_sem] Oper.semAt_some

theorem wl_float15 {P : Program} (w : World) (op : BinOp) (t : TypeId) (a b : Nat) (h3 : op = .add ∨ op = .quo) :
    ∃ r w', (binOp op t (.float .f64 a) (.float .f64 b)).run P w = .ok (.float .f64 r) w' ∧ (bitsOf r = fopB (floatBits op .f64 a b) ∧ Fits r) ∧ (w' = w ∨ w' = w.drew) := by
  cases h : floatBits op .f64 a b with
  | some r =>
    refine ⟨r, w, run_float_arith w op t .f64 a b r h, ⟨rfl, ?_⟩, .inl rfl⟩
    rcases h3 with rfl | rfl
    · exact double.add_lt h
    · exact double.div_lt h
  | none =>
    have nan : ∀ t : Nat, bitsOf ((t % 2) * 2 ^ 63 + 0x7ff0000000000000 + 1 + (t / 2) % (2 ^ 52 - 1)) = NANB ∧ Fits ((t % 2) * 2 ^ 63 + 0x7ff0000000000000 + 1 + (t / 2) % (2 ^ 52 - 1)) := by
      intro t
      have hr : t / 2 % (2 ^ 52 - 1) < 4503599627370495 := Nat.mod_lt _ (by decide)
      generalize t / 2 % (2 ^ 52 - 1) = r at *
      refine ⟨?_, Fits.mk ?_⟩
      · unfold bitsOf
        rw [if_pos]
        rw [nanB_iff]
        rcases Nat.mod_two_eq_zero_or_one t with e | e <;> rw [e] <;> simp <;> omega
      · rcases Nat.mod_two_eq_zero_or_one t with e | e <;> rw [e] <;> omega
    refine ⟨_, w.drew, ?_, nan (w.tape w.drawn (.nanBits .f64 a b)), .inr rfl⟩
    unfold floatBits at h
    rcases h3 with rfl | rfl <;> simp only at h <;> simp [binOp, Op.floatArith, h, Question.forced, Question.cut]

/-- the least of those that came, as the reference has it: at first the first one -/
theorem lst_step {zs : List Nat} {i : Nat} (hi : i < zs.length) : lst (zs.take (max (i + 1) 1)) = if place (zs.getD i 0) < place (lst (zs.take (max i 1))) then zs.getD i 0 else lst (zs.take (max i 1)) := by
  rw [Nat.max_eq_left (by omega), take_snoc hi]
  by_cases h0 : i = 0
  · subst h0
    have e : zs.take (max 0 1) = [zs.getD 0 0] := by
      rw [show max 0 1 = 0 + 1 from rfl, take_snoc hi]; rfl
    rw [e]
    show lst [zs.getD 0 0] = _
    have e2 : lst [zs.getD 0 0] = zs.getD 0 0 := rfl
    rw [e2, if_neg (Nat.lt_irrefl _)]
  · rw [Nat.max_eq_left (by omega), lst_snoc (by intro e; have := congrArg List.length e; rw [List.length_take, List.length_nil] at this; omega)]
theorem mst_step {zs : List Nat} {i : Nat} (hi : i < zs.length) : mst (zs.take (max (i + 1) 1)) = if place (mst (zs.take (max i 1))) < place (zs.getD i 0) then zs.getD i 0 else mst (zs.take (max i 1)) := by
  rw [Nat.max_eq_left (by omega), take_snoc hi]
  by_cases h0 : i = 0
  · subst h0
    have e : zs.take (max 0 1) = [zs.getD 0 0] := by
      rw [show max 0 1 = 0 + 1 from rfl, take_snoc hi]; rfl
    rw [e]
    show mst [zs.getD 0 0] = _
    have e2 : mst [zs.getD 0 0] = zs.getD 0 0 := rfl
    rw [e2, if_neg (Nat.lt_irrefl _)]
  · rw [Nat.max_eq_left (by omega), mst_snoc (by intro e; have := congrArg List.length e; rw [List.length_take, List.length_nil] at this; omega)]

set_option maxRecDepth 100000 in
set_option maxHeartbeats 2000000 in
theorem rOf15 (zs : List Nat) (A : Option Addr) (c : Nat) (w : World) (h : SlF w A zs) (hf : AllFits zs) (hl : zs.length ≤ 1000) :
    Calls Try.prog 9 #[.slice A zs.length c] w fun e w' => e = .returned (tal zs) ∧ Below w.heap.size w w' := by
  obtain ⟨n, hn⟩ : ∃ n, n = zs.length := ⟨_, rfl⟩
  obtain ⟨B, hB⟩ : ∃ B, B = w.heap.size := ⟨_, rfl⟩
  have B1 := Lib.hid ((Below.refl w.heap.size w).alloc (Nat.le_refl _) (.cells zT.toArray 28))
  have R1 := Lib.hid (RowAt.new w zT 28)
  by_cases hz : zs = []
  · subst hz
    clear h hf hl hn hB
    go_enter Try.func9, Try.ntmps9
    go_wp2_with fail
    refine bodyPost_ret (results_cell_one15 rfl _ _ w.heap.size _ zT _ rfl R1.out Try.underlying28 rfl (by kernel_rfl)) rfl ?_
    exact ⟨rfl, B1.out⟩
  · have n0 : 0 < n := by rw [hn]; exact Nat.pos_of_ne_zero fun e => hz (List.eq_nil_of_length_eq_zero e)
    have nz : ((n : Int) == 0) = false := by simp; omega
    obtain ⟨b, o, rfl, hb, cc⟩ := h.at_ (k := 0) (by omega)
    obtain ⟨W1, hW1⟩ : ∃ W, W = w.alloc (.cells zT.toArray 28) := ⟨_, rfl⟩
    have hS1 : SlF W1 (some ⟨b, o, none⟩) zs := by rw [hW1]; exact h.alloc _
    rw [← hW1] at B1 R1
    rw [← hB] at R1
    obtain ⟨x0, hx0⟩ : ∃ x, x = zs.getD 0 0 := ⟨_, rfl⟩
    obtain ⟨b', o', e', _, cc1⟩ := hS1.at_ (k := 0) (by omega)
    injection e' with e'
    injection e' with e1 e2 _
    subst e1; subst e2
    have c0 := cc1 0 (by omega)
    rw [← hx0, Nat.add_zero] at c0
    have HW1 := Lib.hid (show w.alloc (.cells #[.int .i64 0, .int .u64 0, .int .u64 0, .int .u64 0, .int .u64 0] 28) = W1 from hW1.symm)
    have HS := Lib.hid hS1
    have HF := Lib.hid hf
    have HN := Lib.hid hn
    have HB := Lib.hid hB
    have HX0 := Lib.hid hx0
    have L1 : lst (zs.take (max 0 1)) = x0 := by
      rw [show max 0 1 = 0 + 1 from rfl, take_snoc (by omega), hx0]; rfl
    have L2 : mst (zs.take (max 0 1)) = x0 := by
      rw [show max 0 1 = 0 + 1 from rfl, take_snoc (by omega), hx0]; rfl
    have HL1 := Lib.hid L1
    have HL2 := Lib.hid L2
    have hl' : n ≤ 1000 := by omega
    have LF := Lib.hid (fun i => lst_fits (hf.take i))
    have MF := Lib.hid (fun i => mst_fits (hf.take i))
    have LS := Lib.hid (fun i (hi : i < n) => lst_step (zs := zs) (i := i) (by omega))
    have MS := Lib.hid (fun i (hi : i < n) => mst_step (zs := zs) (i := i) (by omega))
    have XF := Lib.hid (fun i (hi : i < n) => hf.get (k := i) (by omega))
    have SN := Lib.hid (fun i (hi : i < n) => show sm (zs.take (i + 1)) = fopB (double.add (sm (zs.take i)) (zs.getD i 0)) by rw [take_snoc (by omega), sm_snoc])
    have END := Lib.hid (fun (s l m r : Nat) (h1 : bitsOf s = sm zs) (h2 : l = lst zs) (h3 : m = mst zs) (h4 : bitsOf r = fopB (floatBits .quo .f64 s (floatOfInt .f64 (n : Int)))) =>
      show tal zs = .agg #[.int .i64 (n : Nat), .int .u64 (bitsOf s : Nat), .int .u64 (bitsOf l : Nat), .int .u64 (bitsOf m : Nat), .int .u64 (bitsOf r : Nat)] by
        have er : bitsOf r = mean zs := by
          rw [h4]
          show fopB (double.div s (ofI (n : Int))) = _
          rw [div_bits, h1, hn]; rfl
        unfold tal
        rw [if_neg hz, hn, h1, h2, h3, er])
    obtain ⟨T, hT⟩ : ∃ T, T = tal zs := ⟨_, rfl⟩
    have HT := Lib.hid hT
    rw [← hT, ← hn]
    clear h hf hl hn hB hb cc hW1 hS1 hx0 cc1 L1 L2 hz hT
    go_enter Try.func9, Try.ntmps9
    go_wp2_with fail
    rw [HW1.out, ← HB.out]
    go_quiet (fail)
    go_wp2_with fail
    go_loopw [3, 4, 5, 6] (fun vs vl vm vi wr => ∃ i s l m : Nat, i ≤ n ∧ vs = .float .f64 s ∧ vl = .float .f64 l ∧ vm = .float .f64 m ∧ vi = .int .i64 i ∧ Hid (bitsOf s = sm (zs.take i) ∧ l = lst (zs.take (max i 1)) ∧ m = mst (zs.take (max i 1)) ∧ Fits s) ∧ Hid (RowAt wr B zT 28) ∧ Hid (SlF wr (some ⟨b, o, none⟩) zs) ∧ Hid (Below w.heap.size w wr)) (fun _ _ _ vi _ => n - (intOf vi).toNat)
    case atStart => exact ⟨0, 0, x0, x0, Nat.zero_le _, rfl, rfl, rfl, rfl, ⟨(by show bitsOf 0 = sm []; decide), HL1.out.symm, HL2.out.symm, Fits.mk (by decide)⟩, R1, HS, Lib.hid (below_drewN B1.out _)⟩
    case round =>
      obtain ⟨i, s, l, m, hi, rfl, rfl, rfl, rfl, HX, RR, SR, BR⟩ := hrel
      by_cases q : i < n
      · obtain ⟨r, wq, hrun, hr, hw⟩ := wl_float15 (P := Try.prog) wr .add 36 s (zs.getD i 0) (by simp)
        obtain ⟨x, hx⟩ : ∃ x, x = zs.getD i 0 := ⟨_, rfl⟩
        have FX := Lib.hid (XF.out i q)
        have HQ := Lib.hid (show RowAt wq B zT 28 ∧ SlF wq (some ⟨b, o, none⟩) zs ∧ Below w.heap.size w wq by
          rcases hw with rfl | rfl
          · exact ⟨RR.out, SR.out, BR.out⟩
          · exact ⟨RR.out, SR.out, BR.out.drew⟩)
        have ci : wr.cell? ⟨b, o + i, none⟩ = some (.float .f64 x) := by
          obtain ⟨b', o', e', _, ck⟩ := SR.out.at_ (k := i) (by rw [← HN.out]; exact q)
          injection e' with e'
          injection e' with e1 e2 _
          subst e1; subst e2
          rw [hx]
          exact ck i (by rw [← HN.out]; exact q)
        have cq : wq.cell? ⟨b, o + i, none⟩ = some (.float .f64 x) := by
          rcases hw with rfl | rfl
          · exact ci
          · exact ci
        have ER := Lib.hid (show bitsOf r = sm (zs.take (i + 1)) by rw [SN.out i q, hr.1, ← HX.out.1, ← add_bits]; rfl)
        have FR := Lib.hid hr.2
        rw [← hx] at hrun
        have FL := Lib.hid (show Fits l by rw [HX.out.2.1]; exact LF.out _)
        have FM := Lib.hid (show Fits m by rw [HX.out.2.2.1]; exact MF.out _)
        have EL := LS.out i q
        have EM := MS.out i q
        rw [← HX.out.2.1, ← hx] at EL
        rw [← HX.out.2.2.1, ← hx] at EM
        rw [← hx] at FX
        have O1 := Lib.hid (rless x l FX.out FL.out)
        have O2 := Lib.hid (rless m x FM.out FX.out)
        have HEL := Lib.hid EL
        have HEM := Lib.hid EM
        clear hr hw hx hi EL EM
        by_cases p1 : place x < place l
        · have d1 : decide (place x < place l) = true := decide_eq_true p1
          by_cases p2 : place m < place x
          · have d2 : decide (place m < place x) = true := decide_eq_true p2
            have NX := Lib.hid (show bitsOf r = sm (zs.take (i + 1)) ∧ x = lst (zs.take (max (i + 1) 1)) ∧ x = mst (zs.take (max (i + 1) 1)) ∧ Fits r from ⟨ER.out, by rw [HEL.out, if_pos p1], by rw [HEM.out, if_pos p2], FR.out⟩)
            clear p1 p2
            go_wp2_with fail
            refine (O1.out _).mono ?_
            rintro e w5 ⟨rfl, rfl⟩
            go_wp2_with fail
            refine (O2.out _).mono ?_
            rintro e w5 ⟨rfl, rfl⟩
            go_wp2_with fail
            go_roundw
            case rel => exact ⟨i + 1, r, x, x, by omega, rfl, rfl, rfl, by go_num, NX, HQ.out.1, HQ.out.2.1, HQ.out.2.2⟩
            case measure => simp [intOf]; omega
          · have d2 : decide (place m < place x) = false := decide_eq_false p2
            have NX := Lib.hid (show bitsOf r = sm (zs.take (i + 1)) ∧ x = lst (zs.take (max (i + 1) 1)) ∧ m = mst (zs.take (max (i + 1) 1)) ∧ Fits r from ⟨ER.out, by rw [HEL.out, if_pos p1], by rw [HEM.out, if_neg p2], FR.out⟩)
            clear p1 p2
            go_wp2_with fail
            refine (O1.out _).mono ?_
            rintro e w5 ⟨rfl, rfl⟩
            go_wp2_with fail
            refine (O2.out _).mono ?_
            rintro e w5 ⟨rfl, rfl⟩
            go_wp2_with fail
            go_roundw
            case rel => exact ⟨i + 1, r, x, m, by omega, rfl, rfl, rfl, by go_num, NX, HQ.out.1, HQ.out.2.1, HQ.out.2.2⟩
            case measure => simp [intOf]; omega
        · have d1 : decide (place x < place l) = false := decide_eq_false p1
          by_cases p2 : place m < place x
          · have d2 : decide (place m < place x) = true := decide_eq_true p2
            have NX := Lib.hid (show bitsOf r = sm (zs.take (i + 1)) ∧ l = lst (zs.take (max (i + 1) 1)) ∧ x = mst (zs.take (max (i + 1) 1)) ∧ Fits r from ⟨ER.out, by rw [HEL.out, if_neg p1], by rw [HEM.out, if_pos p2], FR.out⟩)
            clear p1 p2
            go_wp2_with fail
            refine (O1.out _).mono ?_
            rintro e w5 ⟨rfl, rfl⟩
            go_wp2_with fail
            refine (O2.out _).mono ?_
            rintro e w5 ⟨rfl, rfl⟩
            go_wp2_with fail
            go_roundw
            case rel => exact ⟨i + 1, r, l, x, by omega, rfl, rfl, rfl, by go_num, NX, HQ.out.1, HQ.out.2.1, HQ.out.2.2⟩
            case measure => simp [intOf]; omega
          · have d2 : decide (place m < place x) = false := decide_eq_false p2
            have NX := Lib.hid (show bitsOf r = sm (zs.take (i + 1)) ∧ l = lst (zs.take (max (i + 1) 1)) ∧ m = mst (zs.take (max (i + 1) 1)) ∧ Fits r from ⟨ER.out, by rw [HEL.out, if_neg p1], by rw [HEM.out, if_neg p2], FR.out⟩)
            clear p1 p2
            go_wp2_with fail
            refine (O1.out _).mono ?_
            rintro e w5 ⟨rfl, rfl⟩
            go_wp2_with fail
            refine (O2.out _).mono ?_
            rintro e w5 ⟨rfl, rfl⟩
            go_wp2_with fail
            go_roundw
            case rel => exact ⟨i + 1, r, l, m, by omega, rfl, rfl, rfl, by go_num, NX, HQ.out.1, HQ.out.2.1, HQ.out.2.2⟩
            case measure => simp [intOf]; omega
      · have hin : i = n := by omega
        subst hin
        obtain ⟨r, wq, hrun, hr, hw⟩ := wl_float15 (P := Try.prog) wr .quo 36 s (floatOfInt .f64 (i : Int)) (by simp)
        have XT := HX.out
        have hm : max i 1 = i := by omega
        rw [hm, HN.out, List.take_length] at XT
        have E0 := END.out s l m r XT.1 XT.2.1 XT.2.2.1 hr.1
        have O1 := Lib.hid (rbits s XT.2.2.2)
        have O2 := Lib.hid (rbits l (by rw [HX.out.2.1]; exact LF.out _))
        have O3 := Lib.hid (rbits m (by rw [HX.out.2.2.1]; exact MF.out _))
        have O4 := Lib.hid (rbits r hr.2)
        rw [← HT.out] at E0
        have HE := Lib.hid E0
        have R3 : RowAt wq B zT 28 := by rcases hw with rfl | rfl <;> exact RR.out
        have B3 : Below w.heap.size w wq := by
          rcases hw with rfl | rfl
          · exact BR.out
          · exact BR.out.drew
        have z0 := R3.frozen 0
        have z1 := R3.frozen 1
        have z2 := R3.frozen 2
        have z3 := R3.frozen 3
        have z4 := R3.frozen 4
        have y0 := R3.cell 0
        have y1 := R3.cell 1
        have y2 := R3.cell 2
        have y3 := R3.cell 3
        have y4 := R3.cell 4
        simp only [List.getElem?_cons_zero, List.getElem?_cons_succ] at y0 y1 y2 y3 y4
        obtain ⟨Wf, hWf⟩ : ∃ W, W = ((((wq.setCell ⟨B, 0, none⟩ (.int .i64 (i : Nat))).setCell ⟨B, 1, none⟩ (.int .u64 (bitsOf s : Nat))).setCell ⟨B, 2, none⟩ (.int .u64 (bitsOf l : Nat))).setCell ⟨B, 3, none⟩ (.int .u64 (bitsOf m : Nat))).setCell ⟨B, 4, none⟩ (.int .u64 (bitsOf r : Nat)) := ⟨_, rfl⟩
        have RF : RowAt Wf B [.int .i64 (i : Nat), .int .u64 (bitsOf s : Nat), .int .u64 (bitsOf l : Nat), .int .u64 (bitsOf m : Nat), .int .u64 (bitsOf r : Nat)] 28 := by
          rw [hWf]; exact ((((R3.set 0 _).set 1 _).set 2 _).set 3 _).set 4 _
        have BF : Below w.heap.size w Wf := by
          have hb : w.heap.size ≤ B := by have := HB.out; omega
          rw [hWf]; exact ((((B3.setCell (p := ⟨B, 0, none⟩) hb _).setCell (p := ⟨B, 1, none⟩) hb _).setCell (p := ⟨B, 2, none⟩) hb _).setCell (p := ⟨B, 3, none⟩) hb _).setCell (p := ⟨B, 4, none⟩) hb _
        have RFH := Lib.hid RF
        have BFH := Lib.hid BF
        have HWf := Lib.hid hWf
        clear R3 B3 RF BF hWf hr hw XT E0 hm hi
        go_wp2_with fail
        refine (O1.out _).mono ?_
        rintro e w5 ⟨rfl, rfl⟩
        go_wp2_with fail
        refine (O2.out _).mono ?_
        rintro e w5 ⟨rfl, rfl⟩
        go_wp2_with fail
        refine (O3.out _).mono ?_
        rintro e w5 ⟨rfl, rfl⟩
        go_wp2_with fail
        refine (O4.out _).mono ?_
        rintro e w5 ⟨rfl, rfl⟩
        go_wp2_with fail
        rw [← HWf.out]
        refine bodyPost_ret (results_cell_one15 rfl _ _ B _ _ _ rfl RFH.out Try.underlying28 rfl (by kernel_rfl)) rfl ?_
        exact ⟨by rw [HE.out], BFH.out⟩

end Go.Proofs.Ytoljhoabbaigdaa
