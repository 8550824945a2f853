/- AggExact: walked. -/
import Derived.Test.YtoljhoabbaigdaaI1i
namespace Go.Proofs.Ytoljhoabbaigdaa.aggExact
open Go.Proofs.Ytoljhoabbaigdaa Go.Joins Go.ChangeShapes Go.WideShapes Go.ChangeAt Go.RowKit Ex Fl Ag Ieee
attribute [local go_sem] Oper.semAt_some

theorem tal_ne {F : List Nat} (h : F ≠ []) : ∃ a b c d : Int, tal F = .agg #[.int .i64 a, .int .u64 ((sm F : Nat) : Int), .int .u64 b, .int .u64 c, .int .u64 d] := by
  unfold tal; rw [if_neg h]; exact ⟨_, _, _, _, rfl⟩
/-- as long as the way is small it is the tally's -/
theorem sm_small {F : List Nat} (hf : AllFits F) (hx : ∀ j, j < F.length → isX (F.getD j 0) = true) :
    ∀ i, i ≤ F.length → (∀ j, j < i → -9007199254740992 ≤ tot (F.take j) ∧ tot (F.take j) ≤ 9007199254740992) → sm (F.take i) = ofI (tot (F.take i))
  | 0, _, _ => by rw [List.take_zero]; decide +kernel
  | i + 1, hi, hw => by
    have ih := sm_small hf hx i (by omega) (fun j hj => hw j (by omega))
    obtain ⟨h1, h2⟩ := hw i (by omega)
    obtain ⟨h3, _⟩ := isX_parts (hx i (by omega))
    rw [take_snoc (by omega), sm_snoc, tot_snoc, ih, add_whole _ _ h1 h2 (hf.get (by omega)) h3]
    exact ofI_bits _

set_option maxRecDepth 100000 in
set_option maxHeartbeats 4000000 in
theorem walk (l : List Int) (A : Option Addr) (c : Nat) (w : World) (h : Sl w A l) (hu : La.U64 l) (hl : l.length ≤ maxLen) :
    Calls Try.prog 5 #[.slice A l.length c] w fun e w' => e = .returned (.bool true) ∧ Below w.heap.size w w' := by
  have AW := Lib.hid (awake15 w)
  unfold maxLen at hl
  obtain ⟨n, hn⟩ : ∃ n, n = l.length := ⟨_, rfl⟩
  rw [← hn] at hl ⊢
  by_cases q0 : 600 < n
  · clear h hu hn
    go_enter Try.func5, Try.ntmps5
    go_wp2_with fail
    refine AW.out.mono ?_
    rintro e w1 ⟨rfl, hb1⟩
    have B1 := Lib.hid hb1
    clear hb1
    go_wp2_with fail
    go_ret
    exact ⟨rfl, B1.out⟩
  obtain ⟨F, hF⟩ : ∃ F, F = fls l := ⟨_, rfl⟩
  have nF : n = F.length := by rw [hF]; unfold fls; rw [List.length_map, hn]
  have FF : AllFits F := by rw [hF]; exact fls_fits hu
  have XF := Lib.hid (fun W (hb : Below w.heap.size w W) => xFloats l A c W (h.below hb) (by omega))
  have XE := Lib.hid (fun A' c' W (h' : SlF W A' F) => xExact F A' c' W h' FF (by omega))
  have RE := Lib.hid (fun A' c' W (h' : SlF W A' F) => rExact F A' c' W h' FF (by omega))
  rw [← hF, ← nF, ← hn] at XF
  obtain ⟨Y, hY⟩ : ∃ Y, Y = exV F := ⟨_, rfl⟩
  obtain ⟨E, hE⟩ : ∃ E, E = exE F := ⟨_, rfl⟩
  rw [← nF, ← hY, ← hE] at XE RE
  have n600 : n ≤ 600 := by omega
  by_cases e0 : E = 0
  · have ha : ∀ j, j < F.length → isX (F.getD j 0) = true := by
      have : F.all isX = true := by
        cases hq : F.all isX with
        | true => rfl
        | false => unfold exE at hE; rw [hq] at hE; simp at hE; omega
      exact fun j hj => all_at this hj
    have hYT : Y = ofI (tot F) := by rw [hY]; unfold exV; rw [if_pos (by rw [← hE]; exact e0)]
    have XO := Lib.hid (fun A' c' W (h' : SlF W A' F) => xOf15 F A' c' W h' FF (by omega))
    rw [← nF] at XO
    have SM := Lib.hid (fun (hw : ∀ j, j < n → -9007199254740992 ≤ tot (F.take j) ∧ tot (F.take j) ≤ 9007199254740992) => show sm F = Y by
      have := sm_small FF ha F.length (Nat.le_refl _) (fun j hj => hw j (by omega))
      rw [List.take_length] at this
      rw [this, hYT])
    have TS := Lib.hid (fun i (hi : i < n) => show tot (F.take (i + 1)) = tot (F.take i) + wVal (F.getD i 0) by rw [take_snoc (by omega), tot_snoc])
    have XC := Lib.hid (fun i (hi : i < n) A' W (h' : SlF W A' F) => show ∃ b o, A' = some ⟨b, o, none⟩ ∧ b < W.heap.size ∧ W.cell? ⟨b, o + i, none⟩ = some (.float .f64 (F.getD i 0)) by
      obtain ⟨b, o, e, hlt, k⟩ := h'.at_ (k := i) (by omega)
      exact ⟨b, o, e, hlt, k i (by omega)⟩)
    have XW := Lib.hid (fun i (hi : i < n) W => show Calls Try.prog 19 #[.float .f64 (F.getD i 0)] W fun e w' => (∃ m ok, e = .returned (.tuple #[.int .i64 m, .bool ok]) ∧ m = wVal (F.getD i 0) ∧ -9007199254740992 ≤ m ∧ m ≤ 9007199254740992) ∧ w' = W by
      obtain ⟨h3, h4, h5⟩ := isX_parts (ha i (by omega))
      refine (rwhole15 _ (FF.get (by omega)) W).mono ?_
      rintro e w' ⟨m, rfl, hm, rfl⟩
      rw [hm h3]
      exact ⟨⟨_, _, rfl, rfl, h4, h5⟩, rfl⟩)
    have EQ := Lib.hid (show (FloatKind.f64.format.order Y Y == some Ordering.eq) = true by
      have h1 := order_self Y
      rw [hYT] at h1 ⊢
      rw [ofI_nan] at h1
      show (double.order (ofI (tot F)) (ofI (tot F)) == some Ordering.eq) = true
      simpa using h1)
    have NF := Lib.hid nF
    clear h hu hn hF FF nF hl q0 hY hE ha hYT
    subst e0
    go_enter Try.func5, Try.ntmps5
    go_wp2_with fail
    refine AW.out.mono ?_
    rintro e w1 ⟨rfl, hb1⟩
    have B1 := Lib.hid hb1
    clear hb1
    go_wp2_with fail
    refine (XF.out _ B1.out).mono ?_
    rintro e w2 ⟨⟨A', c', rfl, s2, _, _⟩, hb2⟩
    have S2 := Lib.hid s2
    have B2 := Lib.hid (below_then B1.out hb2)
    clear hb2 s2
    go_wp2_with fail
    refine (XE.out A' c' _ S2.out).mono ?_
    rintro e w3 ⟨rfl, hb3⟩
    have S3 := Lib.hid (S2.out.below hb3)
    have B3 := Lib.hid (below_then B2.out hb3)
    clear hb3
    go_wp2_with fail
    refine (RE.out A' c' _ S3.out).mono ?_
    rintro e w4 ⟨rfl, rfl⟩
    go_wp2_with fail
    go_loopw [8, 9] (fun vs vi wr => ∃ (i : Nat) (t : Int), i ≤ n ∧ vs = .int .i64 t ∧ vi = .int .i64 i ∧ -9007199254740992 ≤ t ∧ t ≤ 9007199254740992 ∧ Hid (t = tot (F.take i)) ∧ Hid (∀ j, j < i → -9007199254740992 ≤ tot (F.take j) ∧ tot (F.take j) ≤ 9007199254740992) ∧ Hid (SlF wr A' F) ∧ Hid (Below w.heap.size w wr)) (fun _ vi _ => n - (intOf vi).toNat)
    case atStart => exact ⟨0, 0, Nat.zero_le _, rfl, rfl, by omega, by omega, Lib.hid rfl, Lib.hid (fun j hj => by cases hj), S3, B3⟩
    case round =>
      obtain ⟨i, t, hi, rfl, rfl, t0, t1, HT, HW, SR, BR⟩ := hrel
      by_cases q : i < n
      · obtain ⟨b, o, rfl, hb, ci⟩ := XC.out i q A' _ SR.out
        have W1 := Lib.hid (XW.out i q)
        have HT2 := Lib.hid (TS.out i q)
        obtain ⟨x, hx⟩ : ∃ x, x = F.getD i 0 := ⟨_, rfl⟩
        rw [← hx] at ci W1 HT2
        have HW2 := Lib.hid (show ∀ j, j < i + 1 → -9007199254740992 ≤ tot (F.take j) ∧ tot (F.take j) ≤ 9007199254740992 from fun j hj => by
          rcases Nat.lt_or_ge j i with q2 | q2
          · exact HW.out j q2
          · rw [show j = i by omega, ← HT.out]; exact ⟨t0, t1⟩)
        clear hx hb
        go_wp2_with fail
        refine (W1.out _).mono ?_
        rintro e w5 ⟨⟨m, ok, rfl, hm, m0, m1⟩, rfl⟩
        have HT3 := Lib.hid (show t + m = tot (F.take (i + 1)) by rw [HT2.out, ← hm, HT.out])
        clear hm
        have b1 : -9223372036854775808 ≤ t + m := by omega
        have b2 : t + m ≤ 9223372036854775807 := by omega
        obtain ⟨u, hu⟩ : ∃ u, u = t + m := ⟨_, rfl⟩
        have fu := hu.symm
        rw [← hu] at HT3
        by_cases g1 : 9007199254740992 < u
        · have g1' : 9007199254740992 < t + m := by omega
          clear hu
          go_wp2_with fail
          go_ret
          exact ⟨rfl, BR.out⟩
        · by_cases g2 : u < -9007199254740992
          · have g2' : t + m < -9007199254740992 := by omega
            clear hu
            go_wp2_with fail
            go_ret
            exact ⟨rfl, BR.out⟩
          · clear hu
            go_wp2_with fail
            go_roundw
            case rel => exact ⟨i + 1, u, by omega, by go_num, by go_num, by omega, by omega, HT3, HW2, SR, BR⟩
            case measure => simp [intOf]; omega
      · have hin : i = n := by omega
        subst hin
        have SY := SM.out HW.out
        by_cases p0 : i = 0
        · have z0 : ((i : Int) == 0) = true := by simp; omega
          obtain ⟨s0, s1, s2, s3, s4, hs⟩ := tal_parts F
          simp only [hs] at XO
          clear hs p0
          go_wp2_with fail
          refine (XO.out A' c' _ SR.out).mono ?_
          rintro e w6 ⟨rfl, hb6⟩
          have B6 := below_then BR.out hb6
          have B7 := Lib.hid (B6.alloc B6.size (.cells #[.int .i64 s0, .int .u64 s1, .int .u64 s2, .int .u64 s3, .int .u64 s4] 28))
          clear hb6 B6
          go_wp2_with fail
          go_ret
          exact ⟨rfl, B7.out⟩
        · have z0 : ((i : Int) == 0) = false := by simp; omega
          obtain ⟨s0, s2, s3, s4, hs⟩ := tal_ne (F := F) (fun z => p0 (by rw [NF.out, z]; rfl))
          rw [SY] at hs
          simp only [hs] at XO
          have eq := EQ.out
          clear hs p0 SY
          go_wp2_with fail
          refine (XO.out A' c' _ SR.out).mono ?_
          rintro e w6 ⟨rfl, hb6⟩
          have B6 := below_then BR.out hb6
          have B7 := Lib.hid (B6.alloc B6.size (.cells #[.int .i64 s0, .int .u64 ((Y : Nat) : Int), .int .u64 s2, .int .u64 s3, .int .u64 s4] 28))
          clear hb6 B6
          go_wp2_with fail
          go_ret
          exact ⟨rfl, B7.out⟩
  · have e1 : (E == 0) = false := by simpa using e0
    have e2 : (E != 0) = true := by simpa using e0
    clear h hu hn hF FF nF hl q0 hY hE
    go_enter Try.func5, Try.ntmps5
    go_wp2_with fail
    refine AW.out.mono ?_
    rintro e w1 ⟨rfl, hb1⟩
    have B1 := Lib.hid hb1
    clear hb1
    go_wp2_with fail
    refine (XF.out _ B1.out).mono ?_
    rintro e w2 ⟨⟨A', c', rfl, s2, _, _⟩, hb2⟩
    have S2 := Lib.hid s2
    have B2 := Lib.hid (below_then B1.out hb2)
    clear hb2 s2
    go_wp2_with fail
    refine (XE.out A' c' _ S2.out).mono ?_
    rintro e w3 ⟨rfl, hb3⟩
    have S3 := Lib.hid (S2.out.below hb3)
    have B3 := Lib.hid (below_then B2.out hb3)
    clear hb3
    go_wp2_with fail
    refine (RE.out A' c' _ S3.out).mono ?_
    rintro e w4 ⟨rfl, rfl⟩
    go_wp2_with fail
    go_ret
    exact ⟨rfl, B3.out⟩

end Go.Proofs.Ytoljhoabbaigdaa.aggExact
