/- slices.pdqsortOrdered at uint64, walked. -/
import Derived.Test.YtodindfchkpecaaHs
import Derived.Test.YtodindfchkpecaaSe
import Derived.Test.YtodindfchkpecaaBk
import Derived.Test.YtodindfchkpecaaPi
import Derived.Test.YtodindfchkpecaaRd
namespace Go.Proofs.Ytodindfchkpecaa
open Go.RowKit Go.Sort

/-- slices.pdqsortOrdered sorts what is shorter than n -/
def PdqOk (g cap : Nat) (Z : List Value) (N n : Nat) : Prop := ∀ (d : Array Int) (a b : Nat) (L : Int) (w : World), Sw w w g Z d → d.size = N → b - a < n → a ≤ b → b ≤ N → Go.Sort.Below ltInt a b d → 0 ≤ L → L ≤ 1000 →
  Calls Try.prog 47 #[.slice (some ⟨g, 0, none⟩) N cap, .int .i64 a, .int .i64 b, .int .i64 L] w (SortPost g Z a b d w)

set_option maxHeartbeats 8000000 in
set_option maxRecDepth 100000 in
theorem opdq_step (g cap : Nat) (Z : List Value) (N n : Nat) (hsz : N < 256) (ih : Hid (PdqOk g cap Z N n)) (d : Array Int) (a b : Nat) (L : Int) (w : World) (h : Sw w w g Z d) (hN : d.size = N) (hn : b - a < n + 1) (hab : a ≤ b) (hb : b ≤ N) (hB : Go.Sort.Below ltInt a b d) (l0 : 0 ≤ L) (l1 : L ≤ 1000) :
    Calls Try.prog 47 #[.slice (some ⟨g, 0, none⟩) N cap, .int .i64 a, .int .i64 b, .int .i64 L] w (SortPost g Z a b d w) := by
  have H := Lib.hid h
  have BE := Lib.hid hB
  have DN : Hid (d.size = N) := hN
  clear h hB hN
  go_enter Try.func47, Try.ntmps47
  go_wp2_with fail
  go_loopw [1, 2, 3, 8, 9] (fun va vb vl v8 v9 wr => ∃ (i j : Nat) (l : Int) (p q : Bool) (dk : Array Int), va = .int .i64 i ∧ vb = .int .i64 j ∧ vl = .int .i64 l ∧ v8 = .bool p ∧ v9 = .bool q ∧ a ≤ i ∧ i ≤ j ∧ j ≤ b ∧ 0 ≤ l ∧ l ≤ 1000 ∧ Hid (dk.size = N) ∧ Hid (Go.Sort.Below ltInt i j dk) ∧ Hid (Ends a b d i j dk) ∧ Hid (Sw w wr g Z dk)) (fun va vb _ _ _ _ => (intOf vb - intOf va).toNat)
  case atStart => exact ⟨a, b, L, true, true, d, rfl, rfl, rfl, rfl, rfl, Nat.le_refl _, hab, Nat.le_refl _, l0, l1, DN, BE, Ends.self a b d, H⟩
  case round =>
    obtain ⟨i, j, l, p, q, dk, rfl, rfl, rfl, rfl, rfl, ai, ij, jb, z0, z1, DS, BW, EN, HW⟩ := hrel
    by_cases h12 : (j : Int) - (i : Int) ≤ 12
    · go_wp2_with fail
      have C := oinsertion g cap Z dk i j wr HW.out.self ij (by rw [DS.out]; omega) (by rw [DS.out]; omega)
      rw [DS.out] at C
      refine C.mono ?_
      rintro e w1 ⟨rfl, d5, p5, s5, hw5⟩
      have F := Lib.hid (EN.out d5 p5 s5)
      have HF := Lib.hid (HW.out.trans hw5)
      clear C p5 s5 hw5
      go_wp2_with fail
      refine bodyPost_ret (results_none rfl _ _ _) rfl ?_
      exact ⟨rfl, d5, F.out.1, F.out.2, HF.out⟩
    · by_cases hl0 : l = 0
      · subst hl0
        go_wp2_with fail
        have C := oheap g cap Z dk i j wr HW.out.self (by omega) (by rw [DS.out]; omega) (by rw [DS.out]; omega)
        rw [DS.out] at C
        refine C.mono ?_
        rintro e w1 ⟨rfl, d5, p5, s5, hw5⟩
        have F := Lib.hid (EN.out d5 p5 s5)
        have HF := Lib.hid (HW.out.trans hw5)
        clear C p5 s5 hw5
        go_wp2_with fail
        refine bodyPost_ret (results_none rfl _ _ _) rfl ?_
        exact ⟨rfl, d5, F.out.1, F.out.2, HF.out⟩
      · go_upto_if 35 with fail
        go_cut [3] from 19 to 133 (fun vl wx => ∃ (l1 : Int) (d1 : Array Int), vl = .int .i64 l1 ∧ 0 ≤ l1 ∧ l1 ≤ 1000 ∧ Hid (d1.size = N) ∧ Hid (Go.Sort.Below ltInt i j d1) ∧ Hid (Ends a b d i j d1) ∧ Hid (Sw w wx g Z d1))
        case first =>
          cases p
          · go_wp2_with fail
            have C := obreak g cap Z dk i j wr HW.out.self (by omega) (by rw [DS.out]; omega) (by rw [DS.out]; exact hsz)
            rw [DS.out] at C
            refine C.mono ?_
            rintro e w1 ⟨rfl, d1, p1, hw1⟩
            have D1 : Hid (d1.size = N) := p1.1.trans DS.out
            have B1 := Lib.hid (below_perm (by rw [DS.out]; omega) p1 BW.out)
            have E1 := Lib.hid (EN.out.perm p1)
            have W1 := Lib.hid (HW.out.trans hw1)
            clear C p1 hw1
            go_wp2_with fail
            go_meet
            exact ⟨l - 1, d1, rfl, by omega, by omega, D1, B1, E1, W1⟩
          · go_wp2_with fail
            go_meet
            exact ⟨l, dk, rfl, z0, z1, DS, BW, EN, HW⟩
        case rest =>
          obtain ⟨l1, d1, rfl, y0, y1, D1, B1, E1, W1⟩ := hcut
          clear hl0 z0 z1 DS BW EN HW
          go_wp2_with fail
          have C := ochoose g cap Z d1 i j _ W1.out.self (by omega) (by rw [D1.out]; omega) (by rw [D1.out]; omega)
          rw [D1.out] at C
          refine C.mono ?_
          rintro e w2 ⟨P, t, rfl, P0, P1, hw2⟩
          have W2 := Lib.hid (W1.out.trans hw2)
          clear C hw2 W1
          go_upto_if 50 with fail
          go_cut [11, 12] from 19 to 133 (fun v11 v12 wx => ∃ (pv : Nat) (t1 : Int) (d3 : Array Int), v11 = .int .i64 pv ∧ v12 = .int .i64 t1 ∧ i ≤ pv ∧ pv < j ∧ Hid (d3.size = N) ∧ Hid (Go.Sort.Below ltInt i j d3) ∧ Hid (Ends a b d i j d3) ∧ Hid (Sw w wx g Z d3))
          case first =>
            by_cases ht : t = 2
            · subst ht
              go_wp2_with fail
              have C := oreverse g cap Z d1 i j w2 W2.out.self (by omega) (by rw [D1.out]; omega) (by rw [D1.out]; omega)
              rw [D1.out] at C
              refine C.mono ?_
              rintro e w3 ⟨rfl, d3, p3, hw3⟩
              have D3 : Hid (d3.size = N) := p3.1.trans D1.out
              have B3 := Lib.hid (below_perm (by rw [D1.out]; omega) p3 B1.out)
              have E3 := Lib.hid (E1.out.perm p3)
              have W3 := Lib.hid (W2.out.trans hw3)
              obtain ⟨pv, hpv⟩ : ∃ pv : Nat, (j : Int) - 1 - ((P : Int) - (i : Int)) = pv := ⟨j - 1 - (P - i), by omega⟩
              have u0 : i ≤ pv := by omega
              have u1 : pv < j := by omega
              have HP := Lib.hid hpv
              clear C p3 hw3 hpv
              go_wp2_with fail
              go_meet
              exact ⟨pv, 1, d3, congrArg (Value.int .i64) HP.out, rfl, u0, u1, D3, B3, E3, W3⟩
            · go_wp2_with fail
              go_meet
              exact ⟨P, t, d1, rfl, rfl, P0, P1, D1, B1, E1, W2⟩
          case rest =>
            obtain ⟨pv, t1, d3, rfl, rfl, pv0, pv1, D3, B3, E3, W3⟩ := hcut
            clear D1 B1 E1 W2 P0 P1
            go_upto_region 15 with fail
            go_cut [68] from 19 to 133 (fun v wx => ∃ r : Bool, v = .bool r ∧ Hid (Sw w wx g Z d3))
            case first =>
              by_cases ht : t1 = 1
              · subst ht
                cases p
                · cases q
                  · go_wp2_with fail
                    go_meet
                    exact ⟨_, rfl, W3⟩
                  · go_wp2_with fail
                    go_meet
                    exact ⟨_, rfl, W3⟩
                · cases q
                  · go_wp2_with fail
                    go_meet
                    exact ⟨_, rfl, W3⟩
                  · go_wp2_with fail
                    go_meet
                    exact ⟨_, rfl, W3⟩
              · cases p
                · cases q
                  · go_wp2_with fail
                    go_meet
                    exact ⟨_, rfl, W3⟩
                  · go_wp2_with fail
                    go_meet
                    exact ⟨_, rfl, W3⟩
                · cases q
                  · go_wp2_with fail
                    go_meet
                    exact ⟨_, rfl, W3⟩
                  · go_wp2_with fail
                    go_meet
                    exact ⟨_, rfl, W3⟩
            case rest =>
              obtain ⟨r, rfl, W3⟩ := hcut
              go_upto_if 68 with fail
              go_cut [] from 19 to 133 (fun wx => ∃ d4 : Array Int, Hid (d4.size = N) ∧ Hid (Go.Sort.Below ltInt i j d4) ∧ Hid (Ends a b d i j d4) ∧ Hid (Sw w wx g Z d4))
              case first =>
                cases r
                · go_wp2_with fail
                  go_meet
                  exact ⟨d3, D3, B3, E3, W3⟩
                · go_wp2_with fail
                  have C := opartial g cap Z d3 i j _ W3.out.self (by omega) (by rw [D3.out]; omega) (by rw [D3.out]; omega)
                  have F := Lib.hid (partialInsertionSort_holds (lt := ltInt) swo_ltInt d3 i j (by omega) (by rw [D3.out]; omega) B3.out)
                  obtain ⟨PR, hPR⟩ : ∃ PR, partialInsertionSort ltInt d3 i j = PR := ⟨_, rfl⟩
                  rw [hPR] at C F
                  rw [D3.out] at C
                  clear hPR
                  obtain ⟨d4, r⟩ := PR
                  refine C.mono ?_
                  rintro e w4 ⟨rfl, hw4⟩
                  have p4 : PermIn i j d3 d4 := F.out.1
                  have D4 : Hid (d4.size = N) := p4.1.trans D3.out
                  have B4 := Lib.hid (below_perm (by rw [D3.out]; omega) p4 B3.out)
                  have E4 := Lib.hid (E3.out.perm p4)
                  have W4 : Hid (Sw w w4 g Z d4) := W3.out.trans hw4
                  have FIN : Hid (r = true → PermIn a b d d4 ∧ SortedIn ltInt a b d4) := fun h => E3.out d4 p4 (F.out.2 h)
                  clear C p4 hw4 F
                  cases r
                  · go_wp2_with fail
                    go_meet
                    exact ⟨d4, D4, B4, E4, W4⟩
                  · go_wp2_with fail
                    refine bodyPost_ret (results_none rfl _ _ _) rfl ?_
                    exact ⟨rfl, d4, (FIN.out (by first | rfl | trivial)).1, (FIN.out (by first | rfl | trivial)).2, W4.out⟩
              case rest =>
                obtain ⟨d4, D4, B4, E4, W4⟩ := hcut
                clear D3 B3 E3 W3
                go_upto_region 17 with fail
                go_cut [87] from 19 to 133 (fun v wx => ∃ r : Bool, v = .bool r ∧ Hid (r = true → 0 < i ∧ d4[pv]! ≤ d4[i - 1]!) ∧ Hid (Sw w wx g Z d4))
                case first =>
                  have q1 : (pv : Int) < N := by omega
                  have q2 : ((pv : Int)).toNat = pv := by omega
                  have q3 : (0 : Int) ≤ (pv : Int) := by omega
                  by_cases hi : 0 < i
                  · obtain ⟨m, hm⟩ : ∃ m, i - 1 = m := ⟨_, rfl⟩
                    have T0 : decide ((0 : Int) < (i : Int)) = true := decide_eq_true (by omega)
                    have k1 : (i : Int) - 1 < N := by omega
                    have k2 : ((i : Int) - 1).toNat = m := by omega
                    have k3 : 0 ≤ (i : Int) - 1 := by omega
                    have cm := W4.out.cell m (by rw [D4.out]; omega)
                    have cp := W4.out.cell pv (by rw [D4.out]; omega)
                    obtain ⟨x, hx⟩ : ∃ x, d4[m]! = x := ⟨_, rfl⟩
                    obtain ⟨y, hy⟩ : ∃ y, d4[pv]! = y := ⟨_, rfl⟩
                    rw [hx] at cm
                    rw [hy] at cp
                    have HX := Lib.hid hx
                    have HY := Lib.hid hy
                    have HM := Lib.hid hm
                    clear hx hy hm
                    by_cases hxy : x < y
                    · have T9 : decide (x < y) = true := decide_eq_true hxy
                      go_quiet ((go_at_call 42; exact Calls.quiet_of_same ((cless x y _).mono fun _ _ hh => ⟨hh.1, hh.2.symm⟩)))
                      go_wp2_with fail
                      go_meet
                      exact ⟨false, rfl, (fun e => by cases e), W4.out.drewN _⟩
                    · have T9 : decide (x < y) = false := decide_eq_false hxy
                      go_quiet ((go_at_call 42; exact Calls.quiet_of_same ((cless x y _).mono fun _ _ hh => ⟨hh.1, hh.2.symm⟩)))
                      go_wp2_with fail
                      go_meet
                      exact ⟨true, rfl, (fun _ => ⟨hi, by rw [HM.out, HX.out, HY.out]; omega⟩), W4.out.drewN _⟩
                  · have T0 : decide ((0 : Int) < (i : Int)) = false := decide_eq_false (by omega)
                    go_quiet (fail)
                    go_wp2_with fail
                    go_meet
                    exact ⟨false, rfl, (fun e => by cases e), W4.out.drewN _⟩
                case rest =>
                  obtain ⟨r, rfl, RR0, W4⟩ := hcut
                  cases r
                  · go_wp2_with fail
                    have C := opartition g cap Z d4 i j pv _ W4.out.self pv0 pv1 (by rw [D4.out]; omega) (by rw [D4.out]; omega)
                    rw [D4.out] at C
                    refine C.mono ?_
                    rintro e w5 ⟨mid, r5, d5, rfl, m0, m1, p5, lo5, hi5, hw5⟩
                    have W5 := Lib.hid (W4.out.trans hw5)
                    have D5 : Hid (d5.size = N) := p5.1.trans D4.out
                    have BL := Lib.hid (below_left (below_perm (by rw [D4.out]; omega) p5 B4.out) (Nat.le_of_lt m1))
                    have BR := Lib.hid (below_right hi5)
                    have RL := Lib.hid (fun (R' : Array Int) h1 h2 => round_left (d3 := d4) (L := R') (by rw [D4.out]; omega) m1 m0 p5 lo5 hi5 h1 h2)
                    have RR := Lib.hid (fun (R' : Array Int) h1 h2 => round_right (d3 := d4) (L := R') (by rw [D4.out]; omega) B4.out m1 m0 p5 lo5 hi5 h1 h2)
                    clear C p5 lo5 hi5 hw5
                    by_cases hlr : (mid : Int) - (i : Int) < (j : Int) - (mid : Int)
                    · go_wp2_with fail
                      refine (ih.out d5 i mid l1 w5 W5.out.self D5.out (by omega) m0 (by omega) BL.out y0 y1).mono ?_
                      rintro e w6 ⟨rfl, d6, p6, s6, hw6⟩
                      have R6 := Lib.hid (RL.out d6 p6 s6)
                      have W6 := Lib.hid (W5.out.trans hw6)
                      have D6 : Hid (d6.size = N) := p6.1.trans D5.out
                      clear p6 s6 hw6
                      go_wp2
                      go_roundw
                      case rel => exact ⟨mid + 1, j, l1, _, _, d6, by first | rfl | go_num, rfl, rfl, rfl, rfl, by omega, by omega, jb, y0, y1, D6, R6.out.1, (fun R h1 h2 => have k := R6.out.2 R h1 h2; E4.out R k.1 k.2), W6⟩
                      case measure => simp [intOf] <;> omega
                    · go_wp2_with fail
                      refine (ih.out d5 (mid + 1) j l1 w5 W5.out.self D5.out (by omega) (by omega) (by omega) BR.out y0 y1).mono ?_
                      rintro e w6 ⟨rfl, d6, p6, s6, hw6⟩
                      have R6 := Lib.hid (RR.out d6 p6 s6)
                      have W6 := Lib.hid (W5.out.trans hw6)
                      have D6 : Hid (d6.size = N) := p6.1.trans D5.out
                      clear p6 s6 hw6
                      go_wp2
                      go_roundw
                      case rel => exact ⟨i, mid, l1, _, _, d6, rfl, rfl, rfl, rfl, rfl, by omega, by omega, by omega, y0, y1, D6, R6.out.1, (fun R h1 h2 => have k := R6.out.2 R h1 h2; E4.out R k.1 k.2), W6⟩
                      case measure => simp [intOf] <;> omega
                  · go_wp2_with fail
                    have NX := RR0.out (by first | rfl | trivial)
                    have C := opartEq g cap Z d4 i j pv _ W4.out.self pv0 pv1 (by rw [D4.out]; omega) (by rw [D4.out]; omega)
                    rw [D4.out] at C
                    refine C.mono ?_
                    rintro e w5 ⟨mid, d5, rfl, m0, m1, p5, lo5, hi5, hw5⟩
                    have W5 := Lib.hid (W4.out.trans hw5)
                    have D5 : Hid (d5.size = N) := p5.1.trans D4.out
                    have R5 := Lib.hid (round_eq' (d3 := d4) (d4 := d5) (mid := mid) (a := i) (b := j) (pv := pv) NX.1 (by rw [D4.out]; omega) B4.out (by have := NX.2; omega) m0 p5 (fun t h1 h2 => by have := lo5 t h1 h2; omega) hi5)
                    clear C p5 lo5 hi5 hw5 NX
                    go_wp2
                    go_roundw
                    case rel => exact ⟨mid, j, l1, _, _, d5, rfl, rfl, rfl, rfl, rfl, by omega, m1, jb, y0, y1, D5, R5.out.1, (fun R h1 h2 => have k := R5.out.2 R h1 h2; E4.out R k.1 k.2), W5⟩
                    case measure => simp [intOf] <;> omega

theorem opdq (g cap : Nat) (Z : List Value) (N : Nat) (hsz : N < 256) : ∀ n, PdqOk g cap Z N n
  | 0 => fun _ _ _ _ _ _ _ h => absurd h (Nat.not_lt_zero _)
  | n + 1 => fun d a b L w h hN hn hab hb hB l0 l1 => opdq_step g cap Z N n hsz (opdq g cap Z N hsz n) d a b L w h hN hn hab hb hB l0 l1

end Go.Proofs.Ytodindfchkpecaa
