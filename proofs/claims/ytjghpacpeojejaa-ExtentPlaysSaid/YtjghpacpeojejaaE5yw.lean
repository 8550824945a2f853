/- ExtentPlays, walked where the world may be, given what the program's extent does. -/
import Derived.Test.YtjghpacpeojejaaE5z
import Derived.Lib.SmallJoins
import Derived.Deep.CutBlock
import Derived.Deep.CutRange
import Derived.Test.YtjghpacpeojejaaRgn
import Derived.ChangeMaps5
namespace Go.Proofs.Ytjghpacpeojejaa.extentPlays
open Go.Proofs.Ytjghpacpeojejaa Go.Joins Go.ChangeShapes Go.WideShapes Go.ChangeAt Go.RowKit Go.Deep

/-- what holds at each round's head -/
def At5 (R : RelE) (B : Nat) (w0 : World) (b p g : Nat) (E S : Nat) (v : World) : Prop := ∃ m, m.ext = E ∧ m.sec = S ∧ Two R B v b p g m m ∧ Below B w0 v

set_option maxRecDepth 100000 in
set_option maxHeartbeats 2000000 in
theorem walk_fit {R : RelE} (X : ExtAt R) (e s : Int) (A1 : Option Addr) (c1 : Nat) (l : List Act5) (w : World) (he0 : 1 ≤ e) (he : e ≤ 8) (hs0 : 1 ≤ s) (hs : s ≤ 20)
    (h1 : SlAc w.heap.size w A1 l) (o1 : AcsOk l) :
    Calls Try.prog 3 #[.int .i64 e, .int .i64 s, .slice A1 l.length c1] w fun r w' => r = .returned (.bool true) ∧ Below w.heap.size w w' := by
  obtain ⟨B, hB⟩ : ∃ B, B = w.heap.size := ⟨_, rfl⟩
  rw [← hB] at h1 ⊢
  obtain ⟨n1, hn1⟩ : ∃ n, n = l.length := ⟨_, rfl⟩
  rw [← hn1]
  have m1 : n1 ≤ 9223372036854775807 := by rw [hn1]; exact o1.1
  have HF := Lib.hid (show Ext.fits e s = true by unfold Ext.fits; simp only [Bool.and_eq_true, decide_eq_true_eq]; omega)
  have X' := Lib.hid X
  have AW := Lib.hid (awake5 X)
  have H1 := Lib.hid h1
  have O1 := Lib.hid o1
  have HN1 := Lib.hid hn1
  have HB := Lib.hid hB
  have B0 := Lib.hid (show Below B w w from Below.refl _ _)
  have NW := Lib.hid (fun v => X.new e s v ⟨by omega, by omega⟩ ⟨by omega, by omega⟩)
  have RN := Lib.hid (fun v => eNew e s v)
  clear h1 o1 hn1 X hB
  go_enter Try.func3, Try.ntmps3
  go_wp2_with fail
  refine (AW.out _).mono ?_
  rintro r w1 ⟨rfl, hb1⟩
  have B1 := Lib.hid (B0.out.trans (by rw [HB.out]; exact hb1))
  have S1 := Lib.hid (show B ≤ w1.heap.size from by rw [HB.out]; exact hb1.size)
  clear hb1
  go_wp2_with fail
  refine (NW.out _).mono ?_
  rintro r w2 ⟨hb2, ⟨_, b, F, rfl, hr, hF⟩ | ⟨hf, _⟩⟩
  case inr => exact absurd (hf.symm.trans HF.out) (by decide)
  have A2 := Lib.hid hr
  have F2 := Lib.hid hF
  have B2 := Lib.hid (B1.out.trans (hb2.mono S1.out))
  have S2 := Lib.hid (show B ≤ w2.heap.size from Nat.le_trans S1.out hb2.size)
  clear hb2 hr hF
  go_wp2_with fail
  refine (RN.out _).mono ?_
  rintro r w3 (⟨_, rfl, hr, hb3⟩ | ⟨hf, _⟩)
  case inr => exact absurd (hf.symm.trans HF.out) (by decide)
  obtain ⟨p, hp⟩ : ∃ p, p = w2.heap.size + 1 := ⟨_, rfl⟩
  obtain ⟨g, hg⟩ : ∃ g, g = w2.heap.size := ⟨_, rfl⟩
  rw [← hp] at hr ⊢
  rw [← hg] at hr
  have A3 := Lib.hid (show At5 R B w b p g e.toNat s.toNat w3 from ⟨_, rfl, rfl, ⟨F, X'.out.keep A2.out (fun k hk => hb3.block k (X'.out.lt A2.out hk)) hb3.size, fun k hk => by
    have h1 := F2.out k hk; have h2 := X'.out.lt A2.out hk; have h3 := S1.out; exact ⟨by omega, by omega, by omega⟩, hr, by have := S2.out; omega, by have := S2.out; omega, Nat.le_trans S2.out hb3.size⟩, B2.out.trans (hb3.mono S2.out)⟩)
  clear hr hb3 hp hg
  go_upto_block 0 with fail
  go_cut [11, 12] from 57 to 116 (fun _ _ wx => Hid (At5 R B w b p g e.toNat s.toNat wx))
  case first =>
    go_wp2_with fail
    go_loopw [11] (fun vi wr => ∃ k : Nat, vi = .int .i64 k ∧ k ≤ n1 ∧ k ≤ 120 ∧ Hid (At5 R B w b p g e.toNat s.toNat wr)) (fun vi _ => n1 - (intOf vi).toNat)
    case atStart => exact ⟨0, rfl, Nat.zero_le _, by omega, A3⟩
    case round =>
      obtain ⟨k, rfl, kn, k120, HM⟩ := hrel
      by_cases q1 : k < n1
      · by_cases q2 : k < 120
        · obtain ⟨m, d1, d2, tw, bw⟩ := HM.out
          obtain ⟨bA, oA, xk, xe, xa, xs, ps', PL, AP, cP, rfl, _, ok, hPL, hc, hN, hA⟩ := elem_at H1.out O1.out (k := k) (by rw [← HN1.out]; exact q1)
          obtain ⟨e0, e1, e2, e3, e4, _⟩ := hc wr bw
          have sp := (hc w (Below.refl _ _)).2.2.2.2.2
          have i0 : (0 : Int) ≤ (k : Int) := by omega
          have i1 : (k : Int) < (n1 : Int) := by omega
          have D := Lib.hid (And.intro d1 d2)
          have mPL : PL ≤ 9223372036854775807 := by rw [hPL]; exact ok.2.2.2.1
          have mXS : xs.size ≤ 9223372036854775807 := ok.2.2.1
          have ST0 := Lib.hid (St.new X'.out.toExtOps tw bw (.cells #[.int .i64 xk, .int .i64 xe, .int .i64 xa, .string xs, .slice AP PL cP] 33))
          have DO := Lib.hid (fun v => c_does (b := b) (p := p) (g := g) (m := m) (q := wr.heap.size) (o := .cells #[.int .i64 xk, .int .i64 xe, .int .i64 xa, .string xs, .slice AP PL cP] 33) X'.out.toExtOps xk xe xa xs ps' PL AP cP hPL ok hN hA sp v)
          obtain ⟨m', hm'⟩ : ∃ m', m' = m.act ⟨xk, xe, xa, xs, ps'⟩ := ⟨_, rfl⟩
          rw [← hm'] at DO
          have D' := Lib.hid (show m'.ext = e.toNat ∧ m'.sec = s.toNat by rw [hm', (act_dims m _).1, (act_dims m _).2]; exact D.out)
          have OE := Lib.hid (show In64 xe from ok.1)
          have OA := Lib.hid (show In64 xa from ok.2.1)
          have HMM := HM
          have HW1 := Lib.hid (And.intro tw bw)
          clear d1 d2 tw bw hPL ok hc hN hA sp hm'
          by_cases z1 : 200 < xs.size
          · go_wp2_with fail
            have Q := Lib.hid (show At5 R B w b p g e.toNat s.toNat (wr.alloc (.cells #[.int .i64 xk, .int .i64 xe, .int .i64 xa, .string xs, .slice AP PL cP] 33)) from ⟨m, D.out.1, D.out.2, ST0.out.two.alone.1, ST0.out.below⟩)
            go_roundw
            case rel => first | exact ⟨k + 1, by go_num, by omega, by omega, Q⟩ | ((repeat apply Exists.intro); exact ⟨⟨k + 1, by go_num, by omega, by omega, Q⟩, rfl⟩)
            case measure => simp [intOf]; omega
          · by_cases z2 : 100 < PL
            · go_wp2_with fail
              have Q := Lib.hid (show At5 R B w b p g e.toNat s.toNat (wr.alloc (.cells #[.int .i64 xk, .int .i64 xe, .int .i64 xa, .string xs, .slice AP PL cP] 33)) from ⟨m, D.out.1, D.out.2, ST0.out.two.alone.1, ST0.out.below⟩)
              go_roundw
              case rel => first | exact ⟨k + 1, by go_num, by omega, by omega, Q⟩ | ((repeat apply Exists.intro); exact ⟨⟨k + 1, by go_num, by omega, by omega, Q⟩, rfl⟩)
              case measure => simp [intOf]; omega
            · go_upto_region 14 with fail
              obtain ⟨wb, hwb⟩ : ∃ wb, wb = wr.alloc (.cells #[.int .i64 xk, .int .i64 xe, .int .i64 xa, .string xs, .slice AP PL cP] 33) := ⟨_, rfl⟩
              obtain ⟨q, hq⟩ : ∃ q, q = wr.heap.size := ⟨_, rfl⟩
              rw [← hwb, ← hq]
              rw [← hwb, ← hq] at ST0
              rw [← hq] at DO
              clear hwb hq
              obtain ⟨of, hof⟩ : ∃ of, of = m'.off := ⟨_, rfl⟩
              have HOF := Lib.hid hof
              obtain ⟨zs, hzs⟩ : ∃ zs, zs = m'.wet xe := ⟨_, rfl⟩
              obtain ⟨n, hn⟩ : ∃ n, n = zs.length := ⟨_, rfl⟩
              have HZS := Lib.hid hzs
              have HN := Lib.hid hn
              have XO := Lib.hid X'.out.toExtOps
              have TO : ((!of) == of) = false := by cases of <;> rfl
              obtain ⟨x0, x1, x2, x3, x4⟩ := ST0.out.cell
              clear hof hzs hn e0 e1 e2 e3 e4
              go_cut [116] from 57 to 116 (fun v wx => v = .bool false ∧ Hid (At5 R B w b p g e.toNat s.toNat wx))
              case first =>
                have ST1 := Lib.hid (ST0.out.drew XO.out)
                obtain ⟨y0, y1, y2, y3, y4⟩ := ST1.out.cell
                refine wp_region_held_drew (S := fun _ => True) (by kernel_rfl) trivial (fun hHeld => ?_)
                refine rgnTake 0 rfl (by kernel_rfl) (by kernel_rfl) (by kernel_rfl) (fun _ _ _ h => h) (by rfl) (v := ?v0) ?hy0 hHeld ?rest0
                case hy0 => (intro v hSw; first | (go_simp; done) | (go_simp; with_reducible rfl))
                try simp only [Act.put, List.setIfInBounds_toArray, List.set_cons_zero, List.set_cons_succ]
                refine rgnTake 1 rfl (by kernel_rfl) (by kernel_rfl) (by kernel_rfl) (fun _ _ _ h => h) (by rfl) (v := ?v1) ?hy1 hHeld ?rest1
                case hy1 => (intro v hSw; first | (go_simp; done) | (go_simp; with_reducible rfl))
                try simp only [Act.put, List.setIfInBounds_toArray, List.set_cons_zero, List.set_cons_succ]
                refine rgnOne 2 rfl (by kernel_rfl) (fun K hK => ?_)
                go_simp
                refine hK.out _ _ trivial (fun hHeld => ?_)
                clear hK K
                try simp only [Act.put, List.setIfInBounds_toArray, List.set_cons_zero, List.set_cons_succ]
                refine rgnOne 3 rfl (by kernel_rfl) (fun K hK => ?_)
                go_simp
                refine (DO.out _ ST1.out).mono ?_
                rintro r w4 ⟨rfl, h4⟩
                have S4 := Lib.hid h4
                clear h4
                refine hK.out _ _ trivial (fun _ => ?_)
                clear hK K hHeld
                try simp only [Act.put, List.setIfInBounds_toArray, List.set_cons_zero, List.set_cons_succ]
                refine rgnRaise (St R B w b p g m' q (.cells #[.int .i64 xk, .int .i64 xe, .int .i64 xa, .string xs, .slice AP PL cP] 33)) (fun _ _ => trivial) S4.out (fun hHeld => ?_)
                clear y0 y1 y2 y3 y4 x0 x1 x2 x3 x4
                refine rgnTake 4 rfl (by kernel_rfl) (by kernel_rfl) (by kernel_rfl) (fun _ _ _ h => h) (by rfl) (v := ?v4) ?hy4 hHeld ?rest4
                case hy4 => (intro v hSw; first | (go_simp; done) | (go_simp; with_reducible rfl))
                try simp only [Act.put, List.setIfInBounds_toArray, List.set_cons_zero, List.set_cons_succ]
                refine rgnTake 5 rfl (by kernel_rfl) (by kernel_rfl) (by kernel_rfl) (fun _ _ _ h => h) (by rfl) (v := ?v5) ?hy5 hHeld ?rest5
                case hy5 => (intro v hSw; first | (go_simp; done) | (go_simp; with_reducible rfl))
                try simp only [Act.put, List.setIfInBounds_toArray, List.set_cons_zero, List.set_cons_succ]
                refine rgnTake 6 rfl (by kernel_rfl) (by kernel_rfl) (by kernel_rfl) (fun _ _ _ h => h) (by rfl) (v := ?v6) ?hy6 hHeld ?rest6
                case hy6 => (intro v hSw; first | (go_simp; done) | (go_simp; with_reducible rfl))
                try simp only [Act.put, List.setIfInBounds_toArray, List.set_cons_zero, List.set_cons_succ]
                refine rgnTake 7 rfl (by kernel_rfl) (by kernel_rfl) (by kernel_rfl) (fun _ _ _ h => h) (by rfl) (v := ?v7) ?hy7 hHeld ?rest7
                case hy7 => (intro v hSw; first | (go_simp; done) | (go_simp; with_reducible rfl))
                try simp only [Act.put, List.setIfInBounds_toArray, List.set_cons_zero, List.set_cons_succ]
                refine rgnTake 8 rfl (by kernel_rfl) (by kernel_rfl) (by kernel_rfl) (fun _ _ _ h => h) (by rfl) (v := ?v8) ?hy8 hHeld ?rest8
                case hy8 => (intro v hSw; first | (go_simp; done) | (go_simp; with_reducible rfl))
                try simp only [Act.put, List.setIfInBounds_toArray, List.set_cons_zero, List.set_cons_succ]
                refine rgnTake 10 rfl (by kernel_rfl) (by kernel_rfl) (by kernel_rfl) (fun _ _ _ h => h) (by rfl) (v := ?v10) ?hy10 hHeld ?rest10
                case hy10 => (intro v hSw; first | (go_simp; done) | (go_simp; with_reducible rfl))
                try simp only [Act.put, List.setIfInBounds_toArray, List.set_cons_zero, List.set_cons_succ]
                refine rgnTake 9 rfl (by kernel_rfl) (by kernel_rfl) (by kernel_rfl) (fun _ _ _ h => h) (by rfl) (v := ?v9) ?hy9 hHeld ?rest9
                case hy9 => (intro v hSw; obtain ⟨_, y1, y2, _, _⟩ := hSw.cell; have yo := hSw.off; rw [← HOF.out] at yo; first | (go_simp; done) | (go_simp; with_reducible rfl))
                try simp only [Act.put, List.setIfInBounds_toArray, List.set_cons_zero, List.set_cons_succ]
                refine rgnTake 11 rfl (by kernel_rfl) (by kernel_rfl) (by kernel_rfl) (fun _ _ _ h => h) (by rfl) (v := ?v11) ?hy11 hHeld ?rest11
                case hy11 => (intro v hSw; obtain ⟨_, y1, y2, _, _⟩ := hSw.cell; have yo := hSw.off; rw [← HOF.out] at yo; first | (go_simp; done) | (go_simp; with_reducible rfl))
                try simp only [Act.put, List.setIfInBounds_toArray, List.set_cons_zero, List.set_cons_succ]
                refine rgnOne 12 rfl (by kernel_rfl) (fun K hK => ?_)
                go_simp
                refine (c_alike XO.out xe xa OE.out OA.out _ S4.out).mono ?_
                rintro r w5 ⟨rfl, h5⟩
                have S5 := Lib.hid h5
                clear h5
                refine hK.out _ _ S5.out (fun hHeld => ?_)
                clear hK K
                try simp only [Act.put, List.setIfInBounds_toArray, List.set_cons_zero, List.set_cons_succ]
                refine rgnTake 13 rfl (by kernel_rfl) (by kernel_rfl) (by kernel_rfl) (fun _ _ _ h => h) (by rfl) (v := ?v13) ?hy13 hHeld ?rest13
                case hy13 => (intro v hSw; first | (go_simp; done) | (go_simp; with_reducible rfl))
                try simp only [Act.put, List.setIfInBounds_toArray, List.set_cons_zero, List.set_cons_succ]
                refine rgnTake 14 rfl (by kernel_rfl) (by kernel_rfl) (by kernel_rfl) (fun _ _ _ h => h) (by rfl) (v := ?v14) ?hy14 hHeld ?rest14
                case hy14 => (intro v hSw; first | (go_simp; done) | (go_simp; with_reducible rfl))
                try simp only [Act.put, List.setIfInBounds_toArray, List.set_cons_zero, List.set_cons_succ]
                refine rgnTake 15 rfl (by kernel_rfl) (by kernel_rfl) (by kernel_rfl) (fun _ _ _ h => h) (by rfl) (v := ?v15) ?hy15 hHeld ?rest15
                case hy15 => (intro v hSw; first | (go_simp; done) | (go_simp; with_reducible rfl))
                try simp only [Act.put, List.setIfInBounds_toArray, List.set_cons_zero, List.set_cons_succ]
                refine rgnTake 16 rfl (by kernel_rfl) (by kernel_rfl) (by kernel_rfl) (fun _ _ _ h => h) (by rfl) (v := ?v16) ?hy16 hHeld ?rest16
                case hy16 => (intro v hSw; first | (go_simp; done) | (go_simp; with_reducible rfl))
                try simp only [Act.put, List.setIfInBounds_toArray, List.set_cons_zero, List.set_cons_succ]
                refine rgnTake 18 rfl (by kernel_rfl) (by kernel_rfl) (by kernel_rfl) (fun _ _ _ h => h) (by rfl) (v := ?v18) ?hy18 hHeld ?rest18
                case hy18 => (intro v hSw; first | (go_simp; done) | (go_simp; with_reducible rfl))
                try simp only [Act.put, List.setIfInBounds_toArray, List.set_cons_zero, List.set_cons_succ]
                refine rgnTake 19 rfl (by kernel_rfl) (by kernel_rfl) (by kernel_rfl) (fun _ _ _ h => h) (by rfl) (v := ?v19) ?hy19 hHeld ?rest19
                case hy19 => (intro v hSw; first | (go_simp; done) | (go_simp; with_reducible rfl))
                try simp only [Act.put, List.setIfInBounds_toArray, List.set_cons_zero, List.set_cons_succ]
                refine rgnTake 20 rfl (by kernel_rfl) (by kernel_rfl) (by kernel_rfl) (fun _ _ _ h => h) (by rfl) (v := ?v20) ?hy20 hHeld ?rest20
                case hy20 => (intro v hSw; first | (go_simp; done) | (go_simp; with_reducible rfl))
                try simp only [Act.put, List.setIfInBounds_toArray, List.set_cons_zero, List.set_cons_succ]
                refine rgnTake 21 rfl (by kernel_rfl) (by kernel_rfl) (by kernel_rfl) (fun _ _ _ h => h) (by rfl) (v := ?v21) ?hy21 hHeld ?rest21
                case hy21 => (intro v hSw; obtain ⟨_, y1, y2, _, _⟩ := hSw.cell; have yo := hSw.off; rw [← HOF.out] at yo; first | (go_simp; done) | (go_simp; with_reducible rfl))
                try simp only [Act.put, List.setIfInBounds_toArray, List.set_cons_zero, List.set_cons_succ]
                refine rgnOne 17 rfl (by kernel_rfl) (fun K hK => ?_)
                go_simp
                refine (c_on XO.out _ S5.out).mono ?_
                rintro r w6 ⟨rfl, h6⟩
                rw [← HOF.out]
                have S6 := Lib.hid h6
                clear h6
                refine hK.out _ _ S6.out (fun hHeld => ?_)
                clear hK K
                try simp only [Act.put, List.setIfInBounds_toArray, List.set_cons_zero, List.set_cons_succ]
                refine rgnTake 22 rfl (by kernel_rfl) (by kernel_rfl) (by kernel_rfl) (fun _ _ _ h => h) (by rfl) (v := ?v22) ?hy22 hHeld ?rest22
                case hy22 => (intro v hSw; first | (go_simp; done) | (go_simp; with_reducible rfl))
                try simp only [Act.put, List.setIfInBounds_toArray, List.set_cons_zero, List.set_cons_succ]
                refine rgnTake 23 rfl (by kernel_rfl) (by kernel_rfl) (by kernel_rfl) (fun _ _ _ h => h) (by rfl) (v := ?v23) ?hy23 hHeld ?rest23
                case hy23 => (intro v hSw; first | (go_simp; done) | (go_simp; with_reducible rfl))
                try simp only [Act.put, List.setIfInBounds_toArray, List.set_cons_zero, List.set_cons_succ]
                refine rgnTake 24 rfl (by kernel_rfl) (by kernel_rfl) (by kernel_rfl) (fun _ _ _ h => h) (by rfl) (v := ?v24) ?hy24 hHeld ?rest24
                case hy24 => (intro v hSw; first | (go_simp; done) | (go_simp; with_reducible rfl))
                try simp only [Act.put, List.setIfInBounds_toArray, List.set_cons_zero, List.set_cons_succ]
                refine rgnTake 25 rfl (by kernel_rfl) (by kernel_rfl) (by kernel_rfl) (fun _ _ _ h => h) (by rfl) (v := ?v25) ?hy25 hHeld ?rest25
                case hy25 => (intro v hSw; first | (go_simp; done) | (go_simp; with_reducible rfl))
                try simp only [Act.put, List.setIfInBounds_toArray, List.set_cons_zero, List.set_cons_succ]
                refine rgnTake 26 rfl (by kernel_rfl) (by kernel_rfl) (by kernel_rfl) (fun _ _ _ h => h) (by rfl) (v := ?v26) ?hy26 hHeld ?rest26
                case hy26 => (intro v hSw; first | (go_simp; done) | (go_simp; with_reducible rfl))
                try simp only [Act.put, List.setIfInBounds_toArray, List.set_cons_zero, List.set_cons_succ]
                refine rgnTake 27 rfl (by kernel_rfl) (by kernel_rfl) (by kernel_rfl) (fun _ _ _ h => h) (by rfl) (v := ?v27) ?hy27 hHeld ?rest27
                case hy27 => (intro v hSw; obtain ⟨_, y1, y2, _, _⟩ := hSw.cell; have yo := hSw.off; rw [← HOF.out] at yo; first | (go_simp; done) | (go_simp; with_reducible rfl))
                try simp only [Act.put, List.setIfInBounds_toArray, List.set_cons_zero, List.set_cons_succ]
                refine rgnTake 29 rfl (by kernel_rfl) (by kernel_rfl) (by kernel_rfl) (fun _ _ _ h => h) (by rfl) (v := ?v29) ?hy29 hHeld ?rest29
                case hy29 => (intro v hSw; first | (go_simp; done) | (go_simp; with_reducible rfl))
                try simp only [Act.put, List.setIfInBounds_toArray, List.set_cons_zero, List.set_cons_succ]
                refine rgnTake 30 rfl (by kernel_rfl) (by kernel_rfl) (by kernel_rfl) (fun _ _ _ h => h) (by rfl) (v := ?v30) ?hy30 hHeld ?rest30
                case hy30 => (intro v hSw; first | (go_simp; done) | (go_simp; with_reducible rfl))
                try simp only [Act.put, List.setIfInBounds_toArray, List.set_cons_zero, List.set_cons_succ]
                refine rgnTake 31 rfl (by kernel_rfl) (by kernel_rfl) (by kernel_rfl) (fun _ _ _ h => h) (by rfl) (v := ?v31) ?hy31 hHeld ?rest31
                case hy31 => (intro v hSw; obtain ⟨_, y1, y2, _, _⟩ := hSw.cell; have yo := hSw.off; rw [← HOF.out] at yo; first | (go_simp; done) | (go_simp; with_reducible rfl))
                try simp only [Act.put, List.setIfInBounds_toArray, List.set_cons_zero, List.set_cons_succ]
                refine rgnOne 28 rfl (by kernel_rfl) (fun K hK => ?_)
                go_simp
                refine (c_wet XO.out xe OE.out n zs HZS.out HN.out _ S6.out).mono ?_
                rintro r w7 ⟨⟨AW1, cw1, rfl, hsl⟩, h7⟩
                have L7 := Lib.hid hsl
                have S7 := Lib.hid h7
                clear h7 hsl
                refine hK.out _ _ S7.out (fun hHeld => ?_)
                clear hK K
                try simp only [Act.put, List.setIfInBounds_toArray, List.set_cons_zero, List.set_cons_succ]
                refine rgnOne 32 rfl (by kernel_rfl) (fun K hK => ?_)
                go_simp
                refine (c_rwet XO.out xe OE.out n zs HZS.out HN.out AW1 _ S7.out L7.out).mono ?_
                rintro r w8 ⟨⟨AW2, cw2, rfl, hsl⟩, h8⟩
                have L8 := Lib.hid hsl
                have S8 := Lib.hid h8
                clear h8 hsl
                refine hK.out _ _ S8.out (fun hHeld => ?_)
                clear hK K
                try simp only [Act.put, List.setIfInBounds_toArray, List.set_cons_zero, List.set_cons_succ]
                refine rgnOne 33 rfl (by kernel_rfl) (fun K hK => ?_)
                go_simp
                refine (c_ints XO.out AW1 AW2 cw1 cw2 n zs HN.out (by rw [HN.out, HZS.out]; exact wet_le (S8.out.two.ok (XO.out.withQ _ _)) _) _ S8.out L8.out.2 L8.out.1).mono ?_
                rintro r w9 ⟨rfl, h9⟩
                have S9 := Lib.hid h9
                clear h9
                refine hK.out _ _ S9.out (fun hHeld => ?_)
                clear hK K
                try simp only [Act.put, List.setIfInBounds_toArray, List.set_cons_zero, List.set_cons_succ]
                refine rgnTake 34 rfl (by kernel_rfl) (by kernel_rfl) (by kernel_rfl) (fun _ _ _ h => h) (by rfl) (v := ?v34) ?hy34 hHeld ?rest34
                case hy34 => (intro v hSw; first | (go_simp; done) | (go_simp; with_reducible rfl))
                try simp only [Act.put, List.setIfInBounds_toArray, List.set_cons_zero, List.set_cons_succ]
                refine rgnTake 35 rfl (by kernel_rfl) (by kernel_rfl) (by kernel_rfl) (fun _ _ _ h => h) (by rfl) (v := ?v35) ?hy35 hHeld ?rest35
                case hy35 => (intro v hSw; first | (go_simp; done) | (go_simp; with_reducible rfl))
                try simp only [Act.put, List.setIfInBounds_toArray, List.set_cons_zero, List.set_cons_succ]
                refine wpAnyH_done (by kernel_rfl) ?_ _
                go_wp2_with fail
                go_meet
                exact ⟨rfl, Lib.hid ⟨_, D'.out.1, D'.out.2, S9.out.two.alone.1, S9.out.below⟩⟩
              case rest =>
                obtain ⟨rfl, HM2⟩ := hcut
                go_wp2_with fail
                go_roundw
                case rel => first | exact ⟨k + 1, by go_num, by omega, by omega, HM2⟩ | ((repeat apply Exists.intro); exact ⟨⟨k + 1, by go_num, by omega, by omega, HM2⟩, rfl⟩)
                case measure => simp [intOf]; omega
        · go_wp2_with fail
          go_meet
          exact HM
      · go_wp2_with fail
        go_meet
        exact HM
  case rest =>
    have HM := hcut
    clear hcut
    have AL := Lib.hid (show ∀ (ke ka : Int) (v : World), In64 ke → In64 ka → At5 R B w b p g e.toNat s.toNat v → Calls Try.prog 11 #[.pointer (some ⟨b, 0, none⟩), .pointer (some ⟨p, 0, none⟩), .int .i64 ke, .int .i64 ka] v fun r v' => r = .returned (.bool true) ∧ At5 R B w b p g e.toNat s.toNat v' from
      fun ke ka v h1 h2 ⟨m, d1, d2, tw, bw⟩ => (alike5 X'.out.toExtOps ke ka v tw h1 h2).mono fun _ _ hh => ⟨hh.1, m, d1, d2, hh.2.1, bw.trans hh.2.2⟩)
    go_wp2_with fail
    go_loopw [13] (fun vk wr => ∃ k : Nat, (k : Int) ≤ e ∧ vk = .int .i64 k ∧ Hid (At5 R B w b p g e.toNat s.toNat wr)) (fun vk _ => e.toNat - (intOf vk).toNat)
    case atStart => exact ⟨0, by omega, rfl, HM⟩
    case round =>
      obtain ⟨k, kn, rfl, HK⟩ := hrel
      by_cases q1 : (k : Int) < e
      · obtain ⟨wo, hwo⟩ : ∃ wo, wo = wr := ⟨_, rfl⟩
        subst hwo
        go_wp2_with fail
        go_loopw [14] (fun va wr => ∃ a : Nat, (a : Int) ≤ s ∧ va = .int .i64 a ∧ Hid (At5 R B w b p g e.toNat s.toNat wr)) (fun va _ => s.toNat - (intOf va).toNat)
        case atStart => exact ⟨0, by omega, rfl, HK⟩
        case round =>
          obtain ⟨a, an, rfl, HA⟩ := hrel
          by_cases q2 : (a : Int) < s
          · have AK := Lib.hid (AL.out (k : Int) (a : Int) _ ⟨by omega, by omega⟩ ⟨by omega, by omega⟩ HA.out)
            go_wp2_with fail
            refine AK.out.mono ?_
            rintro r w9 ⟨rfl, h9⟩
            have S9 := Lib.hid h9
            clear h9
            go_wp2_with fail
            go_roundw
            case rel => first | exact ⟨a + 1, by omega, by go_num, S9⟩ | ((repeat apply Exists.intro); exact ⟨⟨a + 1, by omega, by go_num, S9⟩, rfl⟩)
            case measure => simp [intOf]; omega
          · go_wp2_with fail
            go_roundw
            case rel => first | exact ⟨k + 1, by omega, by go_num, HA⟩ | ((repeat apply Exists.intro); exact ⟨⟨k + 1, by omega, by go_num, HA⟩, rfl⟩)
            case measure => simp [intOf]; omega
      · obtain ⟨m, d1, d2, ⟨F8, tw⟩, bw⟩ := HK.out
        have TW := Lib.hid tw
        have BW := Lib.hid bw
        have E1 := Lib.hid (show (m.ext : Int) = e by rw [d1]; omega)
        have E2 := Lib.hid (show (m.sec : Int) = s by rw [d2]; omega)
        have EX := Lib.hid (X'.out.extents b F8 m _ tw.r)
        rw [E1.out] at EX
        clear tw bw d1 d2
        go_wp2_with fail
        refine EX.out.mono ?_
        rintro r w9 ⟨rfl, hl⟩
        have T9 := Lib.hid (TW.out.left hl)
        clear hl
        obtain ⟨⟨F9, t9⟩, _⟩ := T9.out
        have SX := Lib.hid (X'.out.sectors b F9 m _ t9.r)
        rw [E2.out] at SX
        have TT := Lib.hid t9
        clear t9
        go_wp2_with fail
        refine SX.out.mono ?_
        rintro r w10 ⟨rfl, hl⟩
        have T10 := Lib.hid (TT.out.left hl)
        clear hl
        go_wp2_with fail
        go_ret
        exact ⟨by first | rfl | simp, (BW.out.trans T9.out.2).trans T10.out.2⟩

end Go.Proofs.Ytjghpacpeojejaa.extentPlays
