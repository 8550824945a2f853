/- Proved: SeglogPlays: for every number and acts the law returns true, and its arguments read behind the call as they read before, at this commit. Conditions: none of ours (the card ties the listed variables of Go's library to the program's text). -/
import Derived.Test.YtfodclafkdkjbaaDoorM47
import Derived.Test.YtfodclafkdkjbaaDoorM50
import Derived.Test.YtfodclafkdkjbaaDoorM6
import Derived.Test.YtfodclafkdkjbaaDoorCards
import Derived.Test.YtfodclafkdkjbaaDoorTie
import Derived.LaidMore
import Derived.Lay
import Derived.SevenTiedAt
import Derived.Stop.Joined
import Derived.BigQuiet
import Derived.Lib.SmallJoins
import Derived.ChangeMaps5
namespace Go.Proofs.YtfodclafkdkjbaaDoor.seglogPlays
open Go.Proofs.YtfodclafkdkjbaaDoor Go.Joins Go.ChangeShapes Go.WideShapes Go.ChangeAt Go.RowKit Go.Deep
open Go.ChangeMaps (open_string shut_string)

set_option maxRecDepth 100000 in
set_option maxHeartbeats 8000000 in
theorem walk {P : RelP} {Q : RelQ} (X : SegAt P Q) (n : Int) (A1 : Option Addr) (c1 : Nat) (xs : List Act7) (w : World) (hn : (Lit.int .i64 n).wf = true) (hs : SlAc7 w.heap.size w A1 xs) (hk : AcsOk7 xs) :
    Calls Tryd.prog 3 #[.int .i64 n, .slice A1 xs.length c1] w fun e w' => e = .returned (.bool true) ∧ Below w.heap.size w w' := by
  have IN := bounds_i64 hn
  obtain ⟨n1, hn1⟩ : ∃ n, n = xs.length := ⟨_, rfl⟩
  have l1 := hk.1
  rw [← hn1] at l1 ⊢
  have H1 := Lib.hid hs
  have O1 := Lib.hid hk
  have HN1 := Lib.hid hn1
  have AW := Lib.hid (awake7 X)
  have NW := Lib.hid (X.new 4 n)
  have X' := Lib.hid X.ops
  clear hs hk hn1 X hn
  go_enter Tryd.func3, Tryd.ntmps3
  go_wp2_with fail
  refine (AW.out _).mono ?_
  rintro e w1 ⟨rfl, hb1⟩
  have B1 := Lib.hid hb1
  clear hb1 AW
  by_cases r1 : n < 1
  · go_wp2_with fail
    go_ret
    exact ⟨rfl, B1.out⟩
  by_cases r2 : 12 < n
  · go_wp2_with fail
    go_ret
    exact ⟨rfl, B1.out⟩
  have FT := Lib.hid (show Ext.fits 4 n = true by unfold Ext.fits; simp; omega)
  obtain ⟨s, rfl⟩ := Int.eq_ofNat_of_zero_le (show 0 ≤ n by omega)
  have S1 : 1 ≤ s ∧ s ≤ 12 := by omega
  obtain ⟨m0, h0⟩ : ∃ m0, m0 = Ext.new 4 s := ⟨_, rfl⟩
  have M0 := Lib.hid (show m0.off = false ∧ m0.ext = 4 ∧ m0.sec = s by rw [h0]; exact ⟨rfl, rfl, rfl⟩)
  have H0 := Lib.hid h0
  clear h0
  go_wp2_with fail
  refine (NW.out w1 ⟨by decide, by decide⟩ ⟨by omega, by omega⟩).mono ?_
  rintro e w2 ⟨hb2, ⟨_, b, rfl, hp⟩ | ⟨hff, _⟩⟩
  case inr => exact absurd FT.out (by rw [hff]; decide)
  have P2 := Lib.hid (show P w2 (fun k => k < w1.heap.size) b m0 by rw [H0.out]; exact hp)
  have B2 := Lib.hid (below_then B1.out hb2)
  have L1 := Lib.hid (show w.heap.size ≤ w1.heap.size from B1.out.size)
  clear hp hb2 NW
  go_wp2_with fail
  refine (eNew 4 (s : Int) _).mono ?_
  rintro e w3 (⟨_, rfl, hr, hb⟩ | ⟨hff, _⟩)
  case inr => exact absurd FT.out (by rw [hff]; decide)
  obtain ⟨p, hp⟩ : ∃ p, p = w2.heap.size + 1 := ⟨_, rfl⟩
  obtain ⟨g, hg⟩ : ∃ g, g = w2.heap.size := ⟨_, rfl⟩
  rw [← hp] at hr ⊢
  rw [← hg] at hr
  have TB := Lib.hid (show Both7 P w.heap.size w3 b p g m0 m0 from
    ⟨X'.out.pKeep P2.out (fun k hk _ => hb.block k hk) hb.size (fun k q => by
      have := L1.out; have := B2.out.size
      rcases q with q | q | q
      · exact .inl (show k < w1.heap.size by omega)
      · exact .inr (by omega)
      · exact .inr (by omega)) (fun k q => by
      have := L1.out; have := B2.out.size; have := hb.size; have := hr.a.lt; have := hr.b.lt
      rcases q with q | q | q <;> omega), by rw [H0.out]; exact hr, by have := B2.out.size; omega, by have := B2.out.size; omega, by have := B2.out.size; have := hb.size; omega⟩)
  have B3 := Lib.hid (below_then B2.out hb)
  have PG := Lib.hid (show p < w3.heap.size ∧ g < w3.heap.size ∧ w.heap.size ≤ p ∧ w.heap.size ≤ g ∧ w.heap.size ≤ w3.heap.size from ⟨hr.a.lt, hr.b.lt, TB.out.hp, TB.out.hg, TB.out.s⟩)
  clear hr hb hp hg P2 L1 B1 B2
  go_upto_region 8 with fail
  obtain ⟨w4, hw4⟩ : ∃ w4, w4 = w3.alloc (.cells #[.pointer (some ⟨b, 0, none⟩), .pointer none, .pointer none, .pointer (some ⟨p, 0, none⟩), .pointer none, .pointer none] 37) := ⟨_, rfl⟩
  have D4 : Below w3.heap.size w3 w4 := by rw [hw4]; exact (Below.refl _ _).alloc (Nat.le_refl _) _
  have C4 := Lib.hid (show PairAt w4 w3.heap.size b p (.pointer none) (.pointer none) (.pointer none) (.pointer none) by rw [hw4]; exact RowAt.new w3 _ _)
  have Z4 : w4.heap.size = w3.heap.size + 1 := by rw [hw4, World.size_alloc]
  have P4 := Lib.hid (show P w4 (fun k => (k < w.heap.size ∨ k = p ∨ k = g) ∨ k = w3.heap.size) b m0 from X'.out.pKeep TB.out.lft (fun k hk _ => D4.block k hk) D4.size (fun k q => q.imp id (fun q => by omega)) (fun k q => by
    have := PG.out
    rcases q with (q | q | q) | q <;> omega))
  have R4 := Lib.hid (TB.out.r.below D4)
  have B4 := Lib.hid (below_then B3.out D4)
  rw [← hw4]
  obtain ⟨pp, hpp⟩ : ∃ pp, pp = w3.heap.size := ⟨_, rfl⟩
  rw [← hpp] at C4 P4 ⊢
  have PD := Lib.hid (show pp ≠ p ∧ pp ≠ g ∧ w.heap.size ≤ pp ∧ pp < w4.heap.size from by have := PG.out; omega)
  have OP := Lib.hid (pOpen X'.out _ pp b p g m0 _ _ _ _ w4 P4.out ⟨.inr rfl, .inl (.inr (.inl rfl)), .inl (.inr (.inr rfl))⟩ R4.out ⟨PD.out.1, PD.out.2.1⟩ C4.out M0.out.1 (by rw [M0.out.2.1]; omega))
  have GO := Lib.hid (show GOk s (openP (nowC m0 1) (nowC m0 2) m0.sec 1).1 none by rw [M0.out.2.2]; exact GOk.open_ S1.1 (by omega) (by omega))
  clear hw4 D4 Z4 hpp
  go_wp2_with fail
  refine OP.out.mono ?_
  rintro r w5 ⟨rfl, bl0, pl0, ho⟩
  have I5 := Lib.hid (show Pl7 Q w.heap.size s pp b p g w5 ∧ Below w.heap.size w w5 from by
    obtain ⟨M, hM, hMl, hQ⟩ := ho.q
    have lp := R4.out.a.lt
    have lg := R4.out.b.lt
    have hn := ho.n
    have pd := PD.out
    have pg := PG.out
    refine ⟨⟨M, bl0, none, m0, (openP (nowC m0 1) (nowC m0 2) m0.sec 1).1, none, pl0, none, hQ, ⟨ho.r, ho.l, ho.c, fun z ez => (by cases ez), fun _ => rfl, ⟨hM _ (.inr rfl), hM _ (.inl (.inr (.inl rfl))), hM _ (.inl (.inr (.inr rfl))), hMl⟩, ⟨pd.1, pd.2.1, by omega, by omega, by omega⟩, ⟨pd.2.2.1, pg.2.2.1, pg.2.2.2.1, by omega⟩, fun k hk => hM k (.inl (.inl hk))⟩, ⟨fun _ => rfl, fun _ => rfl⟩, GO.out, M0.out.2.2, M0.out.2.1, M0.out.1⟩, ?_⟩
    exact B4.out.trans (ho.k.below (B := w.heap.size) (fun k h => by
      rcases h with h | h
      · exact Nat.le_of_not_lt (fun hl => h (.inl (.inl hl)))
      · omega) (by omega)))
  clear ho OP GO P4 R4 C4 B4 B3 TB PG PD M0 H0 FT
  go_wp2_with fail
  go_loopw [10] (fun vi wr => ∃ k : Nat, vi = .int .i64 k ∧ k ≤ n1 ∧ k ≤ 120 ∧ Hid (Pl7 Q w.heap.size s pp b p g wr ∧ Below w.heap.size w wr)) (fun vi _ => n1 - (Go.RowKit.intOf vi).toNat)
  case atStart => exact ⟨0, rfl, Nat.zero_le _, by omega, I5⟩
  case round =>
    obtain ⟨k, rfl, kn, k120, HM⟩ := hrel
    by_cases q1 : k < n1
    case neg =>
      go_wp2_with fail
      go_ret
      exact ⟨rfl, HM.out.2⟩
    by_cases q2 : k < 120
    case neg =>
      go_wp2_with fail
      go_ret
      exact ⟨rfl, HM.out.2⟩
    obtain ⟨bA, oA, xk, xs', xe, xa, ps, PL, AP, cP, rfl, _, ok, hPL, hc, hN, hA⟩ := elem_at7 H1.out O1.out (k := k) (by rw [← HN1.out]; exact q1)
    obtain ⟨e0, e1, e2, e3, e4, _⟩ := hc wr HM.out.2
    have i0 : (0 : Int) ≤ (k : Int) := by omega
    have i1 : (k : Int) < (n1 : Int) := by omega
    have SP := Lib.hid (fun v hv => (hc v hv).2.2.2.2.2)
    have OK := Lib.hid ok
    have HPL := Lib.hid hPL
    have HNA := Lib.hid (And.intro hN hA)
    have mXS : xs'.size ≤ 9223372036854775807 := ok.2.2.2.1
    have mPL : PL ≤ 9223372036854775807 := by rw [hPL]; exact ok.2.2.2.2.1
    have BS := Lib.hid (Pl7.beside X'.out HM.out.1 (.cells #[.int .i64 xk, .string xs', .int .i64 xe, .int .i64 xa, .slice AP PL cP] 40))
    have RB := Lib.hid (RowAt.new wr [.int .i64 xk, .string xs', .int .i64 xe, .int .i64 xa, .slice AP PL cP] 40)
    have RR := Lib.hid (show Pl7 Q w.heap.size s pp b p g (wr.alloc (.cells #[.int .i64 xk, .string xs', .int .i64 xe, .int .i64 xa, .slice AP PL cP] 40)) ∧ Below w.heap.size w (wr.alloc (.cells #[.int .i64 xk, .string xs', .int .i64 xe, .int .i64 xa, .slice AP PL cP] 40)) from by
      obtain ⟨N, bl, bx, m, l, ox, pl, ry, a⟩ := BS.out.1.at7
      exact ⟨a.alone.1, HM.out.2.trans BS.out.2⟩)
    clear hc hN hA ok hPL
    by_cases z1 : 800 < xs'.size
    · go_wp2_with fail
      go_roundw
      case rel => first | exact ⟨k + 1, by go_num, by omega, by omega, RR⟩ | ((repeat apply Exists.intro); exact ⟨⟨k + 1, by go_num, by omega, by omega, RR⟩, rfl⟩)
      case measure => simp [Go.RowKit.intOf]; omega
    by_cases z2 : 100 < PL
    · go_wp2_with fail
      go_roundw
      case rel => first | exact ⟨k + 1, by go_num, by omega, by omega, RR⟩ | ((repeat apply Exists.intro); exact ⟨⟨k + 1, by go_num, by omega, by omega, RR⟩, rfl⟩)
      case measure => simp [Go.RowKit.intOf]; omega
    go_upto_region 15 with fail
    obtain ⟨wb, hwb⟩ : ∃ wb, wb = wr.alloc (.cells #[.int .i64 xk, .string xs', .int .i64 xe, .int .i64 xa, .slice AP PL cP] 40) := ⟨_, rfl⟩
    obtain ⟨q, hq⟩ : ∃ q, q = wr.heap.size := ⟨_, rfl⟩
    rw [← hwb, ← hq]
    rw [← hwb, ← hq] at BS RB
    rw [← hwb] at RR
    obtain ⟨B, hB⟩ : ∃ B, B = w.heap.size := ⟨_, rfl⟩
    have XQ := Lib.hid (X'.out.withQ q (.cells #[.int .i64 xk, .string xs', .int .i64 xe, .int .i64 xa, .slice AP PL cP] 40))
    have BSd := Lib.hid (show Pl7 (QQ Q q (.cells #[.int .i64 xk, .string xs', .int .i64 xe, .int .i64 xa, .slice AP PL cP] 40)) w.heap.size s pp b p g wb.drew from by
      obtain ⟨N, bl, bx, m, l, ox, pl, ry, a⟩ := BS.out.1.at7
      exact (a.drew XQ.out).pl7)
    have BD := Lib.hid (show Below w.heap.size w wb.drew from RR.out.2.drew)
    have DO := Lib.hid (pDoes XQ.out w.heap.size s pp b p g xk xs' xe xa AP cP PL ps wb.drew BSd.out ⟨S1.1, by omega⟩ (by omega) OK.out.2.1 OK.out.2.2.1 (SP.out _ BD.out) OK.out.2.2.2.2 HNA.out.1 HNA.out.2 HPL.out)
    have RBd : RowAt wb.drew q [.int .i64 xk, .string xs', .int .i64 xe, .int .i64 xa, .slice AP PL cP] 40 := RB.out
    have z0 := RBd.cell 0
    have z1' := RBd.cell 1
    have z2' := RBd.cell 2
    have z3 := RBd.cell 3
    have z4 := RBd.cell 4
    simp only [List.getElem?_cons_succ, List.getElem?_cons_zero] at z0 z1' z2' z3 z4
    have XS5 := Lib.hid (show xs'.size ≤ 5000 by omega)
    rw [← hB] at BSd BD DO
    have HB := Lib.hid hB
    clear hwb hq hB RBd e0 e1 e2 e3 e4 BS RB RR HM SP
    go_cut [116] from 68 to 116 (fun v wx => v = .bool false ∧ Hid (∃ N bl bx m l ox pl ry, Ps7 (QQ Q q (.cells #[.int .i64 xk, .string xs', .int .i64 xe, .int .i64 xa, .slice AP PL cP] 40)) B s pp b p g N bl bx m l ox pl ry w wx))
    case first =>
          refine wp_region_held_drew (S := fun _ => True) (by kernel_rfl) trivial (fun hHeld => ?_)
          refine rgnTake 0 rfl (by kernel_rfl) (by kernel_rfl) (by kernel_rfl) (fun _ _ _ h => h) (by rfl) (v := ?v0) ?hy0 hHeld ?rest0
          case hy0 => (intro v hSw; first | (go_simp; done) | (go_simp; with_reducible rfl))
          try simp only [Act.put, List.setIfInBounds_toArray, List.set_cons_zero, List.set_cons_succ]
          refine rgnOne 1 rfl (by kernel_rfl) (fun K hK => ?_)
          go_simp
          refine hK.out _ _ trivial (fun hHeld => ?_)
          clear hK K
          try simp only [Act.put, List.setIfInBounds_toArray, List.set_cons_zero, List.set_cons_succ]
          refine rgnOne 2 rfl (by kernel_rfl) (fun K hK => ?_)
          go_simp
          refine DO.out.mono ?_
          rintro r w4 ⟨rfl, h4, hb4⟩
          obtain ⟨N, bl, bx, m, l, ox, pl, ry, a4⟩ := h4.at7
          have S4 := Lib.hid (show Ps7 (QQ Q q (.cells #[.int .i64 xk, .string xs', .int .i64 xe, .int .i64 xa, .slice AP PL cP] 40)) B s pp b p g N bl bx m l ox pl ry w w4 from ⟨a4, BD.out.trans hb4⟩)
          obtain ⟨G, hG⟩ : ∃ G, G = l.gen := ⟨_, rfl⟩
          obtain ⟨U, hU⟩ : ∃ U, U = l.used := ⟨_, rfl⟩
          obtain ⟨BU, hBU⟩ : ∃ BU, BU = l.busy := ⟨_, rfl⟩
          have HG := Lib.hid hG
          have HU := Lib.hid hU
          have HBU := Lib.hid hBU
          clear h4 hb4 a4 hG hU hBU
          refine hK.out _ _ trivial (fun _ => ?_)
          clear hK K hHeld
          try simp only [Act.put, List.setIfInBounds_toArray, List.set_cons_zero, List.set_cons_succ]
          refine rgnRaise (Ps7 (QQ Q q (.cells #[.int .i64 xk, .string xs', .int .i64 xe, .int .i64 xa, .slice AP PL cP] 40)) B s pp b p g N bl bx m l ox pl ry w) (fun _ _ => trivial) S4.out (fun hHeld => ?_)
          clear z0 z1' z2' z3 z4
          refine rgnTake 3 rfl (by kernel_rfl) (by kernel_rfl) (by kernel_rfl) (fun _ _ _ h => h) (by rfl) (v := ?v3) ?hy3 hHeld ?rest3
          case hy3 => (intro v hSw; first | (go_simp; done) | (go_simp; with_reducible rfl))
          try simp only [Act.put, List.setIfInBounds_toArray, List.set_cons_zero, List.set_cons_succ]
          refine rgnTake 4 rfl (by kernel_rfl) (by kernel_rfl) (by kernel_rfl) (fun _ _ _ h => h) (by rfl) (v := ?v4) ?hy4 hHeld ?rest4
          case hy4 => (intro v hSw; first | (go_simp; done) | (go_simp; with_reducible rfl))
          try simp only [Act.put, List.setIfInBounds_toArray, List.set_cons_zero, List.set_cons_succ]
          refine rgnTake 5 rfl (by kernel_rfl) (by kernel_rfl) (by kernel_rfl) (fun _ _ _ h => h) (by rfl) (v := ?v5) ?hy5 hHeld ?rest5
          case hy5 => (intro v hSw; first | (go_simp; done) | (go_simp; with_reducible rfl))
          try simp only [Act.put, List.setIfInBounds_toArray, List.set_cons_zero, List.set_cons_succ]
          refine rgnTake 6 rfl (by kernel_rfl) (by kernel_rfl) (by kernel_rfl) (fun _ _ _ h => h) (by rfl) (v := ?v6) ?hy6 hHeld ?rest6
          case hy6 => (intro v hSw; first | (go_simp; done) | (go_simp; with_reducible rfl))
          try simp only [Act.put, List.setIfInBounds_toArray, List.set_cons_zero, List.set_cons_succ]
          refine rgnTake 7 rfl (by kernel_rfl) (by kernel_rfl) (by kernel_rfl) (fun _ _ _ h => h) (by rfl) (v := ?v7) ?hy7 hHeld ?rest7
          case hy7 => (intro v hSw; first | (go_simp; done) | (go_simp; with_reducible rfl))
          try simp only [Act.put, List.setIfInBounds_toArray, List.set_cons_zero, List.set_cons_succ]
          refine rgnTake 8 rfl (by kernel_rfl) (by kernel_rfl) (by kernel_rfl) (fun _ _ _ h => h) (by rfl) (v := ?v8) ?hy8 hHeld ?rest8
          case hy8 => (intro v hSw; obtain ⟨y1, y4, y5, y6, y7⟩ := hSw.1.cells; rw [← HG.out] at y5; rw [← HU.out] at y6; rw [← HBU.out] at y7; first | (go_simp; done) | (go_simp; with_reducible rfl))
          try simp only [Act.put, List.setIfInBounds_toArray, List.set_cons_zero, List.set_cons_succ]
          refine rgnTake 10 rfl (by kernel_rfl) (by kernel_rfl) (by kernel_rfl) (fun _ _ _ h => h) (by rfl) (v := ?v10) ?hy10 hHeld ?rest10
          case hy10 => (intro v hSw; first | (go_simp; done) | (go_simp; with_reducible rfl))
          try simp only [Act.put, List.setIfInBounds_toArray, List.set_cons_zero, List.set_cons_succ]
          refine rgnTake 11 rfl (by kernel_rfl) (by kernel_rfl) (by kernel_rfl) (fun _ _ _ h => h) (by rfl) (v := ?v11) ?hy11 hHeld ?rest11
          case hy11 => (intro v hSw; first | (go_simp; done) | (go_simp; with_reducible rfl))
          try simp only [Act.put, List.setIfInBounds_toArray, List.set_cons_zero, List.set_cons_succ]
          refine rgnTake 12 rfl (by kernel_rfl) (by kernel_rfl) (by kernel_rfl) (fun _ _ _ h => h) (by rfl) (v := ?v12) ?hy12 hHeld ?rest12
          case hy12 => (intro v hSw; first | (go_simp; done) | (go_simp; with_reducible rfl))
          try simp only [Act.put, List.setIfInBounds_toArray, List.set_cons_zero, List.set_cons_succ]
          refine rgnTake 13 rfl (by kernel_rfl) (by kernel_rfl) (by kernel_rfl) (fun _ _ _ h => h) (by rfl) (v := ?v13) ?hy13 hHeld ?rest13
          case hy13 => (intro v hSw; obtain ⟨y1, y4, y5, y6, y7⟩ := hSw.1.cells; rw [← HG.out] at y5; rw [← HU.out] at y6; rw [← HBU.out] at y7; first | (go_simp; done) | (go_simp; with_reducible rfl))
          try simp only [Act.put, List.setIfInBounds_toArray, List.set_cons_zero, List.set_cons_succ]
          refine rgnTake 14 rfl (by kernel_rfl) (by kernel_rfl) (by kernel_rfl) (fun _ _ _ h => h) (by rfl) (v := ?v14) ?hy14 hHeld ?rest14
          case hy14 => (intro v hSw; first | (go_simp; done) | (go_simp; with_reducible rfl))
          try simp only [Act.put, List.setIfInBounds_toArray, List.set_cons_zero, List.set_cons_succ]
          refine rgnTake 15 rfl (by kernel_rfl) (by kernel_rfl) (by kernel_rfl) (fun _ _ _ h => h) (by rfl) (v := ?v15) ?hy15 hHeld ?rest15
          case hy15 => (intro v hSw; first | (go_simp; done) | (go_simp; with_reducible rfl))
          try simp only [Act.put, List.setIfInBounds_toArray, List.set_cons_zero, List.set_cons_succ]
          refine rgnTake 16 rfl (by kernel_rfl) (by kernel_rfl) (by kernel_rfl) (fun _ _ _ h => h) (by rfl) (v := ?v16) ?hy16 hHeld ?rest16
          case hy16 => (intro v hSw; obtain ⟨y1, y4, y5, y6, y7⟩ := hSw.1.cells; rw [← HG.out] at y5; rw [← HU.out] at y6; rw [← HBU.out] at y7; first | (go_simp; done) | (go_simp; with_reducible rfl))
          try simp only [Act.put, List.setIfInBounds_toArray, List.set_cons_zero, List.set_cons_succ]
          refine rgnOne 9 rfl (by kernel_rfl) (fun K hK => ?_)
          go_simp
          refine (Ps7.used XQ.out _ S4.out).mono ?_
          rintro r w5 ⟨rfl, h5⟩
          rw [← HU.out]
          have S5 := Lib.hid h5
          clear h5
          refine hK.out _ _ S5.out (fun hHeld => ?_)
          clear hK K
          try simp only [Act.put, List.setIfInBounds_toArray, List.set_cons_zero, List.set_cons_succ]
          refine rgnTake 17 rfl (by kernel_rfl) (by kernel_rfl) (by kernel_rfl) (fun _ _ _ h => h) (by rfl) (v := ?v17) ?hy17 hHeld ?rest17
          case hy17 => (intro v hSw; first | (go_simp; done) | (go_simp; with_reducible rfl))
          try simp only [Act.put, List.setIfInBounds_toArray, List.set_cons_zero, List.set_cons_succ]
          refine rgnTake 18 rfl (by kernel_rfl) (by kernel_rfl) (by kernel_rfl) (fun _ _ _ h => h) (by rfl) (v := ?v18) ?hy18 hHeld ?rest18
          case hy18 => (intro v hSw; first | (go_simp; done) | (go_simp; with_reducible rfl))
          try simp only [Act.put, List.setIfInBounds_toArray, List.set_cons_zero, List.set_cons_succ]
          refine rgnTake 19 rfl (by kernel_rfl) (by kernel_rfl) (by kernel_rfl) (fun _ _ _ h => h) (by rfl) (v := ?v19) ?hy19 hHeld ?rest19
          case hy19 => (intro v hSw; first | (go_simp; done) | (go_simp; with_reducible rfl))
          try simp only [Act.put, List.setIfInBounds_toArray, List.set_cons_zero, List.set_cons_succ]
          refine rgnTake 20 rfl (by kernel_rfl) (by kernel_rfl) (by kernel_rfl) (fun _ _ _ h => h) (by rfl) (v := ?v20) ?hy20 hHeld ?rest20
          case hy20 => (intro v hSw; first | (go_simp; done) | (go_simp; with_reducible rfl))
          try simp only [Act.put, List.setIfInBounds_toArray, List.set_cons_zero, List.set_cons_succ]
          refine rgnTake 21 rfl (by kernel_rfl) (by kernel_rfl) (by kernel_rfl) (fun _ _ _ h => h) (by rfl) (v := ?v21) ?hy21 hHeld ?rest21
          case hy21 => (intro v hSw; first | (go_simp; done) | (go_simp; with_reducible rfl))
          try simp only [Act.put, List.setIfInBounds_toArray, List.set_cons_zero, List.set_cons_succ]
          refine rgnTake 22 rfl (by kernel_rfl) (by kernel_rfl) (by kernel_rfl) (fun _ _ _ h => h) (by rfl) (v := ?v22) ?hy22 hHeld ?rest22
          case hy22 => (intro v hSw; first | (go_simp; done) | (go_simp; with_reducible rfl))
          try simp only [Act.put, List.setIfInBounds_toArray, List.set_cons_zero, List.set_cons_succ]
          refine rgnTake 23 rfl (by kernel_rfl) (by kernel_rfl) (by kernel_rfl) (fun _ _ _ h => h) (by rfl) (v := ?v23) ?hy23 hHeld ?rest23
          case hy23 => (intro v hSw; obtain ⟨y1, y4, y5, y6, y7⟩ := hSw.1.cells; rw [← HG.out] at y5; rw [← HU.out] at y6; rw [← HBU.out] at y7; first | (go_simp; done) | (go_simp; with_reducible rfl))
          try simp only [Act.put, List.setIfInBounds_toArray, List.set_cons_zero, List.set_cons_succ]
          refine rgnTake 25 rfl (by kernel_rfl) (by kernel_rfl) (by kernel_rfl) (fun _ _ _ h => h) (by rfl) (v := ?v25) ?hy25 hHeld ?rest25
          case hy25 => (intro v hSw; first | (go_simp; done) | (go_simp; with_reducible rfl))
          try simp only [Act.put, List.setIfInBounds_toArray, List.set_cons_zero, List.set_cons_succ]
          refine rgnTake 26 rfl (by kernel_rfl) (by kernel_rfl) (by kernel_rfl) (fun _ _ _ h => h) (by rfl) (v := ?v26) ?hy26 hHeld ?rest26
          case hy26 => (intro v hSw; first | (go_simp; done) | (go_simp; with_reducible rfl))
          try simp only [Act.put, List.setIfInBounds_toArray, List.set_cons_zero, List.set_cons_succ]
          refine rgnTake 27 rfl (by kernel_rfl) (by kernel_rfl) (by kernel_rfl) (fun _ _ _ h => h) (by rfl) (v := ?v27) ?hy27 hHeld ?rest27
          case hy27 => (intro v hSw; first | (go_simp; done) | (go_simp; with_reducible rfl))
          try simp only [Act.put, List.setIfInBounds_toArray, List.set_cons_zero, List.set_cons_succ]
          refine rgnTake 28 rfl (by kernel_rfl) (by kernel_rfl) (by kernel_rfl) (fun _ _ _ h => h) (by rfl) (v := ?v28) ?hy28 hHeld ?rest28
          case hy28 => (intro v hSw; obtain ⟨y1, y4, y5, y6, y7⟩ := hSw.1.cells; rw [← HG.out] at y5; rw [← HU.out] at y6; rw [← HBU.out] at y7; first | (go_simp; done) | (go_simp; with_reducible rfl))
          try simp only [Act.put, List.setIfInBounds_toArray, List.set_cons_zero, List.set_cons_succ]
          refine rgnTake 29 rfl (by kernel_rfl) (by kernel_rfl) (by kernel_rfl) (fun _ _ _ h => h) (by rfl) (v := ?v29) ?hy29 hHeld ?rest29
          case hy29 => (intro v hSw; first | (go_simp; done) | (go_simp; with_reducible rfl))
          try simp only [Act.put, List.setIfInBounds_toArray, List.set_cons_zero, List.set_cons_succ]
          refine rgnTake 30 rfl (by kernel_rfl) (by kernel_rfl) (by kernel_rfl) (fun _ _ _ h => h) (by rfl) (v := ?v30) ?hy30 hHeld ?rest30
          case hy30 => (intro v hSw; first | (go_simp; done) | (go_simp; with_reducible rfl))
          try simp only [Act.put, List.setIfInBounds_toArray, List.set_cons_zero, List.set_cons_succ]
          refine rgnTake 31 rfl (by kernel_rfl) (by kernel_rfl) (by kernel_rfl) (fun _ _ _ h => h) (by rfl) (v := ?v31) ?hy31 hHeld ?rest31
          case hy31 => (intro v hSw; obtain ⟨y1, y4, y5, y6, y7⟩ := hSw.1.cells; rw [← HG.out] at y5; rw [← HU.out] at y6; rw [← HBU.out] at y7; first | (go_simp; done) | (go_simp; with_reducible rfl))
          try simp only [Act.put, List.setIfInBounds_toArray, List.set_cons_zero, List.set_cons_succ]
          refine rgnOne 24 rfl (by kernel_rfl) (fun K hK => ?_)
          go_simp
          refine (Ps7.gen XQ.out _ S5.out).mono ?_
          rintro r w6 ⟨rfl, h6⟩
          rw [← HG.out]
          have S6 := Lib.hid h6
          clear h6
          refine hK.out _ _ S6.out (fun hHeld => ?_)
          clear hK K
          try simp only [Act.put, List.setIfInBounds_toArray, List.set_cons_zero, List.set_cons_succ]
          refine rgnTake 32 rfl (by kernel_rfl) (by kernel_rfl) (by kernel_rfl) (fun _ _ _ h => h) (by rfl) (v := ?v32) ?hy32 hHeld ?rest32
          case hy32 => (intro v hSw; first | (go_simp; done) | (go_simp; with_reducible rfl))
          try simp only [Act.put, List.setIfInBounds_toArray, List.set_cons_zero, List.set_cons_succ]
          refine rgnTake 33 rfl (by kernel_rfl) (by kernel_rfl) (by kernel_rfl) (fun _ _ _ h => h) (by rfl) (v := ?v33) ?hy33 hHeld ?rest33
          case hy33 => (intro v hSw; first | (go_simp; done) | (go_simp; with_reducible rfl))
          try simp only [Act.put, List.setIfInBounds_toArray, List.set_cons_zero, List.set_cons_succ]
          refine rgnTake 34 rfl (by kernel_rfl) (by kernel_rfl) (by kernel_rfl) (fun _ _ _ h => h) (by rfl) (v := ?v34) ?hy34 hHeld ?rest34
          case hy34 => (intro v hSw; first | (go_simp; done) | (go_simp; with_reducible rfl))
          try simp only [Act.put, List.setIfInBounds_toArray, List.set_cons_zero, List.set_cons_succ]
          refine rgnTake 35 rfl (by kernel_rfl) (by kernel_rfl) (by kernel_rfl) (fun _ _ _ h => h) (by rfl) (v := ?v35) ?hy35 hHeld ?rest35
          case hy35 => (intro v hSw; first | (go_simp; done) | (go_simp; with_reducible rfl))
          try simp only [Act.put, List.setIfInBounds_toArray, List.set_cons_zero, List.set_cons_succ]
          refine rgnTake 36 rfl (by kernel_rfl) (by kernel_rfl) (by kernel_rfl) (fun _ _ _ h => h) (by rfl) (v := ?v36) ?hy36 hHeld ?rest36
          case hy36 => (intro v hSw; first | (go_simp; done) | (go_simp; with_reducible rfl))
          try simp only [Act.put, List.setIfInBounds_toArray, List.set_cons_zero, List.set_cons_succ]
          refine rgnTake 37 rfl (by kernel_rfl) (by kernel_rfl) (by kernel_rfl) (fun _ _ _ h => h) (by rfl) (v := ?v37) ?hy37 hHeld ?rest37
          case hy37 => (intro v hSw; first | (go_simp; done) | (go_simp; with_reducible rfl))
          try simp only [Act.put, List.setIfInBounds_toArray, List.set_cons_zero, List.set_cons_succ]
          refine rgnTake 38 rfl (by kernel_rfl) (by kernel_rfl) (by kernel_rfl) (fun _ _ _ h => h) (by rfl) (v := ?v38) ?hy38 hHeld ?rest38
          case hy38 => (intro v hSw; obtain ⟨y1, y4, y5, y6, y7⟩ := hSw.1.cells; rw [← HG.out] at y5; rw [← HU.out] at y6; rw [← HBU.out] at y7; first | (go_simp; done) | (go_simp; with_reducible rfl))
          try simp only [Act.put, List.setIfInBounds_toArray, List.set_cons_zero, List.set_cons_succ]
          refine rgnTake 40 rfl (by kernel_rfl) (by kernel_rfl) (by kernel_rfl) (fun _ _ _ h => h) (by rfl) (v := ?v40) ?hy40 hHeld ?rest40
          case hy40 => (intro v hSw; first | (go_simp; done) | (go_simp; with_reducible rfl))
          try simp only [Act.put, List.setIfInBounds_toArray, List.set_cons_zero, List.set_cons_succ]
          refine rgnTake 41 rfl (by kernel_rfl) (by kernel_rfl) (by kernel_rfl) (fun _ _ _ h => h) (by rfl) (v := ?v41) ?hy41 hHeld ?rest41
          case hy41 => (intro v hSw; first | (go_simp; done) | (go_simp; with_reducible rfl))
          try simp only [Act.put, List.setIfInBounds_toArray, List.set_cons_zero, List.set_cons_succ]
          refine rgnTake 42 rfl (by kernel_rfl) (by kernel_rfl) (by kernel_rfl) (fun _ _ _ h => h) (by rfl) (v := ?v42) ?hy42 hHeld ?rest42
          case hy42 => (intro v hSw; first | (go_simp; done) | (go_simp; with_reducible rfl))
          try simp only [Act.put, List.setIfInBounds_toArray, List.set_cons_zero, List.set_cons_succ]
          refine rgnTake 43 rfl (by kernel_rfl) (by kernel_rfl) (by kernel_rfl) (fun _ _ _ h => h) (by rfl) (v := ?v43) ?hy43 hHeld ?rest43
          case hy43 => (intro v hSw; obtain ⟨y1, y4, y5, y6, y7⟩ := hSw.1.cells; rw [← HG.out] at y5; rw [← HU.out] at y6; rw [← HBU.out] at y7; first | (go_simp; done) | (go_simp; with_reducible rfl))
          try simp only [Act.put, List.setIfInBounds_toArray, List.set_cons_zero, List.set_cons_succ]
          refine rgnTake 44 rfl (by kernel_rfl) (by kernel_rfl) (by kernel_rfl) (fun _ _ _ h => h) (by rfl) (v := ?v44) ?hy44 hHeld ?rest44
          case hy44 => (intro v hSw; first | (go_simp; done) | (go_simp; with_reducible rfl))
          try simp only [Act.put, List.setIfInBounds_toArray, List.set_cons_zero, List.set_cons_succ]
          refine rgnTake 45 rfl (by kernel_rfl) (by kernel_rfl) (by kernel_rfl) (fun _ _ _ h => h) (by rfl) (v := ?v45) ?hy45 hHeld ?rest45
          case hy45 => (intro v hSw; first | (go_simp; done) | (go_simp; with_reducible rfl))
          try simp only [Act.put, List.setIfInBounds_toArray, List.set_cons_zero, List.set_cons_succ]
          refine rgnTake 46 rfl (by kernel_rfl) (by kernel_rfl) (by kernel_rfl) (fun _ _ _ h => h) (by rfl) (v := ?v46) ?hy46 hHeld ?rest46
          case hy46 => (intro v hSw; obtain ⟨y1, y4, y5, y6, y7⟩ := hSw.1.cells; rw [← HG.out] at y5; rw [← HU.out] at y6; rw [← HBU.out] at y7; first | (go_simp; done) | (go_simp; with_reducible rfl))
          try simp only [Act.put, List.setIfInBounds_toArray, List.set_cons_zero, List.set_cons_succ]
          refine rgnOne 39 rfl (by kernel_rfl) (fun K hK => ?_)
          go_simp
          refine (Ps7.busy XQ.out _ S6.out).mono ?_
          rintro r w7 ⟨rfl, h7⟩
          rw [← HBU.out]
          have S7 := Lib.hid h7
          clear h7
          refine hK.out _ _ S7.out (fun hHeld => ?_)
          clear hK K
          try simp only [Act.put, List.setIfInBounds_toArray, List.set_cons_zero, List.set_cons_succ]
          refine rgnTake 47 rfl (by kernel_rfl) (by kernel_rfl) (by kernel_rfl) (fun _ _ _ h => h) (by rfl) (v := ?v47) ?hy47 hHeld ?rest47
          case hy47 => (intro v hSw; first | (go_simp; done) | (go_simp; with_reducible rfl))
          try simp only [Act.put, List.setIfInBounds_toArray, List.set_cons_zero, List.set_cons_succ]
          refine rgnTake 48 rfl (by kernel_rfl) (by kernel_rfl) (by kernel_rfl) (fun _ _ _ h => h) (by rfl) (v := ?v48) ?hy48 hHeld ?rest48
          case hy48 => (intro v hSw; first | (go_simp; done) | (go_simp; with_reducible rfl))
          try simp only [Act.put, List.setIfInBounds_toArray, List.set_cons_zero, List.set_cons_succ]
          refine wpAnyH_done (by kernel_rfl) ?_ _
          go_wp2_with fail
          go_meet
          exact ⟨rfl, Lib.hid ⟨_, _, _, _, _, _, _, _, S7.out⟩⟩
    case rest =>
      obtain ⟨rfl, HM2⟩ := hcut
      go_upto_region 17 with fail
      obtain ⟨N, bl, bx, m, l, ox, pl, ry, s6⟩ := HM2.out
      obtain ⟨w6, hw6⟩ : ∃ w6, w6 = wc := ⟨_, rfl⟩
      rw [← hw6]
      rw [← hw6] at s6
      have S6 := Lib.hid s6
      obtain ⟨G, hG⟩ : ∃ G, G = l.gen := ⟨_, rfl⟩
      obtain ⟨U, hU⟩ : ∃ U, U = l.used := ⟨_, rfl⟩
      have CE := Lib.hid (show ∀ v, Ps7 (QQ Q q (.cells #[.int .i64 xk, .string xs', .int .i64 xe, .int .i64 xa, .slice AP PL cP] 40)) B s pp b p g N bl bx m l ox pl ry w v → v.cell? ⟨pp, 1, none⟩ = some (.pointer (some ⟨bl, 0, none⟩)) ∧ v.cell? ⟨pp, 4, none⟩ = some (.pointer (some ⟨pl, 0, none⟩)) ∧ v.cell? ⟨pl, 3, none⟩ = some (.int .i64 G) ∧ v.cell? ⟨pl, 4, none⟩ = some (.int .i64 (U : Int)) ∧ v.cell? ⟨q, 1, none⟩ = some (.string xs') from fun v hv => by
        obtain ⟨y1, y4, y5, y6, _⟩ := hv.1.cells
        rw [hG, hU]
        exact ⟨y1, y4, y5, y6, (At7.row (cs := [.int .i64 xk, .string xs', .int .i64 xe, .int .i64 xa, .slice AP PL cP]) hv.1).cell 1⟩)
      have G0 : 0 ≤ G := by rw [hG]; exact s6.1.k.g0
      have U1 : U ≤ s := by rw [hU]; exact s6.1.k.u
      obtain ⟨nP, hnP⟩ : ∃ nP, nP = (partsOf xs').length := ⟨_, rfl⟩
      have nP1 : nP ≤ 1000 := by rw [hnP, partsOf_len]; unfold cntN; split <;> omega
      have PA := Lib.hid (fun v => Ps7.parts (B := B) (S := s) (pp := pp) (b := b) (p := p) (g := g) (N := N) (bl := bl) (bx := bx) (m := m) (l := l) (ox := ox) (pl := pl) (ry := ry) (w0 := w) XQ.out xs' XS5.out v)
      rw [← hnP] at PA
      obtain ⟨R, hR⟩ : ∃ R, R = (decide (0 < G) && decide (U + nP ≤ s)) := ⟨_, rfl⟩
      have RM := Lib.hid (fun v (h : Ps7 (QQ Q q (.cells #[.int .i64 xk, .string xs', .int .i64 xe, .int .i64 xa, .slice AP PL cP] 40)) B s pp b p g N bl bx m l ox pl ry w v) => (Ps7.room XQ.out (xs'.size : Int) ⟨by omega, by omega⟩ v h).mono fun x w' k => (show x = .returned (.bool R) ∧ _ from ⟨by rw [k.1, room_eq, hR, hG, hU, hnP], k.2⟩))
      have RN := Lib.hid (fun v (h : Ps7 (QQ Q q (.cells #[.int .i64 xk, .string xs', .int .i64 xe, .int .i64 xa, .slice AP PL cP] 40)) B s pp b p g N bl bx m l ox pl ry w v) => (Ps7.room XQ.out (-1) ⟨by decide, by decide⟩ v h).mono fun x w' k => (show x = .returned (.bool false) ∧ _ from ⟨by rw [k.1]; simp, k.2⟩))
      have HR := Lib.hid hR
      clear hw6 hG hU hnP hR s6
      go_cut [12] from 117 to 140 (fun v wx => v = .bool R ∧ Hid (Ps7 (QQ Q q (.cells #[.int .i64 xk, .string xs', .int .i64 xe, .int .i64 xa, .slice AP PL cP] 40)) B s pp b p g N bl bx m l ox pl ry w wx))
      case first =>
        by_cases gz : G = 0
        · have e : R = false := by rw [HR.out, gz]; rfl
          obtain ⟨x1, x4, x5, x6, xq⟩ := CE.out _ S6.out
          rw [gz] at x5
          have HE := Lib.hid e
          clear e
          go_quiet (fail)
          have S7 := Lib.hid (S6.out.drewN XQ.out nq)
          go_wp2_with fail
          go_meet
          exact ⟨by rw [HE.out], S7⟩
        by_cases fit : U + nP ≤ s
        · have e : R = true := by rw [HR.out, decide_eq_true (show 0 < G by omega), decide_eq_true fit]; rfl
          have K1 : decide ((U : Int) + (nP : Int) ≤ (s : Int)) = true := decide_eq_true (by omega)
          have WU : IntKind.i64.wrap ((U : Int) + (nP : Int)) = (U : Int) + (nP : Int) := by rw [IntKind.wrap_i64]; omega
          have S6d := Lib.hid (S6.out.drew XQ.out)
          obtain ⟨x1, x4, x5, x6, xq⟩ := CE.out _ S6.out
          have HC6 := Lib.hid (And.intro x4 (And.intro x5 (And.intro x6 xq)))
          have D0 : decide (0 < G) = true := decide_eq_true (by omega)
          have HE := Lib.hid e
          clear e
          go_region_held3 (fun w' => w'.cell? ⟨pp, 4, none⟩ = some (.pointer (some ⟨pl, 0, none⟩)) ∧ w'.cell? ⟨pl, 3, none⟩ = some (.int .i64 G) ∧ w'.cell? ⟨pl, 4, none⟩ = some (.int .i64 (U : Int)) ∧ w'.cell? ⟨q, 1, none⟩ = some (.string xs'))
            (first
              | go_keep
              | exact HC7.out
              | exact HC6.out)
            (first
              | (go_at_call 15; (with_reducible refine (PA.out _ S6d.out).mono ?_); rintro r w7 ⟨⟨A7, c7, rfl⟩, h7⟩; have S7 := Lib.hid h7; have HC7 := Lib.hid (CE.out _ h7).2; clear h7))
          go_wp2_with fail
          go_meet
          exact ⟨by rw [HE.out], S7⟩
        · have e : R = false := by rw [HR.out, decide_eq_true (show 0 < G by omega), decide_eq_false fit]; rfl
          have K1 : decide ((U : Int) + (nP : Int) ≤ (s : Int)) = false := decide_eq_false (by omega)
          have WU : IntKind.i64.wrap ((U : Int) + (nP : Int)) = (U : Int) + (nP : Int) := by rw [IntKind.wrap_i64]; omega
          have S6d := Lib.hid (S6.out.drew XQ.out)
          obtain ⟨x1, x4, x5, x6, xq⟩ := CE.out _ S6.out
          have HC6 := Lib.hid (And.intro x4 (And.intro x5 (And.intro x6 xq)))
          have D0 : decide (0 < G) = true := decide_eq_true (by omega)
          have HE := Lib.hid e
          clear e
          go_region_held3 (fun w' => w'.cell? ⟨pp, 4, none⟩ = some (.pointer (some ⟨pl, 0, none⟩)) ∧ w'.cell? ⟨pl, 3, none⟩ = some (.int .i64 G) ∧ w'.cell? ⟨pl, 4, none⟩ = some (.int .i64 (U : Int)) ∧ w'.cell? ⟨q, 1, none⟩ = some (.string xs'))
            (first
              | go_keep
              | exact HC7.out
              | exact HC6.out)
            (first
              | (go_at_call 15; (with_reducible refine (PA.out _ S6d.out).mono ?_); rintro r w7 ⟨⟨A7, c7, rfl⟩, h7⟩; have S7 := Lib.hid h7; have HC7 := Lib.hid (CE.out _ h7).2; clear h7))
          go_wp2_with fail
          go_meet
          exact ⟨by rw [HE.out], S7⟩
      case rest =>
        obtain ⟨rfl, S7⟩ := hcut
        have TR : (R != R) = false := by cases R <;> rfl
        have S7d := Lib.hid (S7.out.drew XQ.out)
        obtain ⟨x1, x4, x5, x6, xq⟩ := CE.out _ S7.out
        have HC7 := Lib.hid (And.intro x1 xq)
        go_upto_region 18 with fail
        go_region_held3 (fun w' => w'.cell? ⟨pp, 1, none⟩ = some (.pointer (some ⟨bl, 0, none⟩)) ∧ w'.cell? ⟨q, 1, none⟩ = some (.string xs'))
          (first
            | go_keep
            | exact HC9.out
            | exact HC8.out
            | exact HC7.out)
          (first
            | (go_at_call 16; (with_reducible refine (RM.out _ S7d.out).mono ?_); rintro r w8 ⟨rfl, h8⟩; have S8 := Lib.hid h8; have HC8 := Lib.hid (And.intro (CE.out _ h8).1 (CE.out _ h8).2.2.2.2); clear h8)
            | (go_at_call 16; (with_reducible refine (RN.out _ S8.out).mono ?_); rintro r w9 ⟨rfl, h9⟩; have S9 := Lib.hid h9; have HC9 := Lib.hid (And.intro (CE.out _ h9).1 (CE.out _ h9).2.2.2.2); clear h9))
        clear x1 x4 x5 x6 xq HC7 HC8 HC9 S7d
        have HI := Lib.hid (show Pl7 Q B s pp b p g w9 ∧ Below B w w9 from ⟨S9.out.1.alone.1, S9.out.2⟩)
        go_wp2_with fail
        go_loopw [13] (fun ve wr => ∃ e' : Nat, e' ≤ 4 ∧ ve = .int .i64 e' ∧ Hid (Pl7 Q B s pp b p g wr ∧ Below B w wr)) (fun ve _ => 4 - (Go.RowKit.intOf ve).toNat)
        case atStart => exact ⟨0, by omega, rfl, HI⟩
        case round =>
          obtain ⟨e', en, rfl, HK⟩ := hrel
          by_cases q3 : e' < 4
          · obtain ⟨wo, hwo⟩ : ∃ wo, wo = wr := ⟨_, rfl⟩
            subst hwo
            have T3 : decide ((e' : Int) < 4) = true := decide_eq_true (by omega)
            go_wp2_with fail
            go_loopw [14] (fun va wr => ∃ a' : Nat, a' ≤ s ∧ va = .int .i64 a' ∧ Hid (Pl7 Q B s pp b p g wr ∧ Below B w wr)) (fun va _ => s - (Go.RowKit.intOf va).toNat)
            case atStart => exact ⟨0, by omega, rfl, HK⟩
            case round =>
              obtain ⟨a', an, rfl, HA⟩ := hrel
              by_cases q4 : a' < s
              · obtain ⟨N2, bl2, bx2, m2, l2, ox2, pl2, ry2, h2⟩ := HA.out.1.at7
                have I1 := Lib.hid (show In64 (e' : Int) from ⟨by omega, by omega⟩)
                have I2 := Lib.hid (show In64 (a' : Int) from ⟨by omega, by omega⟩)
                have H2 := Lib.hid (show Ps7 Q B s pp b p g N2 bl2 bx2 m2 l2 ox2 pl2 ry2 w _ from ⟨h2, HA.out.2⟩)
                have RD := Lib.hid (Ps7.read X'.out (e' : Int) (a' : Int) I1.out I2.out _ H2.out)
                have RT := Lib.hid (fun v (h : Ps7 Q B s pp b p g N2 bl2 bx2 m2 l2 ox2 pl2 ry2 w v) => Ps7.rread (e' : Int) (a' : Int) I1.out I2.out v h)
                obtain ⟨y, hy⟩ : ∃ y, y = (m2.read (e' : Int) (a' : Int)).1 := ⟨_, rfl⟩
                obtain ⟨yc, hyc⟩ : ∃ yc, yc = (m2.read (e' : Int) (a' : Int)).2 := ⟨_, rfl⟩
                rw [← hy, ← hyc] at RD RT
                clear h2 hy hyc
                go_wp2_with fail
                refine RD.out.mono ?_
                rintro r w10 ⟨rfl, h10⟩
                have H10 := Lib.hid h10
                clear h10
                go_wp2_with fail
                refine (RT.out _ H10.out).mono ?_
                rintro r w11 ⟨rfl, h11⟩
                have H11 := Lib.hid (show Pl7 Q B s pp b p g w11 ∧ Below B w w11 from ⟨h11.1.pl7, h11.2⟩)
                clear h11
                go_wp2_with fail
                go_roundw
                case rel => first | exact ⟨a' + 1, by omega, by go_num, H11⟩ | ((repeat apply Exists.intro); exact ⟨⟨a' + 1, by omega, by go_num, H11⟩, rfl⟩)
                case measure => simp [Go.RowKit.intOf]; omega
              · go_wp2_with fail
                go_roundw
                case rel => first | exact ⟨e' + 1, by omega, by go_num, HA⟩ | ((repeat apply Exists.intro); exact ⟨⟨e' + 1, by omega, by go_num, HA⟩, rfl⟩)
                case measure => simp [Go.RowKit.intOf]; omega
          · rw [HB.out] at HK
            go_wp2_with fail
            go_roundw
            case rel => first | exact ⟨k + 1, by go_num, by omega, by omega, HK⟩ | ((repeat apply Exists.intro); exact ⟨⟨k + 1, by go_num, by omega, by omega, HK⟩, rfl⟩)
            case measure => simp [Go.RowKit.intOf]; omega

set_option maxRecDepth 100000 in
theorem lifted {P : RelP} {Q : RelQ} (X : SegAt P Q) (os : Os) (started : os.Started) (H : Type) (enc : TypeId × Value → H) :
    ReturnsInHanded {} Tryd.checked os 3 .any (fun w args => (Rows.seglogPlaysSpec.pre enc Tryd.prog Tryd.f3 Rows.seglogPlaysRow.domain false w args ∧ laidMetH Tryd.prog Rows.seglogPlaysRow.laid w) ∧ sizedMet enc Tryd.prog Tryd.f3 (OpenSpec.ofChange Rows.seglogPlaysSpec) false w args) (Rows.seglogPlaysSpec.post enc Tryd.prog Tryd.f3 false true false false) := by
  refine returnsInHanded_of_change_and (C := Tryd.checked) (X := fun w _ => laidMetH Tryd.prog Rows.seglogPlaysRow.laid w) (fun _ _ _ hh h => h.of_heap hh) own started (by kernel_rfl) Tryd.func3
    (ChangeSpec.witness_shaped (enc := enc) (C := Tryd.checked) (os := os) (X := fun w _ => laidMetH Tryd.prog Rows.seglogPlaysRow.laid w) false (World.laidAll Tryd.prog os Rows.seglogPlaysRow.laid) #[.int .i64 0, .slice none 0 0] 8 (World.laidAll_os _ _ _)
      (World.shaped_of_ZipB (by kernel_rfl) (by kernel_rfl)) (by kernel_rfl) (by kernel_rfl) (by kernel_rfl)
      (by rw [MakeChecks.laidMetH_plain _ _ _ (by kernel_rfl)]; exact laidMet_laidAll _ (by kernel_rfl) (by kernel_rfl))) ?_
  intro W base args ds gs before hval0 hW hcnd _ _ _
  have hval : ∀ (j : Nat) t v, Tryd.f3.params[j]? = some t → args[j]? = some v → Value.okWide Tryd.prog W .any base t v := hval0
  have hW' := hW
  obtain ⟨p, q, hA0, hV, rfl, hfz, hnd⟩ := hW
  have hA : DataW.TrodAll enc Tryd.prog W 0 (fun _ => true) true Tryd.f3.params.toList args.toList ds p := hA0
  rw [Tryd.params3] at hA hval
  obtain ⟨v0, vs0, d0, ds0, p0, q0, hargs0, rfl, rfl, h0, r0⟩ := trodAll_cons hA
  obtain ⟨v1, vs1, d1, ds1, p1, q1, hargs1, rfl, rfl, h1, r1⟩ := trodAll_cons r0
  obtain ⟨rfl, rfl, rfl⟩ := trodAll_nil r1
  obtain rfl : args = #[v0, v1] := by cases args; simp_all
  obtain ⟨rfl, rfl⟩ := trodVars_none hV
  clear hA0 hval0
  simp only [List.append_nil] at hW'
  obtain ⟨x0, rfl, rfl, rfl, w0⟩ := open_int Tryd.underlying3 (hval 0 3 v0 rfl rfl) h0
  have l1 : ∀ x ∈ p1, x.block < W.heap.size := fun x hx => hW'.lt x (by simp [hx])
  obtain ⟨A1, c1, x1, rfl, s1, k1⟩ := open_acts7 (hval 1 22 v1 rfl rfl) h1
  refine (walk X x0 A1 c1 x1 W w0 s1 k1).mono fun e W' ⟨he, hg⟩ => ?_
  subst he
  refine ⟨_, rfl, [.lit (.int .i64 x0), d1], [], [] ++ p1, [], [] ++ (p1 ++ []), [], hW', ?_, ?_, ?_, hg.frame _, fun h => by cases h⟩
  · exact trodAll_cons_mk (shut_bool Tryd.underlying4 _) trodAll_mk0
  · exact (trodAll_cons_mk (shut_int Tryd.underlying3 w0) (trodAll_cons_mk (Below.trod laidOut (by kernel_rfl) (of_decide_eq_true (by kernel_rfl)) h1 hg l1) trodAll_mk0))
  · rfl

theorem over {P : RelP} {Q : RelQ} (X : SegAt P Q) : Rows.seglogPlaysRow.holds Tryd.pinned (OpenSpec.ofChange Rows.seglogPlaysSpec) :=
  OpenClaim.holds_of_wide 3 Tryd.f3 rfl rfl rfl rfl rfl rfl rfl ⟨rfl, rfl, rfl, rfl, rfl⟩ rfl rfl rfl rfl rfl (by kernel_rfl) Tryd.func3 (by kernel_rfl)
    (of_decide_eq_true (by kernel_rfl)) (by unfold Func.isWrapper; first | (rw [if_pos (by decide +kernel)]; kernel_rfl) | (rw [if_neg (by decide +kernel)]; exact ⟨rfl, rfl⟩))
    (fun os started H enc _ => lifted X os started H enc)

/-- ████ THE STATEMENT: THE TIED CARD ████ -/
theorem stands : Rows.SeglogPlaysCardSaid :=
  Claim7.holds_tied_plain_at .later [] [.data, .pinned] true Rows.seglogPlaysCard.stood.harness false (over theX7) (fun _ h => by cases h) (by kernel_rfl) (fun _ h => by cases h) seglogPlays_row_tie rfl ⟨rfl, rfl⟩ (by kernel_rfl) rfl
    (fun f fn hf hfn => by
      obtain rfl : f = 3 := Option.some.inj ((show Tryd.prog.funcNamed Rows.seglogPlaysRow.func = some 3 by kernel_rfl).symm.trans hf) |>.symm
      obtain rfl : fn = Tryd.f3 := (Option.some.inj (Tryd.func3.symm.trans hfn)).symm
      exact ⟨by kernel_rfl, fun j t ht => by
        have hall : (Tryd.f3.params.toList.all fun u => !Tryd.prog.wantsStandIn u) = true := by kernel_rfl
        have hm : t ∈ Tryd.f3.params.toList := by simpa using Array.mem_of_getElem? ht
        exact (show Tryd.prog.wantsStandIn t = false by simpa using List.all_eq_true.1 hall t hm)⟩)
    (by kernel_rfl)
#print axioms stands

end Go.Proofs.YtfodclafkdkjbaaDoor.seglogPlays
