/- SeglogRaw: for every two rows of bytes the law returns true, and its arguments read behind the call as they read before: given what the program's seglog does (by gens7ra.py). -/
import Derived.Test.YtfodclafkdkjbaaDoorM47
import Derived.Test.YtfodclafkdkjbaaDoorM35
import Derived.Test.YtfodclafkdkjbaaDoorCards
import Derived.Test.YtfodclafkdkjbaaDoorTie
import Derived.LaidMore
import Derived.Lay
import Derived.SevenTiedAt
import Derived.Stop.Joined
import Derived.Lib.SmallJoins
import Derived.ChangeMaps5
namespace Go.Proofs.YtfodclafkdkjbaaDoor.seglogRaw
open Go.Proofs.YtfodclafkdkjbaaDoor Go.Joins Go.ChangeShapes Go.WideShapes Go.ChangeAt Go.RowKit Go.Deep
open Go.ChangeMaps (open_string shut_string)

set_option maxRecDepth 100000 in
set_option maxHeartbeats 8000000 in
theorem walk {P : RelP} {Q : RelQ} (X : SegAt P Q) (A1 A2 : Option Addr) (c1 c2 : Nat) (xs ys : List ByteArray) (w : World) (hx : SlS w A1 xs) (hy : SlS w A2 ys) (l1 : xs.length ≤ 9223372036854775807) (l2 : ys.length ≤ 9223372036854775807) :
    Calls Tryd.prog 5 #[.slice A1 xs.length c1, .slice A2 ys.length c2] w fun e w' => e = .returned (.bool true) ∧ Below w.heap.size w w' := by
  obtain ⟨n1, hn1⟩ : ∃ n, n = xs.length := ⟨_, rfl⟩
  obtain ⟨n2, hn2⟩ : ∃ n, n = ys.length := ⟨_, rfl⟩
  rw [← hn1] at l1 ⊢
  rw [← hn2] at l2 ⊢
  have HX := Lib.hid hx
  have HY := Lib.hid hy
  have N1 := Lib.hid hn1
  have N2 := Lib.hid hn2
  have I0 := Lib.hid (show In64 0 from ⟨by decide, by decide⟩)
  have I1 := Lib.hid (show In64 1 from ⟨by decide, by decide⟩)
  have AW := Lib.hid (awake7 X)
  obtain ⟨m0, h0⟩ : ∃ m0, m0 = Ext.new 2 12 := ⟨_, rfl⟩
  have M0 := Lib.hid (show m0.off = false ∧ m0.ext = 2 ∧ m0.sec = 12 by rw [h0]; exact ⟨rfl, rfl, rfl⟩)
  have NW := Lib.hid (X.new 2 12)
  have X' := Lib.hid X
  have H0 := Lib.hid h0
  clear hx hy hn1 hn2 X h0
  go_enter Tryd.func5, Tryd.ntmps5
  go_wp2_with fail
  refine (AW.out _).mono ?_
  rintro e w1 ⟨rfl, hb1⟩
  have B1 := Lib.hid hb1
  clear hb1
  go_wp2_with fail
  refine (NW.out w1 ⟨by decide, by decide⟩ ⟨by decide, by decide⟩).mono ?_
  rintro e w2 ⟨hb2, ⟨_, b, rfl, hp⟩ | ⟨hff, _⟩⟩
  case inr => exact absurd hff (by decide)
  have P2 := Lib.hid (show P w2 (fun k => k < w1.heap.size) b m0 by rw [H0.out]; exact hp)
  have B2 := Lib.hid (below_then B1.out hb2)
  have L1 := Lib.hid (show w.heap.size ≤ w1.heap.size from B1.out.size)
  clear hp hb2
  go_wp2_with fail
  refine (eNew 2 12 _).mono ?_
  rintro e w3 (⟨_, rfl, hr, hb⟩ | ⟨hff, _⟩)
  case inr => exact absurd hff (by decide)
  obtain ⟨p, hp⟩ : ∃ p, p = w2.heap.size + 1 := ⟨_, rfl⟩
  obtain ⟨g, hg⟩ : ∃ g, g = w2.heap.size := ⟨_, rfl⟩
  rw [← hp] at hr ⊢
  rw [← hg] at hr
  have TB := Lib.hid (show Both7 P w.heap.size w3 b p g m0 m0 from
    ⟨X'.out.pKeep P2.out (fun k hk _ => hb.block k hk) hb.size (fun k q => by
      have := L1.out; have := B2.out.size
      rcases q with q | q | q
      · exact .inl (show k < w1.heap.size by omega)
      · exact .inr (by omega)
      · exact .inr (by omega)) (fun k q => by
      have := L1.out; have := B2.out.size; have := hb.size; have := hr.a.lt; have := hr.b.lt
      rcases q with q | q | q <;> omega), by rw [H0.out]; exact hr, by have := B2.out.size; omega, by have := B2.out.size; omega, by have := B2.out.size; have := hb.size; omega⟩)
  have B3 := Lib.hid (below_then B2.out hb)
  clear hr hb hp hg
  clear P2 NW L1
  go_wp2_with fail
  go_loopw [9] (fun v wr => ∃ k : Nat, k ≤ 12 ∧ v = .int .i64 k ∧ ∃ m : Ext, Hid (m.off = false ∧ m.ext = 2 ∧ m.sec = 12) ∧ Hid (Both7 P w.heap.size wr b p g m m) ∧ Hid (Below w.heap.size w wr)) (fun v _ => 12 - (Go.RowKit.intOf v).toNat)
  case atStart => exact ⟨0, Nat.zero_le _, rfl, m0, M0, TB, B3⟩
  case round =>
    obtain ⟨k, hk, rfl, m0', E0, T0, B0R⟩ := hrel
    clear H0 M0 TB B3 B1 B2 AW
    obtain ⟨wo, hwo⟩ : ∃ wo, wo = wr := ⟨_, rfl⟩
    subst hwo
    obtain ⟨m0, rfl⟩ : ∃ m0, m0 = m0' := ⟨_, rfl⟩
    have IK := Lib.hid (show In64 (k : Int) from ⟨by omega, by omega⟩)
    by_cases kk : k < 12
    · skip
      by_cases ka : k < n1
      · obtain ⟨bA, oA, rfl, LA, hcA⟩ := HX.out (by rw [← N1.out]; omega)
        obtain ⟨sA, hsA⟩ : ∃ s, s = xs.getD k ⟨#[]⟩ := ⟨_, rfl⟩
        have cA := hcA k (by rw [← N1.out]; exact ka)
        rw [← hsA] at cA
        clear hcA hsA
        have cA0 := (B0R.out.cell (p := ⟨bA, oA + k, none⟩) LA).trans cA
        clear cA
        have cA := cA0
        clear cA0
        by_cases kla : sA.size ≤ 64
        · go_wp2_with fail
          refine (X'.out.lay _ b m0 0 (k : Int) sA _ T0.out.lft I0.out IK.out (by omega)).mono ?_
          rintro e u1 ⟨rfl, hp, hk⟩
          have T1 := Lib.hid (T0.out.left hp hk)
          clear hp hk
          have g1 := (T1.out.2.cell (p := ⟨bA, oA + k, none⟩) LA).trans cA
          go_wp2_with fail
          refine (eLay p g m0 0 (k : Int) sA _ T1.out.1.r I0.out IK.out (by omega)).mono ?_
          rintro e u2 ⟨rfl, hr, hc⟩
          have T2 := Lib.hid (T1.out.1.right X'.out hr hc)
          clear hr hc
          have B2 := Lib.hid (show Below w.heap.size wo u2 from T1.out.2.trans T2.out.2)
          obtain ⟨m2, hm2⟩ : ∃ m', m' = (m0.lay 0 (k : Int) sA).1 := ⟨_, rfl⟩
          have ls2 := lay_same m0 0 (k : Int) sA
          rw [← hm2] at ls2 T2
          have E2 := Lib.hid (And.intro (ls2.1.trans E0.out.1) (And.intro (ls2.2.1.trans E0.out.2.1) (ls2.2.2.trans E0.out.2.2)))
          clear hm2 ls2 g1
          by_cases kb : k < n2
          · obtain ⟨bB, oB, rfl, LB, hcB⟩ := HY.out (by rw [← N2.out]; omega)
            obtain ⟨sB, hsB⟩ : ∃ s, s = ys.getD k ⟨#[]⟩ := ⟨_, rfl⟩
            have cB := hcB k (by rw [← N2.out]; exact kb)
            rw [← hsB] at cB
            clear hcB hsB
            have cB0 := (B0R.out.cell (p := ⟨bB, oB + k, none⟩) LB).trans cB
            clear cB
            have cB := cB0
            clear cB0
            have f2 := (B2.out.cell (p := ⟨bB, oB + k, none⟩) LB).trans cB
            by_cases kl : sB.size ≤ 64
            · go_wp2_with fail
              refine (X'.out.lay _ b m2 1 (k : Int) sB _ T2.out.1.lft I1.out IK.out (by omega)).mono ?_
              rintro e u3 ⟨rfl, hp, hk⟩
              have T3 := Lib.hid (T2.out.1.left hp hk)
              clear hp hk
              have g3 := (((B2.out.trans T3.out.2)).cell (p := ⟨bB, oB + k, none⟩) LB).trans cB
              go_wp2_with fail
              refine (eLay p g m2 1 (k : Int) sB _ T3.out.1.r I1.out IK.out (by omega)).mono ?_
              rintro e u4 ⟨rfl, hr, hc⟩
              have T4 := Lib.hid (T3.out.1.right X'.out hr hc)
              clear hr hc
              have B4 := Lib.hid (show Below w.heap.size wo u4 from (B2.out.trans T3.out.2).trans T4.out.2)
              obtain ⟨m4, hm4⟩ : ∃ m', m' = (m2.lay 1 (k : Int) sB).1 := ⟨_, rfl⟩
              have ls4 := lay_same m2 1 (k : Int) sB
              rw [← hm4] at ls4 T4
              have E4 := Lib.hid (And.intro (ls4.1.trans E2.out.1) (And.intro (ls4.2.1.trans E2.out.2.1) (ls4.2.2.trans E2.out.2.2)))
              clear hm4 ls4 g3
              go_wp2_with fail
              go_roundw
              case rel => exact ⟨k + 1, by omega, by go_num, m4, E4, Lib.hid (T4.out.1), Lib.hid (B0R.out.trans B4.out)⟩
              case measure => simp [Go.RowKit.intOf]; omega
            · go_wp2_with fail
              go_roundw
              case rel => exact ⟨k + 1, by omega, by go_num, m2, E2, Lib.hid (T2.out.1), Lib.hid (B0R.out.trans B2.out)⟩
              case measure => simp [Go.RowKit.intOf]; omega
          · go_wp2_with fail
            go_roundw
            case rel => exact ⟨k + 1, by omega, by go_num, m2, E2, Lib.hid (T2.out.1), Lib.hid (B0R.out.trans B2.out)⟩
            case measure => simp [Go.RowKit.intOf]; omega
        · skip
          by_cases kb : k < n2
          · obtain ⟨bB, oB, rfl, LB, hcB⟩ := HY.out (by rw [← N2.out]; omega)
            obtain ⟨sB, hsB⟩ : ∃ s, s = ys.getD k ⟨#[]⟩ := ⟨_, rfl⟩
            have cB := hcB k (by rw [← N2.out]; exact kb)
            rw [← hsB] at cB
            clear hcB hsB
            have cB0 := (B0R.out.cell (p := ⟨bB, oB + k, none⟩) LB).trans cB
            clear cB
            have cB := cB0
            clear cB0
            by_cases kl : sB.size ≤ 64
            · go_wp2_with fail
              refine (X'.out.lay _ b m0 1 (k : Int) sB _ T0.out.lft I1.out IK.out (by omega)).mono ?_
              rintro e u1 ⟨rfl, hp, hk⟩
              have T1 := Lib.hid (T0.out.left hp hk)
              clear hp hk
              have g1 := (T1.out.2.cell (p := ⟨bB, oB + k, none⟩) LB).trans cB
              go_wp2_with fail
              refine (eLay p g m0 1 (k : Int) sB _ T1.out.1.r I1.out IK.out (by omega)).mono ?_
              rintro e u2 ⟨rfl, hr, hc⟩
              have T2 := Lib.hid (T1.out.1.right X'.out hr hc)
              clear hr hc
              have B2 := Lib.hid (show Below w.heap.size wo u2 from T1.out.2.trans T2.out.2)
              obtain ⟨m2, hm2⟩ : ∃ m', m' = (m0.lay 1 (k : Int) sB).1 := ⟨_, rfl⟩
              have ls2 := lay_same m0 1 (k : Int) sB
              rw [← hm2] at ls2 T2
              have E2 := Lib.hid (And.intro (ls2.1.trans E0.out.1) (And.intro (ls2.2.1.trans E0.out.2.1) (ls2.2.2.trans E0.out.2.2)))
              clear hm2 ls2 g1
              go_wp2_with fail
              go_roundw
              case rel => exact ⟨k + 1, by omega, by go_num, m2, E2, Lib.hid (T2.out.1), Lib.hid (B0R.out.trans B2.out)⟩
              case measure => simp [Go.RowKit.intOf]; omega
            · go_wp2_with fail
              go_roundw
              case rel => exact ⟨k + 1, by omega, by go_num, m0, E0, Lib.hid (T0.out), Lib.hid (B0R.out)⟩
              case measure => simp [Go.RowKit.intOf]; omega
          · go_wp2_with fail
            go_roundw
            case rel => exact ⟨k + 1, by omega, by go_num, m0, E0, Lib.hid (T0.out), Lib.hid (B0R.out)⟩
            case measure => simp [Go.RowKit.intOf]; omega
      · skip
        by_cases kb : k < n2
        · obtain ⟨bB, oB, rfl, LB, hcB⟩ := HY.out (by rw [← N2.out]; omega)
          obtain ⟨sB, hsB⟩ : ∃ s, s = ys.getD k ⟨#[]⟩ := ⟨_, rfl⟩
          have cB := hcB k (by rw [← N2.out]; exact kb)
          rw [← hsB] at cB
          clear hcB hsB
          have cB0 := (B0R.out.cell (p := ⟨bB, oB + k, none⟩) LB).trans cB
          clear cB
          have cB := cB0
          clear cB0
          by_cases kl : sB.size ≤ 64
          · go_wp2_with fail
            refine (X'.out.lay _ b m0 1 (k : Int) sB _ T0.out.lft I1.out IK.out (by omega)).mono ?_
            rintro e u1 ⟨rfl, hp, hk⟩
            have T1 := Lib.hid (T0.out.left hp hk)
            clear hp hk
            have g1 := (T1.out.2.cell (p := ⟨bB, oB + k, none⟩) LB).trans cB
            go_wp2_with fail
            refine (eLay p g m0 1 (k : Int) sB _ T1.out.1.r I1.out IK.out (by omega)).mono ?_
            rintro e u2 ⟨rfl, hr, hc⟩
            have T2 := Lib.hid (T1.out.1.right X'.out hr hc)
            clear hr hc
            have B2 := Lib.hid (show Below w.heap.size wo u2 from T1.out.2.trans T2.out.2)
            obtain ⟨m2, hm2⟩ : ∃ m', m' = (m0.lay 1 (k : Int) sB).1 := ⟨_, rfl⟩
            have ls2 := lay_same m0 1 (k : Int) sB
            rw [← hm2] at ls2 T2
            have E2 := Lib.hid (And.intro (ls2.1.trans E0.out.1) (And.intro (ls2.2.1.trans E0.out.2.1) (ls2.2.2.trans E0.out.2.2)))
            clear hm2 ls2 g1
            go_wp2_with fail
            go_roundw
            case rel => exact ⟨k + 1, by omega, by go_num, m2, E2, Lib.hid (T2.out.1), Lib.hid (B0R.out.trans B2.out)⟩
            case measure => simp [Go.RowKit.intOf]; omega
          · go_wp2_with fail
            go_roundw
            case rel => exact ⟨k + 1, by omega, by go_num, m0, E0, Lib.hid (T0.out), Lib.hid (B0R.out)⟩
            case measure => simp [Go.RowKit.intOf]; omega
        · go_wp2_with fail
          go_roundw
          case rel => exact ⟨k + 1, by omega, by go_num, m0, E0, Lib.hid (T0.out), Lib.hid (B0R.out)⟩
          case measure => simp [Go.RowKit.intOf]; omega
    · obtain rfl : k = 12 := by omega
      have TT := T0.out
      have OY := Lib.hid (X'.out.openYes _ b m0 0 wo TT.lft E0.out.1 (by rw [E0.out.2.1]; omega))
      have OL := Lib.hid (show (openP (nowC m0 0) (nowC m0 (0 + 1)) m0.sec 0).2.length ≤ 1000000 by have := openP_len (nowC m0 0) (nowC m0 (0 + 1)) m0.sec 0; have := E0.out.2.2; omega)
      have OB := Lib.hid (openP_busy (nowC m0 0) (nowC m0 (0 + 1)) m0.sec 0)
      have SM := Lib.hid (X'.out.pOk TT.lft).2
      have RY := Lib.hid (fun w' (h : RefE w' p g m0) => rOpen_yes p g m0 0 w' h E0.out.1 (by rw [E0.out.2.1]; omega) SM.out)
      obtain ⟨o, ho⟩ : ∃ o, o = openP (nowC m0 0) (nowC m0 (0 + 1)) m0.sec 0 := ⟨_, rfl⟩
      rw [← ho] at OY RY OL OB
      have HO := Lib.hid ho
      clear TT ho
      go_wp2_with fail
      refine OY.out.mono ?_
      rintro e w4 ⟨⟨bl, v4, rfl, ho4, hq⟩, hk4⟩
      have T4 := Lib.hid (T0.out.r.keep hk4 (fun q => q (.inr (.inl rfl))) (fun q => q (.inr (.inr rfl))))
      have B4 := Lib.hid (B0R.out.trans (hk4.below (B := w.heap.size) (fun _ q => .inl q) T0.out.s))
      have Q4 := Lib.hid hq
      obtain ⟨A4, c4, rfl, hs4⟩ := ho4.sl
      have S4 := Lib.hid hs4
      clear hq hk4 ho4 hs4
      go_wp2_with fail
      refine (RY.out w4 T4.out).mono ?_
      rintro e w5 ⟨⟨pl, v5, rfl, hl5, hlt5, ho5⟩, hb5⟩
      obtain ⟨A5, c5, rfl, hs5⟩ := ho5.sl
      have S5 := Lib.hid hs5
      have S45 := Lib.hid (S4.out.below hb5)
      have B5 := Lib.hid (below_then B4.out hb5)
      have RL := Lib.hid hl5
      have Q5 := Lib.hid (X'.out.qKeep (M := fun k => ((k < w.heap.size ∨ k = p ∨ k = g) ∨ (Value.slice A4 o.2.length c4).ownBlock = some k) ∨ k = pl) Q4.out (fun k hk _ => hb5.block k hk) hb5.size (fun k q => by
        rcases q with q | q
        · exact .inl q
        · exact .inr (by omega)) (fun k q => by
        rcases q with q | q
        · exact Nat.lt_of_lt_of_le (X'.out.qLt Q4.out k q) hb5.size
        · rw [q]; exact RL.out.lt))
      clear hs5 ho5 hb5 hl5 hlt5
      obtain ⟨N5, hN5⟩ : ∃ N5 : Nat → Prop, N5 = fun k => ((k < w.heap.size ∨ k = p ∨ k = g) ∨ (Value.slice A4 o.2.length c4).ownBlock = some k) ∨ k = pl := ⟨_, rfl⟩
      rw [← hN5] at Q5
      have NB := Lib.hid (show ∀ k, k < w.heap.size → N5 k from fun k q => by rw [hN5]; exact .inl (.inl (.inl q)))
      have NL := Lib.hid (show N5 pl by rw [hN5]; exact .inr rfl)
      clear hN5
      have HC5 := Lib.hid (show w5.cell? ⟨pl, 3, none⟩ = some (.int .i64 o.1.gen) ∧ w5.cell? ⟨pl, 4, none⟩ = some (.int .i64 (o.1.used : Int)) from ⟨RL.out.cell 3, RL.out.cell 4⟩)
      have b5 := B5.out.size
      have c53 := HC5.out.1
      have c54 := HC5.out.2
      obtain ⟨q5, hq5⟩ : ∃ q5, q5 = o.2.length := ⟨_, rfl⟩
      have HQ5 := Lib.hid hq5
      rw [← hq5]
      clear hq5
      have SC := Lib.hid (show ∀ wx, Below w5.heap.size w5 wx → Calls Tryd.prog 25 #[.slice A4 q5 c4, .slice A5 q5 c5] wx (fun e w' => e = .returned (.bool true) ∧ Below w5.heap.size w5 w') from fun wx hb => by
        rw [HQ5.out]
        exact (same7 A4 A5 c4 c5 o.2 o.2 wx (S45.out.below hb) (S5.out.below hb) OL.out OL.out).mono fun _ _ h => ⟨by rw [h.1]; simp, below_then hb h.2⟩)
      go_wp2_with fail
      go_region_held3 (fun w' => w'.cell? ⟨pl, 3, none⟩ = some (.int .i64 o.1.gen) ∧ w'.cell? ⟨pl, 4, none⟩ = some (.int .i64 (o.1.used : Int)))
        (first
          | go_keep
          | exact HC9.out
          | exact HC8.out
          | exact HC7.out
          | exact HC6.out
          | exact HC5.out
          | exact HC5.out.1
          | exact HC5.out.2)
        (first
          | (go_at_call 25; (with_reducible refine (SC.out _ ((Below.refl _ _).drew)).mono ?_); rintro r w6 ⟨rfl, hb6⟩; have RL6 := Lib.hid (RL.out.below hb6); have HC6 := Lib.hid (show w6.cell? ⟨pl, 3, none⟩ = some (.int .i64 o.1.gen) ∧ w6.cell? ⟨pl, 4, none⟩ = some (.int .i64 (o.1.used : Int)) from ⟨RL6.out.cell 3, RL6.out.cell 4⟩); have Q6 := Lib.hid (X'.out.qKeep Q5.out (fun k hk _ => hb6.block k hk) hb6.size (fun _ q => .inl q) (fun k q => Nat.lt_of_lt_of_le (X'.out.qLt Q5.out k q) hb6.size)); have B6 := Lib.hid (below_then B5.out hb6); clear hb6)
          | (go_at_call 13; (with_reducible refine (X'.out.gen _ b bl none m0 _ none _ Q6.out).mono ?_); rintro r w7 ⟨rfl, hq7, hk7⟩; have RL7 := Lib.hid (hk7.row RL6.out NL.out); have HC7 := Lib.hid (show w7.cell? ⟨pl, 3, none⟩ = some (.int .i64 o.1.gen) ∧ w7.cell? ⟨pl, 4, none⟩ = some (.int .i64 (o.1.used : Int)) from ⟨RL7.out.cell 3, RL7.out.cell 4⟩); have Q7 := Lib.hid hq7; have B7 := Lib.hid (B6.out.trans (hk7.below (B := w.heap.size) NB.out B6.out.size)); clear hq7 hk7)
          | (go_at_call 12; (with_reducible refine (X'.out.used _ b bl none m0 _ none _ Q7.out).mono ?_); rintro r w8 ⟨rfl, hq8, hk8⟩; have RL8 := Lib.hid (hk8.row RL7.out NL.out); have HC8 := Lib.hid (show w8.cell? ⟨pl, 3, none⟩ = some (.int .i64 o.1.gen) ∧ w8.cell? ⟨pl, 4, none⟩ = some (.int .i64 (o.1.used : Int)) from ⟨RL8.out.cell 3, RL8.out.cell 4⟩); have Q8 := Lib.hid hq8; have B8 := Lib.hid (B7.out.trans (hk8.below (B := w.heap.size) NB.out B7.out.size)); clear hq8 hk8)
          | (go_at_call 14; (with_reducible refine (X'.out.busy _ b bl none m0 _ none _ Q8.out).mono ?_); rintro r w9 ⟨rfl, hq9, hk9⟩; have RL9 := Lib.hid (hk9.row RL8.out NL.out); have HC9 := Lib.hid (show w9.cell? ⟨pl, 3, none⟩ = some (.int .i64 o.1.gen) ∧ w9.cell? ⟨pl, 4, none⟩ = some (.int .i64 (o.1.used : Int)) from ⟨RL9.out.cell 3, RL9.out.cell 4⟩); have B9 := Lib.hid (B8.out.trans (hk9.below (B := w.heap.size) NB.out B8.out.size)); clear hq9 hk9; rw [OB.out]))
      go_wp2_with fail
      show bodyPost Tryd.prog Tryd.f5 _ .ret _ _
      go_ret
      exact ⟨by first | rfl | simp, B9.out⟩

set_option maxRecDepth 100000 in
theorem lifted {P : RelP} {Q : RelQ} (X : SegAt P Q) (os : Os) (started : os.Started) (H : Type) (enc : TypeId × Value → H) :
    ReturnsInHanded {} Tryd.checked os 5 .any (fun w args => (Rows.seglogRawSpec.pre enc Tryd.prog Tryd.f5 Rows.seglogRawRow.domain false w args ∧ laidMetH Tryd.prog Rows.seglogRawRow.laid w) ∧ sizedMet enc Tryd.prog Tryd.f5 (OpenSpec.ofChange Rows.seglogRawSpec) false w args) (Rows.seglogRawSpec.post enc Tryd.prog Tryd.f5 false true false false) := by
  refine returnsInHanded_of_change_and (C := Tryd.checked) (X := fun w _ => laidMetH Tryd.prog Rows.seglogRawRow.laid w) (fun _ _ _ hh h => h.of_heap hh) own started (by kernel_rfl) Tryd.func5
    (ChangeSpec.witness_shaped (enc := enc) (C := Tryd.checked) (os := os) (X := fun w _ => laidMetH Tryd.prog Rows.seglogRawRow.laid w) false (World.laidAll Tryd.prog os Rows.seglogRawRow.laid) #[.slice none 0 0, .slice none 0 0] 8 (World.laidAll_os _ _ _)
      (World.shaped_of_ZipB (by kernel_rfl) (by kernel_rfl)) (by kernel_rfl) (by kernel_rfl) (by kernel_rfl)
      (by rw [MakeChecks.laidMetH_plain _ _ _ (by kernel_rfl)]; exact laidMet_laidAll _ (by kernel_rfl) (by kernel_rfl))) ?_
  intro W base args ds gs before hval0 hW hcnd _ _ _
  have hval : ∀ (j : Nat) t v, Tryd.f5.params[j]? = some t → args[j]? = some v → Value.okWide Tryd.prog W .any base t v := hval0
  have hW' := hW
  obtain ⟨p, q, hA0, hV, rfl, hfz, hnd⟩ := hW
  have hA : DataW.TrodAll enc Tryd.prog W 0 (fun _ => true) true Tryd.f5.params.toList args.toList ds p := hA0
  rw [Tryd.params5] at hA hval
  obtain ⟨v0, vs0, d0, ds0, p0, q0, hargs0, rfl, rfl, h0, r0⟩ := trodAll_cons hA
  obtain ⟨v1, vs1, d1, ds1, p1, q1, hargs1, rfl, rfl, h1, r1⟩ := trodAll_cons r0
  obtain ⟨rfl, rfl, rfl⟩ := trodAll_nil r1
  obtain rfl : args = #[v0, v1] := by cases args; simp_all
  obtain ⟨rfl, rfl⟩ := trodVars_none hV
  clear hA0 hval0
  simp only [List.append_nil] at hW'
  have l0 : ∀ x ∈ p0, x.block < W.heap.size := fun x hx => hW'.lt x (by simp [hx])
  obtain ⟨A0, c0, x0, rfl, s0, k0⟩ := open_strs7 (hval 0 45 v0 rfl rfl) h0
  have l1 : ∀ x ∈ p1, x.block < W.heap.size := fun x hx => hW'.lt x (by simp [hx])
  obtain ⟨A1, c1, x1, rfl, s1, k1⟩ := open_strs7 (hval 1 45 v1 rfl rfl) h1
  refine (walk X A0 A1 c0 c1 x0 x1 W s0 s1 k0 k1).mono fun e W' ⟨he, hg⟩ => ?_
  subst he
  refine ⟨_, rfl, [d0, d1], [], p0 ++ p1, [], p0 ++ (p1 ++ []), [], hW', ?_, ?_, ?_, hg.frame _, fun h => by cases h⟩
  · exact trodAll_cons_mk (shut_bool Tryd.underlying4 _) trodAll_mk0
  · exact (trodAll_cons_mk (Below.trod laidOut (by kernel_rfl) (of_decide_eq_true (by kernel_rfl)) h0 hg l0) (trodAll_cons_mk (Below.trod laidOut (by kernel_rfl) (of_decide_eq_true (by kernel_rfl)) h1 hg l1) trodAll_mk0))
  · rfl

theorem over {P : RelP} {Q : RelQ} (X : SegAt P Q) : Rows.seglogRawRow.holds Tryd.pinned (OpenSpec.ofChange Rows.seglogRawSpec) :=
  OpenClaim.holds_of_wide 5 Tryd.f5 rfl rfl rfl rfl rfl rfl rfl ⟨rfl, rfl, rfl, rfl, rfl⟩ rfl rfl rfl rfl rfl (by kernel_rfl) Tryd.func5 (by kernel_rfl)
    (of_decide_eq_true (by kernel_rfl)) (by unfold Func.isWrapper; first | (rw [if_pos (by decide +kernel)]; kernel_rfl) | (rw [if_neg (by decide +kernel)]; exact ⟨rfl, rfl⟩))
    (fun os started H enc _ => lifted X os started H enc)

/-- ████ THE STATEMENT: THE TIED CARD ████ -/
theorem stands : Rows.SeglogRawCardSaid :=
  Claim7.holds_tied_plain_at .later [] [.data, .pinned] true Rows.seglogRawCard.stood.harness false (over theX7) (fun _ h => by cases h) (by kernel_rfl) (fun _ h => by cases h) seglogRaw_row_tie rfl ⟨rfl, rfl⟩ (by kernel_rfl) rfl
    (fun f fn hf hfn => by
      obtain rfl : f = 5 := Option.some.inj ((show Tryd.prog.funcNamed Rows.seglogRawRow.func = some 5 by kernel_rfl).symm.trans hf) |>.symm
      obtain rfl : fn = Tryd.f5 := (Option.some.inj (Tryd.func5.symm.trans hfn)).symm
      exact ⟨by kernel_rfl, fun j t ht => by
        have hall : (Tryd.f5.params.toList.all fun u => !Tryd.prog.wantsStandIn u) = true := by kernel_rfl
        have hm : t ∈ Tryd.f5.params.toList := by simpa using Array.mem_of_getElem? ht
        exact (show Tryd.prog.wantsStandIn t = false by simpa using List.all_eq_true.1 hall t hm)⟩)
    (by kernel_rfl)
#print axioms stands

end Go.Proofs.YtfodclafkdkjbaaDoor.seglogRaw
