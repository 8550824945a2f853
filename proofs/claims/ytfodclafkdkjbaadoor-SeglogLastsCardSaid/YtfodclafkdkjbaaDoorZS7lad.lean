/- Proved: SeglogLasts: for every number and acts the law returns true, and its arguments read behind the call as they read before, at this commit. Conditions: none of ours (the card ties the listed variables of Go's library to the program's text). -/
import Derived.Test.YtfodclafkdkjbaaDoorM47
import Derived.Test.YtfodclafkdkjbaaDoorM48
import Derived.Test.YtfodclafkdkjbaaDoorCards
import Derived.Test.YtfodclafkdkjbaaDoorTie
import Derived.LaidMore
import Derived.Lay
import Derived.SevenTiedAt
import Derived.Stop.Joined
import Derived.Lib.SmallJoins
import Derived.ChangeMaps5
namespace Go.Proofs.YtfodclafkdkjbaaDoor.seglogLasts
open Go.Proofs.YtfodclafkdkjbaaDoor Go.Joins Go.ChangeShapes Go.WideShapes Go.ChangeAt Go.RowKit Go.Deep
open Go.ChangeMaps (open_string shut_string)

set_option maxRecDepth 100000 in
set_option maxHeartbeats 8000000 in
theorem walk {P : RelP} {Q : RelQ} (X : SegAt P Q) (n : Int) (A1 : Option Addr) (c1 : Nat) (xs : List Act7) (w : World) (hn : (Lit.int .i64 n).wf = true) (hs : SlAc7 w.heap.size w A1 xs) (hk : AcsOk7 xs) :
    Calls Tryd.prog 4 #[.int .i64 n, .slice A1 xs.length c1] w fun e w' => e = .returned (.bool true) ∧ Below w.heap.size w w' := by
  have IN := bounds_i64 hn
  obtain ⟨n1, hn1⟩ : ∃ n, n = xs.length := ⟨_, rfl⟩
  have l1 := hk.1
  rw [← hn1] at l1 ⊢
  have H1 := Lib.hid hs
  have O1 := Lib.hid hk
  have HN1 := Lib.hid hn1
  have AW := Lib.hid (awake7 X)
  have NW := Lib.hid (X.new 2 n)
  have X' := Lib.hid X
  clear hs hk hn1 X hn
  go_enter Tryd.func4, Tryd.ntmps4
  go_wp2_with fail
  refine (AW.out _).mono ?_
  rintro e w1 ⟨rfl, hb1⟩
  have B1 := Lib.hid hb1
  clear hb1 AW
  by_cases r1 : n < 1
  · go_wp2_with fail
    go_ret
    exact ⟨rfl, B1.out⟩
  by_cases r2 : 12 < n
  · go_wp2_with fail
    go_ret
    exact ⟨rfl, B1.out⟩
  have FT := Lib.hid (show Ext.fits 2 n = true by unfold Ext.fits; simp; omega)
  obtain ⟨s, rfl⟩ := Int.eq_ofNat_of_zero_le (show 0 ≤ n by omega)
  obtain ⟨m0, h0⟩ : ∃ m0, m0 = Ext.new 2 s := ⟨_, rfl⟩
  have LI := Lib.hid (show LInv m0 ⟨0, 1, 0, 0, 1, false⟩ none [] [] by rw [h0]; exact lInv_new s FT.out)
  have OP := Lib.hid (show openP (nowC m0 0) (nowC m0 1) m0.sec 0 = (⟨0, 1, 0, 0, 1, false⟩, []) by rw [h0]; exact open_new 2 s 0 (by omega))
  have M0 := Lib.hid (show m0.off = false ∧ m0.ext = 2 ∧ m0.sec = s by rw [h0]; exact ⟨rfl, rfl, rfl⟩)
  have GK := Lib.hid (show GOk s ⟨0, 1, 0, 0, 1, false⟩ none by
    have := GOk.open_ (c := nowC m0 0) (d := nowC m0 1) (S := s) (f := 0) (by omega) (by omega) (by omega)
    have e := OP.out
    rw [M0.out.2.2] at e
    rw [e] at this; exact this)
  have H0 := Lib.hid h0
  clear h0
  go_wp2_with fail
  refine (NW.out w1 ⟨by decide, by decide⟩ ⟨by omega, by omega⟩).mono ?_
  rintro e w2 ⟨hb2, ⟨_, b, rfl, hp⟩ | ⟨hff, _⟩⟩
  case inr => exact absurd FT.out (by rw [hff]; decide)
  have P2 := Lib.hid (show P w2 (fun k => k < w1.heap.size) b m0 by rw [H0.out]; exact hp)
  have B2 := Lib.hid (below_then B1.out hb2)
  have L1 := Lib.hid (show w.heap.size ≤ w1.heap.size from B1.out.size)
  clear hp hb2 NW
  go_wp2_with fail
  refine (X'.out.openYes _ b m0 0 w2 P2.out M0.out.1 (by rw [M0.out.2.1]; omega)).mono ?_
  rintro e w3 ⟨⟨bl, v3, rfl, ho3, hq3⟩, hk3⟩
  rw [show openP (nowC m0 0) (nowC m0 (0 + 1)) m0.sec 0 = (⟨0, 1, 0, 0, 1, false⟩, []) from OP.out] at hq3 ho3
  obtain ⟨A3, c3, hv3, _⟩ := ho3.form
  simp only [List.length_nil] at hv3
  subst hv3
  have B3 := Lib.hid (B2.out.trans (hk3.below (B := w.heap.size) (fun k q => by have := L1.out; show k < w1.heap.size; omega) B2.out.size))
  have F3 := Lib.hid (show La7F Q s b w w3 (.pointer (some ⟨bl, 0, none⟩)) (.pointer none) (.slice (some ⟨w3.heap.size, 0, none⟩) 0 0) (.slice (some ⟨w3.heap.size + 1, 0, none⟩) 0 0) _ bl none m0 ⟨0, 1, 0, 0, 1, false⟩ none [] [] _ _ _ _ from
    ⟨rfl, rfl, rfl, rfl, hq3, fun k q => .inl (by have := L1.out; show k < w1.heap.size; omega), ⟨fun h => absurd h (by simp), fun h => absurd h (by simp)⟩, ⟨fun h => absurd h (by simp), fun h => absurd h (by simp)⟩, ⟨fun _ => rfl, fun _ => rfl⟩, M0.out.2.2, LI.out, GK.out, B3.out⟩)
  have F4 := Lib.hid (F3.out.new X'.out (w' := (w3.alloc (.cells #[] 9)).alloc (.cells #[] 9)) (((Below.refl _ _).alloc (Nat.le_refl _) _).alloc (by simp) _))
  have G4 := Lib.hid F4.out.any
  clear hq3 hk3 ho3 F3 F4 LI OP M0 GK H0 P2 B1 B2 B3 FT L1
  go_wp2_with fail
  go_loopw [7, 8, 10, 11, 12, 13] (fun vg vr vx vk vn vi wr => ∃ k : Nat, vi = .int .i64 k ∧ k ≤ n1 ∧ k ≤ 120 ∧ Hid (La7 Q s b w wr vg vx vk vn)) (fun _ _ _ _ _ vi _ => n1 - (Go.RowKit.intOf vi).toNat)
  case atStart => exact ⟨0, rfl, Nat.zero_le _, by omega, G4⟩
  case round =>
    obtain ⟨k, rfl, kn, k120, HM⟩ := hrel
    by_cases q1 : k < n1
    case neg =>
      obtain ⟨N, bl, bx, m, l, ox, kept, next, AK, AN, cK, cN, F⟩ := HM.out
      have BE := Lib.hid F.bel
      clear F
      go_wp2_with fail
      show bodyPost Tryd.prog Tryd.f4 _ .ret _ _
      go_ret
      exact ⟨rfl, BE.out⟩
    by_cases q2 : k < 120
    case neg =>
      obtain ⟨N, bl, bx, m, l, ox, kept, next, AK, AN, cK, cN, F⟩ := HM.out
      have BE := Lib.hid F.bel
      clear F
      go_wp2_with fail
      show bodyPost Tryd.prog Tryd.f4 _ .ret _ _
      go_ret
      exact ⟨rfl, BE.out⟩
    obtain ⟨N, bl, bx, m, l, ox, kept, next, AK, AN, cK, cN, F⟩ := HM.out
    clear HM
    obtain ⟨bA, oA, xk, xs', xe, xa, ps, PL, AP, cP, rfl, _, ok, hPL, hc, hN, hA⟩ := elem_at7 H1.out O1.out (k := k) (by rw [← HN1.out]; exact q1)
    obtain ⟨e0, e1, e2, e3, e4, _⟩ := hc wr F.bel
    have i0 : (0 : Int) ≤ (k : Int) := by omega
    have i1 : (k : Int) < (n1 : Int) := by omega
    have SP := Lib.hid (fun v hv => (hc v hv).2.2.2.2.2)
    have OK := Lib.hid ok
    have HPL := Lib.hid hPL
    have HNA := Lib.hid (And.intro hN hA)
    have mXS : xs'.size ≤ 9223372036854775807 := ok.2.2.2.1
    have mPL : PL ≤ 9223372036854775807 := by rw [hPL]; exact ok.2.2.2.2.1
    have eg := F.eg
    have ek := F.ek
    have en := F.en
    subst eg ek en
    have EX := Lib.hid F.ex
    have FB := Lib.hid (F.box X'.out (.cells #[.int .i64 xk, .string xs', .int .i64 xe, .int .i64 xa, .slice AP PL cP] 40))
    have RB := Lib.hid (RowAt.new wr [.int .i64 xk, .string xs', .int .i64 xe, .int .i64 xa, .slice AP PL cP] 40)
    have LN := Lib.hid F.i.len
    obtain ⟨nK, hnK⟩ : ∃ nK, nK = kept.length := ⟨_, rfl⟩
    obtain ⟨nN, hnN⟩ : ∃ nN, nN = next.length := ⟨_, rfl⟩
    rw [← hnK, ← hnN] at FB ⊢
    have HNK := Lib.hid hnK
    have HNN := Lib.hid hnN
    clear F hc hN hA ok hPL hnK hnN
    by_cases z1 : 800 < xs'.size
    · have RR := Lib.hid FB.out.any
      go_wp2_with fail
      go_roundw
      case rel => exact ⟨k + 1, by go_num, by omega, by omega, RR⟩
      case measure => simp [Go.RowKit.intOf]; omega
    by_cases z2 : 100 < PL
    · have RR := Lib.hid FB.out.any
      go_wp2_with fail
      go_roundw
      case rel => exact ⟨k + 1, by go_num, by omega, by omega, RR⟩
      case measure => simp [Go.RowKit.intOf]; omega
    by_cases k1 : xk = 1
    · skip
      subst k1
      have S5 := Lib.hid (show xs'.size ≤ 5000 by omega)
      go_wp2_with fail
      refine (X'.out.record _ b bl bx m l ox xs' _ FB.out.q S5.out).mono ?_
      rintro r w3 ⟨hr, hk3⟩
      have IW := Lib.hid (FB.out.i.write xs' false)
      cases hw : (l.write m.sec xs' false).2.1 with
      | none =>
        rw [hw] at hr
        obtain ⟨rfl, hq⟩ := hr
        have RR := Lib.hid (FB.out.same hq hk3).any
        have ne : (l.write m.sec xs' false).2.2 ≠ 0 := fun z => by
          obtain ⟨x, hx, _⟩ := IW.out.1 z
          rw [hw] at hx; cases hx
        obtain ⟨cd, hcd⟩ : ∃ cd, cd = (l.write m.sec xs' false).2.2 := ⟨_, rfl⟩
        rw [← hcd] at ne ⊢
        have t : (cd == 0) = false := by rw [beq_eq_false_iff_ne]; exact ne
        clear hq hk3 hw IW hcd
        go_wp2_with fail
        go_roundw
        case rel => exact ⟨k + 1, by go_num, by omega, by omega, RR⟩
        case measure => simp [Go.RowKit.intOf]; omega
      | some y =>
        rw [hw] at hr
        obtain ⟨px, rfl, hq⟩ := hr
        have W3' := FB.out.wrote xs' false hw hq hk3
        rw [if_neg (by simp)] at W3'
        have W3 := Lib.hid W3'
        have RB3 := Lib.hid (hk3.row RB.out (.inr rfl))
        have LQ := Lib.hid (show wr.heap.size < w3.heap.size from RB3.out.lt)
        have HB3 := Lib.hid (show w3.cell? ⟨wr.heap.size, 1, none⟩ = some (.string xs') from RB3.out.cell 1)
        have c31 := HB3.out
        have hnk := HNK.out
        subst hnk
        have SK := Lib.hid W3'.kp.1
        clear hq hk3 hw IW W3'
        clear e0 e1 e2 e3 e4
        go_wp2_with fail
        go_region_held_law (fun w' => w'.cell? ⟨wr.heap.size, 1, none⟩ = some (.string xs'))
          (first
            | go_keep
            | exact HCb.out
            | exact HCa.out
            | exact HB3.out)
          (first
            | (refine step_appS rfl (.tmp 90) (.tmp 93) rfl w3.heap.size _ kept [xs'] rfl (by first | exact HA.out | exact HA.out.alloc _) _ 1 rfl (by first | exact SY.out | exact slS_one _ _ _) (by have := LN.out; simp only [List.length_cons, List.length_nil]; omega) (by first | exact BA.out.size | exact Nat.le_trans BA.out.size (by simp)) ?_
               intro vb wb hb gb bb
               have BB := Lib.hid (show Below w3.heap.size w3 wb from by first | exact BA.out.trans bb | exact (BA.out.alloc BA.out.size _).trans bb)
               have HB := Lib.hid hb
               have HCb := Lib.hid ((BB.out.cell (p := ⟨wr.heap.size, 1, none⟩) LQ.out).trans HB3.out)
               have cb := HCb.out
               clear gb bb hb)
            | (refine step_appS rfl (.tmp 88) (.tmp 89) rfl w3.heap.size _ [] kept rfl (by first | exact OwnS.made w3.drew (Nat.le_refl _) | exact (OwnS.made w3.drew (Nat.le_refl _)).alloc _ | exact OwnS.madeAt (w3.drew.alloc (.cells #[.string xs'] 9)) (by simp) (by simp)) AK cK rfl (by first | exact SK.out.drewN 1 | exact (SK.out.drewN 1).alloc _ | exact ((SK.out.drewN 1).alloc _).alloc _) (by have := LN.out; simp only [List.length_nil]; omega) (by first | exact Nat.le_refl _ | exact Nat.le_succ _ | exact Nat.le_trans (Nat.le_succ _) (Nat.le_succ _) | (simp; done) | (simp; omega)) ?_
               intro va wa ha ga ba
               rw [List.nil_append] at ha
               have BA := Lib.hid (show Below w3.heap.size w3 wa from by first | exact ((Below.refl w3.heap.size w3).drew.alloc (by simp) _).trans ba | exact (((Below.refl w3.heap.size w3).drew.alloc (by simp) _).alloc (by simp) _).trans ba)
               have HA := Lib.hid ha
               have HCa := Lib.hid ((BA.out.cell (p := ⟨wr.heap.size, 1, none⟩) LQ.out).trans HB3.out)
               have ca := HCa.out
               first
                 | have SY := Lib.hid (show SlS wa (some ⟨w3.heap.size + 1, 0, none⟩) [xs'] from slS_grown_ne (by have h := slS_one (w3.drew.alloc (.cells #[] 9)) xs' 9; rw [show (w3.drew.alloc (.cells #[] 9)).heap.size = w3.heap.size + 1 by simp] at h; exact h) ga (by simp))
                 | have SY := Lib.hid (slS_grown_ne ((slS_one w3.drew xs' 9).alloc (.cells #[] 9)) ga (by simp))
                 | skip
               clear ga ba ha))
        all_goals
          have RR := Lib.hid (W3.out.row X'.out BB.out HB.out)
          go_wp2_with fail
          go_roundw
          case rel => exact ⟨k + 1, by go_num, by omega, by omega, RR⟩
          case measure => simp [Go.RowKit.intOf]; omega
    by_cases k2 : xk = 2
    · skip
      subst k2
      have S5 := Lib.hid (show xs'.size ≤ 5000 by omega)
      go_wp2_with fail
      refine (X'.out.base _ b bl bx m l ox xs' _ FB.out.q S5.out).mono ?_
      rintro r w3 ⟨hr, hk3⟩
      have IW := Lib.hid (FB.out.i.write xs' true)
      cases hw : (l.write m.sec xs' true).2.1 with
      | none =>
        rw [hw] at hr
        obtain ⟨rfl, hq⟩ := hr
        have RR := Lib.hid (FB.out.same hq hk3).any
        have ne : (l.write m.sec xs' true).2.2 ≠ 0 := fun z => by
          obtain ⟨x, hx, _⟩ := IW.out.1 z
          rw [hw] at hx; cases hx
        obtain ⟨cd, hcd⟩ : ∃ cd, cd = (l.write m.sec xs' true).2.2 := ⟨_, rfl⟩
        rw [← hcd] at ne ⊢
        have t : (cd == 0) = false := by rw [beq_eq_false_iff_ne]; exact ne
        clear hq hk3 hw IW hcd
        go_wp2_with fail
        go_roundw
        case rel => exact ⟨k + 1, by go_num, by omega, by omega, RR⟩
        case measure => simp [Go.RowKit.intOf]; omega
      | some y =>
        rw [hw] at hr
        obtain ⟨px, rfl, hq⟩ := hr
        have W3' := FB.out.wrote xs' true hw hq hk3
        rw [if_pos rfl, List.nil_append] at W3'
        have W3 := Lib.hid W3'
        have RB3 := Lib.hid (hk3.row RB.out (.inr rfl))
        have c31 : w3.cell? ⟨wr.heap.size, 1, none⟩ = some (.string xs') := RB3.out.cell 1
        have RR := Lib.hid (W3.out.row X'.out (w' := w3.alloc (.cells #[.string xs'] 9)) ((Below.refl _ _).alloc (Nat.le_refl _) _) (OwnS.one w3 xs' (Nat.le_refl _)))
        clear hq hk3 hw IW W3' e0 e1 e2 e3 e4
        go_wp2_with fail
        go_roundw
        case rel => exact ⟨k + 1, by go_num, by omega, by omega, RR⟩
        case measure => simp [Go.RowKit.intOf]; omega
    by_cases k3 : xk = 3
    · skip
      subst k3
      cases bx with
      | none =>
        have ex := EX.out
        simp only [ptrOf] at ex
        subst ex
        go_wp2_with fail
        refine (X'.out.moveNil _).mono ?_
        rintro r w3 ⟨rfl, hb3⟩
        have RR := Lib.hid (FB.out.new X'.out hb3).any
        clear hb3
        go_wp2_with fail
        go_roundw
        case rel => exact ⟨k + 1, by go_num, by omega, by omega, RR⟩
        case measure => simp [Go.RowKit.intOf]; omega
      | some px =>
        have ex := EX.out
        simp only [ptrOf] at ex
        subst ex
        cases ox with
        | none => exact absurd (FB.out.xo.2 rfl) (by simp)
        | some y =>
          have MK := Lib.hid (show MvOk m.sec l y by rw [FB.out.sec]; exact FB.out.g.mv)
          go_wp2_with fail
          refine (X'.out.move _ b bl px m l y _ FB.out.q MK.out).mono ?_
          rintro r w3 ⟨rfl, hq, hk⟩
          have MV := Lib.hid (FB.out.moved hq hk)
          rw [MV.out.1]
          obtain ⟨mv, hmv⟩ : ∃ mv, mv = (Go.Proofs.YtfodclafkdkjbaaDoor.move m l y).2.2.2.1 := ⟨_, rfl⟩
          rw [← hmv] at MV ⊢
          clear hq hk hmv
          by_cases c : mv = 2
          · subst c
            have RR := Lib.hid MV.out.2
            rw [if_pos rfl] at RR
            clear MV
            go_wp2_with fail
            go_roundw
            case rel => exact ⟨k + 1, by go_num, by omega, by omega, RR⟩
            case measure => simp [Go.RowKit.intOf]; omega
          · have RR := Lib.hid MV.out.2
            rw [if_neg c] at RR
            have t : (mv == 2) = false := by rw [beq_eq_false_iff_ne]; exact c
            clear MV
            go_wp2_with fail
            go_roundw
            case rel => exact ⟨k + 1, by go_num, by omega, by omega, RR⟩
            case measure => simp [Go.RowKit.intOf]; omega
    by_cases k5 : xk = 5
    · skip
      subst k5
      have S5 := Lib.hid (SP.out _ FB.out.bel)
      have HP := HPL.out
      subst HP
      go_wp2_with fail
      refine (X'.out.crash _ b m AP cP ps _ (X'.out.qP FB.out.q) S5.out (fun h g o e => FB.out.n g (HNA.out.2 h g o e)) OK.out.2.2.2.2 HNA.out.1).mono ?_
      rintro r w3 ⟨rfl, hp3, hk3⟩
      have P3 := Lib.hid hp3
      have K3 := Lib.hid hk3
      clear hp3 hk3
      go_wp2_with fail
      refine (X'.out.start _ b _ w3 P3.out).mono ?_
      rintro r w4 ⟨rfl, hp4, hk4⟩
      obtain ⟨m', hm'⟩ : ∃ m', m' = (m.crash ps).1.start.1 := ⟨_, rfl⟩
      rw [← hm'] at hp4
      have P4 := Lib.hid hp4
      have K4 := Lib.hid (K3.out.then hk4)
      obtain ⟨o, ho⟩ : ∃ o, o = openP (nowC m' 0) (nowC m' 1) m'.sec 0 := ⟨_, rfl⟩
      have CI := Lib.hid (FB.out.i.crash ps m' hm' o ho)
      have SE := Lib.hid (show m'.sec = s by rw [hm', crash_sec]; exact FB.out.sec)
      have OY := Lib.hid (X'.out.openYes _ b m' 0 w4 P4.out CI.out.2.off (by rw [CI.out.2.ext]; omega))
      have OE : openP (nowC m' 0) (nowC m' (0 + 1)) m'.sec 0 = o := ho.symm
      rw [OE] at OY
      have GN := Lib.hid (show GOk s o.1 none by
        have := GOk.open_ (c := nowC m' 0) (d := nowC m' 1) (S := s) (f := 0) (by omega) (by omega) (by omega)
        rw [ho, SE.out]; exact this)
      clear hp4 hk4 hm' ho OE
      go_wp2_with fail
      refine OY.out.mono ?_
      rintro r w5 ⟨⟨bl', v5, rfl, ho5, hq5⟩, hk5⟩
      have K5 := Lib.hid (K4.out.then hk5)
      have B5 := Lib.hid (FB.out.keptB K5.out)
      have LO := Lib.hid (la7_opened hq5 ho5 FB.out.n CI.out.2 SE.out GN.out B5.out)
      obtain ⟨A5, c5, rfl, hs5⟩ := ho5.sl
      have S6 := Lib.hid hs5
      have RK := Lib.hid (FB.out.kp.keep K5.out)
      have RN := Lib.hid (FB.out.nx.keep K5.out)
      have OL := Lib.hid (show o.2.length ≤ 1000000 by have := CI.out.2.len; omega)
      have LK := Lib.hid (show kept.length ≤ 1000000 ∧ next.length ≤ 1000000 by have := LN.out; omega)
      obtain ⟨q5, hq5'⟩ : ∃ q5, q5 = o.2.length := ⟨_, rfl⟩
      have HQ5 := Lib.hid hq5'
      rw [← hq5'] at LO ⊢
      clear hq5 hk5 ho5 hs5 hq5'
      have SK := Lib.hid (show Calls Tryd.prog 25 #[.slice A5 q5 c5, .slice AK nK cK] w5 (fun e w' => e = .returned (.bool (decide (o.2 = kept))) ∧ Below w5.heap.size w5 w') by
        rw [HQ5.out, HNK.out]
        exact same7 A5 AK c5 cK o.2 kept w5 S6.out RK.out.1 OL.out LK.out.1)
      by_cases c : o.2 = kept
      · rw [decide_eq_true c] at SK
        clear c
        go_wp2_with fail
        refine SK.out.mono ?_
        rintro r w6 ⟨rfl, hb6⟩
        have RR := Lib.hid (LO.out.new X'.out hb6)
        clear hb6
        go_wp2_with fail
        go_roundw
        case rel => exact ⟨k + 1, by go_num, by omega, by omega, RR⟩
        case measure => simp [Go.RowKit.intOf]; omega
      · rw [decide_eq_false c] at SK
        rcases CI.out.1 with q | ⟨q, q'⟩
        · exact absurd q c
        have BX : bx ≠ none := fun e => q (FB.out.xo.1 e)
        cases bx with
        | none => exact absurd rfl BX
        | some px =>
          have ex := EX.out
          simp only [ptrOf] at ex
          subst ex
          have SN := Lib.hid (show ∀ wx, Below w5.heap.size w5 wx → Calls Tryd.prog 25 #[.slice A5 q5 c5, .slice AN nN cN] wx (fun e w' => e = .returned (.bool true) ∧ Below w5.heap.size w5 w') from fun wx hb => by
            rw [HQ5.out, HNN.out]
            exact (same7 A5 AN c5 cN o.2 next wx (S6.out.below hb) (RN.out.1.below hb) OL.out LK.out.2).mono fun _ _ h => ⟨by rw [h.1, decide_eq_true q'], below_then hb h.2⟩)
          clear c BX
          go_wp2_with fail
          refine SK.out.mono ?_
          rintro r w6 ⟨rfl, hb6⟩
          have SN6 := Lib.hid (SN.out w6 hb6)
          clear hb6 q q'
          go_wp2_with fail
          refine SN6.out.mono ?_
          rintro r w7 ⟨rfl, hb7⟩
          have RR := Lib.hid (LO.out.new X'.out hb7)
          clear hb7
          go_wp2_with fail
          go_roundw
          case rel => exact ⟨k + 1, by go_num, by omega, by omega, RR⟩
          case measure => simp [Go.RowKit.intOf]; omega
    have t1 : (xk == 1) = false := by rw [beq_eq_false_iff_ne]; exact k1
    have t2 : (xk == 2) = false := by rw [beq_eq_false_iff_ne]; exact k2
    have t3 : (xk == 3) = false := by rw [beq_eq_false_iff_ne]; exact k3
    have t5 : (xk == 5) = false := by rw [beq_eq_false_iff_ne]; exact k5
    have RR := Lib.hid FB.out.any
    go_wp2_with fail
    go_roundw
    case rel => exact ⟨k + 1, by go_num, by omega, by omega, RR⟩
    case measure => simp [Go.RowKit.intOf]; omega

set_option maxRecDepth 100000 in
theorem lifted {P : RelP} {Q : RelQ} (X : SegAt P Q) (os : Os) (started : os.Started) (H : Type) (enc : TypeId × Value → H) :
    ReturnsInHanded {} Tryd.checked os 4 .any (fun w args => (Rows.seglogLastsSpec.pre enc Tryd.prog Tryd.f4 Rows.seglogLastsRow.domain false w args ∧ laidMetH Tryd.prog Rows.seglogLastsRow.laid w) ∧ sizedMet enc Tryd.prog Tryd.f4 (OpenSpec.ofChange Rows.seglogLastsSpec) false w args) (Rows.seglogLastsSpec.post enc Tryd.prog Tryd.f4 false true false false) := by
  refine returnsInHanded_of_change_and (C := Tryd.checked) (X := fun w _ => laidMetH Tryd.prog Rows.seglogLastsRow.laid w) (fun _ _ _ hh h => h.of_heap hh) own started (by kernel_rfl) Tryd.func4
    (ChangeSpec.witness_shaped (enc := enc) (C := Tryd.checked) (os := os) (X := fun w _ => laidMetH Tryd.prog Rows.seglogLastsRow.laid w) false (World.laidAll Tryd.prog os Rows.seglogLastsRow.laid) #[.int .i64 0, .slice none 0 0] 8 (World.laidAll_os _ _ _)
      (World.shaped_of_ZipB (by kernel_rfl) (by kernel_rfl)) (by kernel_rfl) (by kernel_rfl) (by kernel_rfl)
      (by rw [MakeChecks.laidMetH_plain _ _ _ (by kernel_rfl)]; exact laidMet_laidAll _ (by kernel_rfl) (by kernel_rfl))) ?_
  intro W base args ds gs before hval0 hW hcnd _ _ _
  have hval : ∀ (j : Nat) t v, Tryd.f4.params[j]? = some t → args[j]? = some v → Value.okWide Tryd.prog W .any base t v := hval0
  have hW' := hW
  obtain ⟨p, q, hA0, hV, rfl, hfz, hnd⟩ := hW
  have hA : DataW.TrodAll enc Tryd.prog W 0 (fun _ => true) true Tryd.f4.params.toList args.toList ds p := hA0
  rw [Tryd.params4] at hA hval
  obtain ⟨v0, vs0, d0, ds0, p0, q0, hargs0, rfl, rfl, h0, r0⟩ := trodAll_cons hA
  obtain ⟨v1, vs1, d1, ds1, p1, q1, hargs1, rfl, rfl, h1, r1⟩ := trodAll_cons r0
  obtain ⟨rfl, rfl, rfl⟩ := trodAll_nil r1
  obtain rfl : args = #[v0, v1] := by cases args; simp_all
  obtain ⟨rfl, rfl⟩ := trodVars_none hV
  clear hA0 hval0
  simp only [List.append_nil] at hW'
  obtain ⟨x0, rfl, rfl, rfl, w0⟩ := open_int Tryd.underlying3 (hval 0 3 v0 rfl rfl) h0
  have l1 : ∀ x ∈ p1, x.block < W.heap.size := fun x hx => hW'.lt x (by simp [hx])
  obtain ⟨A1, c1, x1, rfl, s1, k1⟩ := open_acts7 (hval 1 22 v1 rfl rfl) h1
  refine (walk X x0 A1 c1 x1 W w0 s1 k1).mono fun e W' ⟨he, hg⟩ => ?_
  subst he
  refine ⟨_, rfl, [.lit (.int .i64 x0), d1], [], [] ++ p1, [], [] ++ (p1 ++ []), [], hW', ?_, ?_, ?_, hg.frame _, fun h => by cases h⟩
  · exact trodAll_cons_mk (shut_bool Tryd.underlying4 _) trodAll_mk0
  · exact (trodAll_cons_mk (shut_int Tryd.underlying3 w0) (trodAll_cons_mk (Below.trod laidOut (by kernel_rfl) (of_decide_eq_true (by kernel_rfl)) h1 hg l1) trodAll_mk0))
  · rfl

theorem over {P : RelP} {Q : RelQ} (X : SegAt P Q) : Rows.seglogLastsRow.holds Tryd.pinned (OpenSpec.ofChange Rows.seglogLastsSpec) :=
  OpenClaim.holds_of_wide 4 Tryd.f4 rfl rfl rfl rfl rfl rfl rfl ⟨rfl, rfl, rfl, rfl, rfl⟩ rfl rfl rfl rfl rfl (by kernel_rfl) Tryd.func4 (by kernel_rfl)
    (of_decide_eq_true (by kernel_rfl)) (by unfold Func.isWrapper; first | (rw [if_pos (by decide +kernel)]; kernel_rfl) | (rw [if_neg (by decide +kernel)]; exact ⟨rfl, rfl⟩))
    (fun os started H enc _ => lifted X os started H enc)

/-- ████ THE STATEMENT: THE TIED CARD ████ -/
theorem stands : Rows.SeglogLastsCardSaid :=
  Claim7.holds_tied_plain_at .later [] [.data, .pinned] true Rows.seglogLastsCard.stood.harness false (over theX7) (fun _ h => by cases h) (by kernel_rfl) (fun _ h => by cases h) seglogLasts_row_tie rfl ⟨rfl, rfl⟩ (by kernel_rfl) rfl
    (fun f fn hf hfn => by
      obtain rfl : f = 4 := Option.some.inj ((show Tryd.prog.funcNamed Rows.seglogLastsRow.func = some 4 by kernel_rfl).symm.trans hf) |>.symm
      obtain rfl : fn = Tryd.f4 := (Option.some.inj (Tryd.func4.symm.trans hfn)).symm
      exact ⟨by kernel_rfl, fun j t ht => by
        have hall : (Tryd.f4.params.toList.all fun u => !Tryd.prog.wantsStandIn u) = true := by kernel_rfl
        have hm : t ∈ Tryd.f4.params.toList := by simpa using Array.mem_of_getElem? ht
        exact (show Tryd.prog.wantsStandIn t = false by simpa using List.all_eq_true.1 hall t hm)⟩)
    (by kernel_rfl)
#print axioms stands

end Go.Proofs.YtfodclafkdkjbaaDoor.seglogLasts
