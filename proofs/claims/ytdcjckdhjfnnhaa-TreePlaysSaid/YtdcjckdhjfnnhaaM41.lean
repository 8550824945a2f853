/- Proved parts: T8w. Conditions: each theorem's own. -/
import Derived.Test.YtdcjckdhjfnnhaaM38
import Derived.Test.YtdcjckdhjfnnhaaM40
import Derived.Test.YtdcjckdhjfnnhaaM28
import Derived.Lib.SmallJoins
import Derived.Deep.CutBlock
import Derived.Deep.CutRange
import Derived.ChangeMaps5
namespace Go.Proofs.Ytdcjckdhjfnnhaa.treePlays
open Go.Proofs.Ytdcjckdhjfnnhaa Go.Joins Go.ChangeShapes Go.WideShapes Go.ChangeAt Go.RowKit Go.Deep Go.Shelf
open Go.ChangeMaps (open_string shut_string)

theorem both_new {w1 w2 : World} {T : Nat} (w : World) (ht : TabG w2 T (fun k => k = T) Tab.bare) (hT : T = w1.heap.size) (h1 : Below w.heap.size w w1) (h2 : Below w1.heap.size w1 w2) :
    Both w (fun k => k < w.heap.size) (w2.alloc (.cells #[.slice none 0 0, .slice none 0 0] 30)) T w2.heap.size [] [] 0 := by
  have hb : Below w2.heap.size w2 (w2.alloc (.cells #[.slice none 0 0, .slice none 0 0] 30)) := (Below.refl _ _).alloc (Nat.le_refl _) _
  have lt := ht.lt T rfl
  have s1 := h1.size
  have hr : RowAt (w2.alloc (.cells #[.slice none 0 0, .slice none 0 0] 30)) w2.heap.size [.slice none 0 0, .slice none 0 0] 30 := RowAt.new w2 _ _
  refine ⟨fun k => k = T, fun k => k = w2.heap.size, ⟨Tab.bare, ht.below hb, .inl ⟨rfl, rfl⟩, Nat.le_refl _⟩, ⟨_, _, hr, ⟨rfl, .inl ⟨rfl, rfl⟩⟩, ⟨rfl, .inl ⟨rfl, rfl⟩⟩, rfl, fun k e => (by cases e), fun k e => (by cases e), fun k e => ?_⟩, fun k e f => ?_, fun k e f => ?_, fun k e f => ?_, fun k f => f, ((Chg.of_below h1).belowB (B := w1.heap.size) s1 (h2.trans (hb.mono h2.size))).mono fun k f => f⟩
  · rw [show k = w2.heap.size from e]; exact hr.lt
  · omega
  · omega
  · have := h2.size; omega

theorem add_is {P j Q : Nat} (h : Q = P + j) (hq : Q ≤ 1000) : IntKind.i64.wrap ((P : Int) + (j : Int)) = (Q : Int) := by
  rw [show (P : Int) + (j : Int) = (Q : Int) by omega, IntKind.wrap_i64]
  omega

set_option maxRecDepth 100000 in
set_option maxHeartbeats 4000000 in
theorem walk (A : Option Addr) (c : Nat) (xs : List Act3) (key : ByteArray) (z : Int) (w : World) (hs : SlAt w.heap.size w A xs) (hx : xs.length ≤ 9223372036854775807) :
    Calls Try.prog 3 #[.slice A xs.length c, .string key, .int .i64 z] w fun r w' => r = .returned (.bool true) ∧ Below w.heap.size w w' := by
  obtain ⟨B, hB⟩ : ∃ B, B = w.heap.size := ⟨_, rfl⟩
  obtain ⟨n1, hn1⟩ : ∃ n, n = xs.length := ⟨_, rfl⟩
  rw [← hn1] at hx ⊢
  have H1 := Lib.hid hs
  have HN1 := Lib.hid hn1
  have HB := Lib.hid hB
  have AW := Lib.hid (xAwake w)
  clear hs hn1
  go_enter Try.func3, Try.ntmps3
  go_wp2_with fail
  refine AW.out.mono ?_
  rintro r w1 ⟨rfl, hb1⟩
  have B1 := Lib.hid hb1
  clear hb1 AW hB
  by_cases h100 : 100 < key.size
  · go_wp2_with fail
    go_ret
    exact ⟨rfl, B1.out⟩
  have NW := Lib.hid (xNew w1)
  go_wp2_with fail
  refine NW.out.mono ?_
  rintro r w2 ⟨rfl, ht, hb⟩
  obtain ⟨T, hT⟩ : ∃ T, T = w1.heap.size := ⟨_, rfl⟩
  rw [← hT] at ht ⊢
  have BO := Lib.hid (both_new w ht hT B1.out hb)
  clear ht hb hT B1
  go_upto_block 0 with fail
  obtain ⟨p, hp⟩ : ∃ p, p = w2.heap.size := ⟨_, rfl⟩
  rw [← hp] at BO ⊢
  clear hp
  go_cut [9] from 33 to 122 (fun _ wx => ∃ L : KV, Hid (L.length ≤ 300 ∧ Short L) ∧ Hid (Both w (fun k => k < w.heap.size) wx T p L L 7500))
  case first =>
    go_wp2_with fail
    go_loopw [9] (fun vi wr => ∃ (k : Nat) (L : KV), vi = .int .i64 k ∧ k ≤ n1 ∧ k ≤ 300 ∧ Hid (L.length ≤ k ∧ Short L) ∧ Hid (Both w (fun k => k < w.heap.size) wr T p L L (25 * k))) (fun vi _ => n1 - (intOf vi).toNat)
    case atStart => exact ⟨0, [], rfl, Nat.zero_le _, by omega, Lib.hid ⟨Nat.le_refl _, fun x hx => by cases hx⟩, BO⟩
    case round =>
      obtain ⟨k, L, rfl, kn, k300, HL, HW⟩ := hrel
      by_cases q1 : k < n1
      · by_cases q2 : k < 300
        · obtain ⟨bA, oA, rfl, hbA, hc⟩ := H1.out (by rw [← HN1.out]; omega)
          obtain ⟨e0, e1, e2⟩ := hc k (by rw [← HN1.out]; exact q1)
          have bb := HW.out.base (B := w.heap.size) (Nat.le_refl _) (fun _ h => h)
          have e0 := (bb.cell (p := ⟨bA, oA + k * 3, none⟩) hbA).trans e0
          have e1 := (bb.cell (p := ⟨bA, oA + k * 3 + 1, none⟩) hbA).trans e1
          have e2 := (bb.cell (p := ⟨bA, oA + k * 3 + 2, none⟩) hbA).trans e2
          obtain ⟨xk, hxk⟩ : ∃ x, x = (xs.getD k At0).k := ⟨_, rfl⟩
          obtain ⟨xs', hxs⟩ : ∃ x, x = (xs.getD k At0).s := ⟨_, rfl⟩
          obtain ⟨xn, hxn⟩ : ∃ x, x = (xs.getD k At0).n := ⟨_, rfl⟩
          rw [← hxk] at e0
          rw [← hxs] at e1
          rw [← hxn] at e2
          clear hxk hxs hxn hc bb
          have i0 : (0 : Int) ≤ (k : Int) := by omega
          have i1 : (k : Int) < (n1 : Int) := by omega
          by_cases q3 : 100 < xs'.size
          · go_wp2_with fail
            go_roundw
            case rel => exact ⟨k + 1, L, by go_num, by omega, by omega, Lib.hid ⟨by have := HL.out.1; omega, HL.out.2⟩, Lib.hid ((HW.out.below ((Below.refl _ _).alloc (Nat.le_refl _) _)).more (by omega))⟩
            case measure => simp [intOf]; omega
          · -- ROUNDS
            have EN := Lib.hid (HW.out.enter (.cells #[.int .i64 xk, .string xs', .int .i64 xn] 32))
            have RX := Lib.hid (RowAt.new wr [.int .i64 xk, .string xs', .int .i64 xn] 32)
            by_cases q4 : xk = 1
            · subst q4
              have S2 := Lib.hid (show Short (KV.put L xs' xn) from Short.put HL.out.2 (by omega))
              have LN := Lib.hid (show (KV.put L xs' xn).length ≤ k + 1 from by have := KV.put_len L xs' xn; have := HL.out.1; omega)
              have L0 := Lib.hid (show L.length ≤ 1000 from by have := HL.out.1; omega)
              have P1 := Lib.hid (bPut EN.out xs' xn L0.out (by omega) (by omega))
              have P2 := Lib.hid (fun w' (h : Both (wr.alloc (.cells #[.int .i64 1, .string xs', .int .i64 xn] 32)) (fun k => k < w.heap.size ∨ k = wr.heap.size) w' T p (KV.put L xs' xn) L (25 * k + 25)) => brPut h xs' xn L0.out)
              obtain ⟨V, hV⟩ : ∃ V, V = (if L.has xs' then L.num (L.pos xs') else 0) := ⟨_, rfl⟩
              obtain ⟨Z, hZ⟩ : ∃ Z, Z = L.has xs' := ⟨_, rfl⟩
              rw [← hV, ← hZ] at P1
              simp only [← hV] at P2
              simp only [← hZ] at P2
              obtain ⟨L2, hL2⟩ : ∃ L2, L2 = KV.put L xs' xn := ⟨_, rfl⟩
              rw [← hL2] at P1 S2 LN
              simp only [← hL2] at P2
              clear hV hZ hL2
              go_wp2_with fail
              refine P1.out.mono ?_
              rintro r w4 ⟨rfl, h4⟩
              have H4 := Lib.hid h4
              clear h4
              have r4 := H4.out.row RX.out (.inr rfl)
              have d0 := r4.cell 0
              have d1 := r4.cell 1
              have d2 := r4.cell 2
              simp only [List.getElem?_cons_succ, List.getElem?_cons_zero] at d0 d1 d2
              clear r4
              go_wp2_with fail
              clear d0 d1 d2
              refine (P2.out w4 H4.out).mono ?_
              rintro r w5 ⟨rfl, h5⟩
              have H5 := Lib.hid h5
              clear h5
              have r5 := H5.out.row RX.out (.inr rfl)
              have d0 := r5.cell 0
              have d1 := r5.cell 1
              have d2 := r5.cell 2
              simp only [List.getElem?_cons_succ, List.getElem?_cons_zero] at d0 d1 d2
              clear r5
              go_wp2_with fail
              clear d0 d1 d2
              refine (bTold H5.out S2.out xs' (by have := LN.out; omega)).mono ?_
              rintro r wa1 ⟨rfl, ha⟩
              have HA := Lib.hid ha
              clear ha
              go_wp2_with fail
              refine (bTold HA.out S2.out key (by have := LN.out; omega)).mono ?_
              rintro r wb1 ⟨rfl, ha⟩
              have HE := Lib.hid ha
              clear ha HA
              go_wp2_with fail
              go_roundw
              case rel => exact ⟨k + 1, _, by go_num, by omega, by omega, Lib.hid ⟨by have := LN.out; omega, S2.out⟩, Lib.hid ((HW.out.leave HE.out).more (by omega))⟩
              case measure => simp [intOf]; omega
            · have q4' : (xk == 1) = false := by simp [q4]
              by_cases q5 : xk = 2
              · subst q5
                have S2 := Lib.hid (show Short (KV.del L xs') from Short.del HL.out.2)
                have LN := Lib.hid (show (KV.del L xs').length ≤ k + 1 from by have := KV.del_len L xs'; have := HL.out.1; omega)
                have L0 := Lib.hid (show L.length ≤ 1000 from by have := HL.out.1; omega)
                have P1 := Lib.hid (bDel EN.out xs' L0.out (by omega))
                have P2 := Lib.hid (fun w' (h : Both (wr.alloc (.cells #[.int .i64 2, .string xs', .int .i64 xn] 32)) (fun k => k < w.heap.size ∨ k = wr.heap.size) w' T p (KV.del L xs') L (25 * k + 25)) => brDel h xs' L0.out)
                obtain ⟨V, hV⟩ : ∃ V, V = (if L.has xs' then L.num (L.pos xs') else 0) := ⟨_, rfl⟩
                obtain ⟨Z, hZ⟩ : ∃ Z, Z = L.has xs' := ⟨_, rfl⟩
                rw [← hV, ← hZ] at P1
                simp only [← hV] at P2
                simp only [← hZ] at P2
                obtain ⟨L2, hL2⟩ : ∃ L2, L2 = KV.del L xs' := ⟨_, rfl⟩
                rw [← hL2] at P1 S2 LN
                simp only [← hL2] at P2
                clear hV hZ hL2
                go_wp2_with fail
                refine P1.out.mono ?_
                rintro r w4 ⟨rfl, h4⟩
                have H4 := Lib.hid h4
                clear h4
                have r4 := H4.out.row RX.out (.inr rfl)
                have d0 := r4.cell 0
                have d1 := r4.cell 1
                have d2 := r4.cell 2
                simp only [List.getElem?_cons_succ, List.getElem?_cons_zero] at d0 d1 d2
                clear r4
                go_wp2_with fail
                clear d0 d1 d2
                refine (P2.out w4 H4.out).mono ?_
                rintro r w5 ⟨rfl, h5⟩
                have H5 := Lib.hid h5
                clear h5
                have r5 := H5.out.row RX.out (.inr rfl)
                have d0 := r5.cell 0
                have d1 := r5.cell 1
                have d2 := r5.cell 2
                simp only [List.getElem?_cons_succ, List.getElem?_cons_zero] at d0 d1 d2
                clear r5
                go_wp2_with fail
                clear d0 d1 d2
                refine (bTold H5.out S2.out xs' (by have := LN.out; omega)).mono ?_
                rintro r wa0 ⟨rfl, ha⟩
                have HA := Lib.hid ha
                clear ha
                go_wp2_with fail
                refine (bTold HA.out S2.out key (by have := LN.out; omega)).mono ?_
                rintro r wb0 ⟨rfl, ha⟩
                have HE := Lib.hid ha
                clear ha HA
                go_wp2_with fail
                go_roundw
                case rel => exact ⟨k + 1, _, by go_num, by omega, by omega, Lib.hid ⟨by have := LN.out; omega, S2.out⟩, Lib.hid ((HW.out.leave HE.out).more (by omega))⟩
                case measure => simp [intOf]; omega
              · have q5' : (xk == 2) = false := by simp [q5]
                have LN := Lib.hid (show L.length ≤ k from HL.out.1)
                have S2 := Lib.hid HL.out.2
                go_wp2_with fail
                refine (bTold EN.out S2.out xs' (by have := LN.out; omega)).mono ?_
                rintro r wa2 ⟨rfl, ha⟩
                have HA := Lib.hid ha
                clear ha
                go_wp2_with fail
                refine (bTold HA.out S2.out key (by have := LN.out; omega)).mono ?_
                rintro r wb2 ⟨rfl, ha⟩
                have HE := Lib.hid ha
                clear ha HA
                go_wp2_with fail
                go_roundw
                case rel => exact ⟨k + 1, _, by go_num, by omega, by omega, Lib.hid ⟨by have := LN.out; omega, S2.out⟩, Lib.hid ((HW.out.leave HE.out).more (by omega))⟩
                case measure => simp [intOf]; omega
          -- END ROUNDS
        · go_wp2_with fail
          go_meet
          exact ⟨L, Lib.hid ⟨by have := HL.out.1; omega, HL.out.2⟩, Lib.hid (HW.out.more (by omega))⟩
      · go_wp2_with fail
        go_meet
        exact ⟨L, Lib.hid ⟨by have := HL.out.1; omega, HL.out.2⟩, Lib.hid (HW.out.more (by omega))⟩
  case rest =>
    obtain ⟨L, HL, HW⟩ := hcut
    have pl := KV.pos_le key L
    have nl := HL.out.1
    have K1 := Lib.hid (bKeys HW.out HL.out.2 key z (by omega))
    have A1 := Lib.hid (fun wx (h : Both w (fun k => k < w.heap.size) wx T p L L 7500) => brAt h key (by have := HL.out.1; omega))
    obtain ⟨P, hP⟩ : ∃ P, P = L.pos key := ⟨_, rfl⟩
    obtain ⟨n, hn⟩ : ∃ n, n = L.length := ⟨_, rfl⟩
    obtain ⟨Z, hZ⟩ : ∃ Z, Z = ((KV.ks L).drop (L.pos key)).take z.toNat := ⟨_, rfl⟩
    obtain ⟨y, hy⟩ : ∃ y, y = Z.length := ⟨_, rfl⟩
    have ey : (y = 0 ∧ z ≤ 0) ∨ (0 < z ∧ min z ((n : Int) - (P : Int)) = (y : Int)) := by
      have e : y = min z.toNat (n - P) := by rw [hy, hZ, List.length_take, List.length_drop, KV.ks_len, ← hn, ← hP]
      rw [← hP, ← hn] at pl
      omega
    have GZ := Lib.hid (show ∀ j, j < y → Z.getD j ⟨#[]⟩ = L.key (P + j) ∧ P + j < n from fun j hj => by
      have h1 : j < (((KV.ks L).drop P).take z.toNat).length := by rw [hP, ← hZ, ← hy]; exact hj
      rw [List.length_take, List.length_drop, KV.ks_len, ← hn] at h1
      refine ⟨?_, by omega⟩
      rw [hZ, ← hP, ← KV.ks_get L (P + j) (by omega), List.getD_eq_getElem?_getD, List.getD_eq_getElem?_getD, List.getElem?_take, if_pos (by omega), List.getElem?_drop])
    rw [← hZ] at K1
    simp only [← hP] at A1
    rw [← hP, ← hn] at pl
    rw [← hn] at nl
    have HY := Lib.hid hy
    have HN := Lib.hid hn
    clear hP hn hZ hy
    go_wp2_with fail
    refine K1.out.mono ?_
    rintro r w4 ⟨v, rfl, ho, h4⟩
    have HO := Lib.hid ho
    have H4 := Lib.hid h4
    clear ho h4
    go_wp2_with fail
    refine (A1.out w4 H4.out).mono ?_
    rintro r w5 ⟨rfl, m5, hw5⟩
    have B5 := Lib.hid (show Below w4.heap.size w4 w5 by rw [hw5]; exact ⟨rfl, rfl, rfl, Nat.le_refl _, fun _ _ => rfl⟩)
    have O5 := Lib.hid (show OwnS w5 wc.heap.size v Z by rw [hw5]; exact HO.out)
    have H5 := Lib.hid (H4.out.below B5.out)
    clear hw5
    obtain ⟨A2, c2, rfl, hk⟩ := O5.out.form
    rw [← HY.out] at hk ⊢
    obtain ⟨E, G, _, hr, _⟩ := H5.out
    obtain ⟨vk, vn, h1, h2, _⟩ := hr
    obtain ⟨A3, c3, rfl, hr⟩ := h2.form
    rw [KV.ks_len, ← HN.out] at h1 hr
    have d0 := h1.cell 0
    simp only [List.getElem?_cons_zero] at d0
    have p5 := h1.lt
    have KC := Lib.hid (show ∀ j, j < y → ∃ g g3, A2 = some ⟨g, 0, none⟩ ∧ A3 = some ⟨g3, 0, none⟩ ∧ w5.cell? ⟨g, j, none⟩ = some (.string (L.key (P + j))) ∧ w5.cell? ⟨g3, P + j, none⟩ = some (.string (L.key (P + j))) ∧ P + j < n from fun j hj => by
      obtain ⟨g, e, q⟩ := hk j hj
      obtain ⟨e1, e2⟩ := GZ.out j hj
      obtain ⟨g3, e3, q3⟩ := hr (P + j) e2
      rw [e1] at q
      rw [KV.ks_get L _ (by rw [← HN.out]; exact e2)] at q3
      exact ⟨g, g3, e, e3, q, q3, e2⟩)
    have BB := Lib.hid (H5.out.base (B := w.heap.size) (Nat.le_refl _) (fun _ h => h))
    clear h1 h2 hk hr
    have BW := Lib.hid (show ∀ wx, Below w5.heap.size w5 wx → Below w.heap.size w wx from fun wx hb => Below.then2 BB.out hb BB.out.size)
    clear K1 A1 HY HN GZ HO O5 HB BO
    rcases ey with ⟨rfl, y2⟩ | ⟨y1, y2⟩
    · go_wp2_with fail
      go_loopw [24] (fun vi wr => vi = .int .i64 0 ∧ wr = w5) (fun _ _ => 0)
      case atStart => exact ⟨rfl, rfl⟩
      case round =>
        obtain ⟨rfl, rfl⟩ := hrel
        go_wp2_with fail
        go_ret
        exact ⟨rfl, BB.out⟩
    · go_wp2_with fail
      go_loopw [24] (fun vi wr => ∃ j : Nat, j ≤ y ∧ vi = .int .i64 j ∧ Hid (Below w5.heap.size w5 wr)) (fun vi _ => y - (intOf vi).toNat)
      case atStart => exact ⟨0, Nat.zero_le _, rfl, Lib.hid (Below.refl _ _)⟩
      case round =>
        obtain ⟨j, jy, rfl, HR⟩ := hrel
        by_cases q : j < y
        · obtain ⟨g, g3, rfl, rfl, k1, k2, k3⟩ := KC.out j q
          have pr := Nat.lt_of_lt_of_le p5 HR.out.size
          have d0 := (HR.out.cell (p := ⟨p, 0, none⟩) p5).trans d0
          have k1 := (HR.out.cell (p := ⟨g, j, none⟩) (block_lt_of_cell k1)).trans k1
          have k2 := (HR.out.cell (p := ⟨g3, P + j, none⟩) (block_lt_of_cell k2)).trans k2
          obtain ⟨Q, hQ⟩ : ∃ Q, Q = P + j := ⟨_, rfl⟩
          rw [← hQ] at k1 k2 k3
          obtain ⟨s, hs⟩ : ∃ s, s = L.key Q := ⟨_, rfl⟩
          rw [← hs] at k1 k2
          have i0 : (0 : Int) ≤ (j : Int) := by omega
          have i1 : (j : Int) < (y : Int) := by omega
          have i3 : (0 : Int) ≤ (Q : Int) := by omega
          have i4 : (Q : Int) < (n : Int) := by omega
          have i2 : IntKind.i64.wrap ((P : Int) + (j : Int)) = (Q : Int) := add_is hQ (by omega)
          clear hs hQ
          go_wp2_with fail
          go_quiet (fail)
          go_wp2_with fail
          go_roundw
          case rel => exact ⟨j + 1, by omega, by go_num, Lib.hid (below_drewN HR.out _)⟩
          case measure => simp [intOf]; omega
        · obtain rfl : j = y := by omega
          go_wp2_with fail
          go_ret
          exact ⟨rfl, BW.out _ HR.out⟩

end Go.Proofs.Ytdcjckdhjfnnhaa.treePlays
