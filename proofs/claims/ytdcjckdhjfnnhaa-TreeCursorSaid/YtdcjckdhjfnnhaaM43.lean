/- Proved parts: T8cw. Conditions: each theorem's own. -/
import Derived.Test.YtdcjckdhjfnnhaaM42
import Derived.Test.YtdcjckdhjfnnhaaM28
import Derived.Lib.SmallJoins
import Derived.Deep.CutBlock
import Derived.Deep.CutRange
import Derived.ChangeMaps5
namespace Go.Proofs.Ytdcjckdhjfnnhaa.treeCursor
open Go.Proofs.Ytdcjckdhjfnnhaa Go.Joins Go.ChangeShapes Go.WideShapes Go.ChangeAt Go.RowKit Go.Deep Go.Shelf
open Go.ChangeMaps (open_string shut_string)

theorem Short.nil : Short [] := fun x hx => by cases hx
/-- act k of those that came in, in any world behind -/
theorem act_at {w0 : World} {A : Option Addr} {xs : List Act3} {n k : Nat} (h : SlAt w0.heap.size w0 A xs) (hn : n = xs.length) (hk : k < n) : ∃ b o y1 y2 y3, A = some ⟨b, o, none⟩ ∧ y2 = (xs.getD k At0).s ∧
    ∀ w, Below w0.heap.size w0 w → w.cell? ⟨b, o + k * 3, none⟩ = some (.int .i64 y1) ∧ w.cell? ⟨b, o + k * 3 + 1, none⟩ = some (.string y2) ∧ w.cell? ⟨b, o + k * 3 + 2, none⟩ = some (.int .i64 y3) := by
  obtain ⟨b, o, e, hb, hc⟩ := h (by omega)
  obtain ⟨e0, e1, e2⟩ := hc k (by omega)
  exact ⟨b, o, _, _, _, e, rfl, fun w q => ⟨(q.cell (p := ⟨b, o + k * 3, none⟩) hb).trans e0, (q.cell (p := ⟨b, o + k * 3 + 1, none⟩) hb).trans e1, (q.cell (p := ⟨b, o + k * 3 + 2, none⟩) hb).trans e2⟩⟩

theorem take_one {Z : List ByteArray} {i : Nat} {s : ByteArray} (h : i < Z.length) (hs : s = Z.getD i ⟨#[]⟩) : Z.take (i + 1) = Z.take i ++ [s] := by
  rw [hs, List.getD_eq_getElem?_getD, List.getElem?_eq_getElem h]
  exact (List.take_append_getElem h).symm
theorem short_aft {L : KV} (h : Short L) (c : ByteArray) : (if L.aft c < L.length then L.key (L.aft c) else ⟨#[]⟩).size ≤ 100 := by
  split
  · rename_i q
    obtain ⟨n, hn⟩ := KV.key_mem L q
    exact h (_, n) hn
  · decide
theorem short_pos {L : KV} (h : Short L) (c : ByteArray) : (if L.pos c < L.length then L.key (L.pos c) else ⟨#[]⟩).size ≤ 100 := by
  split
  · rename_i q
    obtain ⟨n, hn⟩ := KV.key_mem L q
    exact h (_, n) hn
  · decide
theorem own_cells {w : World} {B n c : Nat} {A : Option Addr} {M : List ByteArray} (h : OwnS w B (.slice A n c) M) (hn : n = M.length) {j : Nat} (hj : j < n) : ∃ g, A = some ⟨g, 0, none⟩ ∧ ∀ j', j' < n → w.cell? ⟨g, j', none⟩ = some (.string (M.getD j' ⟨#[]⟩)) := by
  obtain ⟨g, c', e⟩ := h.open_ (by omega)
  injection e with e _ _
  subst e
  exact ⟨g, rfl, fun j' hj' => h.cell (by omega)⟩
theorem rise_getD {M : List ByteArray} (h : M.Pairwise fun x y => ltB x y = true) {k i : Nat} (hk : k < i) (hi : i < M.length) : ltB (M.getD k ⟨#[]⟩) (M.getD i ⟨#[]⟩) = true := by
  rw [List.pairwise_iff_getElem] at h
  have := h k i (by omega) hi hk
  rw [List.getD_eq_getElem?_getD, List.getD_eq_getElem?_getD, List.getElem?_eq_getElem hi, List.getElem?_eq_getElem (by omega)]
  exact this
theorem sub_next {S M : List ByteArray} {a i : Nat} (h : (S.drop a).Sublist (M.drop i)) (hi : i < M.length) (ha : a < S.length) :
    (M.getD i ⟨#[]⟩ = S.getD a ⟨#[]⟩ → (S.drop (a + 1)).Sublist (M.drop (i + 1))) ∧ (M.getD i ⟨#[]⟩ ≠ S.getD a ⟨#[]⟩ → (S.drop a).Sublist (M.drop (i + 1))) := by
  have e1 : M.getD i ⟨#[]⟩ = M[i] := by rw [List.getD_eq_getElem?_getD, List.getElem?_eq_getElem hi]; rfl
  have e2 : S.getD a ⟨#[]⟩ = S[a] := by rw [List.getD_eq_getElem?_getD, List.getElem?_eq_getElem ha]; rfl
  rw [e1, e2]
  rw [List.drop_eq_getElem_cons hi, List.drop_eq_getElem_cons ha] at h
  refine ⟨fun e => ?_, fun e => ?_⟩
  · rw [e] at h
    exact List.cons_sublist_cons.1 h
  · rw [List.drop_eq_getElem_cons ha]
    rcases List.sublist_cons_iff.1 h with h | ⟨r, e3, _⟩
    · exact h
    · injection e3 with e3 _
      exact absurd e3.symm e
theorem one_less {k i : Nat} (h : k = i - 1) (hi : 0 < i) (hk : i ≤ 1000) : IntKind.i64.wrap ((i : Int) - 1) = (k : Int) := by
  rw [show (i : Int) - 1 = (k : Int) by omega, IntKind.wrap_i64]
  omega

set_option maxRecDepth 100000 in
set_option maxHeartbeats 8000000 in
theorem walk (A1 A2 : Option Addr) (c1 c2 : Nat) (xs ys : List Act3) (w : World) (hs1 : SlAt w.heap.size w A1 xs) (_hx1 : xs.length ≤ 9223372036854775807) (hs2 : SlAt w.heap.size w A2 ys) (hx2 : ys.length ≤ 9223372036854775807) :
    Calls Try.prog 4 #[.slice A1 xs.length c1, .slice A2 ys.length c2] w fun r w' => r = .returned (.bool true) ∧ Below w.heap.size w w' := by
  obtain ⟨n1, hn1⟩ : ∃ n, n = xs.length := ⟨_, rfl⟩
  obtain ⟨n2, hn2⟩ : ∃ n, n = ys.length := ⟨_, rfl⟩
  rw [← hn1] at _hx1 ⊢
  rw [← hn2] at hx2 ⊢
  have H1 := Lib.hid (fun k (hk : k < n1) => act_at hs1 hn1 hk)
  have H2 := Lib.hid (fun k (hk : k < n2) => act_at hs2 hn2 hk)
  have AW := Lib.hid (xAwake w)
  clear hs1 hs2 hn1 hn2
  go_enter Try.func4, Try.ntmps4
  go_wp2_with fail
  refine AW.out.mono ?_
  rintro r w1 ⟨rfl, hb1⟩
  have B1 := Lib.hid hb1
  clear hb1 AW
  have NW := Lib.hid (xNew w1)
  go_wp2_with fail
  refine NW.out.mono ?_
  rintro r w2 ⟨rfl, ht, hb⟩
  obtain ⟨T, hT⟩ : ∃ T, T = w1.heap.size := ⟨_, rfl⟩
  rw [← hT] at ht ⊢
  have CO := Lib.hid (cur_new w ht hT B1.out hb)
  clear ht hb hT B1 NW
  go_upto_block 0 with fail
  go_cut [6] from 22 to 50 (fun _ wx => ∃ L : KV, Hid (L.length ≤ 300 ∧ Short L) ∧ Hid (Cur w (fun k => k < w.heap.size) wx T L 7500 (.slice none 0 0) []))
  case first =>
    go_wp2_with fail
    go_loopw [6] (fun vi wr => ∃ (k : Nat) (L : KV), vi = .int .i64 k ∧ k ≤ n1 ∧ k ≤ 300 ∧ Hid (L.length ≤ k ∧ Short L) ∧ Hid (Cur w (fun k => k < w.heap.size) wr T L (25 * k) (.slice none 0 0) [])) (fun vi _ => n1 - (intOf vi).toNat)
    case atStart => exact ⟨0, [], rfl, Nat.zero_le _, by omega, Lib.hid ⟨Nat.le_refl _, Short.nil⟩, CO⟩
    case round =>
      obtain ⟨k, L, rfl, kn, k300, HL, HW⟩ := hrel
      by_cases q1 : k < n1
      · by_cases q2 : k < 300
        · obtain ⟨bA, oA, xk, xs', xn, rfl, -, hc⟩ := H1.out k q1
          obtain ⟨e0, e1, e2⟩ := hc wr (HW.out.base (Nat.le_refl _) (fun _ h => h))
          clear hc
          have i0 : (0 : Int) ≤ (k : Int) := by omega
          have i1 : (k : Int) < (n1 : Int) := by omega
          by_cases q3 : 100 < xs'.size
          · have q4 : decide ((xs'.size : Int) ≤ 100) = false := decide_eq_false (by omega)
            go_wp2_with fail
            go_roundw
            case rel => exact ⟨k + 1, L, by go_num, by omega, by omega, Lib.hid ⟨by have := HL.out.1; omega, HL.out.2⟩, Lib.hid (HW.out.more (by omega))⟩
            case measure => simp [intOf]; omega
          · have P1 := Lib.hid (cPut (w := wr.drew) (HW.out.below (Below.refl _ _).drew) xs' xn (by have := HL.out.1; omega) (by omega) (by omega))
            have S2 := Lib.hid (show Short (KV.put L xs' xn) from Short.put HL.out.2 (by omega))
            have LN := Lib.hid (show (KV.put L xs' xn).length ≤ k + 1 from by have := KV.put_len L xs' xn; have := HL.out.1; omega)
            have q4 : decide ((xs'.size : Int) ≤ 100) = true := decide_eq_true (by omega)
            go_wp2_with fail
            go_still_tail 11, (by kernel_rfl)
            change wpList _ _ _ _ _ wr.drew
            go_wp2_with fail
            refine P1.out.mono ?_
            rintro r w4 ⟨rfl, h4⟩
            have H4 := Lib.hid h4
            clear h4
            go_wp2_with fail
            go_roundw
            case rel => exact ⟨k + 1, _, by go_num, by omega, by omega, Lib.hid ⟨LN.out, S2.out⟩, Lib.hid (H4.out.more (by omega))⟩
            case measure => simp [intOf]; omega
        · go_wp2_with fail
          go_meet
          exact ⟨L, Lib.hid ⟨by have := HL.out.1; omega, HL.out.2⟩, Lib.hid (HW.out.more (by omega))⟩
      · go_wp2_with fail
        go_meet
        exact ⟨L, Lib.hid ⟨by have := HL.out.1; omega, HL.out.2⟩, Lib.hid (HW.out.more (by omega))⟩
  case rest =>
    obtain ⟨L, HL, HW⟩ := hcut
    have BC := Lib.hid (HW.out.base (B := w.heap.size) (Nat.le_refl _) (fun _ h => h))
    obtain ⟨N1, s1, s2, _⟩ := HW.out.switch
    have b1 : Below w.heap.size w (wc.alloc (.cells #[] 9)) := Below.then2 BC.out ((Below.refl _ _).alloc (Nat.le_refl _) _) BC.out.size
    have CK := Lib.hid (cKeys s1 HL.out.2 ⟨#[]⟩ 300 (by have := HL.out.1; omega))
    have CU := Lib.hid s1
    have NN := Lib.hid (show ∀ k, k < w.heap.size → N1 k from s2)
    have BK := Lib.hid b1
    clear s1 s2 b1 CO
    go_wp2_with fail
    refine CK.out.mono ?_
    rintro r w4 ⟨u, rfl, ho, hb⟩
    obtain ⟨Z, hZ⟩ : ∃ Z, Z = ((KV.ks L).drop (L.pos ⟨#[]⟩)).take (300 : Int).toNat := ⟨_, rfl⟩
    have eZ : Z = L.ks := by
      rw [hZ, pos_empty, List.drop_zero]
      exact List.take_of_length_le (by rw [KV.ks_len]; have := HL.out.1; show L.length ≤ 300; omega)
    rw [← hZ] at ho
    obtain ⟨N2, s1, s2, s3⟩ := CU.out.fresh hb
    have CV := Lib.hid s1
    have NV := Lib.hid (show ∀ k, k < w.heap.size → N2 k from fun k hk => s2 k (NN.out k hk))
    have B4 := Lib.hid (Below.then2 BK.out hb BK.out.size)
    have UO := Lib.hid (show ∀ N0 wx v M b, Cur w4 N0 wx T L b v M → (∀ k, N2 k → N0 k) → OwnS wx 0 u Z from fun N0 wx v M b h hN => ho.base.chg h.chg fun k e f => f (hN k (s3 k (ho.lt k e).1 (ho.lt k e).2)))
    obtain ⟨A3, c3, rfl, _⟩ := ho.form
    obtain ⟨n, hn⟩ : ∃ n, n = Z.length := ⟨_, rfl⟩
    have n3 : n ≤ 300 := by rw [hn, eZ, KV.ks_len]; exact HL.out.1
    rw [← hn] at UO ⊢
    have EZ := Lib.hid eZ
    have HN := Lib.hid hn
    obtain ⟨m, hm⟩ : ∃ m, m = min n2 300 := ⟨_, rfl⟩
    have HM := Lib.hid hm
    clear ho hb hZ eZ s1 s2 s3 hn hm CU NN BK CK HW
    go_wp2_with fail
    go_loopw [7, 9] (fun vs vi wr => ∃ (i : Nat) (S : List ByteArray) (v : Value), v = vs ∧ vi = .int .i64 i ∧ i ≤ n ∧ Hid (S = stay ys m (Z.take i)) ∧ Hid (Cur w4 N2 wr T L 7500 v S)) (fun _ vi _ => n - (intOf vi).toNat)
    case atStart => exact ⟨0, [], _, rfl, rfl, Nat.zero_le _, Lib.hid rfl, CV⟩
    case round =>
      obtain ⟨i, S, v, rfl, rfl, hi, HS, HW⟩ := hrel
      by_cases q1 : i < n
      · obtain ⟨s, hs⟩ : ∃ s, s = Z.getD i ⟨#[]⟩ := ⟨_, rfl⟩
        have GS := Lib.hid hs
        have UC := Lib.hid (show ∀ wx M v, Cur w4 N2 wx T L 7500 v M → ∃ g, A3 = some ⟨g, 0, none⟩ ∧ wx.cell? ⟨g, i, none⟩ = some (.string s) from fun wx M v h => by
          have ho := UO.out _ wx _ _ _ h (fun k f => f)
          obtain ⟨g, c, e⟩ := ho.open_ (by rw [← HN.out]; omega)
          injection e with e _ _
          subst e
          have := ho.cell (j := i) (by rw [← HN.out]; exact q1)
          exact ⟨g, rfl, by rw [hs]; exact this⟩)
        clear hs
        have i0 : (0 : Int) ≤ (i : Int) := by omega
        have i1 : (i : Int) < (n : Int) := by omega
        go_upto_block 4 with fail
        go_cut [10] from 60 to 82 (fun vn wx => vn = .bool (nmd ys s m) ∧ Hid (Cur w4 N2 wx T L 7500 v S))
        case first =>
          go_wp2_with fail
          go_loopw [10, 11] (fun vn vk wx => ∃ k : Nat, k ≤ m ∧ vn = .bool (nmd ys s k) ∧ vk = .int .i64 k ∧ Hid (Cur w4 N2 wx T L 7500 v S)) (fun _ vk _ => m - (intOf vk).toNat)
          case atStart => exact ⟨0, Nat.zero_le _, rfl, rfl, HW⟩
          case round =>
            obtain ⟨k, km, rfl, rfl, HX⟩ := hrel
            by_cases p1 : k < n2
            · by_cases p2 : k < 300
              · have pm : k < m := by have := HM.out; omega
                obtain ⟨bA, oA, y1, y2, y3, rfl, ey, hc⟩ := H2.out k p1
                obtain ⟨g, rfl, cs⟩ := UC.out _ _ _ HX.out
                have bx : Below w.heap.size w wr := B4.out.trans (HX.out.base B4.out.size NV.out)
                obtain ⟨e0, e1, e2⟩ := hc _ bx
                have EN := Lib.hid (show nmd ys s (k + 1) = (nmd ys s k || (y2.toList == s.toList)) by rw [ey]; rfl)
                have j0 : (0 : Int) ≤ (k : Int) := by omega
                have j1 : (k : Int) < (n2 : Int) := by omega
                clear bx hc ey e0 e2
                obtain ⟨q, hq⟩ : ∃ q, q = nmd ys s k := ⟨_, rfl⟩
                rw [← hq] at EN ⊢
                clear hq
                cases q with
                | true =>
                  rw [Bool.true_or] at EN
                  go_wp2_with fail
                  go_quiet (fail)
                  go_wp2_with fail
                  go_roundw
                  case rel => exact ⟨k + 1, by omega, by rw [EN.out], by go_num, Lib.hid (HX.out.below (below_drewN (Below.refl _ _) _))⟩
                  case measure => simp [intOf]; omega
                | false =>
                  rw [Bool.false_or] at EN
                  go_wp2_with fail
                  go_quiet (fail)
                  go_wp2_with fail
                  go_roundw
                  case rel => exact ⟨k + 1, by omega, by rw [EN.out], by go_num, Lib.hid (HX.out.below (below_drewN (Below.refl _ _) _))⟩
                  case measure => simp [intOf]; omega
              · obtain rfl : k = m := by have := HM.out; omega
                go_wp2_with fail
                go_meet
                exact ⟨rfl, HX⟩
            · obtain rfl : k = m := by have := HM.out; omega
              go_wp2_with fail
              go_meet
              exact ⟨rfl, HX⟩
        case rest =>
          -- HALF
          obtain ⟨rfl, HX⟩ := hcut
          obtain ⟨g, rfl, cs⟩ := UC.out _ _ _ HX.out
          have E1 := Lib.hid (show stay ys m (Z.take (i + 1)) = S ++ (if nmd ys s m then [] else [s]) by
            rw [show Z.take (i + 1) = Z.take i ++ [s] from take_one (by rw [← HN.out]; exact q1) GS.out, stay_snoc, HS.out])
          have LS := Lib.hid (show S.length ≤ 300 by
            have := stay_len ys m (Z.take i)
            rw [← HS.out, List.length_take] at this
            omega)
          obtain ⟨q, hq⟩ : ∃ q, q = nmd ys s m := ⟨_, rfl⟩
          rw [← hq] at E1 ⊢
          clear hq
          cases q with
          | true =>
            rw [if_pos rfl, List.append_nil] at E1
            go_wp2_with fail
            go_roundw
            case rel => exact ⟨i + 1, S, v, rfl, by go_num, by omega, Lib.hid E1.out.symm, HX⟩
            case measure => simp [intOf]; omega
          | false =>
            rw [if_neg (by decide)] at E1
            go_wp2_with (at_builtin; refine wp_putA rfl (.tmp 85) (.tmp 90) rfl v S rfl (HX.out.row.alloc _) _ s rfl (cell_new1 _ _ _) (by have := LS.out; omega) ?_; intro v' w6 ho hg hv; have HP := Lib.hid (HX.out.put1 ho hg hv); clear ho hg hv)
            go_roundw
            case rel => exact ⟨i + 1, _, v', rfl, by go_num, by omega, Lib.hid E1.out.symm, HP⟩
            case measure => simp [intOf]; omega
      · obtain rfl : i = n := by omega
        have HS' := Lib.hid (show S = stay ys m L.ks by rw [HS.out, ← EZ.out, List.take_of_length_le (by rw [← HN.out]; exact Nat.le_refl _)])
        obtain ⟨N3, s1, s2, s3⟩ := HW.out.switch
        have C5 := Lib.hid s1
        have B5 := Lib.hid (show Below w.heap.size w (wr.alloc (.cells #[] 9)) from (B4.out.trans (HW.out.base B4.out.size NV.out)).alloc (Nat.le_trans B4.out.size HW.out.chg.size) _)
        have N5 := Lib.hid (show ∀ k, k < w.heap.size → N3 k from fun k hk => s2 k (NV.out k hk))
        have V5 := Lib.hid (show ∀ wx L4 b mv M, Cur (wr.alloc (.cells #[] 9)) N3 wx T L4 b mv M → OwnS wx 0 v S from fun wx L4 b mv M h => (HW.out.row.alloc _).chg h.chg fun k e f => f (s3 k e))
        obtain ⟨U, hU⟩ : ∃ U, U = L.ks ++ (List.range 300).map fun k => (ys.getD k At0).s := ⟨_, rfl⟩
        have UL := Lib.hid (show U.length ≤ 600 by rw [hU, List.length_append, KV.ks_len, List.length_map, List.length_range]; have := HL.out.1; omega)
        have UY := Lib.hid (show ∀ k, k < n2 → k < 300 → (ys.getD k At0).s ∈ U ∧ ∀ z ∈ S, z ≠ (ys.getD k At0).s from fun k h1 h2 => by
          refine ⟨by rw [hU]; exact List.mem_append.2 (.inr (List.mem_map.2 ⟨k, List.mem_range.2 h2, rfl⟩)), fun z hz e => ?_⟩
          rw [HS'.out] at hz
          have hz := (List.mem_filter.1 hz).2
          have hz : nmd ys z m = false := by simpa using hz
          exact nmd_no hz k (by have := HM.out; omega) e.symm)
        have SR := Lib.hid (show S.Pairwise fun x y => ltB x y = true by rw [HS'.out]; exact (ks_rise HW.out.rise).sublist List.filter_sublist)
        have W0 := Lib.hid (Wk.first (U := U) (S := S) HW.out.rise (fun z hz => by rw [hU]; exact List.mem_append.2 (.inl hz)) (fun z hz => by rw [HS'.out] at hz; exact (List.mem_filter.1 hz).1))
        have SC := Lib.hid (cSeek s1 HL.out.2 ⟨#[]⟩ (by have := HL.out.1; omega))
        obtain ⟨c0, hc0⟩ : ∃ c, c = (if L.pos ⟨#[]⟩ < L.length then L.key (L.pos ⟨#[]⟩) else ⟨#[]⟩) := ⟨_, rfl⟩
        obtain ⟨o0, ho0⟩ : ∃ o, o = decide (L.pos ⟨#[]⟩ < L.length) := ⟨_, rfl⟩
        obtain ⟨z0, hz0⟩ : ∃ z : Int, z = (if L.pos ⟨#[]⟩ < L.length then L.num (L.pos ⟨#[]⟩) else 0) := ⟨_, rfl⟩
        have C0 := Lib.hid (show c0.size ≤ 100 by rw [hc0]; exact short_pos HL.out.2 _)
        rw [← hc0, ← ho0, ← hz0] at SC
        rw [← hc0, ← ho0] at W0
        obtain ⟨A4, c4, ev, _⟩ := HW.out.row.form
        obtain ⟨SL, hSL⟩ : ∃ n, n = S.length := ⟨_, rfl⟩
        rw [← hSL] at ev
        subst ev
        have HSL := Lib.hid hSL
        obtain ⟨w5, hw5⟩ : ∃ w5, w5 = wr.alloc (.cells #[] 9) := ⟨_, rfl⟩
        rw [← hw5] at C5 B5 V5 SC
        have HW5 := Lib.hid hw5
        clear hw5 hSL hc0 ho0 hz0 s1 s2 s3 hU UO EZ HN HS HS' CV NV
        go_wp2_with fail
        rw [← HW5.out]
        refine SC.out.mono ?_
        rintro r w6 ⟨rfl, h6⟩
        have C6 := Lib.hid h6
        clear h6 SC
        go_upto_block 6 with fail
        go_cut [12, 15] from 99 to 158 (fun vm vo wx => ∃ (M : List ByteArray) (mv : Value) (c : ByteArray) (L4 : KV) (b : Nat), mv = vm ∧ vo = .bool false ∧ Hid (Wk U S L4 M false c ∧ M.length ≤ 600) ∧ Hid (Cur w5 N3 wx T L4 b mv M))
        case first =>
          go_wp2_with fail
          go_loopw [12, 13, 15, 16] (fun vm vk vo vi wx => ∃ (i : Nat) (M : List ByteArray) (c : ByteArray) (ok : Bool) (L4 : KV) (mv : Value), mv = vm ∧ vk = .string c ∧ vo = .bool ok ∧ vi = .int .i64 i ∧ i ≤ 600 ∧ Hid (M.length = i ∧ c.size ≤ 100) ∧ Hid (Wk U S L4 M ok c) ∧ Hid (L4.length ≤ 300 + i ∧ Short L4) ∧ Hid (Cur w5 N3 wx T L4 (7500 + 25 * i) mv M)) (fun _ _ _ vi _ => 600 - (intOf vi).toNat)
          case atStart => exact ⟨0, [], c0, o0, L, _, rfl, rfl, rfl, rfl, Nat.zero_le _, Lib.hid ⟨rfl, C0.out⟩, W0, Lib.hid HL.out, C6⟩
          case round =>
            obtain ⟨i, M, c, ok, L4, mv, rfl, rfl, rfl, rfl, hi, HM4, WK, HL4, HC4⟩ := hrel
            cases ok with
            | false =>
              go_wp2_with fail
              go_meet
              exact ⟨M, mv, c, L4, _, rfl, rfl, Lib.hid ⟨WK.out, by rw [HM4.out.1]; exact hi⟩, HC4⟩
            | true =>
              by_cases q1 : i < 600
              · go_upto_region 27 with (at_builtin; refine wp_putA rfl (.tmp 106) (.tmp 108) rfl mv M rfl (HC4.out.row.alloc _) _ c rfl (cell_new1 _ _ _) (by have := HM4.out.1; omega) ?_; intro v' w6 ho hg hv; have HP := Lib.hid (HC4.out.put1 ho hg hv); clear ho hg hv)
                by_cases p1 : i < n2
                · by_cases p2 : i < 300
                  · obtain ⟨bA, oA, y1, y2, y3, rfl, ey, hc⟩ := H2.out i p1
                    have bx : Below w.heap.size w w6 := B5.out.trans (HP.out.base B5.out.size N5.out)
                    obtain ⟨e0, e1, e2⟩ := hc _ bx
                    have YU := Lib.hid (UY.out i p1 p2)
                    rw [← ey] at YU
                    have j0 : (0 : Int) ≤ (i : Int) := by omega
                    have j1 : (i : Int) < (n2 : Int) := by omega
                    clear bx hc ey
                    by_cases p3 : 100 < y2.size
                    · have p4 : decide ((y2.size : Int) ≤ 100) = false := decide_eq_false (by omega)
                      have S2 := Lib.hid HL4.out.2
                      have LN := Lib.hid (show L4.length ≤ 300 + (i + 1) from by have := HL4.out.1; omega)
                      have WT := WK
                      go_wp2_with fail
                      obtain ⟨c', hc'⟩ : ∃ c', c' = (if L4.aft c < L4.length then L4.key (L4.aft c) else ⟨#[]⟩) := ⟨_, rfl⟩
                      obtain ⟨o', ho'⟩ : ∃ o', o' = decide (L4.aft c < L4.length) := ⟨_, rfl⟩
                      obtain ⟨z', hz'⟩ : ∃ z' : Int, z' = (if L4.aft c < L4.length then L4.num (L4.aft c) else 0) := ⟨_, rfl⟩
                      have AC := Lib.hid (cAfter HP.out S2.out c (by have := LN.out; omega))
                      have WN := Lib.hid (WT.out.next HP.out.rise)
                      have CZ := Lib.hid (short_aft S2.out c)
                      rw [← hc', ← ho', ← hz'] at AC
                      rw [← hc', ← ho'] at WN
                      rw [← hc'] at CZ
                      clear hc' ho' hz'
                      refine AC.out.mono ?_
                      rintro r w8 ⟨rfl, h8⟩
                      have H8 := Lib.hid h8
                      clear h8
                      go_wp2_with fail
                      go_roundw
                      case rel => exact ⟨i + 1, M ++ [c], c', o', L4, v', rfl, rfl, rfl, by go_num, by omega, Lib.hid ⟨by rw [List.length_append, HM4.out.1]; rfl, CZ.out⟩, WN, Lib.hid ⟨LN.out, S2.out⟩, Lib.hid (H8.out.more (by omega))⟩
                      case measure => simp [intOf]; omega
                    · have p4 : decide ((y2.size : Int) ≤ 100) = true := decide_eq_true (by omega)
                      by_cases p5 : y1 = 1
                      · subst p5
                        have S2 := Lib.hid (show Short (KV.put L4 y2 y3) from Short.put HL4.out.2 (by omega))
                        have LN := Lib.hid (show (KV.put L4 y2 y3).length ≤ 300 + (i + 1) from by have := KV.put_len L4 y2 y3; have := HL4.out.1; omega)
                        have WT := Lib.hid (WK.out.turn (L' := KV.put L4 y2 y3) (fun z hz => (put_brings hz).elim (fun e => by rw [e]; exact YU.out.1) (WK.out.lU z)) (fun z hz => put_keeps (WK.out.sL z hz)))
                        have P1 := Lib.hid (cPut (w := w6.drew) (HP.out.below (Below.refl _ _).drew) y2 y3 (by have := HL4.out.1; omega) (by omega) (by omega))
                        obtain ⟨L5, hL5⟩ : ∃ L5, L5 = KV.put L4 y2 y3 := ⟨_, rfl⟩
                        rw [← hL5] at S2 LN WT P1
                        obtain ⟨V, hV⟩ : ∃ V : Int, V = (if L4.has y2 then L4.num (L4.pos y2) else 0) := ⟨_, rfl⟩
                        obtain ⟨F, hF⟩ : ∃ F, F = L4.has y2 := ⟨_, rfl⟩
                        rw [← hV] at P1
                        rw [← hF] at P1
                        clear hL5 hV hF
                        go_wp2_with fail
                        go_still_tail 11, (by kernel_rfl)
                        change wpList _ _ _ _ _ w6.drew
                        go_wp2_with fail
                        refine P1.out.mono ?_
                        rintro r w7 ⟨rfl, h7⟩
                        have H7 := Lib.hid h7
                        clear h7
                        go_wp2_with fail
                        obtain ⟨c', hc'⟩ : ∃ c', c' = (if L5.aft c < L5.length then L5.key (L5.aft c) else ⟨#[]⟩) := ⟨_, rfl⟩
                        obtain ⟨o', ho'⟩ : ∃ o', o' = decide (L5.aft c < L5.length) := ⟨_, rfl⟩
                        obtain ⟨z', hz'⟩ : ∃ z' : Int, z' = (if L5.aft c < L5.length then L5.num (L5.aft c) else 0) := ⟨_, rfl⟩
                        have AC := Lib.hid (cAfter H7.out S2.out c (by have := LN.out; omega))
                        have WN := Lib.hid (WT.out.next H7.out.rise)
                        have CZ := Lib.hid (short_aft S2.out c)
                        rw [← hc', ← ho', ← hz'] at AC
                        rw [← hc', ← ho'] at WN
                        rw [← hc'] at CZ
                        clear hc' ho' hz'
                        refine AC.out.mono ?_
                        rintro r w8 ⟨rfl, h8⟩
                        have H8 := Lib.hid h8
                        clear h8
                        go_wp2_with fail
                        go_roundw
                        case rel => exact ⟨i + 1, M ++ [c], c', o', L5, v', rfl, rfl, rfl, by go_num, by omega, Lib.hid ⟨by rw [List.length_append, HM4.out.1]; rfl, CZ.out⟩, WN, Lib.hid ⟨LN.out, S2.out⟩, Lib.hid (H8.out.more (by omega))⟩
                        case measure => simp [intOf]; omega
                      · have p6 : (y1 == 1) = false := by simp [p5]
                        have S2 := Lib.hid (show Short (KV.del L4 y2) from Short.del HL4.out.2)
                        have LN := Lib.hid (show (KV.del L4 y2).length ≤ 300 + (i + 1) from by have := KV.del_len L4 y2; have := HL4.out.1; omega)
                        have WT := Lib.hid (WK.out.turn (L' := KV.del L4 y2) (fun z hz => WK.out.lU z (del_brings hz)) (fun z hz => del_keeps (WK.out.sL z hz) (YU.out.2 z hz)))
                        have P1 := Lib.hid (cDel HP.out y2 (by have := HL4.out.1; omega) (by omega))
                        obtain ⟨L5, hL5⟩ : ∃ L5, L5 = KV.del L4 y2 := ⟨_, rfl⟩
                        rw [← hL5] at S2 LN WT P1
                        obtain ⟨V, hV⟩ : ∃ V : Int, V = (if L4.has y2 then L4.num (L4.pos y2) else 0) := ⟨_, rfl⟩
                        obtain ⟨F, hF⟩ : ∃ F, F = L4.has y2 := ⟨_, rfl⟩
                        rw [← hV] at P1
                        rw [← hF] at P1
                        clear hL5 hV hF
                        go_wp2_with fail
                        refine P1.out.mono ?_
                        rintro r w7 ⟨rfl, h7⟩
                        have H7 := Lib.hid h7
                        clear h7
                        go_wp2_with fail
                        obtain ⟨c', hc'⟩ : ∃ c', c' = (if L5.aft c < L5.length then L5.key (L5.aft c) else ⟨#[]⟩) := ⟨_, rfl⟩
                        obtain ⟨o', ho'⟩ : ∃ o', o' = decide (L5.aft c < L5.length) := ⟨_, rfl⟩
                        obtain ⟨z', hz'⟩ : ∃ z' : Int, z' = (if L5.aft c < L5.length then L5.num (L5.aft c) else 0) := ⟨_, rfl⟩
                        have AC := Lib.hid (cAfter H7.out S2.out c (by have := LN.out; omega))
                        have WN := Lib.hid (WT.out.next H7.out.rise)
                        have CZ := Lib.hid (short_aft S2.out c)
                        rw [← hc', ← ho', ← hz'] at AC
                        rw [← hc', ← ho'] at WN
                        rw [← hc'] at CZ
                        clear hc' ho' hz'
                        refine AC.out.mono ?_
                        rintro r w8 ⟨rfl, h8⟩
                        have H8 := Lib.hid h8
                        clear h8
                        go_wp2_with fail
                        go_roundw
                        case rel => exact ⟨i + 1, M ++ [c], c', o', L5, v', rfl, rfl, rfl, by go_num, by omega, Lib.hid ⟨by rw [List.length_append, HM4.out.1]; rfl, CZ.out⟩, WN, Lib.hid ⟨LN.out, S2.out⟩, Lib.hid (H8.out.more (by omega))⟩
                        case measure => simp [intOf]; omega
                  · have p4 : decide ((i : Int) < 300) = false := decide_eq_false (by omega)
                    have S2 := Lib.hid HL4.out.2
                    have LN := Lib.hid (show L4.length ≤ 300 + (i + 1) from by have := HL4.out.1; omega)
                    have WT := WK
                    go_wp2_with fail
                    obtain ⟨c', hc'⟩ : ∃ c', c' = (if L4.aft c < L4.length then L4.key (L4.aft c) else ⟨#[]⟩) := ⟨_, rfl⟩
                    obtain ⟨o', ho'⟩ : ∃ o', o' = decide (L4.aft c < L4.length) := ⟨_, rfl⟩
                    obtain ⟨z', hz'⟩ : ∃ z' : Int, z' = (if L4.aft c < L4.length then L4.num (L4.aft c) else 0) := ⟨_, rfl⟩
                    have AC := Lib.hid (cAfter HP.out S2.out c (by have := LN.out; omega))
                    have WN := Lib.hid (WT.out.next HP.out.rise)
                    have CZ := Lib.hid (short_aft S2.out c)
                    rw [← hc', ← ho', ← hz'] at AC
                    rw [← hc', ← ho'] at WN
                    rw [← hc'] at CZ
                    clear hc' ho' hz'
                    refine AC.out.mono ?_
                    rintro r w8 ⟨rfl, h8⟩
                    have H8 := Lib.hid h8
                    clear h8
                    go_wp2_with fail
                    go_roundw
                    case rel => exact ⟨i + 1, M ++ [c], c', o', L4, v', rfl, rfl, rfl, by go_num, by omega, Lib.hid ⟨by rw [List.length_append, HM4.out.1]; rfl, CZ.out⟩, WN, Lib.hid ⟨LN.out, S2.out⟩, Lib.hid (H8.out.more (by omega))⟩
                    case measure => simp [intOf]; omega
                · have p4 : decide ((i : Int) < (n2 : Int)) = false := decide_eq_false (by omega)
                  have S2 := Lib.hid HL4.out.2
                  have LN := Lib.hid (show L4.length ≤ 300 + (i + 1) from by have := HL4.out.1; omega)
                  have WT := WK
                  go_wp2_with fail
                  obtain ⟨c', hc'⟩ : ∃ c', c' = (if L4.aft c < L4.length then L4.key (L4.aft c) else ⟨#[]⟩) := ⟨_, rfl⟩
                  obtain ⟨o', ho'⟩ : ∃ o', o' = decide (L4.aft c < L4.length) := ⟨_, rfl⟩
                  obtain ⟨z', hz'⟩ : ∃ z' : Int, z' = (if L4.aft c < L4.length then L4.num (L4.aft c) else 0) := ⟨_, rfl⟩
                  have AC := Lib.hid (cAfter HP.out S2.out c (by have := LN.out; omega))
                  have WN := Lib.hid (WT.out.next HP.out.rise)
                  have CZ := Lib.hid (short_aft S2.out c)
                  rw [← hc', ← ho', ← hz'] at AC
                  rw [← hc', ← ho'] at WN
                  rw [← hc'] at CZ
                  clear hc' ho' hz'
                  refine AC.out.mono ?_
                  rintro r w8 ⟨rfl, h8⟩
                  have H8 := Lib.hid h8
                  clear h8
                  go_wp2_with fail
                  go_roundw
                  case rel => exact ⟨i + 1, M ++ [c], c', o', L4, v', rfl, rfl, rfl, by go_num, by omega, Lib.hid ⟨by rw [List.length_append, HM4.out.1]; rfl, CZ.out⟩, WN, Lib.hid ⟨LN.out, S2.out⟩, Lib.hid (H8.out.more (by omega))⟩
                  case measure => simp [intOf]; omega
              · obtain rfl : i = 600 := by omega
                exfalso
                have h1 := rise_few (M ++ [c]) U (List.pairwise_append.2 ⟨WK.out.rise, List.pairwise_singleton _ _, fun a ha b hb => by rw [List.mem_singleton.1 hb]; exact WK.out.last rfl a ha⟩) (fun z hz => (List.mem_append.1 hz).elim (WK.out.inU z) fun e => by rw [List.mem_singleton.1 e]; exact WK.out.cU rfl)
                rw [List.length_append, HM4.out.1] at h1
                have h2 := UL.out
                simp only [List.length_cons, List.length_nil] at h1
                omega
        case rest =>
          obtain ⟨M, mv, c, L4, b, rfl, rfl, HK, HC⟩ := hcut
          have BF := Lib.hid (B5.out.trans (HC.out.base B5.out.size N5.out))
          have SU := Lib.hid (rise_sub M S HK.out.1.rise SR.out fun z hz => (HK.out.1.sM z hz).elim id fun e => by cases e.1)
          have RM := Lib.hid HK.out.1.rise
          have LM := Lib.hid HK.out.2
          have VO := Lib.hid (V5.out _ _ _ _ _ HC.out)
          have MO := Lib.hid HC.out.row
          obtain ⟨A5, c5, rfl, _⟩ := HC.out.row.form
          obtain ⟨ML, hML⟩ : ∃ n, n = M.length := ⟨_, rfl⟩
          rw [← hML] at MO ⊢
          have HML := Lib.hid hML
          have KM := Lib.hid (show ∀ j, j < ML → ∃ g, A5 = some ⟨g, 0, none⟩ ∧ ∀ j', j' < ML → wc.cell? ⟨g, j', none⟩ = some (.string (M.getD j' ⟨#[]⟩)) from fun j hj => own_cells MO.out HML.out hj)
          have KS := Lib.hid (show ∀ j, j < SL → ∃ g, A4 = some ⟨g, 0, none⟩ ∧ ∀ j', j' < SL → wc.cell? ⟨g, j', none⟩ = some (.string (S.getD j' ⟨#[]⟩)) from fun j hj => own_cells VO.out HSL.out hj)
          have bM : ML ≤ 600 := by rw [hML]; exact LM.out
          have bS : SL ≤ 600 := by
            have := SU.out.length_le
            have := LM.out
            have := HSL.out
            omega
          clear hML HK HC SR W0 UL UY V5 MO VO C5 C6 C0 H1 H2
          go_wp2_with fail
          go_loopw [17, 18] (fun va vi wx => ∃ a i : Nat, va = .int .i64 a ∧ vi = .int .i64 i ∧ i ≤ ML ∧ a ≤ SL ∧ Hid ((S.drop a).Sublist (M.drop i)) ∧ Hid (Below wc.heap.size wc wx)) (fun _ vi _ => ML - (intOf vi).toNat)
          case atStart => exact ⟨0, 0, rfl, rfl, Nat.zero_le _, Nat.zero_le _, SU, Lib.hid (Below.refl _ _)⟩
          case round =>
            obtain ⟨a, i, rfl, rfl, hi, ha, HD, HB⟩ := hrel
            by_cases q1 : i < ML
            · obtain ⟨gm, rfl, km⟩ := KM.out i q1
              have f0 := (HB.out.cell (p := ⟨gm, i, none⟩) (block_lt_of_cell (km i q1))).trans (km i q1)
              obtain ⟨xi, hx⟩ : ∃ y, y = M.getD i ⟨#[]⟩ := ⟨_, rfl⟩
              have KI := Lib.hid (show wc.cell? ⟨gm, i, none⟩ = some (.string xi) by rw [hx]; exact km i q1)
              have NX := Lib.hid (show a < SL → (xi = S.getD a ⟨#[]⟩ → (S.drop (a + 1)).Sublist (M.drop (i + 1))) ∧ (xi ≠ S.getD a ⟨#[]⟩ → (S.drop a).Sublist (M.drop (i + 1))) from fun a1 => by rw [hx]; exact sub_next HD.out (by rw [← HML.out]; exact q1) (by rw [← HSL.out]; exact a1))
              rw [← hx] at f0
              have j0 : (0 : Int) ≤ (i : Int) := by omega
              have j1 : (i : Int) < (ML : Int) := by omega
              by_cases q2 : 0 < i
              · obtain ⟨k, hk⟩ : ∃ k, k = i - 1 := ⟨_, rfl⟩
                have k0 : (0 : Int) ≤ (k : Int) := by omega
                have k1 : (k : Int) < (ML : Int) := by omega
                have up : ltB (M.getD k ⟨#[]⟩) xi = true := by rw [hx]; exact rise_getD RM.out (by omega) (by rw [← HML.out]; exact q1)
                have f2 := (HB.out.cell (p := ⟨gm, k, none⟩) (block_lt_of_cell (km k (by omega)))).trans (km k (by omega))
                obtain ⟨xk, hxk⟩ : ∃ y, y = M.getD k ⟨#[]⟩ := ⟨_, rfl⟩
                rw [← hxk] at f2 up
                unfold ltB at up
                have d1 : IntKind.i64.wrap ((i : Int) - 1) = (k : Int) := one_less hk q2 (by omega)
                have d0 : decide (0 < (i : Int)) = true := decide_eq_true (by omega)
                clear hk hxk km hx
                go_wp2_with fail
                go_quiet (fail)
                clear f0 f2
                obtain ⟨wn, hwn⟩ : ∃ wn, wn = wr.drewN nq := ⟨_, rfl⟩
                rw [← hwn]
                have HB := Lib.hid (show Below wc.heap.size wc wn by rw [hwn]; exact below_drewN HB.out _)
                have f0 := (HB.out.cell (p := ⟨gm, i, none⟩) (block_lt_of_cell KI.out)).trans KI.out
                clear hwn
                by_cases a1 : a < SL
                · obtain ⟨gs, rfl, ks⟩ := KS.out a a1
                  have f1 := (HB.out.cell (p := ⟨gs, a, none⟩) (block_lt_of_cell (ks a a1))).trans (ks a a1)
                  have NZ := Lib.hid (NX.out a1)
                  obtain ⟨ya, hya⟩ : ∃ y, y = S.getD a ⟨#[]⟩ := ⟨_, rfl⟩
                  rw [← hya] at f1 NZ
                  have g0 : (0 : Int) ≤ (a : Int) := by omega
                  have g1 : (a : Int) < (SL : Int) := by omega
                  clear ks hya
                  by_cases a2 : xi = ya
                  · have a3 : (xi.toList == ya.toList) = true := by rw [a2]; simp
                    have NY := Lib.hid (NZ.out.1 a2)
                    clear a2
                    go_wp2_with fail
                    go_quiet (fail)
                    go_wp2_with fail
                    go_roundw
                    case rel => exact ⟨a + 1, i + 1, by go_num, by go_num, by omega, by omega, NY, Lib.hid (below_drewN HB.out _)⟩
                    case measure => simp [intOf]; omega
                  · have a3 : (xi.toList == ya.toList) = false := by
                      cases z : (xi.toList == ya.toList) with
                      | false => rfl
                      | true => exact absurd (toList_inj (beq_iff_eq.1 z)) a2
                    have NY := Lib.hid (NZ.out.2 a2)
                    clear a2
                    go_wp2_with fail
                    go_quiet (fail)
                    go_wp2_with fail
                    go_roundw
                    case rel => exact ⟨a, i + 1, by go_num, by go_num, by omega, by omega, NY, Lib.hid (below_drewN HB.out _)⟩
                    case measure => simp [intOf]; omega
                · have NY := Lib.hid (show (S.drop a).Sublist (M.drop (i + 1)) by rw [List.drop_of_length_le (by rw [← HSL.out]; omega)]; exact List.nil_sublist _)
                  have g1 : decide ((a : Int) < (SL : Int)) = false := decide_eq_false (by omega)
                  go_wp2_with fail
                  go_quiet (fail)
                  go_wp2_with fail
                  go_roundw
                  case rel => exact ⟨a, i + 1, by go_num, by go_num, by omega, by omega, NY, Lib.hid (below_drewN HB.out _)⟩
                  case measure => simp [intOf]; omega
              · have d1 : decide (0 < (i : Int)) = false := decide_eq_false (by omega)
                clear km hx
                go_wp2_with fail
                go_quiet (fail)
                clear f0
                obtain ⟨wn, hwn⟩ : ∃ wn, wn = wr.drewN nq := ⟨_, rfl⟩
                rw [← hwn]
                have HB := Lib.hid (show Below wc.heap.size wc wn by rw [hwn]; exact below_drewN HB.out _)
                have f0 := (HB.out.cell (p := ⟨gm, i, none⟩) (block_lt_of_cell KI.out)).trans KI.out
                clear hwn
                by_cases a1 : a < SL
                · obtain ⟨gs, rfl, ks⟩ := KS.out a a1
                  have f1 := (HB.out.cell (p := ⟨gs, a, none⟩) (block_lt_of_cell (ks a a1))).trans (ks a a1)
                  have NZ := Lib.hid (NX.out a1)
                  obtain ⟨ya, hya⟩ : ∃ y, y = S.getD a ⟨#[]⟩ := ⟨_, rfl⟩
                  rw [← hya] at f1 NZ
                  have g0 : (0 : Int) ≤ (a : Int) := by omega
                  have g1 : (a : Int) < (SL : Int) := by omega
                  clear ks hya
                  by_cases a2 : xi = ya
                  · have a3 : (xi.toList == ya.toList) = true := by rw [a2]; simp
                    have NY := Lib.hid (NZ.out.1 a2)
                    clear a2
                    go_wp2_with fail
                    go_quiet (fail)
                    go_wp2_with fail
                    go_roundw
                    case rel => exact ⟨a + 1, i + 1, by go_num, by go_num, by omega, by omega, NY, Lib.hid (below_drewN HB.out _)⟩
                    case measure => simp [intOf]; omega
                  · have a3 : (xi.toList == ya.toList) = false := by
                      cases z : (xi.toList == ya.toList) with
                      | false => rfl
                      | true => exact absurd (toList_inj (beq_iff_eq.1 z)) a2
                    have NY := Lib.hid (NZ.out.2 a2)
                    clear a2
                    go_wp2_with fail
                    go_quiet (fail)
                    go_wp2_with fail
                    go_roundw
                    case rel => exact ⟨a, i + 1, by go_num, by go_num, by omega, by omega, NY, Lib.hid (below_drewN HB.out _)⟩
                    case measure => simp [intOf]; omega
                · have NY := Lib.hid (show (S.drop a).Sublist (M.drop (i + 1)) by rw [List.drop_of_length_le (by rw [← HSL.out]; omega)]; exact List.nil_sublist _)
                  have g1 : decide ((a : Int) < (SL : Int)) = false := decide_eq_false (by omega)
                  go_wp2_with fail
                  go_quiet (fail)
                  go_wp2_with fail
                  go_roundw
                  case rel => exact ⟨a, i + 1, by go_num, by go_num, by omega, by omega, NY, Lib.hid (below_drewN HB.out _)⟩
                  case measure => simp [intOf]; omega
            · obtain rfl : i = ML := by omega
              have z : (S.drop a).Sublist [] := by
                have h := HD.out
                rwa [show M.drop i = [] from List.drop_of_length_le (by rw [← HML.out]; exact Nat.le_refl _)] at h
              have z2 := List.eq_nil_of_sublist_nil z
              have z3 : SL ≤ a := by rw [HSL.out]; exact List.drop_eq_nil_iff.1 z2
              obtain rfl : a = SL := by omega
              go_wp2_with fail
              go_ret
              exact ⟨rfl, BF.out.trans (HB.out.mono BF.out.size)⟩

end Go.Proofs.Ytdcjckdhjfnnhaa.treeCursor
