/- Proved parts: S6u. Conditions: each theorem's own. -/
import Derived.Test.YtfodclafkdkjbaaDoorM7
import Derived.RegionTactic
namespace Go.Proofs.YtfodclafkdkjbaaDoor
open Go.RowKit

/-- the first k bytes from o on, as a number -/
def gk (s : ByteArray) (o : Nat) : Nat → Int
  | 0 => 0
  | k + 1 => gk s o k * 256 + bN s (o + k)
theorem gk_four (s : ByteArray) (o : Nat) : gk s o 4 = num4 s o := by
  simp only [gk, num4, Nat.add_zero]; omega
theorem gk_le (s : ByteArray) (o k : Nat) (hk : k ≤ 4) : 0 ≤ gk s o k ∧ gk s o k ≤ 4294967295 ∧ (k < 4 → gk s o k ≤ 16777215) := by
  have h0 := bN_lt s o; have h1 := bN_lt s (o + 1); have h2 := bN_lt s (o + 2); have h3 := bN_lt s (o + 3)
  rcases (show k = 0 ∨ k = 1 ∨ k = 2 ∨ k = 3 ∨ k = 4 by omega) with rfl | rfl | rfl | rfl | rfl <;> simp only [gk, Nat.add_zero] <;> omega
theorem byte_bN (s : ByteArray) (j : Nat) (h : j < s.size) : ((s[j]'h).toNat : Int) = bN s j := by unfold bN; rw [byte_at s j h]

/-- what it answers -/
def UnPost (s : ByteArray) (w : World) (e : Ending) (w' : World) : Prop :=
  e = .returned (.tuple #[(if isSec s then stp s else Stp.S0).v, .string (if isSec s then dat s else ⟨#[]⟩), .bool (isSec s)]) ∧ Below w.heap.size w w'
theorem UnPost.no {s : ByteArray} {w w' : World} (h : isSec s = false) (hb : Below w.heap.size w w') : UnPost s w (.returned (.tuple #[.agg #[.int .i64 0, .int .i64 0, .int .i64 0, .int .i64 0, .int .i64 0], .string ⟨#[]⟩, .bool false])) w' := by
  refine ⟨?_, hb⟩; rw [h]; rfl

set_option maxRecDepth 100000 in
set_option maxHeartbeats 1000000 in
theorem srUnpack_no (s : ByteArray) (w : World) (hs : s.size ≤ 1000) (h : s.size ≠ 64 ∨ (s.size = 64 ∧ bN s 0 ≠ 193) ∨ (s.size = 64 ∧ bN s 0 = 193 ∧ 50 < bN s 13)) :
    Calls Tryd.prog 63 #[.string s] w (UnPost s w) := by
  have R := Lib.hid (show isSec s = false by
    cases k : isSec s with
    | false => rfl
    | true => have := (isSec_iff s).1 k; omega)
  rcases h with h | ⟨h, h0⟩ | ⟨h, h0, h1⟩
  · have T : ((s.size : Int) != 64) = true := by rw [bne_iff_ne]; omega
    clear h
    go_enter Tryd.func63, Tryd.ntmps63
    go_wp2_with fail
    refine bodyPost_ret (v := .tuple #[.agg #[.int .i64 0, .int .i64 0, .int .i64 0, .int .i64 0, .int .i64 0], .string ⟨#[]⟩, .bool false]) (by simp [results, Tryd.results63, go_sem]) rfl ?_
    exact UnPost.no R.out ((Below.refl w.heap.size w).alloc (Nat.le_refl _) _)
  · have T : ((s.size : Int) != 64) = false := by rw [bne_eq_false_iff_eq]; omega
    have hp : 0 < s.size := by omega
    have e0 : ((s[0]'hp).toNat : Int) = bN s 0 := byte_bN s 0 hp
    have T0 : ((bN s 0 : Int) != 193) = true := by rw [bne_iff_ne]; omega
    clear h h0
    go_enter Tryd.func63, Tryd.ntmps63
    go_wp2_with fail
    refine bodyPost_ret (v := .tuple #[.agg #[.int .i64 0, .int .i64 0, .int .i64 0, .int .i64 0, .int .i64 0], .string ⟨#[]⟩, .bool false]) (by simp [results, Tryd.results63, go_sem]) rfl ?_
    exact UnPost.no R.out ((Below.refl w.heap.size w).alloc (Nat.le_refl _) _)
  · have T : ((s.size : Int) != 64) = false := by rw [bne_eq_false_iff_eq]; omega
    have hp : 0 < s.size := by omega
    have e0 : ((s[0]'hp).toNat : Int) = bN s 0 := byte_bN s 0 hp
    have hp13 : 13 < s.size := by omega
    have e13 : ((s[13]'hp13).toNat : Int) = bN s 13 := byte_bN s 13 hp13
    have T0 : ((bN s 0 : Int) != 193) = false := by rw [bne_eq_false_iff_eq]; omega
    have T1 : decide (50 < (bN s 13 : Int)) = true := decide_eq_true (by omega)
    clear h h0
    go_enter Tryd.func63, Tryd.ntmps63
    go_wp2_with fail
    refine bodyPost_ret (v := .tuple #[.agg #[.int .i64 0, .int .i64 0, .int .i64 0, .int .i64 0, .int .i64 0], .string ⟨#[]⟩, .bool false]) (by simp [results, Tryd.results63, go_sem]) rfl ?_
    exact UnPost.no R.out ((Below.refl w.heap.size w).alloc (Nat.le_refl _) _)


set_option maxRecDepth 100000 in
set_option maxHeartbeats 2000000 in
theorem srUnpack_go (s : ByteArray) (w : World) (h : s.size = 64) (h0 : bN s 0 = 193) (h1 : bN s 13 ≤ 50) :
    Calls Tryd.prog 63 #[.string s] w (UnPost s w) := by
  have T : ((s.size : Int) != 64) = false := by rw [bne_eq_false_iff_eq]; omega
  have hp : 0 < s.size := by omega
  have e0 : ((s[0]'hp).toNat : Int) = bN s 0 := byte_bN s 0 hp
  have hp13 : 13 < s.size := by omega
  have e13 : ((s[13]'hp13).toNat : Int) = bN s 13 := byte_bN s 13 hp13
  have T0 : ((bN s 0 : Int) != 193) = false := by rw [bne_eq_false_iff_eq]; omega
  have T1 : decide (50 < (bN s 13 : Int)) = false := decide_eq_false (by omega)
  have HS := Lib.hid h
  have H0 := Lib.hid h0
  have H1 := Lib.hid h1
  clear h h0 h1
  obtain ⟨q, hq⟩ : ∃ q, q = w.heap.size := ⟨_, rfl⟩
  obtain ⟨wa, hwa⟩ : ∃ wa, wa = w.alloc (.cells #[.int .i64 0, .int .i64 0, .int .i64 0, .int .i64 0, .int .i64 0] 110) := ⟨_, rfl⟩
  have RA := RowAt.new w [.int .i64 0, .int .i64 0, .int .i64 0, .int .i64 0, .int .i64 0] 110
  have BA := (Below.refl w.heap.size w).alloc (Nat.le_refl _) (.cells #[.int .i64 0, .int .i64 0, .int .i64 0, .int .i64 0, .int .i64 0] 110)
  go_enter Tryd.func63, Tryd.ntmps63
  go_wp2_with fail
  change RowAt (w.alloc (.cells #[.int .i64 0, .int .i64 0, .int .i64 0, .int .i64 0, .int .i64 0] 110)) w.heap.size _ _ at RA
  rw [← hwa] at RA BA ⊢
  rw [← hq] at RA BA ⊢
  have RA' := Lib.hid RA
  have BA' := Lib.hid BA
  have HQ := Lib.hid hq
  clear RA BA hwa hq T T0 T1
  go_loopw [5, 6, 7] (fun va vb vi wr => ∃ (k : Nat) (a b : Int), k ≤ 4 ∧ vi = .int .i64 k ∧ va = .int .i64 a ∧ vb = .int .i64 b ∧ Hid (a = gk s 1 k) ∧ Hid (b = gk s 7 k) ∧ wr = wa) (fun _ _ vi _ => 4 - (intOf vi).toNat)
  case atStart => exact ⟨0, 0, 0, by omega, rfl, rfl, rfl, Lib.hid rfl, Lib.hid rfl, rfl⟩
  case round =>
    obtain ⟨k, a, b, k4, rfl, rfl, rfl, HA, HB, rfl⟩ := hrel
    by_cases kk : k < 4
    · have ga := gk_le s 1 k (by omega)
      have gb := gk_le s 7 k (by omega)
      rw [← HA.out] at ga
      rw [← HB.out] at gb
      have a0 := ga.1
      have a1 := ga.2.2 kk
      have b0 := gb.1
      have b1 := gb.2.2 kk
      have hA : 1 + k < s.size := by have := HS.out; omega
      have hB : 7 + k < s.size := by have := HS.out; omega
      have eA : ((s[1 + k]'hA).toNat : Int) = bN s (1 + k) := byte_bN s _ hA
      have eB : ((s[7 + k]'hB).toNat : Int) = bN s (7 + k) := byte_bN s _ hB
      have lA := bN_lt s (1 + k)
      have lB := bN_lt s (7 + k)
      have DA := Lib.hid (show a * 256 + (bN s (1 + k) : Int) = gk s 1 (k + 1) by rw [HA.out]; rfl)
      have DB := Lib.hid (show b * 256 + (bN s (7 + k) : Int) = gk s 7 (k + 1) by rw [HB.out]; rfl)
      clear ga gb
      go_wp2_with fail
      go_roundw
      case rel => exact ⟨k + 1, _, _, by omega, by go_num, rfl, rfl, DA, DB, trivial⟩
      case measure => simp [intOf]; omega
    · obtain rfl : k = 4 := by omega
      have gA := Lib.hid (show a = num4 s 1 by rw [HA.out, gk_four])
      have gB := Lib.hid (show b = num4 s 7 by rw [HB.out, gk_four])
      have hp5 : 5 < s.size := by have := HS.out; omega
      have hp6 : 6 < s.size := by have := HS.out; omega
      have hp11 : 11 < s.size := by have := HS.out; omega
      have hp12 : 12 < s.size := by have := HS.out; omega
      have e5 : ((s[5]'hp5).toNat : Int) = bN s 5 := byte_bN s 5 hp5
      have e6 : ((s[6]'hp6).toNat : Int) = bN s 6 := byte_bN s 6 hp6
      have e11 : ((s[11]'hp11).toNat : Int) = bN s 11 := byte_bN s 11 hp11
      have e12 : ((s[12]'hp12).toNat : Int) = bN s 12 := byte_bN s 12 hp12
      have l5 := bN_lt s 5
      have l6 := bN_lt s 6
      have l11 := bN_lt s 11
      have l12 := bN_lt s 12
      have l13 : bN s 13 ≤ 50 := H1.out
      have ES := Lib.hid (show stp s = ⟨a, (bN s 5 : Int) * 256 + bN s 6, b, bN s 11, bN s 12⟩ by rw [gA.out, gB.out]; rfl)
      have SR := Lib.hid (srRight (stp s))
      rw [ES.out] at SR
      have IS := Lib.hid (show isSec s = (zeros s (14 + bN s 13) && (stp s).ok) by
        unfold isSec
        rw [decide_eq_true HS.out, decide_eq_true H0.out, decide_eq_true H1.out]; rfl)
      clear gA gB HA HB
      go_upto_region 9 with fail
      go_region
      go_upto_block 2 with fail
      obtain ⟨qx, hqx⟩ : ∃ qx, qx = wr.heap.size := ⟨_, rfl⟩
      obtain ⟨wx, hwx⟩ : ∃ wx, wx = (wr.alloc (.cells #[.int .i64 a, .int .i64 ((bN s 5 : Int) * 256 + bN s 6), .int .i64 b, .int .i64 (bN s 11 : Int), .int .i64 (bN s 12 : Int)] 110)).drew := ⟨_, rfl⟩
      have RX := RowAt.new wr [.int .i64 a, .int .i64 ((bN s 5 : Int) * 256 + bN s 6), .int .i64 b, .int .i64 (bN s 11 : Int), .int .i64 (bN s 12 : Int)] 110
      have RQ := (RA'.out).alloc (.cells #[.int .i64 a, .int .i64 ((bN s 5 : Int) * 256 + bN s 6), .int .i64 b, .int .i64 (bN s 11 : Int), .int .i64 (bN s 12 : Int)] 110)
      have BX := below_drew ((BA'.out).alloc (by have h1 := HQ.out; have h2 := BA'.out.size; omega) (.cells #[.int .i64 a, .int .i64 ((bN s 5 : Int) * 256 + bN s 6), .int .i64 b, .int .i64 (bN s 11 : Int), .int .i64 (bN s 12 : Int)] 110))
      change RowAt (wr.alloc (.cells #[.int .i64 a, .int .i64 ((bN s 5 : Int) * 256 + bN s 6), .int .i64 b, .int .i64 (bN s 11 : Int), .int .i64 (bN s 12 : Int)] 110)).drew _ _ _ at RX RQ
      rw [← hwx] at RX RQ BX ⊢
      rw [← hqx] at RX ⊢
      have RX' := Lib.hid RX
      have RQ' := Lib.hid RQ
      have BX' := Lib.hid BX
      have QX := Lib.hid (show q < qx from by rw [hqx]; exact RA'.out.lt)
      clear RX RQ BX hwx hqx
      go_wp2_with fail
      go_loopw [10] (fun vi wr => ∃ k : Nat, vi = .int .i64 k ∧ 14 + bN s 13 ≤ k ∧ k ≤ 64 ∧ Hid (∀ j, j < k → 14 + bN s 13 ≤ j → bN s j = 0) ∧ wr = wx) (fun vi _ => 64 - (intOf vi).toNat)
      case atStart => exact ⟨14 + bN s 13, by go_num, Nat.le_refl _, by omega, Lib.hid (fun j h1 h2 => by omega), rfl⟩
      case round =>
        obtain ⟨k, rfl, kl, k64, HZ, rfl⟩ := hrel
        obtain ⟨c0, c1, c2, c3, c4⟩ : BoxS wr q 0 0 0 0 0 := BoxS.of_row RQ'.out
        have f0 := RowAt.frozen RQ'.out 0
        have f1 := RowAt.frozen RQ'.out 1
        have f2 := RowAt.frozen RQ'.out 2
        have f3 := RowAt.frozen RQ'.out 3
        have f4 := RowAt.frozen RQ'.out 4
        by_cases kk : k < 64
        · have hpk : k < s.size := by have := HS.out; omega
          have ek : ((s[k]'hpk).toNat : Int) = bN s k := byte_bN s k hpk
          by_cases hz : bN s k = 0
          · have Tz : ((bN s k : Int) != 0) = false := by rw [bne_eq_false_iff_eq]; omega
            have NZ := Lib.hid (show ∀ j, j < k + 1 → 14 + bN s 13 ≤ j → bN s j = 0 from fun j h1 h2 => by
              by_cases e : j = k
              · rw [e]; exact hz
              · exact HZ.out j (by omega) h2)
            clear hz
            go_wp2_with fail
            go_roundw
            case rel => exact ⟨k + 1, by go_num, by omega, by omega, NZ, trivial⟩
            case measure => simp [intOf]; omega
          · have Tz : ((bN s k : Int) != 0) = true := by rw [bne_iff_ne]; omega
            have R := Lib.hid (show isSec s = false by
              rw [IS.out]
              cases e : zeros s (14 + bN s 13) with
              | false => rfl
              | true => exact absurd ((zeros_iff s _).1 e k kk kl) hz)
            clear hz
            go_wp2_with fail
            show bodyPost Tryd.prog Tryd.f63 (UnPost s w) .ret _ _
            refine bodyPost_ret (v := .tuple #[.agg #[.int .i64 0, .int .i64 0, .int .i64 0, .int .i64 0, .int .i64 0], .string ⟨#[]⟩, .bool false]) (by simp [results, Tryd.results63, go_sem, c0, c1, c2, c3, c4]) rfl ?_
            refine UnPost.no R.out ?_
            rw [← HQ.out]
            exact (((((BX'.out.setCell (p := ⟨q, 0, none⟩) (Nat.le_refl q) _).setCell (p := ⟨q, 1, none⟩) (Nat.le_refl q) _).setCell (p := ⟨q, 2, none⟩) (Nat.le_refl q) _).setCell (p := ⟨q, 3, none⟩) (Nat.le_refl q) _).setCell (p := ⟨q, 4, none⟩) (Nat.le_refl q) _)
        · obtain rfl : k = 64 := by omega
          have ZZ := Lib.hid (show isSec s = (stp s).ok by rw [IS.out, (zeros_iff s _).2 (fun j h1 h2 => HZ.out j h1 h2)]; rfl)
          obtain ⟨d0, d1, d2, d3, d4⟩ := BoxS.of_row RX'.out
          go_wp2_with fail
          refine (SR.out _).mono ?_
          rintro r w2 ⟨rfl, hb2⟩
          have RX2 := Lib.hid (RX'.out.below hb2)
          have RQ2 := Lib.hid (RQ'.out.below hb2)
          have BX2 := Lib.hid (BX'.out.trans (hb2.mono (by have h1 := BX'.out.size; have h2 := HQ.out; omega)))
          clear hb2 c0 c1 c2 c3 c4 f0 f1 f2 f3 f4 d0 d1 d2 d3 d4
          obtain ⟨c0, c1, c2, c3, c4⟩ : BoxS w2 q 0 0 0 0 0 := BoxS.of_row RQ2.out
          obtain ⟨d0, d1, d2, d3, d4⟩ := BoxS.of_row RX2.out
          have f0 := RowAt.frozen RQ2.out 0
          have f1 := RowAt.frozen RQ2.out 1
          have f2 := RowAt.frozen RQ2.out 2
          have f3 := RowAt.frozen RQ2.out 3
          have f4 := RowAt.frozen RQ2.out 4
          obtain ⟨o, ho⟩ : ∃ o, o = (stp s).ok := ⟨_, rfl⟩
          rw [← ES.out, ← ho]
          rw [← ho] at ZZ
          clear ho
          cases o with
          | false =>
            go_wp2_with fail
            show bodyPost Tryd.prog Tryd.f63 (UnPost s w) .ret _ _
            refine bodyPost_ret (v := .tuple #[.agg #[.int .i64 0, .int .i64 0, .int .i64 0, .int .i64 0, .int .i64 0], .string ⟨#[]⟩, .bool false]) (by simp [results, Tryd.results63, go_sem, c0, c1, c2, c3, c4]) rfl ?_
            refine UnPost.no ZZ.out ?_
            rw [← HQ.out]
            exact (((((BX2.out.setCell (p := ⟨q, 0, none⟩) (Nat.le_refl q) _).setCell (p := ⟨q, 1, none⟩) (Nat.le_refl q) _).setCell (p := ⟨q, 2, none⟩) (Nat.le_refl q) _).setCell (p := ⟨q, 3, none⟩) (Nat.le_refl q) _).setCell (p := ⟨q, 4, none⟩) (Nat.le_refl q) _)
          | true =>
            have HSL : ∀ W : World, (Instr.slice 9 (.string s) (some (.int .i64 14)) (some (.int .i64 (14 + (bN s 13 : Int)))) none).run Tryd.prog W = .ok (.string (dat s)) W := by
              intro W
              rw [run_slice_string W 9 s .i64 .i64 _ _ Tryd.underlying9 (by omega) (by omega) (by have := HS.out; omega), show (14 : Int).toNat = 14 from rfl, show (14 + (bN s 13 : Int)).toNat = 14 + bN s 13 by omega]
              rfl
            go_upto_region 18 with fail
            go_region
            all_goals
              go_wp2_with fail
              show bodyPost Tryd.prog Tryd.f63 (UnPost s w) .ret _ _
              refine bodyPost_ret (v := .tuple #[.agg #[.int .i64 a, .int .i64 ((bN s 5 : Int) * 256 + bN s 6), .int .i64 b, .int .i64 (bN s 11 : Int), .int .i64 (bN s 12 : Int)], .string (dat s), .bool true]) (by simp [results, Tryd.results63, go_sem, c0, c1, c2, c3, c4]) rfl ?_
              refine ⟨?_, ?_⟩
              · rw [ZZ.out, if_pos rfl, if_pos rfl, ES.out]; rfl
              · rw [← HQ.out]
                exact below_drew (((((BX2.out.setCell (p := ⟨q, 0, none⟩) (Nat.le_refl q) _).setCell (p := ⟨q, 1, none⟩) (Nat.le_refl q) _).setCell (p := ⟨q, 2, none⟩) (Nat.le_refl q) _).setCell (p := ⟨q, 3, none⟩) (Nat.le_refl q) _).setCell (p := ⟨q, 4, none⟩) (Nat.le_refl q) _)

/-- cloisonneref06.Unpack -/
theorem srUnpack (s : ByteArray) (w : World) (hs : s.size ≤ 1000) : Calls Tryd.prog 63 #[.string s] w (UnPost s w) := by
  by_cases h : s.size = 64
  · by_cases h0 : bN s 0 = 193
    · by_cases h1 : bN s 13 ≤ 50
      · exact srUnpack_go s w h h0 h1
      · exact srUnpack_no s w hs (.inr (.inr ⟨h, h0, by omega⟩))
    · exact srUnpack_no s w hs (.inr (.inl ⟨h, h0⟩))
  · exact srUnpack_no s w hs (.inl h)

end Go.Proofs.YtfodclafkdkjbaaDoor
