/- Tags out of bytes: the reference's Unpack answers, walked. -/
import Derived.Test.YtmcackghpkegbaaUp
namespace Go.Proofs.Ytmcackghpkegbaa
open Go.RowKit

theorem byte_drop (s : ByteArray) (o j : Nat) (h : o + j < s.size) : s[o + j] = (s.data.toList.drop o).getD j 0 := by
  rw [byte_at s (o + j) h]
  simp only [List.getD]
  rw [List.getElem?_drop]
theorem nb_step (s : ByteArray) (o j : Nat) (h : o + j < s.size) (hj : j < 8) :
    IntKind.u64.wrap (IntKind.u64.wrap ((nb (s.data.toList.drop o) j : Int) * 256) + IntKind.u64.wrap (s[o + j].toNat : Int)) = ((nb (s.data.toList.drop o) (j + 1) : Nat) : Int) := by
  have h1 := nb_lt (s.data.toList.drop o) j
  have h2 : 256 ^ j ≤ 256 ^ 7 := Nat.pow_le_pow_right (by omega) (by omega)
  have h3 := UInt8.toNat_lt s[o + j]
  rw [nb, ← byte_drop s o j h]; simp only [IntKind.wrap_u64]; omega
theorem tagsOf_succ (s : ByteArray) (k : Nat) : tagsOf s (k + 1) = tagsOf s k ++ [tagAt s k] := by
  unfold tagsOf; rw [List.range_succ, List.map_append]; rfl

set_option maxHeartbeats 1000000 in
set_option maxRecDepth 100000 in
/-- cloisonneref02.Unpack -/
theorem runpack (s : ByteArray) (w : World) (hm : s.size ≤ 1099511627776) : Calls Try.prog 44 #[.string s] w (UpPost s w) := by
  by_cases h0 : s.size = 0
  · have T0 : ((s.size : Int) == 0) = true := beq_iff_eq.2 (by omega)
    have hc : upC s = 3 := by unfold upC; rw [if_pos h0]
    obtain ⟨e1, e2⟩ := up_bad hc (by decide)
    have E0 := Lib.hid hc
    have E1 := Lib.hid e1
    have E2 := Lib.hid e2
    clear hc e1 e2 h0
    go_enter Try.func44, Try.ntmps44
    go_wp2
    refine bodyPost_ret (results_tmp3 rfl _ _ _) rfl ?_
    exact ⟨_, ret_vnc rfl E1.out.symm E0.out.symm, by rw [E2.out]; exact Own.nil _ _, Below.refl _ _⟩
  have T0 : ((s.size : Int) == 0) = false := beq_eq_false_iff_ne.2 (by omega)
  have hp : 0 < s.size := by omega
  have hcn : (s[0]'hp).toNat = cnt s := by rw [byte_at s 0 hp]; rfl
  obtain ⟨n, hn⟩ : ∃ n, n = cnt s := ⟨_, rfl⟩
  rw [← hn] at hcn
  have hb : n < 256 := by rw [← hcn]; exact UInt8.toNat_lt _
  by_cases h6 : 6 < n
  · have hc : upC s = 4 := by unfold upC; rw [if_neg h0, if_pos (by omega)]
    obtain ⟨e1, e2⟩ := up_bad hc (by decide)
    have E0 := Lib.hid hc
    have E1 := Lib.hid e1
    have E2 := Lib.hid e2
    clear hc e1 e2 h0 hn
    go_enter Try.func44, Try.ntmps44
    go_wp2
    refine bodyPost_ret (results_tmp3 rfl _ _ _) rfl ?_
    exact ⟨_, ret_vnc rfl E1.out.symm E0.out.symm, by rw [E2.out]; exact Own.nil _ _, Below.refl _ _⟩
  by_cases hsh : s.size < 1 + 8 * n
  · have hc : upC s = 3 := by unfold upC; rw [if_neg h0, if_neg (by omega), if_pos (by omega)]
    obtain ⟨e1, e2⟩ := up_bad hc (by decide)
    have E0 := Lib.hid hc
    have E1 := Lib.hid e1
    have E2 := Lib.hid e2
    clear hc e1 e2 h0 hn
    go_enter Try.func44, Try.ntmps44
    go_wp2
    refine bodyPost_ret (results_tmp3 rfl _ _ _) rfl ?_
    exact ⟨_, ret_vnc rfl E1.out.symm E0.out.symm, by rw [E2.out]; exact Own.nil _ _, Below.refl _ _⟩
  have hsz : 1 + 8 * n ≤ s.size := by omega
  have hC := Lib.hid (show upC s = if La.right (tagsOf s n) then 0 else 4 by unfold upC; rw [if_neg h0, if_neg (by omega), if_neg (by omega), hn])
  have HN := Lib.hid hn
  clear h0 hn hsh
  go_enter Try.func44, Try.ntmps44
  go_wp2_with fail
  go_loopw [6, 7] (fun vo vi wr => ∃ k : Nat, k ≤ n ∧ vi = .int .i64 k ∧ Own wr w.heap.size vo (tagsOf s k) ∧ Below w.heap.size w wr) (fun _ vi _ => n - (intOf vi).toNat)
  case atStart => exact ⟨0, Nat.zero_le _, rfl, Own.made w w.heap.size (Nat.le_refl _) [] (Nat.zero_le _), (Below.refl _ _).alloc (Nat.le_refl _) _⟩
  case round =>
    obtain ⟨k, hk, rfl, hown, hbel⟩ := hrel
    have hwsz := hbel.size
    have HB := Lib.hid hbel
    have HO := Lib.hid hown
    clear hbel hown
    by_cases hlt : k < n
    · go_wp2_with fail
      go_loop [8, 9] (fun p i => ∃ j : Nat, j ≤ 8 ∧ i = .int .i64 j ∧ p = .int .u64 (nb (s.data.toList.drop (1 + 8 * k)) j : Nat)) (fun _ i => 8 - (intOf i).toNat)
      case atStart => exact ⟨0, by omega, rfl, rfl⟩
      case round =>
        obtain ⟨j, hj, rfl, rfl⟩ := hrel
        by_cases hjl : j < 8
        · have J := Lib.hid (nb_step s (1 + 8 * k) j (by omega) hjl)
          go_wp2
          rw [J.out]
          exact ⟨⟨j + 1, by omega, by go_num, rfl⟩, by simp [intOf]; omega⟩
        · have hj8 : j = 8 := by omega
          subst hj8
          have TG := Lib.hid (show (nb (s.data.toList.drop (1 + 8 * k)) 8 : Int) = tagAt s k from rfl)
          have HL := Lib.hid (tagsOf_length s k)
          go_wp2_with (at_builtin; refine wp_put1 rfl (.tmp 45) (.tmp 47) rfl w.heap.size _ _ rfl (HO.out.alloc _) _ _ rfl (cell_new _ _ _) (by rw [HL.out]; omega) (by simp; omega) ?_; intro v1 w1 hown1 hb1; have HB1 := Lib.hid ((HB.out.alloc hwsz _).trans hb1); have HO1 := Lib.hid hown1; clear hb1 hown1)
          go_roundw
          case rel =>
            refine ⟨k + 1, by omega, by go_num, ?_, HB1.out⟩
            have h9 := HO1.out
            rw [TG.out] at h9
            rw [tagsOf_succ]
            exact h9
          case measure => simp [intOf]; omega
    · have hkn : k = n := by omega
      have h9 := HO.out
      rw [hkn] at h9
      obtain ⟨ts, hts⟩ : ∃ ts, ts = tagsOf s n := ⟨_, rfl⟩
      rw [← hts] at h9
      obtain ⟨A1, c1, rfl, _, hsl, _, _⟩ := h9.form
      have HTS := Lib.hid hts
      have OW := Lib.hid h9
      have SL := Lib.hid hsl
      have LL := Lib.hid (show ts.length ≤ maxLen by rw [hts, tagsOf_length]; unfold maxLen; omega)
      have UU := Lib.hid (show La.U64 ts by rw [hts]; exact tagsOf_u64 s n)
      have HK := Lib.hid hkn
      clear hkn hts h9 hsl
      cases hq : La.right ts
      · have Q := Lib.hid hq
        have hc : upC s = 4 := by rw [hC.out, ← HTS.out, hq]; rfl
        obtain ⟨e1, e2⟩ := up_bad hc (by decide)
        have E0 := Lib.hid hc
        have E1 := Lib.hid e1
        have E2 := Lib.hid e2
        clear hc e1 e2 hq
        go_wp2_with fail
        refine (rright A1 c1 ts _ SL.out LL.out UU.out).mono ?_
        rintro e w' ⟨rfl, n9, rfl⟩
        rw [Q.out]
        have BE := Lib.hid (below_drewN HB.out n9)
        go_wp2
        refine bodyPost_ret (results_tmp3 rfl _ _ _) rfl ?_
        exact ⟨_, ret_vnc rfl E1.out.symm E0.out.symm, by rw [E2.out]; exact Own.nil _ _, BE.out⟩
      · have Q := Lib.hid hq
        have hc : upC s = 0 := by rw [hC.out, ← HTS.out, hq]; rfl
        have E0 := Lib.hid hc
        have E1 := Lib.hid (show upN s = 1 + 8 * (n : Int) by unfold upN; rw [hc, if_pos rfl, HN.out])
        have E2 := Lib.hid (show upV s = ts by unfold upV; rw [hc, if_pos rfl, ← HN.out, HTS.out])
        clear hc hq
        go_wp2_with fail
        refine (rright A1 c1 ts _ SL.out LL.out UU.out).mono ?_
        rintro e w' ⟨rfl, n9, rfl⟩
        rw [Q.out]
        have BE := Lib.hid (below_drewN HB.out n9)
        go_wp2
        refine bodyPost_ret (results_tmp3 rfl _ _ _) rfl ?_
        exact ⟨_, ret_vnc rfl E1.out.symm E0.out.symm, by rw [E2.out]; exact OW.out.drewN n9, BE.out⟩

end Go.Proofs.Ytmcackghpkegbaa
