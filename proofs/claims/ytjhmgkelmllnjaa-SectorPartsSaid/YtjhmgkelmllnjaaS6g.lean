/- Proved: SectorParts, for every bytes and number the law returns true, and its arguments read behind the call as they read before, at this commit. Conditions: none. -/
import Derived.Test.YtjhmgkelmllnjaaS6e
import Derived.Test.YtjhmgkelmllnjaaFr
import Derived.Deep.QuietTactic
import Derived.BigQuiet
namespace Go.Proofs.Ytjhmgkelmllnjaa.sectorParts
open Go.Proofs.Ytjhmgkelmllnjaa Go.Joins Go.ChangeShapes Go.WideShapes Go.ChangeAt Go.RowKit
open Go.ChangeMaps (open_string shut_string)

theorem bN_append (a b : ByteArray) (j : Nat) : bN (a ++ b) j = if j < a.size then bN a j else bN b (j - a.size) := by
  unfold bN
  have e : (a ++ b).data.toList = a.data.toList ++ b.data.toList := by simp [ByteArray.data_append]
  rw [e, List.getD_eq_getElem?_getD, List.getD_eq_getElem?_getD, List.getD_eq_getElem?_getD]
  by_cases h : j < a.size
  · rw [if_pos h, List.getElem?_append_left (by simpa using h)]
  · rw [if_neg h, List.getElem?_append_right (by simpa using h)]; simp
/-- the first i parts, one behind the other -/
def joinOf (s : ByteArray) (i : Nat) : ByteArray := s.extract 0 (if 50 * i ≤ s.size then 50 * i else s.size)
theorem joinOf_zero (s : ByteArray) : joinOf s 0 = ⟨#[]⟩ := by
  unfold joinOf
  refine bytes_eq ?_ fun j hj => ?_
  · rw [if_pos (by omega), size_extract _ _ _ (by omega)]; rfl
  · rw [if_pos (by omega), size_extract _ _ _ (by omega)] at hj; omega
theorem joinOf_step (s : ByteArray) (i : Nat) (h : 50 * i ≤ s.size) : joinOf s i ++ partAt s i = joinOf s (i + 1) := by
  have hb : ∀ e, e ≤ s.size → 50 * i ≤ e → s.extract 0 (50 * i) ++ s.extract (50 * i) e = s.extract 0 e := fun e h1 h2 => by
    refine bytes_eq ?_ fun j hj => ?_
    · rw [ByteArray.size_append, size_extract _ _ _ h, size_extract _ _ _ h1, size_extract _ _ _ h1]; omega
    · rw [ByteArray.size_append, size_extract _ _ _ h, size_extract _ _ _ h1] at hj
      rw [bN_append, size_extract _ _ _ h]
      by_cases q : j < 50 * i - 0
      · rw [if_pos q, bN_extract _ _ _ _ q, bN_extract _ _ _ _ (by omega)]
      · rw [if_neg q, bN_extract _ _ _ _ (by omega), bN_extract _ _ _ _ (by omega)]; congr 1; omega
  unfold joinOf partAt
  rw [if_pos h]
  split <;> exact hb _ (by omega) (by omega)
theorem joinOf_all (s : ByteArray) : joinOf s (cntN s.size) = s := by
  unfold joinOf
  have e : (if 50 * cntN s.size ≤ s.size then 50 * cntN s.size else s.size) = s.size := by
    unfold cntN; split <;> split <;> omega
  rw [e]; simp
theorem cnt_facts (n : Int) (h : 0 ≤ n) : 1 ≤ cnt n ∧ (cnt n - 1) * 50 ≤ n ∧ ((cnt n - 1) * 50 ≤ n - 1 ∨ (cnt n - 1) * 50 = 0) ∧ n - 50 * (cnt n - 1) ≤ 50 := by
  unfold cnt
  rw [if_neg (by omega)]
  by_cases h0 : n = 0
  · rw [if_pos h0]; omega
  · rw [if_neg h0]; omega

set_option maxRecDepth 100000 in
set_option maxHeartbeats 2000000 in
theorem walk (s : ByteArray) (n : Int) (w : World) (hs : s.size ≤ maxLen) (hn : (Lit.int .i64 n).wf = true) :
    Calls Try.prog 3 #[.string s, .int .i64 n] w fun e w' => e = .returned (.bool true) ∧ Below w.heap.size w w' := by
  unfold maxLen at hs
  obtain ⟨n0, n1⟩ := bounds_i64 hn
  clear hn
  have AW := Lib.hid (awake6p (fun x d w h1 h2 => pPack x d w h1 h2) (fun n w h0 h1 => (pCount n w h0 h1).mono fun e w' ⟨he, hw⟩ => ⟨he, by rw [hw]; exact Below.refl _ _⟩))
  go_enter Try.func3, Try.ntmps3
  go_wp2_with fail
  refine (AW.out _).mono ?_
  rintro e w1 ⟨rfl, hb1⟩
  have B1 := Lib.hid hb1
  clear hb1 AW
  by_cases h2000 : 2000 < s.size
  · go_wp2_with fail
    go_ret
    exact ⟨rfl, B1.out⟩
  obtain ⟨c, hc⟩ : ∃ c, c = cntN s.size := ⟨_, rfl⟩
  have c1 : c ≤ 2000 := by rw [hc]; unfold cntN; split <;> omega
  have CN := Lib.hid (show ∀ w, Calls Try.prog 7 #[.int .i64 (s.size : Int)] w fun e w' => e = .returned (.int .i64 (c : Int)) ∧ w' = w from fun w => by
    have k := pCount s.size w (by omega) (by omega)
    rw [cnt_nat, ← hc] at k; exact k)
  have PL := Lib.hid (partsOf_len s)
  have PA := Lib.hid (fun w => pParts s w (by omega))
  have RA := Lib.hid (fun w => srParts s w (by omega))
  have JA := Lib.hid (joinOf_all s)
  have PG := Lib.hid (show ∀ j, j < c → (partsOf s).getD j ⟨#[]⟩ = partAt s j from fun j hj => by
    rw [hc] at hj
    unfold partsOf; rw [List.getD_eq_getElem?_getD, List.getElem?_map, List.getElem?_range hj]; rfl)
  have CE := Lib.hid (show ∀ j, j < c → 50 * j ≤ s.size from fun j hj => by
    rw [hc] at hj; unfold cntN at hj
    split at hj <;> omega)
  rw [← hc] at PL JA
  have HC := Lib.hid hc
  have KC := Lib.hid (fun w => pCount n w n0 n1)
  obtain ⟨k, hk⟩ : ∃ k, k = cnt n := ⟨_, rfl⟩
  rw [← hk] at KC
  have KF := Lib.hid (fun h => cnt_facts n h)
  rw [← hk] at KF
  have KN := Lib.hid (show n < 0 → k = 0 from fun h => by rw [hk]; unfold cnt; rw [if_pos h])
  clear hc hk
  go_wp2_with fail
  refine (PA.out _).mono ?_
  rintro e w2 ⟨vl, rfl, ho2, hb2⟩
  have O2 := Lib.hid (ho2.mono B1.out.size)
  have B2 := Lib.hid (below_then B1.out hb2)
  clear ho2 hb2
  obtain ⟨LZ, hLZ⟩ : ∃ LZ, LZ = partsOf s := ⟨_, rfl⟩
  rw [← hLZ] at O2 PL PG
  go_wp2_with fail
  refine (RA.out _).mono ?_
  rintro e w3 ⟨vm, rfl, ho3, hb3⟩
  rw [← hLZ] at ho3
  have O3 := Lib.hid (ho3.mono B2.out.size)
  have O23 := Lib.hid (O2.out.below hb3)
  have B3 := Lib.hid (below_then B2.out hb3)
  clear ho3 hb3 hLZ
  have C1 : 1 ≤ c := by have := HC.out; rw [this]; unfold cntN; split <;> omega
  obtain ⟨gl, cl, hvl⟩ := O23.out.open_ (by have := PL.out; omega)
  obtain ⟨gm, cm, hvm⟩ := O3.out.open_ (by have := PL.out; omega)
  rw [PL.out] at hvl hvm
  subst hvl; subst hvm
  go_wp2_with fail
  refine (CN.out _).mono ?_
  rintro e wx ⟨rfl, rfl⟩
  go_wp2_with fail
  go_loopw [7, 8] (fun va vi wr => ∃ i : Nat, i ≤ c ∧ vi = .int .i64 i ∧ va = .string (joinOf s i) ∧ ∃ m, wr = wx.drewN m) (fun _ vi _ => c - (intOf vi).toNat)
  case atStart => exact ⟨0, by omega, rfl, by rw [joinOf_zero], 0, rfl⟩
  case round =>
    obtain ⟨i, hi, rfl, rfl, m, rfl⟩ := hrel
    obtain ⟨wo, hwo⟩ : ∃ wo, wo = wx.drewN m := ⟨_, rfl⟩
    rw [← hwo]
    have HWO := Lib.hid hwo
    have BO := Lib.hid (show Below w.heap.size w wo by rw [hwo]; exact below_drewN B3.out m)
    by_cases hlt : i < c
    · have q1 : wo.cell? ⟨gl, i, none⟩ = some (.string (partAt s i)) := by
        rw [hwo, ← PG.out i hlt]
        exact (O23.out.drewN m).cell (by have := PL.out; omega)
      have q2 : wo.cell? ⟨gm, i, none⟩ = some (.string (partAt s i)) := by
        rw [hwo, ← PG.out i hlt]
        exact (O3.out.drewN m).cell (by have := PL.out; omega)
      obtain ⟨y, hy⟩ : ∃ y, y = partAt s i := ⟨_, rfl⟩
      have JS := Lib.hid (show joinOf s i ++ y = joinOf s (i + 1) by rw [hy]; exact joinOf_step s i (CE.out i hlt))
      rw [← hy] at q1 q2
      have ZJ : (joinOf s i).size + y.size ≤ 2000 := by
        rw [← ByteArray.size_append, JS.out]
        unfold joinOf; rw [size_extract _ _ _ (by split <;> omega)]; split <;> omega
      have EQ : (y.toList == y.toList) = true := beq_self_eq_true _
      clear hwo hy
      go_wp2_with fail
      go_quiet (fail)
      go_wp2_with fail
      go_roundw
      case rel => exact ⟨i + 1, by omega, by go_num, by rw [JS.out], m + nq, by rw [HWO.out, World.drewN_drewN]⟩
      case measure => simp [intOf]; omega
    · obtain rfl : i = c := by omega
      rw [JA.out]
      clear hwo
      have EQ : (s.toList == s.toList) = true := beq_self_eq_true _
      go_wp2_with fail
      refine (KC.out _).mono ?_
      rintro e wy ⟨rfl, rfl⟩
      by_cases hn : n < 0
      · have k0 : k = 0 := KN.out hn
        subst k0
        go_wp2_with fail
        show bodyPost Try.prog Try.f3 _ .ret _ _
        go_ret
        exact ⟨by simp, BO.out⟩
      · obtain ⟨k1, k2, k3, k4⟩ := KF.out (by omega)
        have t1 : decide (1 ≤ k) = true := decide_eq_true k1
        go_wp2_with fail
        show bodyPost Try.prog Try.f3 _ .ret _ _
        go_ret
        exact ⟨by first | rfl | simp, BO.out⟩

set_option maxRecDepth 100000 in
theorem lifted (os : Os) (started : os.Started) (H : Type) (enc : TypeId × Value → H) :
    ReturnsInHanded {} Try.checked os 3 .any (Rows.sectorPartsSpec.pre6 enc Try.prog Try.f3 Rows.sectorPartsRow.domain false) (Rows.sectorPartsSpec.post enc Try.prog Try.f3 false true false false) := by
  refine returnsInHanded_of_change (C := Try.checked) own started (by kernel_rfl) Try.func3
    (ChangeSpec.witness6 (enc := enc) (C := Try.checked) false ⟨#[], #[.string ⟨#[]⟩, .int .i64 0], []⟩ 8 (by kernel_rfl) (by kernel_rfl) (by kernel_rfl) (by kernel_rfl)) ?_
  intro W base args ds gs before hval0 hW hcnd _
  have hval : ∀ (j : Nat) t v, Try.f3.params[j]? = some t → args[j]? = some v → Value.okWide Try.prog W .any base t v := hval0
  have hW' := hW
  obtain ⟨p, q, hA0, hV, rfl, hfz, hnd⟩ := hW
  have hA : DataW.TrodAll enc Try.prog W 0 (fun _ => true) true Try.f3.params.toList args.toList ds p := hA0
  rw [Try.params3] at hA hval
  obtain ⟨v0, vs0, d0, ds0, p0, q0, hargs0, rfl, rfl, h0, r0⟩ := trodAll_cons hA
  obtain ⟨v1, vs1, d1, ds1, p1, q1, hargs1, rfl, rfl, h1, r1⟩ := trodAll_cons r0
  obtain ⟨rfl, rfl, rfl⟩ := trodAll_nil r1
  obtain rfl : args = #[v0, v1] := by cases args; simp_all
  obtain ⟨rfl, rfl⟩ := trodVars_none hV
  obtain ⟨x0, rfl, rfl, rfl, w0⟩ := open_string Try.underlying9 (hval 0 9 v0 rfl rfl) h0
  obtain ⟨x1, rfl, rfl, rfl, w1⟩ := open_int Try.underlying3 (hval 1 3 v1 rfl rfl) h1
  clear hA0 hval0
  simp only [List.append_nil] at hW'
  refine (walk x0 x1 W w0 w1).mono fun e W' ⟨he, hg⟩ => ?_
  subst he
  refine ⟨_, rfl, [.lit (.string x0.data.toList), .lit (.int .i64 x1)], [], [], [], [] ++ ([] ++ []), [], hW', ?_, ?_, ?_, hg.frame _, fun h => by cases h⟩
  · exact trodAll_cons_mk (shut_bool Try.underlying4 _) trodAll_mk0
  · exact (trodAll_cons_mk (shut_string Try.underlying9 w0) (trodAll_cons_mk (shut_int Try.underlying3 w1) trodAll_mk0))
  · rfl

theorem over : Rows.sectorPartsRow.holds Try.pinned (OpenSpec.ofChange Rows.sectorPartsSpec) :=
  OpenClaim.holds_of_wide 3 Try.f3 rfl rfl rfl rfl rfl rfl rfl ⟨rfl, rfl, rfl, rfl, rfl⟩ rfl rfl rfl rfl rfl (by kernel_rfl) Try.func3 (by kernel_rfl)
    (of_decide_eq_true (by kernel_rfl)) (by unfold Func.isWrapper; first | (rw [if_pos (by decide +kernel)]; kernel_rfl) | (rw [if_neg (by decide +kernel)]; exact ⟨rfl, rfl⟩))
    (fun os started H enc _ => lifted os started H enc)

/-- ████ THE STATEMENT ████ -/
theorem proved : Rows.SectorPartsSaid :=
  over
#print axioms proved


end Go.Proofs.Ytjhmgkelmllnjaa.sectorParts
