/- For any two lists of tags, up to 60 each: what label.Join, Meet, Less, In and Compare answer is what the document says. No condition. -/
import Derived.Test.YtodindfchkpecaaFr
import Derived.Test.YtodindfchkpecaaAw
import Derived.Test.YtodindfchkpecaaTw
namespace Go.Proofs.Ytodindfchkpecaa.labelJoins
open Go.ChangeShapes Go.WideShapes Go.ChangeAt Go.RowKit Go.Proofs.Ytodindfchkpecaa
set_option linter.unusedVariables false

theorem cmp_self (a : List Int) : (La.cmp a a == 0) = true := by
  have : La.lex a a = 0 := by
    induction a with
    | nil => rfl
    | cons x a ih => unfold La.lex; rw [if_neg (by omega), if_neg (by omega), ih]
  unfold La.cmp
  rw [if_neg (by omega), if_neg (by omega), this]; rfl

set_option maxHeartbeats 4000000 in
set_option maxRecDepth 100000 in
theorem walk (A B : Option Addr) (ca cb : Nat) (a b : List Int) (W : World) (ha : Sl W A a) (hb : Sl W B b) (na : A = none → a = [] ∧ ca = 0) (nb : B = none → b = [] ∧ cb = 0) (la : a.length ≤ maxLen) (lb : b.length ≤ maxLen) (ua : La.U64 a) (ub : La.U64 b) :
    Calls Try.prog 4 #[.slice A a.length ca, .slice B b.length cb] W fun e w' => e = .returned (.bool true) ∧ Below W.heap.size W w' := by
  have HA := Lib.hid ha
  have HB := Lib.hid hb
  have NA := Lib.hid na
  have NB := Lib.hid nb
  have LA := Lib.hid la
  have LB := Lib.hid lb
  have UA := Lib.hid ua
  have UB := Lib.hid ub
  clear ha hb na nb la lb ua ub
  go_enter Try.func4, Try.ntmps4
  go_wp2_with fail
  refine (awake W).mono ?_
  rintro e w1 ⟨rfl, hb1⟩
  have B1 := Lib.hid hb1
  clear hb1
  by_cases f1 : (decide (60 < a.length) || decide (60 < b.length)) = true
  · have F1 := Lib.hid f1
    clear f1
    go_wp2_with fail
    refine (lfar A B a.length b.length ca cb _).mono ?_
    rintro e w' ⟨rfl, rfl⟩
    rw [F1.out]
    go_wp2
    go_ret
    exact ⟨rfl, B1.out⟩
  rw [Bool.not_eq_true] at f1
  have l60 : a.length ≤ 60 ∧ b.length ≤ 60 := by simp at f1; omega
  obtain ⟨a60, b60⟩ := l60
  have F1 := Lib.hid f1
  clear f1
  have SA1 := Lib.hid (HA.out.below B1.out)
  have SB1 := Lib.hid (HB.out.below B1.out)
  go_wp2_with fail
  refine (lfar A B a.length b.length ca cb _).mono ?_
  rintro e w' ⟨rfl, rfl⟩
  rw [F1.out]
  go_wp2_with fail
  refine (ljoin A B ca cb a b _ SA1.out SB1.out NA.out NB.out LA.out LB.out).mono ?_
  rintro e w2 ⟨v2, rfl, ho2, hb2⟩
  obtain ⟨J, cj, rfl, _, hsj, _, _⟩ := ho2.form
  have B2 := Lib.hid (below_then B1.out hb2)
  have SJ2 := Lib.hid hsj
  clear ho2 hsj hb2
  obtain ⟨code, hcode⟩ : ∃ code, joC a b = code := ⟨_, rfl⟩
  obtain ⟨jv, hjv⟩ : ∃ jv, joV a b = jv := ⟨_, rfl⟩
  rw [hcode, hjv]
  rw [hjv] at SJ2
  have CO := Lib.hid hcode
  have JV := Lib.hid hjv
  clear hcode hjv
  have SA2 := Lib.hid (HA.out.below B2.out)
  have SB2 := Lib.hid (HB.out.below B2.out)
  go_wp2_with fail
  refine (lmeet A B ca cb a b _ SA2.out SB2.out LA.out LB.out).mono ?_
  rintro e w3 ⟨v3, rfl, ho3, hb3⟩
  obtain ⟨M, cm, rfl, _, hsm, _, _⟩ := ho3.form
  have B3 := Lib.hid (below_then B2.out hb3)
  have SJ3 := Lib.hid (SJ2.out.below hb3)
  have SM3 := Lib.hid hsm
  clear ho3 hsm hb3
  obtain ⟨mv, hmv⟩ : ∃ mv, partL a b true = mv := ⟨_, rfl⟩
  rw [hmv]
  rw [hmv] at SM3
  have MV := Lib.hid hmv
  clear hmv
  have SA3 := Lib.hid (HA.out.below B3.out)
  have SB3 := Lib.hid (HB.out.below B3.out)
  go_wp2_with fail
  refine (lless A B ca cb a b _ SA3.out SB3.out LA.out LB.out).mono ?_
  rintro e w4 ⟨v4, rfl, ho4, hb4⟩
  obtain ⟨Ls, cl, rfl, _, hsl, _, _⟩ := ho4.form
  have B4 := Lib.hid (below_then B3.out hb4)
  have SJ4 := Lib.hid (SJ3.out.below hb4)
  have SM4 := Lib.hid (SM3.out.below hb4)
  have SL4 := Lib.hid hsl
  clear ho4 hsl hb4
  obtain ⟨lv, hlv⟩ : ∃ lv, partL a b false = lv := ⟨_, rfl⟩
  rw [hlv]
  rw [hlv] at SL4
  have LV := Lib.hid hlv
  clear hlv
  have SA4 := Lib.hid (HA.out.below B4.out)
  have SB4 := Lib.hid (HB.out.below B4.out)
  obtain ⟨q1, hq1⟩ : ∃ q, La.inn a b = q := ⟨_, rfl⟩
  have Q1 := Lib.hid hq1
  obtain ⟨q2, hq2⟩ : ∃ q, La.cmp a b = q := ⟨_, rfl⟩
  have Q2 := Lib.hid hq2
  clear hq1 hq2
  have T1 : (q1 != q1) = false := by simp
  have T2 : (q2 != q2) = false := by simp
  go_wp2_with fail
  refine (lin_any A B ca cb a b _ SA4.out SB4.out LA.out b60).mono ?_
  rintro e w5 ⟨rfl, hb5⟩
  rw [Q1.out]
  have B5 := Lib.hid (below_then B4.out hb5)
  have SJ5 := Lib.hid (SJ4.out.below hb5)
  have SM5 := Lib.hid (SM4.out.below hb5)
  have SL5 := Lib.hid (SL4.out.below hb5)
  have SA5 := Lib.hid (HA.out.below B5.out)
  have SB5 := Lib.hid (HB.out.below B5.out)
  clear hb5
  go_wp2_with fail
  refine (rin A B ca cb a b _ SA5.out SB5.out LA.out LB.out).mono ?_
  rintro e w' ⟨rfl, rfl⟩
  rw [Q1.out]
  go_wp2_with fail
  refine (lcompare A B ca cb a b _ SA5.out SB5.out LA.out).mono ?_
  rintro e w6 ⟨rfl, hb6⟩
  rw [Q2.out]
  have B6 := Lib.hid (below_then B5.out hb6)
  have SJ6 := Lib.hid (SJ5.out.below hb6)
  have SM6 := Lib.hid (SM5.out.below hb6)
  have SL6 := Lib.hid (SL5.out.below hb6)
  have SA6 := Lib.hid (HA.out.below B6.out)
  have SB6 := Lib.hid (HB.out.below B6.out)
  clear hb6
  go_wp2_with fail
  refine (rcompare A B ca cb a b _ SA6.out SB6.out LA.out).mono ?_
  rintro e w' ⟨rfl, n7, rfl⟩
  rw [Q2.out]
  have B7 := Lib.hid (below_drewN B6.out n7)
  have SJ7 := Lib.hid (SJ6.out.drewN n7)
  have SM7 := Lib.hid (SM6.out.drewN n7)
  have SL7 := Lib.hid (SL6.out.drewN n7)
  have SA7 := Lib.hid (SA6.out.drewN n7)
  have SB7 := Lib.hid (SB6.out.drewN n7)
  generalize w6.drewN n7 = w7 at B7 SJ7 SM7 SL7 SA7 SB7 ⊢
  clear SA1 SB1 SA2 SB2 SA3 SB3 SA4 SB4 SA5 SB5 SA6 SB6 SJ2 SJ3 SJ4 SJ5 SJ6 SM3 SM4 SM5 SM6 SL4 SL5 SL6 B1 B2 B3 B4 B5 B6
  have off : (La.right a && La.right b) = false → code = 1 ∧ jv = [] ∧ mv = [] ∧ lv = [] := fun h => by
    refine ⟨?_, ?_, ?_, ?_⟩
    · rw [← CO.out]; unfold joC; rw [h]; rfl
    · rw [← JV.out]; unfold joV; rw [h]; rfl
    · rw [← MV.out]; unfold partL; rw [h]; rfl
    · rw [← LV.out]; unfold partL; rw [h]; rfl
  cases hra : La.right a
  · have RA := Lib.hid hra
    rw [hra] at off
    obtain ⟨rfl, rfl, rfl, rfl⟩ := off rfl
    clear hra
    go_wp2_with fail
    refine (rright A ca a _ SA7.out LA.out UA.out).mono ?_
    rintro e w' ⟨rfl, n8, rfl⟩
    rw [RA.out]
    have BE := Lib.hid (below_drewN B7.out n8)
    go_wp2
    go_ret
    exact ⟨rfl, BE.out⟩
  have RA := Lib.hid hra
  cases hrb : La.right b
  · have RB := Lib.hid hrb
    rw [hra, hrb] at off
    obtain ⟨rfl, rfl, rfl, rfl⟩ := off rfl
    clear hra hrb
    go_wp2_with fail
    refine (rright A ca a _ SA7.out LA.out UA.out).mono ?_
    rintro e w' ⟨rfl, n8, rfl⟩
    rw [RA.out]
    go_wp2_with fail
    refine (rright B cb b _ (SB7.out.drewN n8) LB.out UB.out).mono ?_
    rintro e w' ⟨rfl, n9, rfl⟩
    rw [RB.out]
    have BE := Lib.hid (below_drewN B7.out (n8 + n9))
    go_wp2
    go_ret
    exact ⟨rfl, BE.out⟩
  have RB := Lib.hid hrb
  have MV2 : Hid (La.parted a b true = mv) := by
    show _ = _
    rw [← MV.out]; unfold partL; rw [hra, hrb]; rfl
  have LV2 : Hid (La.parted a b false = lv) := by
    show _ = _
    rw [← LV.out]; unfold partL; rw [hra, hrb]; rfl
  obtain ⟨ab, hab⟩ : ∃ ab, a ++ b = ab := ⟨_, rfl⟩
  obtain ⟨un, hun⟩ : ∃ un, La.ofAll ab = un := ⟨_, rfl⟩
  have CO2 : Hid (code = if 6 < un.length then 5 else 0) := by
    show _ = _
    rw [← CO.out, ← hun, ← hab]; unfold joC; rw [hra, hrb]; rfl
  have JV2 : Hid (jv = if 6 < un.length then [] else un) := by
    show _ = _
    rw [← JV.out, ← hun, ← hab]; unfold joV; rw [hra, hrb]; rfl
  have ABL : ab.length ≤ 120 := by rw [← hab, List.length_append]; omega
  have AB := Lib.hid hab
  have UN := Lib.hid hun
  clear off hra hrb hab hun
  go_wp2_with fail
  refine (rright A ca a _ SA7.out LA.out UA.out).mono ?_
  rintro e w' ⟨rfl, n8, rfl⟩
  rw [RA.out]
  go_wp2_with fail
  refine (rright B cb b _ (SB7.out.drewN n8) LB.out UB.out).mono ?_
  rintro e w' ⟨rfl, n9, rfl⟩
  rw [RB.out]
  have B8 := Lib.hid (below_drewN (below_drewN B7.out n8) n9)
  have SJ8 := Lib.hid ((SJ7.out.drewN n8).drewN n9)
  have SM8 := Lib.hid ((SM7.out.drewN n8).drewN n9)
  have SL8 := Lib.hid ((SL7.out.drewN n8).drewN n9)
  have SA8 := Lib.hid ((SA7.out.drewN n8).drewN n9)
  have SB8 := Lib.hid ((SB7.out.drewN n8).drewN n9)
  generalize (w7.drewN n8).drewN n9 = w8 at B8 SJ8 SM8 SL8 SA8 SB8 ⊢
  clear SJ7 SM7 SL7 SA7 SB7 B7
  have OM := Lib.hid (Own.made w8 w8.heap.size (Nat.le_refl _) [] (Nat.zero_le _))
  have BM := Lib.hid ((Below.refl w8.heap.size w8).alloc (Nat.le_refl _) (.cells (([] : List Int).map (Value.int .u64)).toArray 23))
  go_wp2_with (first
    | (at_builtin; refine wp_putN rfl (.tmp 71) (.tmp 72) rfl w8.heap.size _ [] rfl OM.out A ca a rfl (SA8.out.alloc _) NA.out (by simp; omega) (by simp) ?_; intro v9 w9 hown9 hb9; have HO9 := Lib.hid hown9; have HB9 := Lib.hid (BM.out.trans hb9); have SB9 := Lib.hid (SB8.out.below HB9.out); have hsz9 := HB9.out.size; clear hown9 hb9)
    | (at_builtin; refine wp_putN rfl (.tmp 73) (.tmp 74) rfl w8.heap.size _ _ rfl HO9.out B cb b rfl SB9.out NB.out (by simp; omega) hsz9 ?_; intro v10 w10 hown10 hb10; have HO10 := Lib.hid hown10; have HB10 := Lib.hid (HB9.out.trans hb10); clear hown10 hb10))
  have ho : Own w10 w8.heap.size v10 ab := by rw [← AB.out]; simpa using HO10.out
  obtain ⟨X, cx, rfl, _, hsx, _, _⟩ := ho.form
  refine (rof X cx ab _ hsx (by omega)).mono ?_
  rintro e w11 ⟨v11, rfl, ho11, hb11⟩
  rw [UN.out] at ho11
  obtain ⟨U, cu, rfl, _, hsu, _, _⟩ := ho11.form
  have B11 := Lib.hid (below_then (below_then B8.out HB10.out) hb11)
  have H11 := Lib.hid (below_then HB10.out hb11)
  have SU11 := Lib.hid hsu
  have SJ11 := Lib.hid (SJ8.out.below H11.out)
  have SM11 := Lib.hid (SM8.out.below H11.out)
  have SL11 := Lib.hid (SL8.out.below H11.out)
  clear ho hsx ho11 hb11 hsu HO9 HB9 SB9 hsz9 HO10 HB10 H11 OM BM SJ8 SM8 SL8 SA8 SB8
  have TM := Lib.hid (Two.made w11 w11.heap.size (Nat.le_refl _))
  have BT := Lib.hid (((Below.refl w11.heap.size w11).alloc (Nat.le_refl _) (.cells #[] 23)).alloc (by simp) (.cells #[] 23))
  go_wp2_with fail
  go_loopw [10, 11, 12] (fun v5 v6 vi wr => ∃ (k : Nat) (xs ys : List Int), vi = .int .i64 k ∧ k ≤ a.length ∧ Hid (La.parted (a.take k) b true = xs) ∧ Hid (La.parted (a.take k) b false = ys) ∧ Hid (Two wr w11.heap.size v5 v6 xs ys) ∧ Hid (Below w11.heap.size w11 wr)) (fun _ _ vi _ => ((a.length : Int) - intOf vi).toNat)
  case atStart => exact ⟨0, [], [], rfl, Nat.zero_le _, rfl, rfl, TM.out, BT.out⟩
  case round =>
    obtain ⟨k, xs, ys, rfl, kl, PX, PY, TW, BR⟩ := hrel
    have B12 := Lib.hid (below_then B11.out BR.out)
    have SA12 := Lib.hid (HA.out.below B12.out)
    have SB12 := Lib.hid (HB.out.below B12.out)
    have hsz := BR.out.size
    have xl : xs.length ≤ 60 := by rw [← PX.out]; have := La.parted_length (a.take k) b true; rw [List.length_take] at this; omega
    have yl : ys.length ≤ 60 := by rw [← PY.out]; have := La.parted_length (a.take k) b false; rw [List.length_take] at this; omega
    by_cases hlt : k < a.length
    · obtain ⟨bb, o, rfl, hbb, hc⟩ := SA12.out.at_ hlt
      have hck := hc k hlt
      have PTx := Lib.hid (part_take a b true k hlt)
      have PTy := Lib.hid (part_take a b false k hlt)
      obtain ⟨x, hx⟩ : ∃ x, a.getD k 0 = x := ⟨_, rfl⟩
      rw [hx] at hck
      rw [hx, PX.out] at PTx
      rw [hx, PY.out] at PTy
      have XX := Lib.hid hx
      clear hc hx hbb
      cases hh : La.has b x
      · have HH := Lib.hid hh
        rw [hh] at PTx PTy
        clear hh
        go_wp2_with fail
        refine (rhas B cb b x _ SB12.out LB.out).mono ?_
        rintro e w' ⟨rfl, rfl⟩
        rw [HH.out]
        go_wp2_with (at_builtin; refine wp_put2 rfl (.tmp 98) (.tmp 103) rfl w11.heap.size _ _ ys xs rfl (TW.out.symm.alloc _) _ x rfl (cell_new _ _ _) (by omega) (by simp; omega) ?_; intro v12 w12 two12 hb12; have TW2 := Lib.hid two12; have BR2 := Lib.hid ((BR.out.alloc hsz _).trans hb12); clear two12 hb12)
        go_roundw
        case rel => exact ⟨k + 1, xs, ys ++ [x], by go_num, by omega, (by rw [PTx.out]; simp : _ = _), (by rw [PTy.out]; simp : _ = _), TW2.out.symm, BR2.out⟩
        case measure => simp [intOf] <;> omega
      · have HH := Lib.hid hh
        rw [hh] at PTx PTy
        clear hh
        go_wp2_with fail
        refine (rhas B cb b x _ SB12.out LB.out).mono ?_
        rintro e w' ⟨rfl, rfl⟩
        rw [HH.out]
        go_wp2_with (at_builtin; refine wp_put2 rfl (.tmp 91) (.tmp 96) rfl w11.heap.size _ _ xs ys rfl (TW.out.alloc _) _ x rfl (cell_new _ _ _) (by omega) (by simp; omega) ?_; intro v12 w12 two12 hb12; have TW2 := Lib.hid two12; have BR2 := Lib.hid ((BR.out.alloc hsz _).trans hb12); clear two12 hb12)
        go_roundw
        case rel => exact ⟨k + 1, xs ++ [x], ys, by go_num, by omega, (by rw [PTx.out]; simp : _ = _), (by rw [PTy.out]; simp : _ = _), TW2.out, BR2.out⟩
        case measure => simp [intOf] <;> omega
    · have ex : xs = mv := by rw [← PX.out, ← MV2.out, List.take_of_length_le (by omega)]
      have ey : ys = lv := by rw [← PY.out, ← LV2.out, List.take_of_length_le (by omega)]
      subst ex ey
      obtain ⟨X1, c1, e1, _, hs1, _, _⟩ := TW.out.ou.form
      obtain ⟨X2, c2, e2, _, hs2, _, _⟩ := TW.out.ov.form
      subst e1 e2
      have S1 := Lib.hid hs1
      have S2 := Lib.hid hs2
      have SM12 := Lib.hid (SM11.out.below BR.out)
      have SL12 := Lib.hid (SL11.out.below BR.out)
      have SJ12 := Lib.hid (SJ11.out.below BR.out)
      have SU12 := Lib.hid (SU11.out.below BR.out)
      clear hs1 hs2 TW
      go_wp2_with fail
      refine (rsame M X1 cm c1 xs xs _ SM12.out S1.out (by unfold maxLen; omega)).mono ?_
      rintro e w' ⟨rfl, m1, rfl⟩
      rw [cmp_self]
      go_wp2_with fail
      refine (rsame Ls X2 cl c2 ys ys _ (SL12.out.drewN m1) (S2.out.drewN m1) (by unfold maxLen; omega)).mono ?_
      rintro e w' ⟨rfl, m2, rfl⟩
      rw [cmp_self]
      by_cases h6 : 6 < un.length
      · have hc : code = 5 := by rw [CO2.out, if_pos h6]
        have hj : jv = [] := by rw [JV2.out, if_pos h6]
        subst hc hj
        have BE := Lib.hid (below_drewN B12.out (m1 + m2))
        go_wp2
        go_ret
        exact ⟨rfl, BE.out⟩
      · have hc : code = 0 := by rw [CO2.out, if_neg h6]
        have hj : jv = un := by rw [JV2.out, if_neg h6]
        subst hc hj
        go_wp2_with fail
        refine (rsame J U cj cu jv jv _ (SJ12.out.drewN (m1 + m2)) (SU12.out.drewN (m1 + m2)) (by unfold maxLen; omega)).mono ?_
        rintro e w' ⟨rfl, m3, rfl⟩
        rw [cmp_self]
        have BE := Lib.hid (below_drewN B12.out (m1 + m2 + m3))
        go_wp2
        go_ret
        exact ⟨rfl, BE.out⟩

set_option maxRecDepth 100000 in
theorem lifted (os : Os) (started : os.Started) (H : Type) (enc : TypeId × Value → H) :
    ReturnsInHanded {} Try.checked os 4 .any (Rows.labelJoinsSpec.pre6 enc Try.prog Try.f4 Rows.labelJoinsRow.domain false) (Rows.labelJoinsSpec.post enc Try.prog Try.f4 false true false false) := by
  refine returnsInHanded_of_change (C := Try.checked) own started (by kernel_rfl) Try.func4
    (ChangeSpec.witness6 (enc := enc) (C := Try.checked) false ⟨#[], #[.slice none 0 0, .slice none 0 0], []⟩ 8 (by kernel_rfl) (by kernel_rfl) (by kernel_rfl) (by kernel_rfl)) ?_
  intro W base args ds gs before hval0 hW hcnd _
  have hval : ∀ (j : Nat) t v, Try.f4.params[j]? = some t → args[j]? = some v → Value.okWide Try.prog W .any base t v := hval0
  have hW' := hW
  obtain ⟨p, q, hA0, hV, rfl, hfz, hnd⟩ := hW
  have hA : DataW.TrodAll enc Try.prog W 0 (fun _ => true) true Try.f4.params.toList args.toList ds p := hA0
  rw [Try.params4] at hA hval
  obtain ⟨v0, vs0, d0, ds0, p0, q0, hargs, rfl, rfl, h0, r0⟩ := trodAll_cons hA
  obtain ⟨v1, vs1, d1, ds1, p1, q1, hargs1, rfl, rfl, h1, r1⟩ := trodAll_cons r0
  obtain ⟨rfl, rfl, rfl⟩ := trodAll_nil r1
  obtain rfl : args = #[v0, v1] := by cases args; simp_all
  obtain ⟨rfl, rfl⟩ := trodVars_none hV
  clear hA0 hval0
  simp only [List.append_nil] at hW'
  have hlt : ∀ x ∈ p0 ++ p1, x.block < W.heap.size := fun x hx => by simpa using hW'.lt x hx
  have l0 : ∀ x ∈ p0, x.block < W.heap.size := fun x hx => hlt x (by simp [hx])
  have l1 : ∀ x ∈ p1, x.block < W.heap.size := fun x hx => hlt x (by simp [hx])
  obtain ⟨A, ca, a, rfl, sa, na, ua, la⟩ := open_u64s (hval 0 22 v0 rfl rfl) h0 l0
  obtain ⟨B, cb, b, rfl, sb, nb, ub, lb⟩ := open_u64s (hval 1 22 v1 rfl rfl) h1 l1
  refine (walk A B ca cb a b W sa sb na nb la lb ua ub).mono fun e W' ⟨he, hg⟩ => ?_
  subst he
  refine ⟨_, rfl, [d0, d1], [], p0 ++ p1, [], p0 ++ (p1 ++ []), [], hW', ?_, ?_, ?_, hg.frame _, fun h => by cases h⟩
  · exact trodAll_cons_mk (shut_bool Try.underlying4 _) trodAll_mk0
  · exact trodAll_cons_mk (Below.trod laidOut (by kernel_rfl) (of_decide_eq_true (by kernel_rfl)) h0 hg l0) (trodAll_cons_mk (Below.trod laidOut (by kernel_rfl) (of_decide_eq_true (by kernel_rfl)) h1 hg l1) trodAll_mk0)
  · rfl

theorem over : Rows.labelJoinsRow.holds Try.pinned (OpenSpec.ofChange Rows.labelJoinsSpec) :=
  OpenClaim.holds_of_wide 4 Try.f4 rfl rfl rfl rfl rfl rfl rfl ⟨rfl, rfl, rfl, rfl, rfl⟩ rfl rfl rfl rfl rfl (by kernel_rfl) Try.func4 (by kernel_rfl)
    (of_decide_eq_true (by kernel_rfl)) (by unfold Func.isWrapper; first | (rw [if_pos (by decide +kernel)]; kernel_rfl) | (rw [if_neg (by decide +kernel)]; exact ⟨rfl, rfl⟩))
    (fun os started H enc _ => lifted os started H enc)

/-- ████ THE STATEMENT ████ -/
theorem proved : Rows.LabelJoinsSaid :=
  over
#print axioms proved

end Go.Proofs.Ytodindfchkpecaa.labelJoins
