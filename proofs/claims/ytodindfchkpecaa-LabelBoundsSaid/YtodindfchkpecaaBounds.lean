/- For any three labels: both are in their join, which is in each one that both are in; their meet is in both, and each one that is in both is in it. No condition. -/
import Derived.Test.YtodindfchkpecaaFr
import Derived.Test.YtodindfchkpecaaAw
import Derived.Test.YtodindfchkpecaaIi
namespace Go.Proofs.Ytodindfchkpecaa.labelBounds
open Go.ChangeShapes Go.WideShapes Go.ChangeAt Go.RowKit Go.Proofs.Ytodindfchkpecaa
set_option linter.unusedVariables false

/-! ### In plain words -/
theorem ascB_up (z : List Int) (h : La.Up z) : La.ascB z = true :=
  (La.ascB_iff z).2 fun t ht => Int.le_of_lt (La.up_getD z h t (t + 1) (by omega) ht)
theorem right_up {z : List Int} (h : La.right z = true) : La.Up z := ((La.right_iff z).1 h).2.1
theorem meet_right (a b : List Int) (ha : La.right a = true) : La.right (La.parted a b true) = true := by
  obtain ⟨h1, h2, h3⟩ := (La.right_iff a).1 ha
  refine (La.right_iff _).2 ⟨Nat.le_trans (La.parted_length a b true) h1, La.parted_up a b true h2, fun x hx => h3 x ((La.mem_parted a b x).1 hx).1⟩
theorem meet_a (a b : List Int) : La.inn (La.parted a b true) a = true := (La.inn_iff _ _).2 fun x hx => ((La.mem_parted a b x).1 hx).1
theorem meet_b (a b : List Int) : La.inn (La.parted a b true) b = true := (La.inn_iff _ _).2 fun x hx => ((La.mem_parted a b x).1 hx).2
theorem meet_c (a b c : List Int) : La.inn c (La.parted a b true) = (La.inn c a && La.inn c b) := by
  rw [Bool.eq_iff_iff, Bool.and_eq_true, La.inn_iff, La.inn_iff, La.inn_iff]
  constructor
  · intro h
    exact ⟨fun x hx => ((La.mem_parted a b x).1 (h x hx)).1, fun x hx => ((La.mem_parted a b x).1 (h x hx)).2⟩
  · rintro ⟨h, k⟩ x hx
    exact (La.mem_parted a b x).2 ⟨h x hx, k x hx⟩
theorem join_right (a b : List Int) (ha : La.right a = true) (hb : La.right b = true) (hl : ¬ 6 < (La.ofAll (a ++ b)).length) : La.right (La.ofAll (a ++ b)) = true := by
  refine (La.right_iff _).2 ⟨by omega, La.ofAll_up _, fun x hx => ?_⟩
  rw [La.mem_ofAll, List.mem_append] at hx
  rcases hx with h | h
  · exact ((La.right_iff a).1 ha).2.2 x h
  · exact ((La.right_iff b).1 hb).2.2 x h
theorem join_a (a b : List Int) : La.inn a (La.ofAll (a ++ b)) = true := (La.inn_iff _ _).2 fun x hx => (La.mem_ofAll _ x).2 (List.mem_append.2 (.inl hx))
theorem join_b (a b : List Int) : La.inn b (La.ofAll (a ++ b)) = true := (La.inn_iff _ _).2 fun x hx => (La.mem_ofAll _ x).2 (List.mem_append.2 (.inr hx))
theorem join_c (a b c : List Int) : La.inn (La.ofAll (a ++ b)) c = (La.inn a c && La.inn b c) := by
  rw [Bool.eq_iff_iff, Bool.and_eq_true, La.inn_iff, La.inn_iff, La.inn_iff]
  constructor
  · intro h
    exact ⟨fun x hx => h x ((La.mem_ofAll _ x).2 (List.mem_append.2 (.inl hx))), fun x hx => h x ((La.mem_ofAll _ x).2 (List.mem_append.2 (.inr hx)))⟩
  · rintro ⟨h, k⟩ x hx
    rw [La.mem_ofAll, List.mem_append] at hx
    rcases hx with e | e
    · exact h x e
    · exact k x e

/-- label.In behind draws, of a second list that is a label -/
theorem lin_at (A B : Option Addr) (c d : Nat) (a b : List Int) (q : Bool) (w : World) (n : Nat) (h : Sl w A a) (hb : Sl w B b) (hm : a.length ≤ maxLen) (hr : La.right b = true) (hq : La.inn a b = q) :
    Calls Try.prog 20 #[.slice A a.length c, .slice B b.length d] (w.drewN n) fun e w' => e = .returned (.bool q) ∧ ∃ m, w' = w.drewN m := by
  have hl := ((La.right_iff b).1 hr).1
  subst hq
  exact (lin_asc A B c d a b (w.drewN n) (h.drewN n) (hb.drewN n) hm (by omega) (ascB_up b (right_up hr))).mono fun _ _ ⟨he, m, hm⟩ => ⟨he, n + m, by rw [hm, World.drewN_drewN]⟩

theorem lright_at (A : Option Addr) (c : Nat) (a : List Int) (w : World) (n : Nat) (h : Sl w A a) (hm : a.length ≤ maxLen) (hr : La.right a = true) :
    Calls Try.prog 12 #[.slice A a.length c] (w.drewN n) fun e w' => e = .returned (.bool true) ∧ ∃ m, w' = w.drewN m := by
  have := lright A c a (w.drewN n) (h.drewN n) hm
  rw [hr] at this
  exact this.mono fun _ _ ⟨he, hw⟩ => ⟨he, n, hw.symm⟩

/-- the reference's Right behind draws -/
theorem rright_at (A : Option Addr) (c : Nat) (a : List Int) (q : Bool) (w : World) (n : Nat) (h : Sl w A a) (hm : a.length ≤ maxLen) (hu : La.U64 a) (hq : La.right a = q) :
    Calls Try.prog 13 #[.slice A a.length c] (w.drewN n) fun e w' => e = .returned (.bool q) ∧ ∃ m, w' = w.drewN m := by
  subst hq
  exact (rright A c a (w.drewN n) (h.drewN n) hm hu).mono fun _ _ ⟨he, m, hm⟩ => ⟨he, n + m, by rw [hm, World.drewN_drewN]⟩

set_option maxHeartbeats 2000000 in
set_option maxRecDepth 100000 in
theorem walk_off (A B C : Option Addr) (ca cb cc : Nat) (a b c : List Int) (W : World) (ha : Sl W A a) (hb : Sl W B b) (hc : Sl W C c) (la : a.length ≤ maxLen) (lb : b.length ≤ maxLen) (lc : c.length ≤ maxLen) (ua : La.U64 a) (ub : La.U64 b) (uc : La.U64 c)
    (hoff : (La.right a && La.right b && La.right c) = false) :
    Calls Try.prog 5 #[.slice A a.length ca, .slice B b.length cb, .slice C c.length cc] W fun e w' => e = .returned (.bool true) ∧ Below W.heap.size W w' := by
  have HA := Lib.hid ha
  have HB := Lib.hid hb
  have HC := Lib.hid hc
  have LA := Lib.hid la
  have LB := Lib.hid lb
  have LC := Lib.hid lc
  have UA := Lib.hid ua
  have UB := Lib.hid ub
  have UC := Lib.hid uc
  have OFF := Lib.hid hoff
  clear ha hb hc la lb lc ua ub uc hoff
  go_enter Try.func5, Try.ntmps5
  go_wp2_with fail
  refine (awake W).mono ?_
  rintro e w1 ⟨rfl, hb1⟩
  have B1 := Lib.hid hb1
  have SA := Lib.hid (HA.out.below hb1)
  have SB := Lib.hid (HB.out.below hb1)
  have SC := Lib.hid (HC.out.below hb1)
  clear hb1
  cases hra : La.right a
  · have RA := Lib.hid hra
    clear hra
    go_wp2_with fail
    refine (rright A ca a _ SA.out LA.out UA.out).mono ?_
    rintro e w' ⟨rfl, n1, rfl⟩
    rw [RA.out]
    have BE := Lib.hid (below_drewN B1.out n1)
    go_wp2
    go_ret
    exact ⟨rfl, BE.out⟩
  cases hrb : La.right b
  · have RA := Lib.hid hra
    have RB := Lib.hid hrb
    clear hra hrb
    go_wp2_with fail
    refine (rright A ca a _ SA.out LA.out UA.out).mono ?_
    rintro e w' ⟨rfl, n1, rfl⟩
    rw [RA.out]
    go_wp2_with fail
    refine (rright_at B cb b false w1 n1 SB.out LB.out UB.out RB.out).mono ?_
    rintro e w' ⟨rfl, n2, rfl⟩
    have BE := Lib.hid (below_drewN B1.out n2)
    go_wp2
    go_ret
    exact ⟨rfl, BE.out⟩
  have hrc : La.right c = false := by
    have := OFF.out
    rw [hra, hrb] at this
    simpa using this
  have RA := Lib.hid hra
  have RB := Lib.hid hrb
  have RC := Lib.hid hrc
  clear hra hrb hrc
  go_wp2_with fail
  refine (rright A ca a _ SA.out LA.out UA.out).mono ?_
  rintro e w' ⟨rfl, n1, rfl⟩
  rw [RA.out]
  go_wp2_with fail
  refine (rright_at B cb b true w1 n1 SB.out LB.out UB.out RB.out).mono ?_
  rintro e w' ⟨rfl, n2, rfl⟩
  go_wp2_with fail
  refine (rright_at C cc c false w1 n2 SC.out LC.out UC.out RC.out).mono ?_
  rintro e w' ⟨rfl, n3, rfl⟩
  have BE := Lib.hid (below_drewN B1.out n3)
  go_wp2
  go_ret
  exact ⟨rfl, BE.out⟩

set_option maxHeartbeats 4000000 in
set_option maxRecDepth 100000 in
theorem walk_on (A B C : Option Addr) (ca cb cc : Nat) (a b c : List Int) (W : World) (ha : Sl W A a) (hb : Sl W B b) (hc : Sl W C c) (na : A = none → a = [] ∧ ca = 0) (nb : B = none → b = [] ∧ cb = 0) (la : a.length ≤ maxLen) (lb : b.length ≤ maxLen) (lc : c.length ≤ maxLen)
    (ua : La.U64 a) (ub : La.U64 b) (uc : La.U64 c) (hra : La.right a = true) (hrb : La.right b = true) (hrc : La.right c = true) :
    Calls Try.prog 5 #[.slice A a.length ca, .slice B b.length cb, .slice C c.length cc] W fun e w' => e = .returned (.bool true) ∧ Below W.heap.size W w' := by
  have HA := Lib.hid ha
  have HB := Lib.hid hb
  have HC := Lib.hid hc
  have NA := Lib.hid na
  have NB := Lib.hid nb
  have LA := Lib.hid la
  have LB := Lib.hid lb
  have LC := Lib.hid lc
  have UA := Lib.hid ua
  have UB := Lib.hid ub
  have UC := Lib.hid uc
  have RA := Lib.hid hra
  have RB := Lib.hid hrb
  have RC := Lib.hid hrc
  have JC := Lib.hid (show joC a b = if 6 < (La.ofAll (a ++ b)).length then 5 else 0 by unfold joC; rw [hra, hrb]; rfl)
  have JV := Lib.hid (show joV a b = if 6 < (La.ofAll (a ++ b)).length then [] else La.ofAll (a ++ b) by unfold joV; rw [hra, hrb]; rfl)
  have MV := Lib.hid (show partL a b true = La.parted a b true by unfold partL; rw [hra, hrb]; rfl)
  clear ha hb hc na nb la lb lc ua ub uc hra hrb hrc
  go_enter Try.func5, Try.ntmps5
  go_wp2_with fail
  refine (awake W).mono ?_
  rintro e w1 ⟨rfl, hb1⟩
  have B1 := Lib.hid hb1
  have SA := Lib.hid (HA.out.below hb1)
  have SB := Lib.hid (HB.out.below hb1)
  have SC := Lib.hid (HC.out.below hb1)
  clear hb1
  go_wp2_with fail
  refine (rright A ca a _ SA.out LA.out UA.out).mono ?_
  rintro e w' ⟨rfl, n1, rfl⟩
  rw [RA.out]
  go_wp2_with fail
  refine (rright_at B cb b true w1 n1 SB.out LB.out UB.out RB.out).mono ?_
  rintro e w' ⟨rfl, n2, rfl⟩
  go_wp2_with fail
  refine (rright_at C cc c true w1 n2 SC.out LC.out UC.out RC.out).mono ?_
  rintro e w' ⟨rfl, n3, rfl⟩
  have B2 := Lib.hid (below_drewN B1.out n3)
  have SA2 := Lib.hid (HA.out.below B2.out)
  have SB2 := Lib.hid (HB.out.below B2.out)
  go_wp2_with fail
  refine (ljoin A B ca cb a b _ SA2.out SB2.out NA.out NB.out LA.out LB.out).mono ?_
  rintro e w3 ⟨v3, rfl, ho3, hb3⟩
  obtain ⟨J, cj, rfl, _, hsj, _, _⟩ := ho3.form
  have B3 := Lib.hid (below_then B2.out hb3)
  have SJ3 := Lib.hid hsj
  clear ho3 hsj hb3
  obtain ⟨code, hcode⟩ : ∃ code, joC a b = code := ⟨_, rfl⟩
  obtain ⟨jv, hjv⟩ : ∃ jv, joV a b = jv := ⟨_, rfl⟩
  rw [hcode, hjv]
  rw [hjv] at SJ3
  have CO := Lib.hid hcode
  have JVV := Lib.hid hjv
  clear hcode hjv
  have SA3 := Lib.hid (HA.out.below B3.out)
  have SB3 := Lib.hid (HB.out.below B3.out)
  go_wp2_with fail
  refine (lmeet A B ca cb a b _ SA3.out SB3.out LA.out LB.out).mono ?_
  rintro e w4 ⟨v4, rfl, ho4, hb4⟩
  obtain ⟨M, cm, rfl, _, hsm, _, _⟩ := ho4.form
  have B4 := Lib.hid (below_then B3.out hb4)
  have SJ := Lib.hid (SJ3.out.below hb4)
  have SM0 := Lib.hid hsm
  clear ho4 hsm hb4
  obtain ⟨mv, hmv⟩ : ∃ mv, partL a b true = mv := ⟨_, rfl⟩
  rw [hmv]
  rw [hmv] at SM0
  have SM := SM0
  have MVV := Lib.hid (show mv = La.parted a b true by rw [← hmv, MV.out])
  clear hmv SM0
  have RM := Lib.hid (show La.right mv = true by rw [MVV.out]; exact meet_right a b RA.out)
  have LM := Lib.hid (show mv.length ≤ maxLen by have := ((La.right_iff mv).1 RM.out).1; unfold maxLen; omega)
  have I1 := Lib.hid (show La.inn mv a = true by rw [MVV.out]; exact meet_a a b)
  have I2 := Lib.hid (show La.inn mv b = true by rw [MVV.out]; exact meet_b a b)
  have I3 := Lib.hid (show La.inn c mv = (La.inn c a && La.inn c b) by rw [MVV.out]; exact meet_c a b c)
  have SA4 := Lib.hid (HA.out.below B4.out)
  have SB4 := Lib.hid (HB.out.below B4.out)
  have SC4 := Lib.hid (HC.out.below B4.out)
  have c0 : Calls Try.prog 20 #[.slice M mv.length cm, .slice A a.length ca] w4 fun e w' => e = .returned (.bool true) ∧ ∃ m, w' = w4.drewN m := lin_at M A cm ca mv a true w4 0 SM.out SA4.out LM.out RA.out I1.out
  have C0 := Lib.hid c0
  clear c0
  by_cases h6 : 6 < (La.ofAll (a ++ b)).length
  · have hc5 : code = 5 := by rw [← CO.out, JC.out, if_pos h6]
    clear h6
    subst hc5
    cases hq1 : La.inn c a
    · have Q1 := Lib.hid hq1
      have Q3 := Lib.hid (show La.inn c mv = false by rw [I3.out, hq1, Bool.false_and])
      clear hq1
      go_wp2_with fail
      refine C0.out.mono ?_
      rintro e w' ⟨rfl, k1, rfl⟩
      go_wp2_with fail
      refine (lin_at M B cm cb mv b true w4 k1 SM.out SB4.out LM.out RB.out I2.out).mono ?_
      rintro e w' ⟨rfl, k2, rfl⟩
      go_wp2_with fail
      refine (lin_at C M cc cm c mv false w4 k2 SC4.out SM.out LC.out RM.out Q3.out).mono ?_
      rintro e w' ⟨rfl, k3, rfl⟩
      go_wp2_with fail
      refine (lin_at C A cc ca c a false w4 k3 SC4.out SA4.out LC.out RA.out Q1.out).mono ?_
      rintro e w' ⟨rfl, k4, rfl⟩
      go_wp2_with fail
      refine (lright_at M cm mv w4 k4 SM.out LM.out RM.out).mono ?_
      rintro e w' ⟨rfl, k6, rfl⟩
      have BE := Lib.hid (below_drewN B4.out k6)
      go_wp2
      go_ret
      exact ⟨rfl, BE.out⟩
    · cases hq2 : La.inn c b
      · have Q1 := Lib.hid hq1
        have Q2 := Lib.hid hq2
        have Q3 := Lib.hid (show La.inn c mv = false by rw [I3.out, hq1, hq2, Bool.and_false])
        clear hq1 hq2
        go_wp2_with fail
        refine C0.out.mono ?_
        rintro e w' ⟨rfl, k1, rfl⟩
        go_wp2_with fail
        refine (lin_at M B cm cb mv b true w4 k1 SM.out SB4.out LM.out RB.out I2.out).mono ?_
        rintro e w' ⟨rfl, k2, rfl⟩
        go_wp2_with fail
        refine (lin_at C M cc cm c mv false w4 k2 SC4.out SM.out LC.out RM.out Q3.out).mono ?_
        rintro e w' ⟨rfl, k3, rfl⟩
        go_wp2_with fail
        refine (lin_at C A cc ca c a true w4 k3 SC4.out SA4.out LC.out RA.out Q1.out).mono ?_
        rintro e w' ⟨rfl, k4, rfl⟩
        go_wp2_with fail
        refine (lin_at C B cc cb c b false w4 k4 SC4.out SB4.out LC.out RB.out Q2.out).mono ?_
        rintro e w' ⟨rfl, k5, rfl⟩
        go_wp2_with fail
        refine (lright_at M cm mv w4 k5 SM.out LM.out RM.out).mono ?_
        rintro e w' ⟨rfl, k6, rfl⟩
        have BE := Lib.hid (below_drewN B4.out k6)
        go_wp2
        go_ret
        exact ⟨rfl, BE.out⟩
      · have Q1 := Lib.hid hq1
        have Q2 := Lib.hid hq2
        have Q3 := Lib.hid (show La.inn c mv = true by rw [I3.out, hq1, hq2, Bool.and_self])
        clear hq1 hq2
        go_wp2_with fail
        refine C0.out.mono ?_
        rintro e w' ⟨rfl, k1, rfl⟩
        go_wp2_with fail
        refine (lin_at M B cm cb mv b true w4 k1 SM.out SB4.out LM.out RB.out I2.out).mono ?_
        rintro e w' ⟨rfl, k2, rfl⟩
        go_wp2_with fail
        refine (lin_at C M cc cm c mv true w4 k2 SC4.out SM.out LC.out RM.out Q3.out).mono ?_
        rintro e w' ⟨rfl, k3, rfl⟩
        go_wp2_with fail
        refine (lin_at C A cc ca c a true w4 k3 SC4.out SA4.out LC.out RA.out Q1.out).mono ?_
        rintro e w' ⟨rfl, k4, rfl⟩
        go_wp2_with fail
        refine (lin_at C B cc cb c b true w4 k4 SC4.out SB4.out LC.out RB.out Q2.out).mono ?_
        rintro e w' ⟨rfl, k5, rfl⟩
        go_wp2_with fail
        refine (lright_at M cm mv w4 k5 SM.out LM.out RM.out).mono ?_
        rintro e w' ⟨rfl, k6, rfl⟩
        have BE := Lib.hid (below_drewN B4.out k6)
        go_wp2
        go_ret
        exact ⟨rfl, BE.out⟩
  · have hc0 : code = 0 := by rw [← CO.out, JC.out, if_neg h6]
    have JVV2 := Lib.hid (show jv = La.ofAll (a ++ b) by rw [← JVV.out, JV.out, if_neg h6])
    have RJ := Lib.hid (show La.right jv = true by rw [JVV2.out]; exact join_right a b RA.out RB.out h6)
    have LJ := Lib.hid (show jv.length ≤ maxLen by have := ((La.right_iff jv).1 RJ.out).1; unfold maxLen; omega)
    have J1 := Lib.hid (show La.inn a jv = true by rw [JVV2.out]; exact join_a a b)
    have J2 := Lib.hid (show La.inn b jv = true by rw [JVV2.out]; exact join_b a b)
    have J3 := Lib.hid (show La.inn jv c = (La.inn a c && La.inn b c) by rw [JVV2.out]; exact join_c a b c)
    clear h6
    subst hc0
    cases hq1 : La.inn c a
    · have Q1 := Lib.hid hq1
      have Q3 := Lib.hid (show La.inn c mv = false by rw [I3.out, hq1, Bool.false_and])
      clear hq1
      cases hp1 : La.inn a c
      · have P1 := Lib.hid hp1
        have P3 := Lib.hid (show La.inn jv c = false by rw [J3.out, hp1, Bool.false_and])
        clear hp1
        go_wp2_with fail
        refine C0.out.mono ?_
        rintro e w' ⟨rfl, k1, rfl⟩
        go_wp2_with fail
        refine (lin_at M B cm cb mv b true w4 k1 SM.out SB4.out LM.out RB.out I2.out).mono ?_
        rintro e w' ⟨rfl, k2, rfl⟩
        go_wp2_with fail
        refine (lin_at C M cc cm c mv false w4 k2 SC4.out SM.out LC.out RM.out Q3.out).mono ?_
        rintro e w' ⟨rfl, k3, rfl⟩
        go_wp2_with fail
        refine (lin_at C A cc ca c a false w4 k3 SC4.out SA4.out LC.out RA.out Q1.out).mono ?_
        rintro e w' ⟨rfl, k4, rfl⟩
        go_wp2_with fail
        refine (lright_at M cm mv w4 k4 SM.out LM.out RM.out).mono ?_
        rintro e w' ⟨rfl, k6, rfl⟩
        go_wp2_with fail
        refine (lin_at A J ca cj a jv true w4 k6 SA4.out SJ.out LA.out RJ.out J1.out).mono ?_
        rintro e w' ⟨rfl, k7, rfl⟩
        go_wp2_with fail
        refine (lin_at B J cb cj b jv true w4 k7 SB4.out SJ.out LB.out RJ.out J2.out).mono ?_
        rintro e w' ⟨rfl, k8, rfl⟩
        go_wp2_with fail
        refine (lin_at J C cj cc jv c false w4 k8 SJ.out SC4.out LJ.out RC.out P3.out).mono ?_
        rintro e w' ⟨rfl, k9, rfl⟩
        go_wp2_with fail
        refine (lin_at A C ca cc a c false w4 k9 SA4.out SC4.out LA.out RC.out P1.out).mono ?_
        rintro e w' ⟨rfl, k10, rfl⟩
        go_wp2_with fail
        refine (lright_at J cj jv w4 k10 SJ.out LJ.out RJ.out).mono ?_
        rintro e w' ⟨rfl, k12, rfl⟩
        have BE := Lib.hid (below_drewN B4.out k12)
        go_wp2
        go_ret
        exact ⟨rfl, BE.out⟩
      · cases hp2 : La.inn b c
        · have P1 := Lib.hid hp1
          have P2 := Lib.hid hp2
          have P3 := Lib.hid (show La.inn jv c = false by rw [J3.out, hp1, hp2, Bool.and_false])
          clear hp1 hp2
          go_wp2_with fail
          refine C0.out.mono ?_
          rintro e w' ⟨rfl, k1, rfl⟩
          go_wp2_with fail
          refine (lin_at M B cm cb mv b true w4 k1 SM.out SB4.out LM.out RB.out I2.out).mono ?_
          rintro e w' ⟨rfl, k2, rfl⟩
          go_wp2_with fail
          refine (lin_at C M cc cm c mv false w4 k2 SC4.out SM.out LC.out RM.out Q3.out).mono ?_
          rintro e w' ⟨rfl, k3, rfl⟩
          go_wp2_with fail
          refine (lin_at C A cc ca c a false w4 k3 SC4.out SA4.out LC.out RA.out Q1.out).mono ?_
          rintro e w' ⟨rfl, k4, rfl⟩
          go_wp2_with fail
          refine (lright_at M cm mv w4 k4 SM.out LM.out RM.out).mono ?_
          rintro e w' ⟨rfl, k6, rfl⟩
          go_wp2_with fail
          refine (lin_at A J ca cj a jv true w4 k6 SA4.out SJ.out LA.out RJ.out J1.out).mono ?_
          rintro e w' ⟨rfl, k7, rfl⟩
          go_wp2_with fail
          refine (lin_at B J cb cj b jv true w4 k7 SB4.out SJ.out LB.out RJ.out J2.out).mono ?_
          rintro e w' ⟨rfl, k8, rfl⟩
          go_wp2_with fail
          refine (lin_at J C cj cc jv c false w4 k8 SJ.out SC4.out LJ.out RC.out P3.out).mono ?_
          rintro e w' ⟨rfl, k9, rfl⟩
          go_wp2_with fail
          refine (lin_at A C ca cc a c true w4 k9 SA4.out SC4.out LA.out RC.out P1.out).mono ?_
          rintro e w' ⟨rfl, k10, rfl⟩
          go_wp2_with fail
          refine (lin_at B C cb cc b c false w4 k10 SB4.out SC4.out LB.out RC.out P2.out).mono ?_
          rintro e w' ⟨rfl, k11, rfl⟩
          go_wp2_with fail
          refine (lright_at J cj jv w4 k11 SJ.out LJ.out RJ.out).mono ?_
          rintro e w' ⟨rfl, k12, rfl⟩
          have BE := Lib.hid (below_drewN B4.out k12)
          go_wp2
          go_ret
          exact ⟨rfl, BE.out⟩
        · have P1 := Lib.hid hp1
          have P2 := Lib.hid hp2
          have P3 := Lib.hid (show La.inn jv c = true by rw [J3.out, hp1, hp2, Bool.and_self])
          clear hp1 hp2
          go_wp2_with fail
          refine C0.out.mono ?_
          rintro e w' ⟨rfl, k1, rfl⟩
          go_wp2_with fail
          refine (lin_at M B cm cb mv b true w4 k1 SM.out SB4.out LM.out RB.out I2.out).mono ?_
          rintro e w' ⟨rfl, k2, rfl⟩
          go_wp2_with fail
          refine (lin_at C M cc cm c mv false w4 k2 SC4.out SM.out LC.out RM.out Q3.out).mono ?_
          rintro e w' ⟨rfl, k3, rfl⟩
          go_wp2_with fail
          refine (lin_at C A cc ca c a false w4 k3 SC4.out SA4.out LC.out RA.out Q1.out).mono ?_
          rintro e w' ⟨rfl, k4, rfl⟩
          go_wp2_with fail
          refine (lright_at M cm mv w4 k4 SM.out LM.out RM.out).mono ?_
          rintro e w' ⟨rfl, k6, rfl⟩
          go_wp2_with fail
          refine (lin_at A J ca cj a jv true w4 k6 SA4.out SJ.out LA.out RJ.out J1.out).mono ?_
          rintro e w' ⟨rfl, k7, rfl⟩
          go_wp2_with fail
          refine (lin_at B J cb cj b jv true w4 k7 SB4.out SJ.out LB.out RJ.out J2.out).mono ?_
          rintro e w' ⟨rfl, k8, rfl⟩
          go_wp2_with fail
          refine (lin_at J C cj cc jv c true w4 k8 SJ.out SC4.out LJ.out RC.out P3.out).mono ?_
          rintro e w' ⟨rfl, k9, rfl⟩
          go_wp2_with fail
          refine (lin_at A C ca cc a c true w4 k9 SA4.out SC4.out LA.out RC.out P1.out).mono ?_
          rintro e w' ⟨rfl, k10, rfl⟩
          go_wp2_with fail
          refine (lin_at B C cb cc b c true w4 k10 SB4.out SC4.out LB.out RC.out P2.out).mono ?_
          rintro e w' ⟨rfl, k11, rfl⟩
          go_wp2_with fail
          refine (lright_at J cj jv w4 k11 SJ.out LJ.out RJ.out).mono ?_
          rintro e w' ⟨rfl, k12, rfl⟩
          have BE := Lib.hid (below_drewN B4.out k12)
          go_wp2
          go_ret
          exact ⟨rfl, BE.out⟩
    · cases hq2 : La.inn c b
      · have Q1 := Lib.hid hq1
        have Q2 := Lib.hid hq2
        have Q3 := Lib.hid (show La.inn c mv = false by rw [I3.out, hq1, hq2, Bool.and_false])
        clear hq1 hq2
        cases hp1 : La.inn a c
        · have P1 := Lib.hid hp1
          have P3 := Lib.hid (show La.inn jv c = false by rw [J3.out, hp1, Bool.false_and])
          clear hp1
          go_wp2_with fail
          refine C0.out.mono ?_
          rintro e w' ⟨rfl, k1, rfl⟩
          go_wp2_with fail
          refine (lin_at M B cm cb mv b true w4 k1 SM.out SB4.out LM.out RB.out I2.out).mono ?_
          rintro e w' ⟨rfl, k2, rfl⟩
          go_wp2_with fail
          refine (lin_at C M cc cm c mv false w4 k2 SC4.out SM.out LC.out RM.out Q3.out).mono ?_
          rintro e w' ⟨rfl, k3, rfl⟩
          go_wp2_with fail
          refine (lin_at C A cc ca c a true w4 k3 SC4.out SA4.out LC.out RA.out Q1.out).mono ?_
          rintro e w' ⟨rfl, k4, rfl⟩
          go_wp2_with fail
          refine (lin_at C B cc cb c b false w4 k4 SC4.out SB4.out LC.out RB.out Q2.out).mono ?_
          rintro e w' ⟨rfl, k5, rfl⟩
          go_wp2_with fail
          refine (lright_at M cm mv w4 k5 SM.out LM.out RM.out).mono ?_
          rintro e w' ⟨rfl, k6, rfl⟩
          go_wp2_with fail
          refine (lin_at A J ca cj a jv true w4 k6 SA4.out SJ.out LA.out RJ.out J1.out).mono ?_
          rintro e w' ⟨rfl, k7, rfl⟩
          go_wp2_with fail
          refine (lin_at B J cb cj b jv true w4 k7 SB4.out SJ.out LB.out RJ.out J2.out).mono ?_
          rintro e w' ⟨rfl, k8, rfl⟩
          go_wp2_with fail
          refine (lin_at J C cj cc jv c false w4 k8 SJ.out SC4.out LJ.out RC.out P3.out).mono ?_
          rintro e w' ⟨rfl, k9, rfl⟩
          go_wp2_with fail
          refine (lin_at A C ca cc a c false w4 k9 SA4.out SC4.out LA.out RC.out P1.out).mono ?_
          rintro e w' ⟨rfl, k10, rfl⟩
          go_wp2_with fail
          refine (lright_at J cj jv w4 k10 SJ.out LJ.out RJ.out).mono ?_
          rintro e w' ⟨rfl, k12, rfl⟩
          have BE := Lib.hid (below_drewN B4.out k12)
          go_wp2
          go_ret
          exact ⟨rfl, BE.out⟩
        · cases hp2 : La.inn b c
          · have P1 := Lib.hid hp1
            have P2 := Lib.hid hp2
            have P3 := Lib.hid (show La.inn jv c = false by rw [J3.out, hp1, hp2, Bool.and_false])
            clear hp1 hp2
            go_wp2_with fail
            refine C0.out.mono ?_
            rintro e w' ⟨rfl, k1, rfl⟩
            go_wp2_with fail
            refine (lin_at M B cm cb mv b true w4 k1 SM.out SB4.out LM.out RB.out I2.out).mono ?_
            rintro e w' ⟨rfl, k2, rfl⟩
            go_wp2_with fail
            refine (lin_at C M cc cm c mv false w4 k2 SC4.out SM.out LC.out RM.out Q3.out).mono ?_
            rintro e w' ⟨rfl, k3, rfl⟩
            go_wp2_with fail
            refine (lin_at C A cc ca c a true w4 k3 SC4.out SA4.out LC.out RA.out Q1.out).mono ?_
            rintro e w' ⟨rfl, k4, rfl⟩
            go_wp2_with fail
            refine (lin_at C B cc cb c b false w4 k4 SC4.out SB4.out LC.out RB.out Q2.out).mono ?_
            rintro e w' ⟨rfl, k5, rfl⟩
            go_wp2_with fail
            refine (lright_at M cm mv w4 k5 SM.out LM.out RM.out).mono ?_
            rintro e w' ⟨rfl, k6, rfl⟩
            go_wp2_with fail
            refine (lin_at A J ca cj a jv true w4 k6 SA4.out SJ.out LA.out RJ.out J1.out).mono ?_
            rintro e w' ⟨rfl, k7, rfl⟩
            go_wp2_with fail
            refine (lin_at B J cb cj b jv true w4 k7 SB4.out SJ.out LB.out RJ.out J2.out).mono ?_
            rintro e w' ⟨rfl, k8, rfl⟩
            go_wp2_with fail
            refine (lin_at J C cj cc jv c false w4 k8 SJ.out SC4.out LJ.out RC.out P3.out).mono ?_
            rintro e w' ⟨rfl, k9, rfl⟩
            go_wp2_with fail
            refine (lin_at A C ca cc a c true w4 k9 SA4.out SC4.out LA.out RC.out P1.out).mono ?_
            rintro e w' ⟨rfl, k10, rfl⟩
            go_wp2_with fail
            refine (lin_at B C cb cc b c false w4 k10 SB4.out SC4.out LB.out RC.out P2.out).mono ?_
            rintro e w' ⟨rfl, k11, rfl⟩
            go_wp2_with fail
            refine (lright_at J cj jv w4 k11 SJ.out LJ.out RJ.out).mono ?_
            rintro e w' ⟨rfl, k12, rfl⟩
            have BE := Lib.hid (below_drewN B4.out k12)
            go_wp2
            go_ret
            exact ⟨rfl, BE.out⟩
          · have P1 := Lib.hid hp1
            have P2 := Lib.hid hp2
            have P3 := Lib.hid (show La.inn jv c = true by rw [J3.out, hp1, hp2, Bool.and_self])
            clear hp1 hp2
            go_wp2_with fail
            refine C0.out.mono ?_
            rintro e w' ⟨rfl, k1, rfl⟩
            go_wp2_with fail
            refine (lin_at M B cm cb mv b true w4 k1 SM.out SB4.out LM.out RB.out I2.out).mono ?_
            rintro e w' ⟨rfl, k2, rfl⟩
            go_wp2_with fail
            refine (lin_at C M cc cm c mv false w4 k2 SC4.out SM.out LC.out RM.out Q3.out).mono ?_
            rintro e w' ⟨rfl, k3, rfl⟩
            go_wp2_with fail
            refine (lin_at C A cc ca c a true w4 k3 SC4.out SA4.out LC.out RA.out Q1.out).mono ?_
            rintro e w' ⟨rfl, k4, rfl⟩
            go_wp2_with fail
            refine (lin_at C B cc cb c b false w4 k4 SC4.out SB4.out LC.out RB.out Q2.out).mono ?_
            rintro e w' ⟨rfl, k5, rfl⟩
            go_wp2_with fail
            refine (lright_at M cm mv w4 k5 SM.out LM.out RM.out).mono ?_
            rintro e w' ⟨rfl, k6, rfl⟩
            go_wp2_with fail
            refine (lin_at A J ca cj a jv true w4 k6 SA4.out SJ.out LA.out RJ.out J1.out).mono ?_
            rintro e w' ⟨rfl, k7, rfl⟩
            go_wp2_with fail
            refine (lin_at B J cb cj b jv true w4 k7 SB4.out SJ.out LB.out RJ.out J2.out).mono ?_
            rintro e w' ⟨rfl, k8, rfl⟩
            go_wp2_with fail
            refine (lin_at J C cj cc jv c true w4 k8 SJ.out SC4.out LJ.out RC.out P3.out).mono ?_
            rintro e w' ⟨rfl, k9, rfl⟩
            go_wp2_with fail
            refine (lin_at A C ca cc a c true w4 k9 SA4.out SC4.out LA.out RC.out P1.out).mono ?_
            rintro e w' ⟨rfl, k10, rfl⟩
            go_wp2_with fail
            refine (lin_at B C cb cc b c true w4 k10 SB4.out SC4.out LB.out RC.out P2.out).mono ?_
            rintro e w' ⟨rfl, k11, rfl⟩
            go_wp2_with fail
            refine (lright_at J cj jv w4 k11 SJ.out LJ.out RJ.out).mono ?_
            rintro e w' ⟨rfl, k12, rfl⟩
            have BE := Lib.hid (below_drewN B4.out k12)
            go_wp2
            go_ret
            exact ⟨rfl, BE.out⟩
      · have Q1 := Lib.hid hq1
        have Q2 := Lib.hid hq2
        have Q3 := Lib.hid (show La.inn c mv = true by rw [I3.out, hq1, hq2, Bool.and_self])
        clear hq1 hq2
        cases hp1 : La.inn a c
        · have P1 := Lib.hid hp1
          have P3 := Lib.hid (show La.inn jv c = false by rw [J3.out, hp1, Bool.false_and])
          clear hp1
          go_wp2_with fail
          refine C0.out.mono ?_
          rintro e w' ⟨rfl, k1, rfl⟩
          go_wp2_with fail
          refine (lin_at M B cm cb mv b true w4 k1 SM.out SB4.out LM.out RB.out I2.out).mono ?_
          rintro e w' ⟨rfl, k2, rfl⟩
          go_wp2_with fail
          refine (lin_at C M cc cm c mv true w4 k2 SC4.out SM.out LC.out RM.out Q3.out).mono ?_
          rintro e w' ⟨rfl, k3, rfl⟩
          go_wp2_with fail
          refine (lin_at C A cc ca c a true w4 k3 SC4.out SA4.out LC.out RA.out Q1.out).mono ?_
          rintro e w' ⟨rfl, k4, rfl⟩
          go_wp2_with fail
          refine (lin_at C B cc cb c b true w4 k4 SC4.out SB4.out LC.out RB.out Q2.out).mono ?_
          rintro e w' ⟨rfl, k5, rfl⟩
          go_wp2_with fail
          refine (lright_at M cm mv w4 k5 SM.out LM.out RM.out).mono ?_
          rintro e w' ⟨rfl, k6, rfl⟩
          go_wp2_with fail
          refine (lin_at A J ca cj a jv true w4 k6 SA4.out SJ.out LA.out RJ.out J1.out).mono ?_
          rintro e w' ⟨rfl, k7, rfl⟩
          go_wp2_with fail
          refine (lin_at B J cb cj b jv true w4 k7 SB4.out SJ.out LB.out RJ.out J2.out).mono ?_
          rintro e w' ⟨rfl, k8, rfl⟩
          go_wp2_with fail
          refine (lin_at J C cj cc jv c false w4 k8 SJ.out SC4.out LJ.out RC.out P3.out).mono ?_
          rintro e w' ⟨rfl, k9, rfl⟩
          go_wp2_with fail
          refine (lin_at A C ca cc a c false w4 k9 SA4.out SC4.out LA.out RC.out P1.out).mono ?_
          rintro e w' ⟨rfl, k10, rfl⟩
          go_wp2_with fail
          refine (lright_at J cj jv w4 k10 SJ.out LJ.out RJ.out).mono ?_
          rintro e w' ⟨rfl, k12, rfl⟩
          have BE := Lib.hid (below_drewN B4.out k12)
          go_wp2
          go_ret
          exact ⟨rfl, BE.out⟩
        · cases hp2 : La.inn b c
          · have P1 := Lib.hid hp1
            have P2 := Lib.hid hp2
            have P3 := Lib.hid (show La.inn jv c = false by rw [J3.out, hp1, hp2, Bool.and_false])
            clear hp1 hp2
            go_wp2_with fail
            refine C0.out.mono ?_
            rintro e w' ⟨rfl, k1, rfl⟩
            go_wp2_with fail
            refine (lin_at M B cm cb mv b true w4 k1 SM.out SB4.out LM.out RB.out I2.out).mono ?_
            rintro e w' ⟨rfl, k2, rfl⟩
            go_wp2_with fail
            refine (lin_at C M cc cm c mv true w4 k2 SC4.out SM.out LC.out RM.out Q3.out).mono ?_
            rintro e w' ⟨rfl, k3, rfl⟩
            go_wp2_with fail
            refine (lin_at C A cc ca c a true w4 k3 SC4.out SA4.out LC.out RA.out Q1.out).mono ?_
            rintro e w' ⟨rfl, k4, rfl⟩
            go_wp2_with fail
            refine (lin_at C B cc cb c b true w4 k4 SC4.out SB4.out LC.out RB.out Q2.out).mono ?_
            rintro e w' ⟨rfl, k5, rfl⟩
            go_wp2_with fail
            refine (lright_at M cm mv w4 k5 SM.out LM.out RM.out).mono ?_
            rintro e w' ⟨rfl, k6, rfl⟩
            go_wp2_with fail
            refine (lin_at A J ca cj a jv true w4 k6 SA4.out SJ.out LA.out RJ.out J1.out).mono ?_
            rintro e w' ⟨rfl, k7, rfl⟩
            go_wp2_with fail
            refine (lin_at B J cb cj b jv true w4 k7 SB4.out SJ.out LB.out RJ.out J2.out).mono ?_
            rintro e w' ⟨rfl, k8, rfl⟩
            go_wp2_with fail
            refine (lin_at J C cj cc jv c false w4 k8 SJ.out SC4.out LJ.out RC.out P3.out).mono ?_
            rintro e w' ⟨rfl, k9, rfl⟩
            go_wp2_with fail
            refine (lin_at A C ca cc a c true w4 k9 SA4.out SC4.out LA.out RC.out P1.out).mono ?_
            rintro e w' ⟨rfl, k10, rfl⟩
            go_wp2_with fail
            refine (lin_at B C cb cc b c false w4 k10 SB4.out SC4.out LB.out RC.out P2.out).mono ?_
            rintro e w' ⟨rfl, k11, rfl⟩
            go_wp2_with fail
            refine (lright_at J cj jv w4 k11 SJ.out LJ.out RJ.out).mono ?_
            rintro e w' ⟨rfl, k12, rfl⟩
            have BE := Lib.hid (below_drewN B4.out k12)
            go_wp2
            go_ret
            exact ⟨rfl, BE.out⟩
          · have P1 := Lib.hid hp1
            have P2 := Lib.hid hp2
            have P3 := Lib.hid (show La.inn jv c = true by rw [J3.out, hp1, hp2, Bool.and_self])
            clear hp1 hp2
            go_wp2_with fail
            refine C0.out.mono ?_
            rintro e w' ⟨rfl, k1, rfl⟩
            go_wp2_with fail
            refine (lin_at M B cm cb mv b true w4 k1 SM.out SB4.out LM.out RB.out I2.out).mono ?_
            rintro e w' ⟨rfl, k2, rfl⟩
            go_wp2_with fail
            refine (lin_at C M cc cm c mv true w4 k2 SC4.out SM.out LC.out RM.out Q3.out).mono ?_
            rintro e w' ⟨rfl, k3, rfl⟩
            go_wp2_with fail
            refine (lin_at C A cc ca c a true w4 k3 SC4.out SA4.out LC.out RA.out Q1.out).mono ?_
            rintro e w' ⟨rfl, k4, rfl⟩
            go_wp2_with fail
            refine (lin_at C B cc cb c b true w4 k4 SC4.out SB4.out LC.out RB.out Q2.out).mono ?_
            rintro e w' ⟨rfl, k5, rfl⟩
            go_wp2_with fail
            refine (lright_at M cm mv w4 k5 SM.out LM.out RM.out).mono ?_
            rintro e w' ⟨rfl, k6, rfl⟩
            go_wp2_with fail
            refine (lin_at A J ca cj a jv true w4 k6 SA4.out SJ.out LA.out RJ.out J1.out).mono ?_
            rintro e w' ⟨rfl, k7, rfl⟩
            go_wp2_with fail
            refine (lin_at B J cb cj b jv true w4 k7 SB4.out SJ.out LB.out RJ.out J2.out).mono ?_
            rintro e w' ⟨rfl, k8, rfl⟩
            go_wp2_with fail
            refine (lin_at J C cj cc jv c true w4 k8 SJ.out SC4.out LJ.out RC.out P3.out).mono ?_
            rintro e w' ⟨rfl, k9, rfl⟩
            go_wp2_with fail
            refine (lin_at A C ca cc a c true w4 k9 SA4.out SC4.out LA.out RC.out P1.out).mono ?_
            rintro e w' ⟨rfl, k10, rfl⟩
            go_wp2_with fail
            refine (lin_at B C cb cc b c true w4 k10 SB4.out SC4.out LB.out RC.out P2.out).mono ?_
            rintro e w' ⟨rfl, k11, rfl⟩
            go_wp2_with fail
            refine (lright_at J cj jv w4 k11 SJ.out LJ.out RJ.out).mono ?_
            rintro e w' ⟨rfl, k12, rfl⟩
            have BE := Lib.hid (below_drewN B4.out k12)
            go_wp2
            go_ret
            exact ⟨rfl, BE.out⟩

theorem walk (A B C : Option Addr) (ca cb cc : Nat) (a b c : List Int) (W : World) (ha : Sl W A a) (hb : Sl W B b) (hc : Sl W C c) (na : A = none → a = [] ∧ ca = 0) (nb : B = none → b = [] ∧ cb = 0) (la : a.length ≤ maxLen) (lb : b.length ≤ maxLen) (lc : c.length ≤ maxLen)
    (ua : La.U64 a) (ub : La.U64 b) (uc : La.U64 c) :
    Calls Try.prog 5 #[.slice A a.length ca, .slice B b.length cb, .slice C c.length cc] W fun e w' => e = .returned (.bool true) ∧ Below W.heap.size W w' := by
  cases h : (La.right a && La.right b && La.right c)
  · exact walk_off A B C ca cb cc a b c W ha hb hc la lb lc ua ub uc h
  · rw [Bool.and_eq_true, Bool.and_eq_true] at h
    exact walk_on A B C ca cb cc a b c W ha hb hc na nb la lb lc ua ub uc h.1.1 h.1.2 h.2

set_option maxRecDepth 100000 in
theorem lifted (os : Os) (started : os.Started) (H : Type) (enc : TypeId × Value → H) :
    ReturnsInHanded {} Try.checked os 5 .any (Rows.labelBoundsSpec.pre6 enc Try.prog Try.f5 Rows.labelBoundsRow.domain false) (Rows.labelBoundsSpec.post enc Try.prog Try.f5 false true false false) := by
  refine returnsInHanded_of_change (C := Try.checked) own started (by kernel_rfl) Try.func5
    (ChangeSpec.witness6 (enc := enc) (C := Try.checked) false ⟨#[], #[.slice none 0 0, .slice none 0 0, .slice none 0 0], []⟩ 8 (by kernel_rfl) (by kernel_rfl) (by kernel_rfl) (by kernel_rfl)) ?_
  intro W base args ds gs before hval0 hW hcnd _
  have hval : ∀ (j : Nat) t v, Try.f5.params[j]? = some t → args[j]? = some v → Value.okWide Try.prog W .any base t v := hval0
  have hW' := hW
  obtain ⟨p, q, hA0, hV, rfl, hfz, hnd⟩ := hW
  have hA : DataW.TrodAll enc Try.prog W 0 (fun _ => true) true Try.f5.params.toList args.toList ds p := hA0
  rw [Try.params5] at hA hval
  obtain ⟨v0, vs0, d0, ds0, p0, q0, hargs, rfl, rfl, h0, r0⟩ := trodAll_cons hA
  obtain ⟨v1, vs1, d1, ds1, p1, q1, hargs1, rfl, rfl, h1, r1⟩ := trodAll_cons r0
  obtain ⟨v2, vs2, d2, ds2, p2, q2, hargs2, rfl, rfl, h2, r2⟩ := trodAll_cons r1
  obtain ⟨rfl, rfl, rfl⟩ := trodAll_nil r2
  obtain rfl : args = #[v0, v1, v2] := by cases args; simp_all
  obtain ⟨rfl, rfl⟩ := trodVars_none hV
  clear hA0 hval0
  simp only [List.append_nil] at hW'
  have hlt : ∀ x ∈ p0 ++ (p1 ++ p2), x.block < W.heap.size := fun x hx => by simpa using hW'.lt x hx
  have l0 : ∀ x ∈ p0, x.block < W.heap.size := fun x hx => hlt x (by simp [hx])
  have l1 : ∀ x ∈ p1, x.block < W.heap.size := fun x hx => hlt x (by simp [hx])
  have l2 : ∀ x ∈ p2, x.block < W.heap.size := fun x hx => hlt x (by simp [hx])
  obtain ⟨A, ca, a, rfl, sa, na, ua, la⟩ := open_u64s (hval 0 22 v0 rfl rfl) h0 l0
  obtain ⟨B, cb, b, rfl, sb, nb, ub, lb⟩ := open_u64s (hval 1 22 v1 rfl rfl) h1 l1
  obtain ⟨C, cc, c, rfl, sc, _, uc, lc⟩ := open_u64s (hval 2 22 v2 rfl rfl) h2 l2
  refine (walk A B C ca cb cc a b c W sa sb sc na nb la lb lc ua ub uc).mono fun e W' ⟨he, hg⟩ => ?_
  subst he
  refine ⟨_, rfl, [d0, d1, d2], [], p0 ++ (p1 ++ p2), [], p0 ++ (p1 ++ (p2 ++ [])), [], hW', ?_, ?_, ?_, hg.frame _, fun h => by cases h⟩
  · exact trodAll_cons_mk (shut_bool Try.underlying4 _) trodAll_mk0
  · exact trodAll_cons_mk (Below.trod laidOut (by kernel_rfl) (of_decide_eq_true (by kernel_rfl)) h0 hg l0) (trodAll_cons_mk (Below.trod laidOut (by kernel_rfl) (of_decide_eq_true (by kernel_rfl)) h1 hg l1) (trodAll_cons_mk (Below.trod laidOut (by kernel_rfl) (of_decide_eq_true (by kernel_rfl)) h2 hg l2) trodAll_mk0))
  · rfl

theorem over : Rows.labelBoundsRow.holds Try.pinned (OpenSpec.ofChange Rows.labelBoundsSpec) :=
  OpenClaim.holds_of_wide 5 Try.f5 rfl rfl rfl rfl rfl rfl rfl ⟨rfl, rfl, rfl, rfl, rfl⟩ rfl rfl rfl rfl rfl (by kernel_rfl) Try.func5 (by kernel_rfl)
    (of_decide_eq_true (by kernel_rfl)) (by unfold Func.isWrapper; first | (rw [if_pos (by decide +kernel)]; kernel_rfl) | (rw [if_neg (by decide +kernel)]; exact ⟨rfl, rfl⟩))
    (fun os started H enc _ => lifted os started H enc)

/-- ████ THE STATEMENT ████ -/
theorem proved : Rows.LabelBoundsSaid :=
  over
#print axioms proved

end Go.Proofs.Ytodindfchkpecaa.labelBounds
