/- WirePrints: for every shape, any items and any bytes behind the law returns true, and its arguments read behind the call as they read before. -/
import Derived.Test.YtmcackghpkegbaaRe
import Derived.Test.YtmcackghpkegbaaQd
import Derived.Test.YtmcackghpkegbaaApt
import Derived.Test.YtmcackghpkegbaaRs
namespace Go.Proofs.Ytmcackghpkegbaa.wirePrints
open Go.Proofs.Ytmcackghpkegbaa Go.ChangeShapes Go.WideShapes Go.ChangeAt Go.RowKit
open Go.ChangeMaps (open_string shut_string)

set_option maxRecDepth 100000 in
theorem rPrint (d : Nat) (sh : ByteArray) (A : Option Addr) (c : Nat) (xs : List Item) (w : World) (hs : sh.size ≤ maxLen) (hf : FitIt (d + 2) xs) (hx : SlIt (d + 2) w A xs) (hn : Near xs) :
    Calls Try.prog 10 #[.string sh, .slice A xs.length c] w fun e w' => (∃ S, e = .returned (.tuple #[.string S, .bool (decide (prC sh xs = 0))]) ∧ (prC sh xs = 0 → S = prS sh xs)) ∧ Below w.heap.size w w' := by
  cases hk : kindsOf sh with
  | none =>
    have RR := Lib.hid (rRight sh w hs)
    have HK := Lib.hid hk
    have R := Lib.hid (show decide (prC sh xs = 0) = false by rw [(prC_none hk).1]; rfl)
    have R1 := Lib.hid (show prC sh xs ≠ 0 by rw [(prC_none hk).1]; decide)
    clear hf hx hn hk
    go_enter Try.func10, Try.ntmps10
    go_wp2_with fail
    refine RR.out.mono ?_
    rintro e w1 ⟨rfl, rfl⟩
    rw [HK.out]
    go_wp2_with fail
    go_ret2
    exact ⟨⟨⟨#[]⟩, by rw [R.out]; rfl, fun h => absurd h R1.out⟩, Below.refl _ _⟩
  | some ks =>
    have h40 : sh.size ≤ 40 := by
      rcases Nat.lt_or_ge 40 sh.size with h | h
      · unfold kindsOf at hk; rw [if_pos h] at hk; cases hk
      · exact h
    refine (rPrintYes d sh A c ks xs w hk h40 hf hx hn).mono ?_
    rintro e w' ⟨⟨S, rfl, h⟩, hb⟩
    cases hft : fitsAll ks xs with
    | false => exact ⟨⟨S, by rw [(prC_no hk hft).1]; rfl, fun k => by rw [(prC_no hk hft).1] at k; cases k⟩, hb⟩
    | true => exact ⟨⟨S, by rw [(prC_yes hk hft).1]; rfl, fun _ => by rw [(prC_yes hk hft).2]; exact h hft⟩, hb⟩

theorem far_one (k : Nat) {xs : List Item} (h : farB (k + 1) xs = false) : ∀ x ∈ xs, x.s.size ≤ 300 ∧ x.l.length ≤ 60 ∧ farB k x.ks = false := by
  intro x hx
  rw [farB] at h
  simp only [Bool.or_eq_false_iff, List.any_eq_false] at h
  have h2 := h.2 x hx
  simp only [Bool.or_eq_true, not_or, Bool.not_eq_true, decide_eq_true_eq] at h2
  exact ⟨by omega, by omega, h2.2⟩
theorem near_of {xs : List Item} (h : farB 4 xs = false) : Near xs := fun x hx => by
  obtain ⟨h1, h2, h3⟩ := far_one 3 h x hx
  exact ⟨h1, h2, fun y hy => by
    obtain ⟨g1, g2, _⟩ := far_one 2 h3 y hy
    exact ⟨g1, g2⟩⟩
theorem dep_fits : ∀ (ks : List (Ltr × Bool)) (xs : List Item), fitsAll ks xs = true → DepIt 2 xs
  | [], [], _ => fun x hx => by cases hx
  | k :: ks, x :: xs, h => by
    unfold fitsAll at h; rw [Bool.and_eq_true] at h
    intro y hy
    rcases List.mem_cons.1 hy with e | e
    · subst e
      obtain ⟨L, st⟩ := k
      cases st
      · rw [only_ks (L := L) h.1]; intro z hz; cases hz
      · have h1 := h.1
        simp only [fitsK, if_true, Bool.and_eq_true] at h1
        intro z hz
        exact only_ks (L := L) (List.all_eq_true.1 h1.1.2 z hz)
    · exact dep_fits ks xs h.2 y e
  | [], x :: xs, h => by simp [fitsAll] at h
  | k :: ks, [], h => by simp [fitsAll] at h

set_option maxRecDepth 100000 in
set_option maxHeartbeats 4000000 in
theorem walk (hn : NumberAt) (sh : ByteArray) (A : Option Addr) (c : Nat) (a : List Item) (bh : ByteArray) (w : World) (hs : sh.size ≤ maxLen) (hbh : bh.size ≤ maxLen) (fa : FitIt 5 a) (sa : SlIt 5 w A a) :
    Calls Try.prog 3 #[.string sh, .slice A a.length c, .string bh] w fun e w' => e = .returned (.bool true) ∧ Below w.heap.size w w' := by
  have HS := Lib.hid hs
  have HN := Lib.hid hn
  have FA := Lib.hid fa
  have SA := Lib.hid sa
  have FA4 := Lib.hid (fit_less fa)
  unfold maxLen at hs hbh
  clear fa sa hn
  by_cases h60 : 60 < sh.size
  · go_enter Try.func3, Try.ntmps3
    go_wp2_with fail
    refine (awake3 _).mono ?_
    rintro e w1 ⟨rfl, hb⟩
    have B1 := Lib.hid hb
    clear hb
    go_wp2_with fail
    go_ret
    exact ⟨rfl, B1.out⟩
  by_cases h300 : 300 < bh.size
  · go_enter Try.func3, Try.ntmps3
    go_wp2_with fail
    refine (awake3 _).mono ?_
    rintro e w1 ⟨rfl, hb⟩
    have B1 := Lib.hid hb
    clear hb
    go_wp2_with fail
    go_ret
    exact ⟨rfl, B1.out⟩
  cases ha : farB 4 a
  case true =>
    have HA := Lib.hid ha
    clear ha
    go_enter Try.func3, Try.ntmps3
    go_wp2_with fail
    refine (awake3 _).mono ?_
    rintro e w1 ⟨rfl, hb⟩
    have B1 := Lib.hid hb
    clear hb
    go_wp2_with fail
    refine (lfar3 4 A c a 0 _ (by omega) (by omega) FA4.out (SlIt.less (SA.out.below B1.out))).mono ?_
    rintro e w' ⟨rfl, rfl⟩
    rw [HA.out]
    go_wp2_with fail
    go_ret
    exact ⟨rfl, B1.out⟩
  have NR := Lib.hid (near_of ha)
  have HA := Lib.hid ha
  clear ha
  by_cases hok : prC sh a = 0
  case neg =>
    have E1 := Lib.hid (show prC sh a = 1 from (prC_01 sh a).resolve_left hok)
    have D0 := Lib.hid (show decide (prC sh a = 0) = false from decide_eq_false hok)
    have S0 := Lib.hid (show prS sh a = ⟨#[]⟩ by
      cases hk : kindsOf sh with
      | none => exact (prC_none hk).2
      | some ks =>
        cases hf : fitsAll ks a with
        | true => exact absurd (prC_yes hk hf).1 hok
        | false => exact (prC_no hk hf).2)
    clear hok
    go_enter Try.func3, Try.ntmps3
    go_wp2_with fail
    refine (awake3 _).mono ?_
    rintro e w1 ⟨rfl, hb⟩
    have B1 := Lib.hid hb
    clear hb
    go_wp2_with fail
    refine (lfar3 4 A c a 0 _ (by omega) (by omega) FA4.out (SlIt.less (SA.out.below B1.out))).mono ?_
    rintro e w' ⟨rfl, rfl⟩
    rw [HA.out]
    go_wp2_with fail
    refine (lPrint 3 sh A c a _ HS.out FA.out (SA.out.below B1.out)).mono ?_
    rintro e w3 ⟨rfl, hb3⟩
    have B3 := Lib.hid (below_then B1.out hb3)
    clear hb3
    rw [E1.out, S0.out]
    go_wp2_with fail
    refine (rPrint 3 sh A c a _ HS.out FA.out (SA.out.below B3.out) NR.out).mono ?_
    rintro e w4 ⟨⟨S4, rfl, _⟩, hb4⟩
    have B4 := Lib.hid (below_then B3.out hb4)
    clear hb4
    rw [D0.out]
    obtain ⟨q, hq⟩ : ∃ q, q = (kindsOf sh).isSome := ⟨_, rfl⟩
    have LR := Lib.hid (lRight sh · HS.out)
    have RR := Lib.hid (rRight sh · HS.out)
    rw [← hq] at LR RR
    clear hq
    go_wp2_with fail
    refine (LR.out _).mono ?_
    rintro e w5 ⟨rfl, hb5⟩
    have B5 := Lib.hid (below_then B4.out hb5)
    clear hb5
    go_wp2_with fail
    refine (RR.out _).mono ?_
    rintro e w6 ⟨rfl, rfl⟩
    cases q
    all_goals
      go_wp2_with fail
      go_ret
      exact ⟨by first | rfl | simp, B5.out⟩
  obtain ⟨ks, hk, hfit⟩ : ∃ ks, kindsOf sh = some ks ∧ fitsAll ks a = true := by
    cases hk : kindsOf sh with
    | none => rw [(prC_none (xs := a) hk).1] at hok; cases hok
    | some ks =>
      cases hf : fitsAll ks a with
      | true => exact ⟨ks, rfl, hf⟩
      | false => rw [(prC_no hk hf).1] at hok; cases hok
  have PS := (prC_yes hk hfit).2
  have D0 := Lib.hid (show decide (prC sh a = 0) = true from decide_eq_true hok)
  have E1 := Lib.hid hok
  obtain ⟨l, hl⟩ : ∃ l, l = by8 (encAll ks a) := ⟨_, rfl⟩
  obtain ⟨P, hP⟩ : ∃ P, P = prS sh a := ⟨_, rfl⟩
  have PB : P = BA l := by rw [hP, PS, hl, BA_by8]
  have SL : P.size ≤ 538000 := by
    have h1 := wireApart.encAll_len 3 ks a FA.out.2 hfit
    have h2 := kindsOf_len hk
    rw [PB, BA_size, hl, by8_len]; omega
  have R1 := Lib.hid (show bgR sh l = .ok (a, []) by
    rw [bgR_some hk, hl]
    have := rdAll_back 3 ks a [] FA.out.2 hfit
    rw [List.append_nil] at this; exact this)
  have R2 := Lib.hid (show bgR sh (l ++ bh.data.toList) = .ok (a, bh.data.toList) by
    rw [bgR_some hk, hl]; exact rdAll_back 3 ks a _ FA.out.2 hfit)
  have PE := Lib.hid (show P ++ bh = BA (l ++ bh.data.toList) by rw [PB, BA_app, BA_of])
  have DP := Lib.hid (dep_fits ks a hfit)
  have F2 := Lib.hid (fit_less (fit_less (fit_less FA.out)))
  have ll : l.length = P.size := by rw [PB, BA_size]
  have LP := Lib.hid (show ∀ w2, Calls Try.prog 13 #[.string sh, .string P] w2 (PaPost sh l w2) by rw [PB]; exact fun w2 => lParse HN.out sh l w2 HS.out (by rw [ll]; omega))
  have LB := Lib.hid (show ∀ w2, Calls Try.prog 14 #[.string sh, .string (P ++ bh)] w2 (BgPost (bgR sh (l ++ bh.data.toList)) (l ++ bh.data.toList) w2) by
    rw [PE.out]
    exact fun w2 => lBegin HN.out sh (l ++ bh.data.toList) w2 HS.out (by
      have h9 : bh.data.toList.length = bh.size := by simp
      rw [List.length_append, h9, ll]; omega))
  have TN0 : (((l ++ bh.data.toList).length - bh.data.toList.length : Nat) : Int) = (P.size : Int) := by rw [List.length_append]; omega
  have TN := Lib.hid TN0
  have HPB := Lib.hid PB
  have HP := Lib.hid hP
  have SM := Lib.hid ((sameIt_iff a a).2 rfl)
  clear hl PB PS hok ll TN0 hP
  have HK := Lib.hid hk
  clear hk hfit
  go_enter Try.func3, Try.ntmps3
  go_wp2_with fail
  refine (awake3 _).mono ?_
  rintro e w1 ⟨rfl, hb⟩
  have B1 := Lib.hid hb
  clear hb
  go_wp2_with fail
  refine (lfar3 4 A c a 0 _ (by omega) (by omega) FA4.out (SlIt.less (SA.out.below B1.out))).mono ?_
  rintro e w' ⟨rfl, rfl⟩
  rw [HA.out]
  go_wp2_with fail
  refine (lPrint 3 sh A c a _ HS.out FA.out (SA.out.below B1.out)).mono ?_
  rintro e w3 ⟨rfl, hb3⟩
  have B3 := Lib.hid (below_then B1.out hb3)
  clear hb3
  rw [E1.out, ← HP.out]
  go_wp2_with fail
  refine (rPrint 3 sh A c a _ HS.out FA.out (SA.out.below B3.out) NR.out).mono ?_
  rintro e w4 ⟨⟨S4, rfl, hS4⟩, hb4⟩
  have hS4' := hS4 E1.out
  rw [← HP.out] at hS4'
  rw [hS4']
  have B4 := Lib.hid (below_then B3.out hb4)
  clear hb4 hS4 hS4'
  rw [D0.out]
  go_wp2_with fail
  refine (lRight sh _ HS.out).mono ?_
  rintro e w5 ⟨rfl, hb5⟩
  rw [HK.out]
  have B5 := Lib.hid (below_then B4.out hb5)
  clear hb5
  go_wp2_with fail
  refine (rRight sh _ HS.out).mono ?_
  rintro e w6 ⟨rfl, rfl⟩
  rw [HK.out]
  go_wp2_with fail
  refine (LP.out _).mono ?_
  rintro e w7 ⟨hb7, ⟨xs7, A7, c7, h7, rfl, sl7⟩ | ⟨c7, hno, _⟩⟩
  case inr => exact absurd R1.out (hno a)
  have hx7 : a = xs7 := by rw [R1.out] at h7; injection h7 with h7; injection h7
  subst hx7
  have B7 := Lib.hid (below_then B5.out hb7)
  have S7 := Lib.hid (sl7.slit 2)
  have p1 : (P.size : Int) ≤ 8388608 := by omega
  have p2 : (bh.size : Int) ≤ 8388608 := by omega
  clear hb7 h7 sl7
  go_wp2_with fail
  refine (LB.out _).mono ?_
  rintro e w8 hp8
  obtain ⟨A8, c8, rfl, sl8, hb8⟩ := hp8.ok R2.out
  have B8 := Lib.hid (below_then B7.out hb8)
  have S8 := Lib.hid (sl8.slit 2)
  have S78 := Lib.hid (S7.out.below hb8)
  rw [TN.out]
  clear hb8 sl8 hp8
  have TS := str_eq (rfl : P = P)
  go_wp2_with fail
  refine (rsameIt 2 A7 A c7 c a a _ F2.out F2.out S78.out (SlIt.less (SlIt.less (SlIt.less (SA.out.below B8.out)))) DP.out).mono ?_
  rintro e w9 ⟨rfl, n9, rfl⟩
  rw [SM.out]
  have B9 := Lib.hid (below_drewN B8.out n9)
  go_wp2_with fail
  refine (rsameIt 2 A8 A c8 c a a _ F2.out F2.out (S8.out.drewN n9) (SlIt.less (SlIt.less (SlIt.less (SA.out.below B9.out)))) DP.out).mono ?_
  rintro e w10 ⟨rfl, n10, rfl⟩
  rw [SM.out]
  go_wp2_with fail
  go_ret
  exact ⟨by first | rfl | simp, below_drewN B8.out _⟩

set_option maxRecDepth 100000 in
theorem lifted (hn : NumberAt) (os : Os) (started : os.Started) (H : Type) (enc : TypeId × Value → H) :
    ReturnsInHanded {} Try.checked os 3 .any (Rows.wirePrintsSpec.pre6 enc Try.prog Try.f3 Rows.wirePrintsRow.domain false) (Rows.wirePrintsSpec.post enc Try.prog Try.f3 false true false false) := by
  refine returnsInHanded_of_change (C := Try.checked) own started (by kernel_rfl) Try.func3
    (ChangeSpec.witness6 (enc := enc) (C := Try.checked) false ⟨#[], #[.string ⟨#[]⟩, .slice none 0 0, .string ⟨#[]⟩], []⟩ 8 (by kernel_rfl) (by kernel_rfl) (by kernel_rfl) (by kernel_rfl)) ?_
  intro W base args ds gs before hval0 hW hcnd _
  have hval : ∀ (j : Nat) t v, Try.f3.params[j]? = some t → args[j]? = some v → Value.okWide Try.prog W .any base t v := hval0
  have hW' := hW
  obtain ⟨p, q, hA0, hV, rfl, hfz, hnd⟩ := hW
  have hA : DataW.TrodAll enc Try.prog W 0 (fun _ => true) true Try.f3.params.toList args.toList ds p := hA0
  rw [Try.params3] at hA hval
  obtain ⟨v0, vs0, d0, ds0, p0, q0, hargs, rfl, rfl, h0, r0⟩ := trodAll_cons hA
  obtain ⟨v1, vs1, d1, ds1, p1, q1, hargs1, rfl, rfl, h1, r1⟩ := trodAll_cons r0
  obtain ⟨v2, vs2, d2, ds2, p2, q2, hargs2, rfl, rfl, h2, r2⟩ := trodAll_cons r1
  obtain ⟨rfl, rfl, rfl⟩ := trodAll_nil r2
  obtain rfl : args = #[v0, v1, v2] := by cases args; simp_all
  obtain ⟨rfl, rfl⟩ := trodVars_none hV
  obtain ⟨s, rfl, rfl, rfl, w1⟩ := open_string Try.underlying9 (hval 0 9 v0 rfl rfl) h0
  obtain ⟨z, rfl, rfl, rfl, w2⟩ := open_string Try.underlying9 (hval 2 9 v2 rfl rfl) h2
  clear hA0 hval0
  simp only [List.append_nil, List.nil_append] at hW'
  have l1 : ∀ x ∈ p1, x.block < W.heap.size := fun x hx => hW'.lt x (by simp [hx])
  obtain ⟨A, c, a, rfl, sa, _, fa⟩ := open_items 5 (hval 1 22 v1 rfl rfl) h1 l1
  refine (walk hn s A c a z W w1 w2 fa sa).mono fun e W' ⟨he, hg⟩ => ?_
  subst he
  refine ⟨_, rfl, [.lit (.string s.data.toList), d1, .lit (.string z.data.toList)], [], p1, [], [] ++ (p1 ++ ([] ++ [])), [], hW', ?_, ?_, ?_, hg.frame _, fun h => by cases h⟩
  · exact trodAll_cons_mk (shut_bool Try.underlying4 _) trodAll_mk0
  · exact trodAll_cons_mk (shut_string Try.underlying9 w1) (trodAll_cons_mk (Below.trod laidOut (by kernel_rfl) (of_decide_eq_true (by kernel_rfl)) h1 hg l1) (trodAll_cons_mk (shut_string Try.underlying9 w2) trodAll_mk0))
  · rfl

theorem over (hn : NumberAt) : Rows.wirePrintsRow.holds Try.pinned (OpenSpec.ofChange Rows.wirePrintsSpec) :=
  OpenClaim.holds_of_wide 3 Try.f3 rfl rfl rfl rfl rfl rfl rfl ⟨rfl, rfl, rfl, rfl, rfl⟩ rfl rfl rfl rfl rfl (by kernel_rfl) Try.func3 (by kernel_rfl)
    (of_decide_eq_true (by kernel_rfl)) (by unfold Func.isWrapper; first | (rw [if_pos (by decide +kernel)]; kernel_rfl) | (rw [if_neg (by decide +kernel)]; exact ⟨rfl, rfl⟩))
    (fun os started H enc _ => lifted hn os started H enc)

/-- ████ THE STATEMENT ████ -/
theorem proved : Rows.WirePrintsSaid :=
  over numberAt
#print axioms proved
end Go.Proofs.Ytmcackghpkegbaa.wirePrints
