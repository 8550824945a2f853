/- WireParses: for every shape and any bytes the law returns true, and its arguments read behind the call as they read before. -/
import Derived.Test.YtmcackghpkegbaaQi
import Derived.Test.YtmcackghpkegbaaRe
import Derived.Test.YtmcackghpkegbaaOi
import Derived.Test.YtmcackghpkegbaaAk
import Derived.Test.YtmcackghpkegbaaRs
import Derived.ChangeMaps5
namespace Go.Proofs.Ytmcackghpkegbaa.wireParses
open Go.Proofs.Ytmcackghpkegbaa Go.ChangeShapes Go.WideShapes Go.ChangeAt Go.RowKit
open Go.ChangeMaps (open_string shut_string)

theorem dep_fits : ∀ (ks : List (Ltr × Bool)) (xs : List Item), fitsAll ks xs = true → DepIt 2 xs
  | [], [], _ => fun x hx => by cases hx
  | k :: ks, x :: xs, h => by
    unfold fitsAll at h; rw [Bool.and_eq_true] at h
    intro y hy
    rcases List.mem_cons.1 hy with e | e
    · subst e
      obtain ⟨L, st⟩ := k
      cases st
      · rw [only_ks (L := L) h.1]; intro z hz; cases hz
      · have h1 := h.1
        simp only [fitsK, if_true, Bool.and_eq_true] at h1
        intro z hz
        exact only_ks (L := L) (List.all_eq_true.1 h1.1.2 z hz)
    · exact dep_fits ks xs h.2 y e
  | [], x :: xs, h => by simp [fitsAll] at h
  | k :: ks, [], h => by simp [fitsAll] at h

set_option maxRecDepth 100000 in
set_option maxHeartbeats 4000000 in
theorem walk (sh s : ByteArray) (w : World) (hs : sh.size ≤ maxLen) (hss : s.size ≤ maxLen) :
    Calls Try.prog 4 #[.string sh, .string s] w fun e w' => e = .returned (.bool true) ∧ Below w.heap.size w w' := by
  have HS := Lib.hid hs
  unfold maxLen at hs hss
  by_cases h60 : 60 < sh.size
  · go_enter Try.func4, Try.ntmps4
    go_wp2_with fail
    refine (awake3 _).mono ?_
    rintro e w1 ⟨rfl, hb⟩
    have B1 := Lib.hid hb
    clear hb
    go_wp2_with fail
    go_ret
    exact ⟨rfl, B1.out⟩
  by_cases h2000 : 2000 < s.size
  · go_enter Try.func4, Try.ntmps4
    go_wp2_with fail
    refine (awake3 _).mono ?_
    rintro e w1 ⟨rfl, hb⟩
    have B1 := Lib.hid hb
    clear hb
    go_wp2_with fail
    go_ret
    exact ⟨rfl, B1.out⟩
  obtain ⟨l, hl⟩ : ∃ l, l = s.data.toList := ⟨_, rfl⟩
  have hsl : s = BA l := by rw [hl, BA_of]
  have ll : l.length = s.size := by rw [hsl, BA_size]
  have ll2 : l.length ≤ 1099511627776 := by omega
  have LB := Lib.hid (show ∀ w2, Calls Try.prog 14 #[.string sh, .string s] w2 (BgPost (bgR sh l) l w2) by rw [hsl]; exact fun w2 => lBegin numberAt sh l w2 HS.out ll2)
  have RB := Lib.hid (show ∀ w2, Calls Try.prog 16 #[.string sh, .string s] w2 (RbPost (bgR sh l) l w2) by rw [hsl]; exact fun w2 => rBegin sh l w2 HS.out ll2)
  have LP := Lib.hid (show ∀ w2, Calls Try.prog 13 #[.string sh, .string s] w2 (PaPost sh l w2) by rw [hsl]; exact fun w2 => lParse numberAt sh l w2 HS.out ll2)
  have F0 := Lib.hid (show FitIt 2 ([] : List Item) from ⟨Nat.zero_le _, fun x hx => by cases hx⟩)
  cases ho : bgR sh l with
  | error c =>
    have HO := Lib.hid ho
    have cn := bgR_code ho
    have TC : (c != 0) = true := by simp [cn]
    have TCC : (c != c) = false := by simp
    have TC2 : (c == c) = true := by simp
    have SM := Lib.hid ((sameIt_iff [] []).2 rfl)
    rw [ho] at LB RB
    clear ho cn hl hsl ll
    go_enter Try.func4, Try.ntmps4
    go_wp2_with fail
    refine (awake3 _).mono ?_
    rintro e w1 ⟨rfl, hb⟩
    have B1 := Lib.hid hb
    clear hb
    go_wp2_with fail
    refine (LB.out _).mono ?_
    rintro e w2 hp2
    obtain ⟨rfl, hb2⟩ := hp2.err rfl
    have B2 := Lib.hid (below_then B1.out hb2)
    clear hb2 hp2
    go_wp2_with fail
    refine (RB.out _).mono ?_
    rintro e w3 ⟨hb3, ⟨c3, h3, rfl⟩ | ⟨xs3, r3, A3, c3, h3, _⟩⟩
    case inr => cases h3
    injection h3 with h3
    subst h3
    have B3 := Lib.hid (below_then B2.out hb3)
    clear hb3
    go_wp2_with fail
    refine (LP.out _).mono ?_
    rintro e w4 ⟨hb4, ⟨xs4, A4, c4, h4, _⟩ | ⟨c4, _, _, hc4, _, rfl⟩⟩
    · rw [HO.out] at h4; cases h4
    have h4 := hc4 _ HO.out
    subst h4
    have B4 := Lib.hid (below_then B3.out hb4)
    clear hb4 hc4
    go_wp2_with fail
    refine (rsameIt 2 none none 0 0 [] [] _ F0.out F0.out (SlIt.nil _ _ _) (SlIt.nil _ _ _) (DepIt.nil _)).mono ?_
    rintro e w5 ⟨rfl, n5, rfl⟩
    rw [SM.out]
    have B5 := Lib.hid (below_drewN B4.out n5)
    go_wp2_with fail
    go_ret
    exact ⟨by first | rfl | simp, B5.out⟩
  | ok q =>
    obtain ⟨xs, r⟩ := q
    obtain ⟨ks, hk, hra⟩ : ∃ ks, kindsOf sh = some ks ∧ rdAll ks l = .ok (xs, r) := by
      cases hk : kindsOf sh with
      | none => rw [bgR_none hk] at ho; cases ho
      | some ks => exact ⟨ks, rfl, by rw [← ho, bgR_some hk]⟩
    obtain ⟨hfx, hfit, hpr⟩ := rdAll_of 3 ks hra
    have hlen : xs.length ≤ 40 := by
      have h1 := fitsAll_len _ _ hfit
      have h2 := kindsOf_len hk
      omega
    have FI := Lib.hid (show FitIt 5 xs from ⟨by unfold maxLen; omega, hfx⟩)
    have F2 := Lib.hid (fit_less (fit_less (fit_less FI.out)))
    have DP := Lib.hid (dep_fits ks xs hfit)
    have SM := Lib.hid ((sameIt_iff xs xs).2 rfl)
    have rl := bgR_len ho
    obtain ⟨D, hD⟩ : ∃ D : Nat, D = l.length - r.length := ⟨_, rfl⟩
    have TD : ((D : Int) != (D : Int)) = false := by simp
    have HO := Lib.hid ho
    have HD := Lib.hid hD
    rw [ho] at LB RB
    cases r with
    | cons a t =>
    have DL : D < s.size := by simp at rl hD; omega
    clear ho hl hsl ll hra hpr hD rl
    go_enter Try.func4, Try.ntmps4
    go_wp2_with fail
    refine (awake3 _).mono ?_
    rintro e w1 ⟨rfl, hb⟩
    have B1 := Lib.hid hb
    clear hb
    go_wp2_with fail
    refine (LB.out _).mono ?_
    rintro e w2 hp2
    obtain ⟨A2, c2, rfl, sl2, hb2⟩ := hp2.ok rfl
    have B2 := Lib.hid (below_then B1.out hb2)
    have S2 := Lib.hid (sl2.slit 2)
    rw [← HD.out]
    clear hb2 hp2 sl2
    go_wp2_with fail
    refine (RB.out _).mono ?_
    rintro e w3 ⟨hb3, ⟨c3, h3, _⟩ | ⟨xs3, r3, A3, c3, h3, rfl, sl3⟩⟩
    · cases h3
    injection h3 with h3
    injection h3 with h31 h32
    subst h31
    subst h32
    have B3 := Lib.hid (below_then B2.out hb3)
    have S23 := Lib.hid (S2.out.below hb3)
    have S3 := Lib.hid sl3
    rw [← HD.out]
    clear hb3 sl3
    go_wp2_with fail
    refine (LP.out _).mono ?_
    rintro e w4 ⟨hb4, ⟨xs4, A4, c4, h4, _⟩ | ⟨c4, _, _, _, hc4, rfl⟩⟩
    · rw [HO.out] at h4; injection h4 with h4; injection h4 with _ h4; cases h4
    have h4 := hc4 _ _ HO.out
    subst h4
    have B4 := Lib.hid (below_then B3.out hb4)
    have S24 := Lib.hid (S23.out.below hb4)
    have S34 := Lib.hid (S3.out.below hb4)
    clear hb4 hc4
    go_wp2_with fail
    refine (rsameIt 2 A2 A3 c2 c3 xs xs _ F2.out F2.out S24.out S34.out DP.out).mono ?_
    rintro e w5 ⟨rfl, n5, rfl⟩
    rw [SM.out]
    have B5 := Lib.hid (below_drewN B4.out n5)
    go_wp2_with fail
    go_ret
    exact ⟨by first | rfl | simp, B5.out⟩
    | nil =>
    have DL : D = s.size := by simp at hD; omega
    have DN : ¬ D < s.size := by omega
    have PC := Lib.hid (prC_yes hk hfit).1
    have PS := Lib.hid (show prS sh xs = s by rw [(prC_yes hk hfit).2, ← BA_by8, hsl]; rw [List.append_nil] at hpr; rw [← hpr])
    have TS := str_eq (rfl : s = s)
    clear ho hl hsl ll hra hpr hD rl DL hk hfit
    go_enter Try.func4, Try.ntmps4
    go_wp2_with fail
    refine (awake3 _).mono ?_
    rintro e w1 ⟨rfl, hb⟩
    have B1 := Lib.hid hb
    clear hb
    go_wp2_with fail
    refine (LB.out _).mono ?_
    rintro e w2 hp2
    obtain ⟨A2, c2, rfl, sl2, hb2⟩ := hp2.ok rfl
    have B2 := Lib.hid (below_then B1.out hb2)
    have S2 := Lib.hid (sl2.slit 2)
    rw [← HD.out]
    clear hb2 hp2 sl2
    go_wp2_with fail
    refine (RB.out _).mono ?_
    rintro e w3 ⟨hb3, ⟨c3, h3, _⟩ | ⟨xs3, r3, A3, c3, h3, rfl, sl3⟩⟩
    · cases h3
    injection h3 with h3
    injection h3 with h31 h32
    subst h31
    subst h32
    have B3 := Lib.hid (below_then B2.out hb3)
    have S23 := Lib.hid (S2.out.below hb3)
    have S3 := Lib.hid sl3
    rw [← HD.out]
    clear hb3 sl3
    go_wp2_with fail
    refine (LP.out _).mono ?_
    rintro e w4 ⟨hb4, ⟨xs4, A4, c4, h4, rfl, sl4⟩ | ⟨c4, hno, _⟩⟩
    case inr => exact absurd HO.out (hno xs)
    have h41 : xs = xs4 := by rw [HO.out] at h4; injection h4 with h4; injection h4
    subst h41
    have B4 := Lib.hid (below_then B3.out hb4)
    have S24 := Lib.hid (S23.out.below hb4)
    have S34 := Lib.hid (S3.out.below hb4)
    have S4 := Lib.hid (sl4.slit 5)
    clear hb4 h4 sl4
    go_wp2_with fail
    refine (rsameIt 2 A2 A3 c2 c3 xs xs _ F2.out F2.out S24.out S34.out DP.out).mono ?_
    rintro e w5 ⟨rfl, n5, rfl⟩
    rw [SM.out]
    have B5 := Lib.hid (below_drewN B4.out n5)
    have S45 := Lib.hid (S4.out.drewN n5)
    have S25 := Lib.hid (S24.out.drewN n5)
    go_wp2_with fail
    refine (lPrint 3 sh A4 c4 xs _ HS.out FI.out S45.out).mono ?_
    rintro e w6 ⟨rfl, hb6⟩
    have B6 := Lib.hid (below_then B5.out hb6)
    have S46 := Lib.hid (SlIt.less (SlIt.less (SlIt.less (S45.out.below hb6))))
    have S26 := Lib.hid (S25.out.below hb6)
    rw [PC.out, PS.out]
    clear hb6
    go_wp2_with fail
    refine (rsameIt 2 A4 A2 c4 c2 xs xs _ F2.out F2.out S46.out S26.out DP.out).mono ?_
    rintro e w7 ⟨rfl, n7, rfl⟩
    rw [SM.out]
    have B7 := Lib.hid (below_drewN B6.out n7)
    go_wp2_with fail
    go_ret
    exact ⟨by first | rfl | simp, B7.out⟩

set_option maxRecDepth 100000 in
theorem lifted (os : Os) (started : os.Started) (H : Type) (enc : TypeId × Value → H) :
    ReturnsInHanded {} Try.checked os 4 .any (Rows.wireParsesSpec.pre6 enc Try.prog Try.f4 Rows.wireParsesRow.domain false) (Rows.wireParsesSpec.post enc Try.prog Try.f4 false true false false) := by
  refine returnsInHanded_of_change (C := Try.checked) own started (by kernel_rfl) Try.func4
    (ChangeSpec.witness6 (enc := enc) (C := Try.checked) false ⟨#[], #[.string ⟨#[]⟩, .string ⟨#[]⟩], []⟩ 8 (by kernel_rfl) (by kernel_rfl) (by kernel_rfl) (by kernel_rfl)) ?_
  intro W base args ds gs before hval0 hW hcnd _
  have hval : ∀ (j : Nat) t v, Try.f4.params[j]? = some t → args[j]? = some v → Value.okWide Try.prog W .any base t v := hval0
  have hW' := hW
  obtain ⟨p, q, hA0, hV, rfl, hfz, hnd⟩ := hW
  have hA : DataW.TrodAll enc Try.prog W 0 (fun _ => true) true Try.f4.params.toList args.toList ds p := hA0
  rw [Try.params4] at hA hval
  obtain ⟨v0, vs0, d0, ds0, p0, q0, hargs, rfl, rfl, h0, r0⟩ := trodAll_cons hA
  obtain ⟨v1, vs1, d1, ds1, p1, q1, hargs1, rfl, rfl, h1, r1⟩ := trodAll_cons r0
  obtain ⟨rfl, rfl, rfl⟩ := trodAll_nil r1
  obtain rfl : args = #[v0, v1] := by cases args; simp_all
  obtain ⟨rfl, rfl⟩ := trodVars_none hV
  obtain ⟨s, rfl, rfl, rfl, w1⟩ := open_string Try.underlying9 (hval 0 9 v0 rfl rfl) h0
  obtain ⟨z, rfl, rfl, rfl, w2⟩ := open_string Try.underlying9 (hval 1 9 v1 rfl rfl) h1
  clear hA0 hval0
  simp only [List.append_nil] at hW'
  refine (walk s z W w1 w2).mono fun e W' ⟨he, hg⟩ => ?_
  subst he
  refine ⟨_, rfl, [.lit (.string s.data.toList), .lit (.string z.data.toList)], [], [], [], [] ++ ([] ++ []), [], hW', ?_, ?_, ?_, hg.frame _, fun h => by cases h⟩
  · exact trodAll_cons_mk (shut_bool Try.underlying4 _) trodAll_mk0
  · exact trodAll_cons_mk (shut_string Try.underlying9 w1) (trodAll_cons_mk (shut_string Try.underlying9 w2) trodAll_mk0)
  · rfl

theorem over : Rows.wireParsesRow.holds Try.pinned (OpenSpec.ofChange Rows.wireParsesSpec) :=
  OpenClaim.holds_of_wide 4 Try.f4 rfl rfl rfl rfl rfl rfl rfl ⟨rfl, rfl, rfl, rfl, rfl⟩ rfl rfl rfl rfl rfl (by kernel_rfl) Try.func4 (by kernel_rfl)
    (of_decide_eq_true (by kernel_rfl)) (by unfold Func.isWrapper; first | (rw [if_pos (by decide +kernel)]; kernel_rfl) | (rw [if_neg (by decide +kernel)]; exact ⟨rfl, rfl⟩))
    (fun os started H enc _ => lifted os started H enc)

/-- ████ THE STATEMENT ████ -/
theorem proved : Rows.WireParsesSaid :=
  over
#print axioms proved

end Go.Proofs.Ytmcackghpkegbaa.wireParses
