/- WireApart: for every shape, any items and any cut the law returns true, and its arguments read behind the call as they read before. -/
import Derived.Test.YtmcackghpkegbaaRe
import Derived.Test.YtmcackghpkegbaaOi
import Derived.Test.YtmcackghpkegbaaAk
import Derived.Test.YtmcackghpkegbaaFa
import Derived.Test.YtmcackghpkegbaaUi
import Derived.ChangeMaps5
namespace Go.Proofs.Ytmcackghpkegbaa.wireApart
open Go.Proofs.Ytmcackghpkegbaa Go.ChangeShapes Go.WideShapes Go.ChangeAt Go.RowKit
open Go.ChangeMaps (open_string shut_string)

theorem encAll_len (d : Nat) : ∀ (ks : List (Ltr × Bool)) (xs : List Item), (∀ x ∈ xs, FitOne (d + 1) x) → fitsAll ks xs = true → (encAll ks xs).length ≤ 13450 * ks.length
  | [], [], _, _ => by simp [encAll]
  | k :: ks, x :: xs, hf, h => by
    unfold fitsAll at h; rw [Bool.and_eq_true] at h
    have h1 := encK_len k d x (hf x (by simp)) h.1
    have h2 := encAll_len d ks xs (fun y hy => hf y (List.mem_cons_of_mem _ hy)) h.2
    show (encK k x ++ encAll ks xs).length ≤ _
    rw [List.length_append, List.length_cons]; omega
  | [], x :: xs, _, h => by simp [fitsAll] at h
  | k :: ks, [], _, h => by simp [fitsAll] at h
theorem take_BA (s : ByteArray) (n : Nat) : s.extract 0 n = BA (s.data.toList.take n) := by
  apply WideShapes.bytes_inj
  rw [BA_list]; simp

set_option maxRecDepth 100000 in
set_option maxHeartbeats 2000000 in
theorem walk (hn : NumberAt) (sh : ByteArray) (A : Option Addr) (c : Nat) (a : List Item) (z : Int) (w : World) (hs : sh.size ≤ maxLen) (fa : FitIt 5 a) (sa : SlIt 5 w A a) :
    Calls Try.prog 5 #[.string sh, .slice A a.length c, .int .i64 z] w fun e w' => e = .returned (.bool true) ∧ Below w.heap.size w w' := by
  have HS := Lib.hid hs
  have HN := Lib.hid hn
  have FA := Lib.hid fa
  have SA := Lib.hid sa
  have F4 : ∀ {xs : List Item}, FitIt 5 xs → FitIt 4 xs := fun h => fit_less h
  have FA4 := Lib.hid (F4 fa)
  unfold maxLen at hs
  clear fa sa F4 hn
  by_cases h60 : 60 < sh.size
  · go_enter Try.func5, Try.ntmps5
    go_wp2_with fail
    refine (awake3 _).mono ?_
    rintro e w1 ⟨rfl, hb⟩
    have B1 := Lib.hid hb
    clear hb
    go_wp2_with fail
    go_ret
    exact ⟨rfl, B1.out⟩
  cases ha : farB 4 a
  case true =>
    have HA := Lib.hid ha
    clear ha
    go_enter Try.func5, Try.ntmps5
    go_wp2_with fail
    refine (awake3 _).mono ?_
    rintro e w1 ⟨rfl, hb⟩
    have B1 := Lib.hid hb
    clear hb
    go_wp2_with fail
    refine (lfar3 4 A c a 0 _ (by omega) (by omega) FA4.out (SlIt.less (SA.out.below B1.out))).mono ?_
    rintro e w' ⟨rfl, rfl⟩
    rw [HA.out]
    go_wp2_with fail
    go_ret
    exact ⟨rfl, B1.out⟩
  have HA := Lib.hid ha
  clear ha
  go_enter Try.func5, Try.ntmps5
  go_wp2_with fail
  refine (awake3 _).mono ?_
  rintro e w1 ⟨rfl, hb⟩
  have B1 := Lib.hid hb
  clear hb
  go_wp2_with fail
  refine (lfar3 4 A c a 0 _ (by omega) (by omega) FA4.out (SlIt.less (SA.out.below B1.out))).mono ?_
  rintro e w' ⟨rfl, rfl⟩
  rw [HA.out]
  go_wp2_with fail
  refine (lPrint 3 sh A c a _ HS.out FA.out (SA.out.below B1.out)).mono ?_
  rintro e w3 ⟨rfl, hb3⟩
  have B3 := Lib.hid (below_then B1.out hb3)
  clear hb3
  rcases prC_01 sh a with h1 | h1
  case inr =>
    rw [h1]
    go_wp2_with fail
    go_ret
    exact ⟨by first | rfl | simp, B3.out⟩
  obtain ⟨ks, hk, hfit⟩ : ∃ ks, kindsOf sh = some ks ∧ fitsAll ks a = true := by
    cases hk : kindsOf sh with
    | none => rw [(prC_none (xs := a) hk).1] at h1; cases h1
    | some ks =>
      cases hf : fitsAll ks a with
      | true => exact ⟨ks, rfl, hf⟩
      | false => rw [(prC_no hk hf).1] at h1; cases h1
  have PS := (prC_yes hk hfit).2
  rw [h1, PS]
  have HK := Lib.hid hk
  have HF := Lib.hid hfit
  clear hk hfit h1 PS
  obtain ⟨S, hS⟩ : ∃ S, S = strOfNums (encAll ks a) := ⟨_, rfl⟩
  rw [← hS]
  have hz : S.size = (encAll ks a).length := by rw [hS, strOfNums_size]
  have SL : S.size ≤ 538000 := by
    have h1 := encAll_len 3 ks a FA.out.2 HF.out
    have h2 := kindsOf_len HK.out
    omega
  have ESZ := Lib.hid hz
  have HSS := Lib.hid hS
  clear hS hz
  by_cases s0 : S.size = 0
  · have T1 := isEmpty_of s0
    have T2 : S.toList = [] := List.isEmpty_iff.1 T1
    clear s0
    go_wp2_with fail
    go_ret
    exact ⟨by first | rfl | simp, B3.out⟩
  have T1 := isEmpty_no s0
  have T2 : ¬ S.toList = [] := by intro h; rw [h] at T1; cases T1
  obtain ⟨U, hU⟩ : ∃ U : Nat, IntKind.u64.wrap z = (U : Int) := ⟨(IntKind.u64.wrap z).toNat, by rw [IntKind.wrap_u64]; omega⟩
  obtain ⟨T, hT⟩ : ∃ T : Nat, U % S.size = T := ⟨_, rfl⟩
  have tl : T < S.size := by rw [← hT]; exact Nat.mod_lt _ (by omega)
  have hT2 : (U : Int) % (S.size : Int) = (T : Int) := by rw [← hT]; simp
  have hs1 : IntKind.u64.wrap (S.size : Int) = (S.size : Int) := by rw [IntKind.wrap_u64]; omega
  have hs2 : IntKind.i64.wrap (T : Int) = (T : Int) := by rw [IntKind.wrap_i64]; omega
  have hsn : ((S.size : Int) == 0) = false := by rw [beq_eq_false_iff_ne]; omega
  have t0 : (0 : Int) ≤ (T : Int) := by omega
  have t1 : (T : Int) ≤ (S.size : Int) := by omega
  clear hT
  obtain ⟨l, hl⟩ : ∃ l, l = S.data.toList.take T := ⟨_, rfl⟩
  have EX := Lib.hid (show S.extract 0 T = BA l by rw [hl]; exact take_BA S T)
  have NO := Lib.hid (show ∀ xs, bgR sh l ≠ .ok (xs, []) from fun xs h => by
    rw [bgR_some HK.out, hl, HSS.out, by8_list] at h
    exact rdAll_apart 3 ks a xs T FA.out.2 HF.out (by rw [← ESZ.out]; exact tl) h)
  have LP := Lib.hid (fun w2 => lParse HN.out sh l w2 HS.out (by rw [hl, List.length_take]; simp; omega))
  clear hl s0
  go_wp2_with fail
  rw [EX.out]
  refine (LP.out _).mono ?_
  rintro e w5 ⟨hb5, ⟨xs, A5, c5, h5, _⟩ | ⟨c5, _, cn, _, _, rfl⟩⟩
  · exact absurd h5 (NO.out xs)
  have B5 := Lib.hid (below_then B3.out hb5)
  have cb : (c5 != 0) = true := by simp [cn]
  have cb2 : (c5 == 0) = false := by simp [cn]
  clear hb5
  go_wp2_with fail
  go_ret
  exact ⟨by first | rfl | simp [cn], B5.out⟩

set_option maxRecDepth 100000 in
theorem lifted (hn : NumberAt) (os : Os) (started : os.Started) (H : Type) (enc : TypeId × Value → H) :
    ReturnsInHanded {} Try.checked os 5 .any (Rows.wireApartSpec.pre6 enc Try.prog Try.f5 Rows.wireApartRow.domain false) (Rows.wireApartSpec.post enc Try.prog Try.f5 false true false false) := by
  refine returnsInHanded_of_change (C := Try.checked) own started (by kernel_rfl) Try.func5
    (ChangeSpec.witness6 (enc := enc) (C := Try.checked) false ⟨#[], #[.string ⟨#[]⟩, .slice none 0 0, .int .i64 0], []⟩ 8 (by kernel_rfl) (by kernel_rfl) (by kernel_rfl) (by kernel_rfl)) ?_
  intro W base args ds gs before hval0 hW hcnd _
  have hval : ∀ (j : Nat) t v, Try.f5.params[j]? = some t → args[j]? = some v → Value.okWide Try.prog W .any base t v := hval0
  have hW' := hW
  obtain ⟨p, q, hA0, hV, rfl, hfz, hnd⟩ := hW
  have hA : DataW.TrodAll enc Try.prog W 0 (fun _ => true) true Try.f5.params.toList args.toList ds p := hA0
  rw [Try.params5] at hA hval
  obtain ⟨v0, vs0, d0, ds0, p0, q0, hargs, rfl, rfl, h0, r0⟩ := trodAll_cons hA
  obtain ⟨v1, vs1, d1, ds1, p1, q1, hargs1, rfl, rfl, h1, r1⟩ := trodAll_cons r0
  obtain ⟨v2, vs2, d2, ds2, p2, q2, hargs2, rfl, rfl, h2, r2⟩ := trodAll_cons r1
  obtain ⟨rfl, rfl, rfl⟩ := trodAll_nil r2
  obtain rfl : args = #[v0, v1, v2] := by cases args; simp_all
  obtain ⟨rfl, rfl⟩ := trodVars_none hV
  obtain ⟨s, rfl, rfl, rfl, w1⟩ := open_string Try.underlying9 (hval 0 9 v0 rfl rfl) h0
  obtain ⟨z, rfl, rfl, rfl, w2⟩ := open_int Try.underlying3 (hval 2 3 v2 rfl rfl) h2
  clear hA0 hval0
  simp only [List.append_nil, List.nil_append] at hW'
  have l1 : ∀ x ∈ p1, x.block < W.heap.size := fun x hx => hW'.lt x (by simp [hx])
  obtain ⟨A, c, a, rfl, sa, _, fa⟩ := open_items 5 (hval 1 22 v1 rfl rfl) h1 l1
  refine (walk hn s A c a z W w1 fa sa).mono fun e W' ⟨he, hg⟩ => ?_
  subst he
  refine ⟨_, rfl, [.lit (.string s.data.toList), d1, .lit (.int .i64 z)], [], p1, [], [] ++ (p1 ++ ([] ++ [])), [], hW', ?_, ?_, ?_, hg.frame _, fun h => by cases h⟩
  · exact trodAll_cons_mk (shut_bool Try.underlying4 _) trodAll_mk0
  · exact trodAll_cons_mk (shut_string Try.underlying9 w1) (trodAll_cons_mk (Below.trod laidOut (by kernel_rfl) (of_decide_eq_true (by kernel_rfl)) h1 hg l1) (trodAll_cons_mk (shut_int Try.underlying3 w2) trodAll_mk0))
  · rfl

theorem over (hn : NumberAt) : Rows.wireApartRow.holds Try.pinned (OpenSpec.ofChange Rows.wireApartSpec) :=
  OpenClaim.holds_of_wide 5 Try.f5 rfl rfl rfl rfl rfl rfl rfl ⟨rfl, rfl, rfl, rfl, rfl⟩ rfl rfl rfl rfl rfl (by kernel_rfl) Try.func5 (by kernel_rfl)
    (of_decide_eq_true (by kernel_rfl)) (by unfold Func.isWrapper; first | (rw [if_pos (by decide +kernel)]; kernel_rfl) | (rw [if_neg (by decide +kernel)]; exact ⟨rfl, rfl⟩))
    (fun os started H enc _ => lifted hn os started H enc)

/-- ████ THE STATEMENT ████ -/
theorem proved : Rows.WireApartSaid :=
  over numberAt
#print axioms proved
end Go.Proofs.Ytmcackghpkegbaa.wireApart
