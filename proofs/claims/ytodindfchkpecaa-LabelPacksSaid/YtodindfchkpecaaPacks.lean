/- For any list of up to 60 tags and any bytes, up to 200: label.Pack tells its bytes, or that it is no label; label.Unpack reads them back, whatever stands behind, and reads any bytes as the document does. No condition. -/
import Derived.Test.YtodindfchkpecaaFr
import Derived.Test.YtodindfchkpecaaAw
import Derived.Test.YtodindfchkpecaaUr
import Derived.Test.YtodindfchkpecaaPr
namespace Go.Proofs.Ytodindfchkpecaa.labelPacks
open Go.ChangeShapes Go.WideShapes Go.ChangeAt Go.RowKit Go.Proofs.Ytodindfchkpecaa
open Go.ChangeMaps (open_string shut_string)
set_option linter.unusedVariables false

/-! ### What is packed is read back, in plain words -/
def u8 (n : Int) : UInt8 := UInt8.ofNat n.toNat
theorem pack_list (l : List Int) : (packS l).data.toList = (La.packL l).map u8 := strOfNums_data _
theorem pack_size (l : List Int) : (packS l).size = 1 + 8 * l.length := by
  unfold packS; rw [strOfNums_size, La.packL_length]; omega
theorem app_list (a b : ByteArray) : (a ++ b).data.toList = a.data.toList ++ b.data.toList := by simp
theorem u8_of (x : Int) (h0 : 0 ≤ x) (h1 : x < 256) : ((u8 x).toNat : Int) = x := by
  unfold u8
  rw [UInt8.toNat_ofNat_of_lt' (show x.toNat < 256 by omega)]
  omega

theorem nb_be8 (y : Int) (h0 : 0 ≤ y) (h1 : y < 18446744073709551616) (r : List UInt8) : (nb ((La.be8 y).map u8 ++ r) 8 : Int) = y := by
  simp only [nb, La.be8, List.map_cons, List.map_nil, List.cons_append, List.nil_append, List.getD_cons_zero, List.getD_cons_succ]
  have e0 := u8_of (y / 72057594037927936 % 256) (by omega) (by omega)
  have e1 := u8_of (y / 281474976710656 % 256) (by omega) (by omega)
  have e2 := u8_of (y / 1099511627776 % 256) (by omega) (by omega)
  have e3 := u8_of (y / 4294967296 % 256) (by omega) (by omega)
  have e4 := u8_of (y / 16777216 % 256) (by omega) (by omega)
  have e5 := u8_of (y / 65536 % 256) (by omega) (by omega)
  have e6 := u8_of (y / 256 % 256) (by omega) (by omega)
  have e7 := u8_of (y % 256) (by omega) (by omega)
  generalize (u8 (y / 72057594037927936 % 256)).toNat = b0 at *
  generalize (u8 (y / 281474976710656 % 256)).toNat = b1 at *
  generalize (u8 (y / 1099511627776 % 256)).toNat = b2 at *
  generalize (u8 (y / 4294967296 % 256)).toNat = b3 at *
  generalize (u8 (y / 16777216 % 256)).toNat = b4 at *
  generalize (u8 (y / 65536 % 256)).toNat = b5 at *
  generalize (u8 (y / 256 % 256)).toNat = b6 at *
  generalize (u8 (y % 256)).toNat = b7 at *
  omega

theorem flat_drop : ∀ (l : List Int) (i : Nat), i < l.length → (La.flat l).drop (8 * i) = La.be8 (l.getD i 0) ++ La.flat (l.drop (i + 1))
  | [], i, h => by simp at h
  | x :: r, 0, _ => by simp [La.flat]
  | x :: r, i + 1, h => by
    have ih := flat_drop r i (by simpa using h)
    have e : La.flat (x :: r) = La.be8 x ++ La.flat r := by unfold La.flat; rw [List.flatMap_cons]
    rw [e, show 8 * (i + 1) = 8 + 8 * i by omega, ← List.drop_drop, List.drop_append, La.be8_length, show (La.be8 x).drop 8 = [] from rfl, List.nil_append, Nat.sub_self, List.drop_zero, ih]
    rfl

theorem tag_back (l : List Int) (s : ByteArray) (hu : La.U64 l) (i : Nat) (hi : i < l.length) : tagAt (packS l ++ s) i = l.getD i 0 := by
  unfold tagAt
  have hb := hu.get i hi
  have e : (packS l ++ s).data.toList.drop (1 + 8 * i) = (La.be8 (l.getD i 0)).map u8 ++ ((La.flat (l.drop (i + 1))).map u8 ++ s.data.toList) := by
    rw [app_list, pack_list, List.drop_append_of_le_length (by rw [List.length_map, La.packL_length]; omega), ← List.map_drop]
    unfold La.packL
    rw [show 1 + 8 * i = 8 * i + 1 by omega, List.drop_succ_cons, flat_drop l i hi, List.map_append, List.append_assoc]
  rw [e, nb_be8 _ hb.1 hb.2]

theorem tags_back (l : List Int) (s : ByteArray) (hu : La.U64 l) : tagsOf (packS l ++ s) l.length = l := by
  unfold tagsOf
  apply List.ext_getElem
  · simp
  · intro i h1 h2
    rw [List.getElem_map, List.getElem_range, tag_back l s hu i h2, List.getD, List.getElem?_eq_getElem h2]; rfl

theorem cnt_back (l : List Int) (s : ByteArray) (hl : l.length ≤ 6) : cnt (packS l ++ s) = l.length := by
  unfold cnt
  have e : (packS l ++ s).data.toList.getD 0 0 = u8 (l.length : Int) := by
    rw [app_list, pack_list]; unfold La.packL; rfl
  rw [e]
  have := u8_of (l.length : Int) (by omega) (by omega)
  omega

theorem back (l : List Int) (s : ByteArray) (hr : La.right l = true) (hu : La.U64 l) : upC (packS l ++ s) = 0 ∧ upN (packS l ++ s) = ((packS l).size : Int) ∧ upV (packS l ++ s) = l := by
  have hl := ((La.right_iff l).1 hr).1
  have hc := cnt_back l s hl
  have hsz : (packS l ++ s).size = (packS l).size + s.size := ByteArray.size_append
  have hp := pack_size l
  have h0 : upC (packS l ++ s) = 0 := by
    unfold upC
    rw [hc, if_neg (by omega), if_neg (by omega), if_neg (by omega), tags_back l s hu, hr]; rfl
  refine ⟨h0, ?_, ?_⟩
  · unfold upN; rw [h0, if_pos rfl, hc]; omega
  · unfold upV; rw [h0, if_pos rfl, hc, tags_back l s hu]

theorem cmp_self (a : List Int) : (La.cmp a a == 0) = true := by
  have : La.lex a a = 0 := by
    induction a with
    | nil => rfl
    | cons x a ih => unfold La.lex; rw [if_neg (by omega), if_neg (by omega), ih]
  unfold La.cmp
  rw [if_neg (by omega), if_neg (by omega), this]; rfl

set_option maxHeartbeats 2000000 in
set_option maxRecDepth 100000 in
theorem walk (A : Option Addr) (ca : Nat) (a : List Int) (s : ByteArray) (W : World) (ha : Sl W A a) (hu : La.U64 a) (la : a.length ≤ maxLen) :
    Calls Try.prog 7 #[.slice A a.length ca, .string s] W fun e w' => e = .returned (.bool true) ∧ Below W.heap.size W w' := by
  have HA := Lib.hid ha
  have LA := Lib.hid la
  have U := Lib.hid hu
  clear ha la hu
  go_enter Try.func7, Try.ntmps7
  go_wp2_with fail
  refine (awake W).mono ?_
  rintro e w1 ⟨rfl, hb1⟩
  have B1 := Lib.hid hb1
  clear hb1
  by_cases f1 : (decide (60 < a.length) || decide (60 < 0)) = true
  · have F1 := Lib.hid f1
    clear f1
    go_wp2_with fail
    refine (lfar A none a.length 0 ca 0 _).mono ?_
    rintro e w' ⟨rfl, rfl⟩
    rw [F1.out]
    go_wp2
    go_ret
    exact ⟨rfl, B1.out⟩
  rw [Bool.not_eq_true] at f1
  have l60 : a.length ≤ 60 := by simp at f1; omega
  have F1 := Lib.hid f1
  clear f1
  by_cases f2 : 200 < s.size
  · go_wp2_with fail
    refine (lfar A none a.length 0 ca 0 _).mono ?_
    rintro e w' ⟨rfl, rfl⟩
    rw [F1.out]
    go_wp2
    go_ret
    exact ⟨rfl, B1.out⟩
  have s200 : s.size ≤ 200 := by omega
  clear f2
  have S1 := Lib.hid (HA.out.below B1.out)
  go_wp2_with fail
  refine (lfar A none a.length 0 ca 0 _).mono ?_
  rintro e w' ⟨rfl, rfl⟩
  rw [F1.out]
  go_wp2_with fail
  refine (lpack A ca a _ S1.out LA.out U.out).mono ?_
  rintro e w2 ⟨rfl, hb2⟩
  obtain ⟨pc, hpc⟩ : ∃ x, pkC a = x := ⟨_, rfl⟩
  obtain ⟨ps, hps⟩ : ∃ x, pkS a = x := ⟨_, rfl⟩
  rw [hpc, hps]
  have PC := Lib.hid hpc
  have PS := Lib.hid hps
  have B2 := Lib.hid (below_then B1.out hb2)
  clear hb2 hpc hps
  go_wp2_with fail
  refine (lunpack s _ (by omega)).mono ?_
  rintro e w3 ⟨v3, rfl, ho3, hb3⟩
  obtain ⟨A3, c3, rfl, _, hs3, _, _⟩ := ho3.form
  have B3 := Lib.hid (below_then B2.out hb3)
  obtain ⟨un, hun⟩ : ∃ x, upN s = x := ⟨_, rfl⟩
  obtain ⟨uc, huc⟩ : ∃ x, upC s = x := ⟨_, rfl⟩
  obtain ⟨uv, huv⟩ : ∃ x, upV s = x := ⟨_, rfl⟩
  rw [hun, huc, huv]
  rw [huv] at hs3
  have L3 := Lib.hid hs3
  clear ho3 hs3 hb3
  go_wp2_with fail
  refine (runpack s _ (by omega)).mono ?_
  rintro e w4 ⟨v4, rfl, ho4, hb4⟩
  obtain ⟨A4, c4, rfl, _, hs4, _, _⟩ := ho4.form
  have B4 := Lib.hid (below_then B3.out hb4)
  rw [hun, huc, huv]
  rw [huv] at hs4
  have L4 := Lib.hid hs4
  have L34 := Lib.hid (L3.out.below hb4)
  have UL := Lib.hid (show uv.length ≤ maxLen by
    rw [← huv]; unfold upV; split
    · rw [tagsOf_length]; have : cnt s < 256 := UInt8.toNat_lt _; unfold maxLen; omega
    · exact Nat.zero_le _)
  clear ho4 hs4 hb4 hun huc huv
  have T1 : (un != un) = false := by simp
  have T2 : (uc != uc) = false := by simp
  have S4 := Lib.hid (HA.out.below B4.out)
  go_wp2_with fail
  refine (rsame A3 A4 c3 c4 uv uv _ L34.out L4.out UL.out).mono ?_
  rintro e w' ⟨rfl, n5, rfl⟩
  rw [cmp_self]
  have B5 := Lib.hid (below_drewN B4.out n5)
  have S5 := Lib.hid (HA.out.below B5.out)
  generalize w4.drewN n5 = w5 at B5 S5 ⊢
  cases hr : La.right a
  · have R := Lib.hid hr
    have hpc : pc = 1 := by rw [← PC.out]; unfold pkC; rw [hr]; rfl
    have hps : ps = ⟨#[]⟩ := by rw [← PS.out]; unfold pkS; rw [hr]; rfl
    subst hpc hps
    clear hr
    go_wp2_with fail
    refine (rright A ca a _ S5.out LA.out U.out).mono ?_
    rintro e w' ⟨rfl, n6, rfl⟩
    rw [R.out]
    have B6 := Lib.hid (below_drewN B5.out n6)
    go_wp2
    go_ret
    exact ⟨by first | rfl | simp, B6.out⟩
  · have R := Lib.hid hr
    have hpc : pc = 0 := by rw [← PC.out]; unfold pkC; rw [hr]; rfl
    have hps : ps = packS a := by rw [← PS.out]; unfold pkS; rw [hr]; rfl
    obtain ⟨k1, k2, k3⟩ := back a s hr U.out
    rw [← hps] at k1 k2 k3
    have K1 := Lib.hid k1
    have K2 := Lib.hid k2
    have K3 := Lib.hid k3
    have psz : ps.size ≤ 49 := by
      rw [hps, pack_size]; have := ((La.right_iff a).1 hr).1; omega
    have HPS := Lib.hid hps
    have SZ := Lib.hid (show (ps ++ s).size ≤ 1099511627776 by rw [ByteArray.size_append]; omega)
    subst hpc
    clear hr k1 k2 k3 hps
    go_wp2_with fail
    refine (rright A ca a _ S5.out LA.out U.out).mono ?_
    rintro e w' ⟨rfl, n6, rfl⟩
    rw [R.out]
    have B6 := Lib.hid (below_drewN B5.out n6)
    go_wp2_with fail
    refine (lunpack (ps ++ s) _ SZ.out).mono ?_
    rintro e w7 ⟨v7, rfl, ho7, hb7⟩
    rw [K1.out, K2.out]
    rw [K3.out] at ho7
    obtain ⟨A7, c7, rfl, _, hs7, _, _⟩ := ho7.form
    have B7 := Lib.hid (below_then B6.out hb7)
    have L7 := Lib.hid hs7
    clear ho7 hs7 hb7
    have S7 := Lib.hid (HA.out.below B7.out)
    go_wp2_with fail
    refine (rpack A ca a _ S7.out l60 U.out).mono ?_
    rintro e w8 ⟨rfl, hb8⟩
    rw [← HPS.out]
    have B8 := Lib.hid (below_then B7.out hb8)
    have L8 := Lib.hid (L7.out.below hb8)
    have S8 := Lib.hid (HA.out.below B8.out)
    clear hb8
    go_wp2_with fail
    refine (rsame A7 A c7 ca a a _ L8.out S8.out LA.out).mono ?_
    rintro e w' ⟨rfl, n9, rfl⟩
    rw [cmp_self]
    have B9 := Lib.hid (below_drewN B8.out n9)
    go_wp2
    go_ret
    exact ⟨by first | rfl | simp, B9.out⟩

set_option maxRecDepth 100000 in
theorem lifted (os : Os) (started : os.Started) (H : Type) (enc : TypeId × Value → H) :
    ReturnsInHanded {} Try.checked os 7 .any (Rows.labelPacksSpec.pre6 enc Try.prog Try.f7 Rows.labelPacksRow.domain false) (Rows.labelPacksSpec.post enc Try.prog Try.f7 false true false false) := by
  refine returnsInHanded_of_change (C := Try.checked) own started (by kernel_rfl) Try.func7
    (ChangeSpec.witness6 (enc := enc) (C := Try.checked) false ⟨#[], #[.slice none 0 0, .string ⟨#[]⟩], []⟩ 8 (by kernel_rfl) (by kernel_rfl) (by kernel_rfl) (by kernel_rfl)) ?_
  intro W base args ds gs before hval0 hW hcnd _
  have hval : ∀ (j : Nat) t v, Try.f7.params[j]? = some t → args[j]? = some v → Value.okWide Try.prog W .any base t v := hval0
  have hW' := hW
  obtain ⟨p, q, hA0, hV, rfl, hfz, hnd⟩ := hW
  have hA : DataW.TrodAll enc Try.prog W 0 (fun _ => true) true Try.f7.params.toList args.toList ds p := hA0
  rw [Try.params7] at hA hval
  obtain ⟨v0, vs0, d0, ds0, p0, q0, hargs, rfl, rfl, h0, r0⟩ := trodAll_cons hA
  obtain ⟨v1, vs1, d1, ds1, p1, q1, hargs1, rfl, rfl, h1, r1⟩ := trodAll_cons r0
  obtain ⟨rfl, rfl, rfl⟩ := trodAll_nil r1
  obtain rfl : args = #[v0, v1] := by cases args; simp_all
  obtain ⟨rfl, rfl⟩ := trodVars_none hV
  obtain ⟨s, rfl, rfl, rfl, w1⟩ := open_string Try.underlying9 (hval 1 9 v1 rfl rfl) h1
  clear hA0 hval0
  simp only [List.append_nil] at hW'
  have l0 : ∀ x ∈ p0, x.block < W.heap.size := fun x hx => by simpa using hW'.lt x hx
  obtain ⟨A, ca, a, rfl, sa, _, ua, la⟩ := open_u64s (hval 0 22 v0 rfl rfl) h0 l0
  refine (walk A ca a s W sa ua la).mono fun e W' ⟨he, hg⟩ => ?_
  subst he
  refine ⟨_, rfl, [d0, .lit (.string s.data.toList)], [], p0, [], p0 ++ ([] ++ []), [], hW', ?_, ?_, ?_, hg.frame _, fun h => by cases h⟩
  · exact trodAll_cons_mk (shut_bool Try.underlying4 _) trodAll_mk0
  · exact trodAll_cons_mk (Below.trod laidOut (by kernel_rfl) (of_decide_eq_true (by kernel_rfl)) h0 hg l0) (trodAll_cons_mk (shut_string Try.underlying9 w1) trodAll_mk0)
  · rfl

theorem over : Rows.labelPacksRow.holds Try.pinned (OpenSpec.ofChange Rows.labelPacksSpec) :=
  OpenClaim.holds_of_wide 7 Try.f7 rfl rfl rfl rfl rfl rfl rfl ⟨rfl, rfl, rfl, rfl, rfl⟩ rfl rfl rfl rfl rfl (by kernel_rfl) Try.func7 (by kernel_rfl)
    (of_decide_eq_true (by kernel_rfl)) (by unfold Func.isWrapper; first | (rw [if_pos (by decide +kernel)]; kernel_rfl) | (rw [if_neg (by decide +kernel)]; exact ⟨rfl, rfl⟩))
    (fun os started H enc _ => lifted os started H enc)

/-- ████ THE STATEMENT ████ -/
theorem proved : Rows.LabelPacksSaid :=
  over
#print axioms proved
end Go.Proofs.Ytodindfchkpecaa.labelPacks
