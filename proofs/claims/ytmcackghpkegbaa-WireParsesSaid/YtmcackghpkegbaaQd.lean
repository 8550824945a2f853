/- cloisonneref03.Print: walked. -/
import Derived.Test.YtmcackghpkegbaaQb
import Derived.Test.YtmcackghpkegbaaPt
import Derived.StillTailTactics
namespace Go.Proofs.Ytmcackghpkegbaa
open Go.RowKit

theorem kinds_at {c : UInt8} {r : List UInt8} {t : List (Ltr × Bool)} (h : kindsGo (c :: r) false = some t) (hc : c ≠ 42) : ∃ L rest, ltr c = some L ∧ t = (L, false) :: rest ∧ kindsGo r false = some rest := by
  cases hl : ltr c with
  | none => rw [kindsGo_no (fun k => hc k.1) hl] at h; cases h
  | some L =>
    rw [kindsGo_yes (fun k => hc k.1) hl] at h
    cases hr : kindsGo r false with
    | none => rw [hr] at h; cases h
    | some rest => rw [hr] at h; injection h with h; exact ⟨L, rest, rfl, h.symm, rfl⟩
theorem kinds_star {r : List UInt8} {t : List (Ltr × Bool)} (h : kindsGo (42 :: r) false = some t) : ∃ e r' L rest, r = e :: r' ∧ ltr e = some L ∧ t = (L, true) :: rest ∧ kindsGo r' false = some rest := by
  rw [kindsGo_star] at h
  cases r with
  | nil => cases h
  | cons e r' =>
    cases hl : ltr e with
    | none => rw [kindsGo_no (fun k => by cases k.2) hl] at h; cases h
    | some L =>
      rw [kindsGo_yes (fun k => by cases k.2) hl] at h
      cases hr : kindsGo r' false with
      | none => rw [hr] at h; cases h
      | some rest => rw [hr] at h; injection h with h; exact ⟨e, r', L, rest, rfl, hl, h.symm, hr⟩
theorem drop_kind {ks : List (Ltr × Bool)} {k : Nat} {q : Ltr × Bool} {rest : List (Ltr × Bool)} (h : ks.drop k = q :: rest) : ∃ hk : k < ks.length, ks[k] = q ∧ rest = ks.drop (k + 1) := by
  have hk : k < ks.length := by
    rcases Nat.lt_or_ge k ks.length with h1 | h1
    · exact h1
    · rw [List.drop_of_length_le h1] at h; cases h
  rw [List.drop_eq_getElem_cons hk] at h
  injection h with h1 h2
  exact ⟨hk, h1, h2.symm⟩
theorem fits_no_at2 (ks : List (Ltr × Bool)) (xs : List Item) (k : Nat) (hk : k < ks.length) (h : fitsK ks[k] (xs.getD k It0) = false) : fitsAll ks xs = false := by
  by_cases hl : ks.length = xs.length
  · exact fits_no_at ks xs hl k hk h
  · cases h2 : fitsAll ks xs with
    | false => rfl
    | true => exact absurd (fitsAll_len _ _ h2) hl
/-- bounds under which all of it is printed -/
def Near (xs : List Item) : Prop := ∀ x ∈ xs, x.s.size ≤ 300 ∧ x.l.length ≤ 60 ∧ ∀ y ∈ x.ks, y.s.size ≤ 300 ∧ y.l.length ≤ 60
/-- what it answers -/
def RpPost (ks : List (Ltr × Bool)) (xs : List Item) (w : World) (e : Ending) (w' : World) : Prop :=
  (∃ S, e = .returned (.tuple #[.string S, .bool (fitsAll ks xs)]) ∧ (fitsAll ks xs = true → S = strOfNums (encAll ks xs))) ∧ Below w.heap.size w w'
theorem RpPost.no {ks : List (Ltr × Bool)} {xs : List Item} {w w' : World} (h : fitsAll ks xs = false) (hb : Below w.heap.size w w') (S : ByteArray) : RpPost ks xs w (.returned (.tuple #[.string S, .bool false])) w' :=
  ⟨⟨S, by rw [h], fun k => by rw [h] at k; cases k⟩, hb⟩

set_option maxRecDepth 100000 in
set_option maxHeartbeats 2000000 in
/-- cloisonneref03.Print of a shape -/
theorem rPrintYes (d : Nat) (sh : ByteArray) (A : Option Addr) (c : Nat) (ks : List (Ltr × Bool)) (xs : List Item) (w : World) (hk : kindsOf sh = some ks) (h40 : sh.size ≤ 40) (hf : FitIt (d + 2) xs) (hx : SlIt (d + 2) w A xs) (hn : Near xs) :
    Calls Try.prog 10 #[.string sh, .slice A xs.length c] w (RpPost ks xs w) := by
  have hm := hf.len
  unfold maxLen at hm
  have HF := Lib.hid hf.2
  have SX := Lib.hid hx
  have NE := Lib.hid hn
  have RR := Lib.hid (rRight sh w (by unfold maxLen; omega))
  have KG := Lib.hid (show kindsGo sh.data.toList false = some ks by unfold kindsOf at hk; rw [if_neg (by omega)] at hk; exact hk)
  have K40 := kindsOf_len hk
  have HK := Lib.hid hk
  clear hf hx hn hk
  go_enter Try.func10, Try.ntmps10
  go_wp2_with fail
  refine RR.out.mono ?_
  rintro e w1 ⟨rfl, rfl⟩
  rw [HK.out]
  go_wp2_with fail
  go_loopw [6, 7, 8] (fun vs vk vi wr => ∃ (i k : Nat) (S : ByteArray), i ≤ sh.size ∧ k ≤ xs.length ∧ k ≤ ks.length ∧ vi = .int .i64 i ∧ vk = .int .i64 k ∧ vs = .string S ∧ S.size ≤ k * 13450 ∧ Hid (kindsGo (sh.data.toList.drop i) false = some (ks.drop k)) ∧ Hid (S = strOfNums (encAll (ks.take k) (xs.take k))) ∧ Hid (fitsAll (ks.take k) (xs.take k) = true) ∧ Hid (Below w.heap.size w wr)) (fun _ _ i _ => sh.size - (intOf i).toNat)
  case atStart => exact ⟨0, 0, ⟨#[]⟩, Nat.zero_le _, Nat.zero_le _, Nat.zero_le _, rfl, rfl, rfl, by decide, KG, rfl, Lib.hid (by simp [fitsAll]), Below.refl _ _⟩
  case round =>
    obtain ⟨i, k, S, hi, hkx, hkk, rfl, rfl, rfl, hS, HG, HE, HT, HW⟩ := hrel
    have hsz := HW.out.size
    by_cases hlt : i < sh.size
    case neg =>
      have h0 : ks.drop k = [] := by
        have h := HG.out
        rw [List.drop_of_length_le (by simp; omega)] at h
        injection h with h; exact h.symm
      have kl : k = ks.length := by
        have := congrArg List.length h0
        rw [List.length_drop, List.length_nil] at this; omega
      by_cases hl : k = xs.length
      · have FA := Lib.hid (show fitsAll ks xs = true by have h := HT.out; rw [kl, List.take_length, ← kl, hl, List.take_length] at h; exact h)
        have EA := Lib.hid (show S = strOfNums (encAll ks xs) by have h := HE.out; rw [kl, List.take_length, ← kl, hl, List.take_length] at h; exact h)
        have T : ((k : Int) == (xs.length : Int)) = true := by rw [beq_iff_eq]; omega
        clear kl hl
        go_wp2_with fail
        go_ret2
        exact ⟨⟨S, by rw [FA.out]; rfl, fun _ => EA.out⟩, HW.out⟩
      · have FA := Lib.hid (show fitsAll ks xs = false by
          cases h : fitsAll ks xs with
          | false => rfl
          | true => have := fitsAll_len _ _ h; omega)
        have T : ((k : Int) == (xs.length : Int)) = false := by rw [beq_eq_false_iff_ne]; omega
        clear kl hl
        go_wp2_with fail
        go_ret2
        exact RpPost.no FA.out HW.out S
    have hdb := drop_byte sh i hlt
    obtain ⟨b, hb⟩ : ∃ b, sh[i] = b := ⟨_, rfl⟩
    rw [hb] at hdb
    have H0 := HG.out
    rw [hdb] at H0
    by_cases hkl : k < xs.length
    case neg =>
      have FA := Lib.hid (show fitsAll ks xs = false by
        cases h : fitsAll ks xs with
        | false => rfl
        | true =>
          have h1 := fitsAll_len _ _ h
          rw [List.drop_of_length_le (l := ks) (show ks.length ≤ k by omega)] at H0
          by_cases b42 : b = 42
          · rw [b42] at H0
            obtain ⟨_, _, _, _, _, _, h3, _⟩ := kinds_star H0; cases h3
          · obtain ⟨_, _, _, h3, _⟩ := kinds_at H0 b42; cases h3)
      clear H0 hdb
      go_wp2_with fail
      go_ret2
      exact RpPost.no FA.out HW.out _
    obtain ⟨Ba, Bo, rfl, hbw, hc⟩ := SX.out (by omega)
    obtain ⟨AL, cL, AK, cK, q0, q1, q2, q3, sl, sk⟩ := hc k hkl
    have c0 := (HW.out.cell (p := ⟨Ba, Bo + k * 4, none⟩) hbw).trans q0
    have c1 := (HW.out.cell (p := ⟨Ba, Bo + k * 4 + 1, none⟩) hbw).trans q1
    have c2 := (HW.out.cell (p := ⟨Ba, Bo + k * 4 + 2, none⟩) hbw).trans q2
    have c3 := (HW.out.cell (p := ⟨Ba, Bo + k * 4 + 3, none⟩) hbw).trans q3
    clear q0 q1 q2 q3
    have hfx : FitOne (d + 1) (xs.getD k It0) := HF.out _ (getD_mem_it xs k hkl)
    have hne := NE.out _ (getD_mem_it xs k hkl)
    have hlt3 : Ba < wr.heap.size := Nat.lt_of_lt_of_le hbw hsz
    have i0 : (0 : Int) ≤ (k : Int) := by omega
    have i1 : (k : Int) < xs.length := by omega
    have i2 : ((k : Int)).toNat = k := by omega
    have i3 : (0 : Int) ≤ (i : Int) := by omega
    by_cases b42 : b = 42
    · obtain ⟨e, r', L, rest, hdr, hL, hr, hG⟩ := kinds_star (by rw [b42] at H0; exact H0)
      have hl1 : i + 1 < sh.size := by
        have h := congrArg List.length hdr
        rw [List.length_drop, List.length_cons] at h
        have : sh.data.toList.length = sh.size := by simp
        omega
      have hdb2 := drop_byte sh (i + 1) hl1
      obtain ⟨e2, he2⟩ : ∃ e2, sh[i + 1] = e2 := ⟨_, rfl⟩
      rw [he2] at hdb2
      rw [hdb2] at hdr
      injection hdr with h1 h2
      subst h1
      rw [← h2] at hG
      obtain ⟨hkk2, hq, hrest⟩ := drop_kind hr
      rw [hrest] at hG
      have ES := enc_take_succ ks xs k hkk2 hkl
      have FS := fits_take_succ ks xs k hkk2 hkl
      have FN := fits_no_at2 ks xs k hkk2
      rw [hq] at ES FS FN
      obtain ⟨x, hx⟩ : ∃ x, xs.getD k It0 = x := ⟨_, rfl⟩
      rw [hx] at c0 c1 c2 c3 sl sk hfx hne ES FS FN
      have T : ((b.toNat : Int) != 42) = false := by subst b42; rfl
      have HGN := Lib.hid hG
      have HES := Lib.hid ES
      have HFS := Lib.hid FS
      have HFN := Lib.hid FN
      have HEL := Lib.hid (show fitsK (L, true) x = true → (encK (L, true) x).length ≤ 13450 from fun h => encK_len (L, true) d x hfx h)
      obtain ⟨LL, hLL⟩ : ∃ LL, LL = x.l.length := ⟨_, rfl⟩
      obtain ⟨KL, hKL⟩ : ∃ KL, KL = x.ks.length := ⟨_, rfl⟩
      obtain ⟨N, hN⟩ : ∃ N, N = x.n := ⟨_, rfl⟩
      obtain ⟨XS, hXS⟩ : ∃ XS, XS = x.s := ⟨_, rfl⟩
      rw [← hLL] at c2
      rw [← hKL] at c3
      rw [← hN] at c0
      rw [← hXS] at c1
      have kl63 : KL ≤ 9223372036854775807 := by
        have := hfx.2.2.2.2.2.len; unfold maxLen at this; omega
      have FE := Lib.hid (show fitsK (L, true) x = (decide (KL ≤ 64) && x.ks.all (only L) && (decide (N = 0) && decide (XS.size = 0) && decide (LL = 0))) by
        rw [hLL, hKL, hN, hXS]
        show (decide (x.ks.length ≤ 64) && x.ks.all (only L) && (decide (x.n = 0) && decide (x.s.size = 0) && decide (x.l.length = 0) && decide ((0 : Nat) = 0))) = _
        rw [decide_eq_true (show (0 : Nat) = 0 from rfl), Bool.and_true])
      have EE := Lib.hid (show encK (L, true) x = leb KL ++ x.ks.flatMap (enc1 L) by rw [hKL]; rfl)
      have HFX := Lib.hid hfx.2.2.2.2.2
      have HNE := Lib.hid hne.2.2
      have HSK := Lib.hid sk
      have HKL := Lib.hid hKL
      have i4 : ((i : Int) + 1).toNat = i + 1 := by omega
      clear hc hx hG ES FS FN hr hrest H0 hdb hdb2 b42 hfx hne hq sl sk h2 hLL hKL hN hXS
      have B1 := Lib.hid ((HW.out).alloc hsz (.cells #[.int .u64 N, .string XS, .slice AL LL cL, .slice AK KL cK] 44))
      by_cases n0 : N = 0
      case neg =>
        have FAL := Lib.hid (HFN.out (by rw [FE.out, decide_eq_false n0]; simp))
        have TN : (N != 0) = true := by simp [n0]
        clear n0
        go_wp2_with fail
        go_ret2
        exact RpPost.no FAL.out B1.out _
      subst n0
      by_cases s0 : XS.size = 0
      case neg =>
        have FAL := Lib.hid (HFN.out (by rw [FE.out, decide_eq_false s0]; simp))
        have TS := isEmpty_no s0
        have TSb : ¬ XS.toList = [] := by intro h; rw [h] at TS; cases TS
        clear s0
        go_wp2_with fail
        go_ret2
        exact RpPost.no FAL.out B1.out _
      have eS := empty_of s0
      subst eS
      by_cases l0 : LL = 0
      case neg =>
        have FAL := Lib.hid (HFN.out (by rw [FE.out, decide_eq_false l0]; simp))
        have lp : 0 < LL := by omega
        clear l0
        go_wp2_with fail
        go_ret2
        exact RpPost.no FAL.out B1.out _
      subst l0
      by_cases k64 : KL ≤ 64
      case neg =>
        have FAL := Lib.hid (HFN.out (by rw [FE.out, decide_eq_false k64]; simp))
        have lp : 64 < KL := by omega
        clear k64
        go_wp2_with fail
        go_ret2
        exact RpPost.no FAL.out B1.out _
      have FE2 := Lib.hid (show fitsK (L, true) x = x.ks.all (only L) by rw [FE.out, decide_eq_true k64]; cases x.ks.all (only L) <;> rfl)
      obtain ⟨NB, hNB⟩ : ∃ NB, NB = strOfNums (leb KL) := ⟨_, rfl⟩
      have nb10 : NB.size ≤ 10 := by rw [hNB, strOfNums_size]; exact leb_len64 (by omega)
      have CN := Lib.hid (show ∀ w0, Calls Try.prog 22 #[.int .u64 (KL : Int)] w0 fun e w' => e = .returned (.string NB) ∧ Below w0.heap.size w0 w' by rw [hNB]; exact fun w0 => rNumber KL w0 (by omega))
      have HNB := Lib.hid hNB
      have hwk : IntKind.u64.wrap (KL : Int) = (KL : Int) := by rw [IntKind.wrap_u64]; omega
      have sz1 : (S.size : Int) ≤ 8388608 := by omega
      have sz2 : (NB.size : Int) ≤ 8388608 := by omega
      clear hNB s0
      go_wp2_with fail
      refine (CN.out _).mono ?_
      rintro e3 w3 ⟨rfl, hb3⟩
      have B3 := Lib.hid (below_then B1.out hb3)
      have X3 : w3.cell? ⟨wr.heap.size, 3, none⟩ = some (.slice AK KL cK) := below_cellOf hb3 (by simp) (by simp)
      have hs3 := hb3.size
      clear hb3
      go_wp2_with fail
      obtain ⟨wo, hwo⟩ : ∃ wo, wo = wr := ⟨_, rfl⟩
      subst hwo
      go_loopw [6, 12] (fun vs vj wr => ∃ (j : Nat) (S2 : ByteArray), j ≤ KL ∧ vj = .int .i64 j ∧ vs = .string S2 ∧ S2.size ≤ k * 13450 + 10 + j * 210 ∧ Hid (S2 = S ++ strOfNums (leb KL ++ (x.ks.take j).flatMap (enc1 L))) ∧ Hid ((x.ks.take j).all (only L) = true) ∧ Hid (Below w.heap.size w wr) ∧ Hid (wr.cell? ⟨wo.heap.size, 3, none⟩ = some (.slice AK KL cK)) ∧ wo.heap.size < wr.heap.size) (fun _ vj _ => KL - (intOf vj).toNat)
      case atStart => exact ⟨0, S ++ NB, Nat.zero_le _, rfl, rfl, by rw [ByteArray.size_append]; omega, Lib.hid (by rw [HNB.out]; simp), rfl, B3.out, X3, by simp at hs3; omega⟩
      case round =>
        obtain ⟨j, S2, hj, rfl, rfl, hS2, HS2, HA2, HW2, HX2, hlw⟩ := hrel
        have X3' := HX2.out
        by_cases hjk : j < KL
        case neg =>
          have jk : j = KL := by omega
          have FT := Lib.hid (show fitsK (L, true) x = true by rw [FE2.out]; have h := HA2.out; rw [jk, HKL.out, List.take_length] at h; exact h)
          have ET := Lib.hid (show S2 = S ++ strOfNums (encK (L, true) x) by rw [HS2.out, EE.out, jk, HKL.out, List.take_length])
          have i5 : IntKind.i64.wrap ((i : Int) + 1 + 1) = (i : Int) + 1 + 1 := by rw [IntKind.wrap_i64]; omega
          clear jk
          go_wp2_with fail
          go_roundw
          case rel =>
            refine ⟨i + 2, k + 1, S2, by omega, by omega, by omega, by go_num, by go_num, rfl, ?_, HGN, Lib.hid ?_, Lib.hid ?_, HW2.out⟩
            · have h1 := HEL.out FT.out
              rw [ET.out, ByteArray.size_append, strOfNums_size]; omega
            · rw [HES.out, strOf_app, ← HE.out, ET.out]
            · rw [HFS.out, HT.out]; exact FT.out
          case measure => simp [intOf]; omega
        obtain ⟨Bk, Bq, rfl, hbk, hck⟩ := HSK.out (by have := HKL.out; omega)
        have hjx : j < x.ks.length := by have := HKL.out; omega
        obtain ⟨BL, dL, BK, dK, q0, q1, q2, q3, yl, yk⟩ := hck j hjx
        have d0 := (HW2.out.cell (p := ⟨Bk, Bq + j * 4, none⟩) hbk).trans q0
        have d1 := (HW2.out.cell (p := ⟨Bk, Bq + j * 4 + 1, none⟩) hbk).trans q1
        have d2 := (HW2.out.cell (p := ⟨Bk, Bq + j * 4 + 2, none⟩) hbk).trans q2
        have d3 := (HW2.out.cell (p := ⟨Bk, Bq + j * 4 + 3, none⟩) hbk).trans q3
        have hbk2 : Bk < wr.heap.size := Nat.lt_of_lt_of_le hbk HW2.out.size
        have hfy : FitOne d (x.ks.getD j It0) := HFX.out.2 _ (getD_mem_it x.ks j hjx)
        have hny := HNE.out _ (getD_mem_it x.ks j hjx)
        have YES := all_take_succ (only L) x.ks j hjx HA2.out
        have NOT := all_at (only L) x.ks j hjx
        have TS := flatMap_take_succ (enc1 L) x.ks j hjx
        obtain ⟨y, hy⟩ : ∃ y, x.ks.getD j It0 = y := ⟨_, rfl⟩
        rw [hy] at d0 d1 d2 d3 yl yk hfy hny YES NOT TS
        have C2 := Lib.hid (show ∀ w2, Below w.heap.size w w2 → Calls Try.prog 21 #[.int .u8 (e2.toNat : Int), .agg #[.int .u64 y.n, .string y.s, .slice BL y.l.length dL, .slice BK y.ks.length dK]] w2 (fun e w' => (∃ S, e = .returned (.tuple #[.string S, .bool (only L y)]) ∧ (only L y = true → S = strOfNums (enc1 L y))) ∧ Below w2.heap.size w2 w') from fun w2 hb2 => by rw [ltr_code hL]; exact rOne L d y BL BK dL dK w2 hfy (yl.below hb2) hny.2 hny.1)
        have EL2 := Lib.hid (show only L y = true → (enc1 L y).length ≤ 210 from fun h => enc1_len L d y hfy h)
        have HYES := Lib.hid YES
        have HNOT := Lib.hid NOT
        have HTS := Lib.hid TS
        have j0 : (0 : Int) ≤ (j : Int) := by omega
        have j1 : (j : Int) < (KL : Int) := by omega
        have j2 : ((j : Int)).toNat = j := by omega
        clear q0 q1 q2 q3 hck hy yl yk hfy hny YES NOT TS
        cases hon : only L y
        · have FAL := Lib.hid (HFN.out (by rw [FE2.out]; exact HNOT.out hon))
          have ON := Lib.hid hon
          clear hon
          go_wp2_with fail
          go_region_held3 (fun w' => w'.cell? ⟨wo.heap.size, 3, none⟩ = some (.slice (some ⟨Bk, Bq, none⟩) KL cK) ∧ w'.cell? ⟨Bk, Bq + j * 4, none⟩ = some (.int .u64 y.n) ∧ w'.cell? ⟨Bk, Bq + j * 4 + 1, none⟩ = some (.string y.s) ∧ w'.cell? ⟨Bk, Bq + j * 4 + 2, none⟩ = some (.slice BL y.l.length dL) ∧ w'.cell? ⟨Bk, Bq + j * 4 + 3, none⟩ = some (.slice BK y.ks.length dK))
            (first
              | go_keep
              | exact HC1.out)
            (first
              | (go_at_call 21; (with_reducible refine (C2.out _ (below_drew HW2.out)).mono ?_); rintro e4 w4 ⟨⟨S1, rfl, hS1⟩, hb4⟩; have HC1 := Lib.hid (show w4.cell? ⟨wo.heap.size, 3, none⟩ = some (.slice (some ⟨Bk, Bq, none⟩) KL cK) ∧ w4.cell? ⟨Bk, Bq + j * 4, none⟩ = some (.int .u64 y.n) ∧ w4.cell? ⟨Bk, Bq + j * 4 + 1, none⟩ = some (.string y.s) ∧ w4.cell? ⟨Bk, Bq + j * 4 + 2, none⟩ = some (.slice BL y.l.length dL) ∧ w4.cell? ⟨Bk, Bq + j * 4 + 3, none⟩ = some (.slice BK y.ks.length dK) from ⟨below_cellOf hb4 (by simp [X3']) (by simp), below_cellOf hb4 (by simp [d0]) (by simp), below_cellOf hb4 (by simp [d1]) (by simp), below_cellOf hb4 (by simp [d2]) (by simp), below_cellOf hb4 (by simp [d3]) (by simp)⟩)))
          rw [ON.out]
          have B4 := Lib.hid (below_then (below_drew HW2.out) hb4)
          clear hb4 hS1
          go_wp2_with fail
          go_ret2
          exact RpPost.no FAL.out B4.out _
        · have ON := Lib.hid hon
          clear hon
          go_wp2_with fail
          go_region_held3 (fun w' => w'.cell? ⟨wo.heap.size, 3, none⟩ = some (.slice (some ⟨Bk, Bq, none⟩) KL cK) ∧ w'.cell? ⟨Bk, Bq + j * 4, none⟩ = some (.int .u64 y.n) ∧ w'.cell? ⟨Bk, Bq + j * 4 + 1, none⟩ = some (.string y.s) ∧ w'.cell? ⟨Bk, Bq + j * 4 + 2, none⟩ = some (.slice BL y.l.length dL) ∧ w'.cell? ⟨Bk, Bq + j * 4 + 3, none⟩ = some (.slice BK y.ks.length dK))
            (first
              | go_keep
              | exact HC1.out)
            (first
              | (go_at_call 21; (with_reducible refine (C2.out _ (below_drew HW2.out)).mono ?_); rintro e4 w4 ⟨⟨S1, rfl, hS1⟩, hb4⟩; have HC1 := Lib.hid (show w4.cell? ⟨wo.heap.size, 3, none⟩ = some (.slice (some ⟨Bk, Bq, none⟩) KL cK) ∧ w4.cell? ⟨Bk, Bq + j * 4, none⟩ = some (.int .u64 y.n) ∧ w4.cell? ⟨Bk, Bq + j * 4 + 1, none⟩ = some (.string y.s) ∧ w4.cell? ⟨Bk, Bq + j * 4 + 2, none⟩ = some (.slice BL y.l.length dL) ∧ w4.cell? ⟨Bk, Bq + j * 4 + 3, none⟩ = some (.slice BK y.ks.length dK) from ⟨below_cellOf hb4 (by simp [X3']) (by simp), below_cellOf hb4 (by simp [d0]) (by simp), below_cellOf hb4 (by simp [d1]) (by simp), below_cellOf hb4 (by simp [d2]) (by simp), below_cellOf hb4 (by simp [d3]) (by simp)⟩)))
          have HS1 := Lib.hid (hS1 ON.out)
          have hz1 : S1.size ≤ 210 := by
            rw [HS1.out, strOfNums_size]; exact EL2.out ON.out
          rw [ON.out]
          have B4 := Lib.hid (below_then (below_drew HW2.out) hb4)
          have X4 := HC1.out.1
          have hs4 := hb4.size
          have s1 : (S2.size : Int) ≤ 8388608 := by omega
          have s2 : (S1.size : Int) ≤ 8388608 := by omega
          clear hb4 hS1
          go_wp2_with fail
          go_roundw
          case rel =>
            refine ⟨j + 1, S2 ++ S1, by omega, by go_num, rfl, by rw [ByteArray.size_append]; omega, Lib.hid ?_, Lib.hid (HYES.out ON.out), B4.out, X4, by simp at hs4; omega⟩
            rw [HS2.out, HS1.out, HTS.out, ← List.append_assoc, strOf_app (leb KL ++ _), ByteArray.append_assoc]
          case measure => simp [intOf]; omega
    · obtain ⟨L, rest, hL, hr, hG⟩ := kinds_at H0 b42
      obtain ⟨hkk2, hq, hrest⟩ := drop_kind hr
      rw [hrest] at hG
      have ES := enc_take_succ ks xs k hkk2 hkl
      have FS := fits_take_succ ks xs k hkk2 hkl
      have FN := fits_no_at2 ks xs k hkk2
      rw [hq] at ES FS FN
      obtain ⟨x, hx⟩ : ∃ x, xs.getD k It0 = x := ⟨_, rfl⟩
      rw [hx] at c0 c1 c2 c3 sl sk hfx hne ES FS FN
      have C1 := Lib.hid (show ∀ w2, Below w.heap.size w w2 → Calls Try.prog 21 #[.int .u8 (b.toNat : Int), .agg #[.int .u64 x.n, .string x.s, .slice AL x.l.length cL, .slice AK x.ks.length cK]] w2 (fun e w' => (∃ S, e = .returned (.tuple #[.string S, .bool (only L x)]) ∧ (only L x = true → S = strOfNums (enc1 L x))) ∧ Below w2.heap.size w2 w') from fun w2 hb2 => by rw [ltr_code hL]; exact rOne L (d + 1) x AL AK cL cK w2 hfx (sl.below hb2) hne.2.1 hne.1)
      have T : ((b.toNat : Int) != 42) = true := by
        have h : ((b.toNat : Int) == 42) = false := byte_ne b42
        rw [bne, h]; rfl
      have HGN := Lib.hid hG
      have HES := Lib.hid ES
      have HFS := Lib.hid FS
      have HFN := Lib.hid FN
      have HEL := Lib.hid (show fitsK (L, false) x = true → (encK (L, false) x).length ≤ 13450 from fun h => encK_len (L, false) d x hfx h)
      clear hc hx hG ES FS FN hr hrest H0 hdb b42 hfx hne hq sl sk
      have B1 := Lib.hid ((HW.out).alloc hsz (.cells #[.int .u64 x.n, .string x.s, .slice AL x.l.length cL, .slice AK x.ks.length cK] 44))
      cases hon : only L x
      · have FAL := Lib.hid (HFN.out hon)
        have ON := Lib.hid hon
        clear hon
        go_wp2_with fail
        go_region_held3 (fun w' => w'.cell? ⟨wr.heap.size, 0, none⟩ = some (.int .u64 x.n) ∧ w'.cell? ⟨wr.heap.size, 1, none⟩ = some (.string x.s) ∧ w'.cell? ⟨wr.heap.size, 2, none⟩ = some (.slice AL x.l.length cL) ∧ w'.cell? ⟨wr.heap.size, 3, none⟩ = some (.slice AK x.ks.length cK))
          (first
            | go_keep
            | exact HC1.out)
          (first
            | (go_at_call 21; (with_reducible refine (C1.out _ (below_drew B1.out)).mono ?_); rintro e w2 ⟨⟨S1, rfl, hS1⟩, hb2⟩; have HC1 := Lib.hid (show w2.cell? ⟨wr.heap.size, 0, none⟩ = some (.int .u64 x.n) ∧ w2.cell? ⟨wr.heap.size, 1, none⟩ = some (.string x.s) ∧ w2.cell? ⟨wr.heap.size, 2, none⟩ = some (.slice AL x.l.length cL) ∧ w2.cell? ⟨wr.heap.size, 3, none⟩ = some (.slice AK x.ks.length cK) from ⟨below_cellOf hb2 (by simp) (by simp), below_cellOf hb2 (by simp) (by simp), below_cellOf hb2 (by simp) (by simp), below_cellOf hb2 (by simp) (by simp)⟩)))
        rw [ON.out]
        have B2 := Lib.hid (below_then (below_drew B1.out) hb2)
        clear hb2 hS1
        go_wp2_with fail
        go_ret2
        exact RpPost.no FAL.out B2.out _
      · have ON := Lib.hid hon
        clear hon
        go_wp2_with fail
        go_region_held3 (fun w' => w'.cell? ⟨wr.heap.size, 0, none⟩ = some (.int .u64 x.n) ∧ w'.cell? ⟨wr.heap.size, 1, none⟩ = some (.string x.s) ∧ w'.cell? ⟨wr.heap.size, 2, none⟩ = some (.slice AL x.l.length cL) ∧ w'.cell? ⟨wr.heap.size, 3, none⟩ = some (.slice AK x.ks.length cK))
          (first
            | go_keep
            | exact HC1.out)
          (first
            | (go_at_call 21; (with_reducible refine (C1.out _ (below_drew B1.out)).mono ?_); rintro e w2 ⟨⟨S1, rfl, hS1⟩, hb2⟩; have HC1 := Lib.hid (show w2.cell? ⟨wr.heap.size, 0, none⟩ = some (.int .u64 x.n) ∧ w2.cell? ⟨wr.heap.size, 1, none⟩ = some (.string x.s) ∧ w2.cell? ⟨wr.heap.size, 2, none⟩ = some (.slice AL x.l.length cL) ∧ w2.cell? ⟨wr.heap.size, 3, none⟩ = some (.slice AK x.ks.length cK) from ⟨below_cellOf hb2 (by simp) (by simp), below_cellOf hb2 (by simp) (by simp), below_cellOf hb2 (by simp) (by simp), below_cellOf hb2 (by simp) (by simp)⟩)))
        have HS1 := Lib.hid (hS1 ON.out)
        have hz1 : S1.size ≤ 13450 := by
          rw [HS1.out, strOfNums_size]; exact HEL.out ON.out
        rw [ON.out]
        have B2 := Lib.hid (below_then (below_drew B1.out) hb2)
        have s1 : (S.size : Int) ≤ 8388608 := by omega
        have s2 : (S1.size : Int) ≤ 8388608 := by omega
        clear hb2 hS1
        go_wp2_with fail
        go_roundw
        case rel =>
          refine ⟨i + 1, k + 1, S ++ S1, by omega, by omega, by omega, by go_num, by go_num, rfl, by rw [ByteArray.size_append]; omega, HGN, Lib.hid ?_, Lib.hid ?_, B2.out⟩
          · rw [HES.out, strOf_app, ← HE.out, HS1.out]; rfl
          · rw [HFS.out, HT.out]; exact ON.out
        case measure => simp [intOf]; omega

end Go.Proofs.Ytmcackghpkegbaa
