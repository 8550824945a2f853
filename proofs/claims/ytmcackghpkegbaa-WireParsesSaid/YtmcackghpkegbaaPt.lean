/- wire.Print answers, walked. -/
import Derived.Test.YtmcackghpkegbaaPm
import Derived.Test.YtmcackghpkegbaaKo
import Derived.StillTailTactics
namespace Go.Proofs.Ytmcackghpkegbaa
open Go.RowKit

set_option maxRecDepth 100000 in
/-- string(v) of a row of bytes of the call's own, an empty one too -/
theorem conv_any {w : World} {B : Nat} {A : Option Addr} {c : Nat} {zs : List Int} (h : OwnB w B (.slice A zs.length c) zs) : (convert 48 9 (.slice A zs.length c)).run Try.prog w = .ok (.string (strOfNums zs)) w := by
  cases A with
  | none =>
    obtain ⟨A', c', e, _, _, hn, _⟩ := h.form
    injection e with eA _ ec
    obtain ⟨_, hz⟩ := hn eA.symm
    subst hz
    exact run_convert_bytes_nil w 48 5 (by kernel_rfl) (by kernel_rfl) _ _ 9 (by kernel_rfl)
  | some a =>
    by_cases hp : 0 < zs.length
    · exact conv_own h hp
    · obtain ⟨A', c', e, _, _, _, hg⟩ := h.form
      injection e with eA _ ec
      obtain ⟨g, rfl, _⟩ := hg a eA.symm
      exact run_convert_bytes_arg w 48 5 (by kernel_rfl) (by kernel_rfl) g 0 zs.length c zs rfl (fun i hi => absurd hi (by omega)) 9 (by kernel_rfl)

def KE0 : Ltr × Bool := (.b, false)
theorem take_succ_k (ks : List (Ltr × Bool)) (k : Nat) (h : k < ks.length) : ks.take (k + 1) = ks.take k ++ [ks[k]] := List.take_succ_eq_append_getElem h
theorem encAll_snoc : ∀ (ks : List (Ltr × Bool)) (xs : List Item) (k : Ltr × Bool) (x : Item), ks.length = xs.length → encAll (ks ++ [k]) (xs ++ [x]) = encAll ks xs ++ encK k x
  | [], [], k, x, _ => by simp [encAll]
  | a :: ks, y :: xs, k, x, h => by
    simp only [List.cons_append, encAll]
    rw [encAll_snoc ks xs k x (by simpa using h), List.append_assoc]
  | [], y :: xs, _, _, h => by simp at h
  | a :: ks, [], _, _, h => by simp at h
theorem fitsAll_snoc : ∀ (ks : List (Ltr × Bool)) (xs : List Item) (k : Ltr × Bool) (x : Item), ks.length = xs.length → fitsAll (ks ++ [k]) (xs ++ [x]) = (fitsAll ks xs && fitsK k x)
  | [], [], k, x, _ => by simp [fitsAll]
  | a :: ks, y :: xs, k, x, h => by
    simp only [List.cons_append, fitsAll]
    rw [fitsAll_snoc ks xs k x (by simpa using h), Bool.and_assoc]
  | [], y :: xs, _, _, h => by simp at h
  | a :: ks, [], _, _, h => by simp at h
theorem fitsAll_len : ∀ (ks : List (Ltr × Bool)) (xs : List Item), fitsAll ks xs = true → ks.length = xs.length
  | [], [], _ => rfl
  | a :: ks, y :: xs, h => by
    unfold fitsAll at h; rw [Bool.and_eq_true] at h
    simp [fitsAll_len ks xs h.2]
  | [], y :: xs, h => by simp [fitsAll] at h
  | a :: ks, [], h => by simp [fitsAll] at h
theorem fitsAll_append_no : ∀ (ks : List (Ltr × Bool)) (xs : List Item) (ks2 : List (Ltr × Bool)) (xs2 : List Item), ks.length = xs.length → fitsAll ks xs = false → fitsAll (ks ++ ks2) (xs ++ xs2) = false
  | [], [], _, _, _, h => by simp [fitsAll] at h
  | a :: ks, y :: xs, ks2, xs2, hl, h => by
    simp only [List.cons_append, fitsAll, Bool.and_eq_false_iff] at h ⊢
    rcases h with h | h
    · exact .inl h
    · exact .inr (fitsAll_append_no ks xs ks2 xs2 (by simpa using hl) h)
  | [], y :: xs, _, _, h, _ => by simp at h
  | a :: ks, [], _, _, h, _ => by simp at h
theorem enc_take_succ (ks : List (Ltr × Bool)) (xs : List Item) (k : Nat) (hk : k < ks.length) (hx : k < xs.length) : encAll (ks.take (k + 1)) (xs.take (k + 1)) = encAll (ks.take k) (xs.take k) ++ encK ks[k] (xs.getD k It0) := by
  rw [take_succ_k ks k hk, take_succ_it xs k hx, encAll_snoc _ _ _ _ (by simp; omega)]
theorem fits_take_succ (ks : List (Ltr × Bool)) (xs : List Item) (k : Nat) (hk : k < ks.length) (hx : k < xs.length) : fitsAll (ks.take (k + 1)) (xs.take (k + 1)) = (fitsAll (ks.take k) (xs.take k) && fitsK ks[k] (xs.getD k It0)) := by
  rw [take_succ_k ks k hk, take_succ_it xs k hx, fitsAll_snoc _ _ _ _ (by simp; omega)]
theorem fits_no_at (ks : List (Ltr × Bool)) (xs : List Item) (hl : ks.length = xs.length) (k : Nat) (hk : k < ks.length) (h : fitsK ks[k] (xs.getD k It0) = false) : fitsAll ks xs = false := by
  have h1 : fitsAll (ks.take (k + 1)) (xs.take (k + 1)) = false := by rw [fits_take_succ ks xs k hk (by omega), h, Bool.and_false]
  have h2 := fitsAll_append_no _ _ (ks.drop (k + 1)) (xs.drop (k + 1)) (by simp; omega) h1
  rwa [List.take_append_drop, List.take_append_drop] at h2

theorem ret_si {a b : ByteArray} {c d : Int} (h : a = b) (k : c = d) : Ending.returned (.tuple #[.string a, .int .i64 c]) = .returned (.tuple #[.string b, .int .i64 d]) := by rw [h, k]
theorem prC_none {sh : ByteArray} {xs : List Item} (h : kindsOf sh = none) : prC sh xs = 1 ∧ prS sh xs = ⟨#[]⟩ := by unfold prC prS; rw [h]; exact ⟨rfl, rfl⟩
theorem prC_no {sh : ByteArray} {xs : List Item} {ks : List (Ltr × Bool)} (h : kindsOf sh = some ks) (k : fitsAll ks xs = false) : prC sh xs = 1 ∧ prS sh xs = ⟨#[]⟩ := by unfold prC prS; rw [h]; simp [k]
theorem prC_yes {sh : ByteArray} {xs : List Item} {ks : List (Ltr × Bool)} (h : kindsOf sh = some ks) (k : fitsAll ks xs = true) : prC sh xs = 0 ∧ prS sh xs = strOfNums (encAll ks xs) := by unfold prC prS; rw [h]; simp [k]

/-- the kinds' row reads as ks -/
def KRow (w : World) (KA : Option Addr) (ks : List (Ltr × Bool)) : Prop := 0 < ks.length → ∃ g, KA = some ⟨g, 0, none⟩ ∧ g < w.heap.size ∧ ∀ j (hj : j < ks.length), w.cell? ⟨g, j * 2, none⟩ = some (.int .u8 ks[j].1.code) ∧ w.cell? ⟨g, j * 2 + 1, none⟩ = some (.bool ks[j].2)
theorem KRow.below {w w' : World} {KA : Option Addr} {ks : List (Ltr × Bool)} (h : KRow w KA ks) (hb : Below w.heap.size w w') : KRow w' KA ks := fun hp => by
  obtain ⟨g, e, hg, hc⟩ := h hp
  exact ⟨g, e, Nat.lt_of_lt_of_le hg hb.size, fun j hj => ⟨(hb.cell (p := ⟨g, j * 2, none⟩) hg).trans (hc j hj).1, (hb.cell (p := ⟨g, j * 2 + 1, none⟩) hg).trans (hc j hj).2⟩⟩
theorem KRow.grown {w w' : World} {KA : Option Addr} {ks : List (Ltr × Bool)} {row : Option Nat} (h : KRow w KA ks) (hg : w.grownBy w' row) (hn : ∀ g, KA = some ⟨g, 0, none⟩ → row ≠ some g) : KRow w' KA ks := fun hp => by
  obtain ⟨g, e, hgl, hc⟩ := h hp
  exact ⟨g, e, Nat.lt_of_lt_of_le hgl hg.size, fun j hj => ⟨hg.cell (hc j hj).1 (Ne.symm (hn g e)), hg.cell (hc j hj).2 (Ne.symm (hn g e))⟩⟩

set_option maxRecDepth 100000 in
set_option maxHeartbeats 2000000 in
/-- wire.Print -/
theorem lPrint (d : Nat) (sh : ByteArray) (A : Option Addr) (c : Nat) (xs : List Item) (w : World) (hs : sh.size ≤ maxLen) (hf : FitIt (d + 2) xs) (hx : SlIt (d + 2) w A xs) :
    Calls Try.prog 9 #[.string sh, .slice A xs.length c] w fun e w' => e = .returned (.tuple #[.string (prS sh xs), .int .i64 (prC sh xs)]) ∧ Below w.heap.size w w' := by
  have hm := hf.len
  unfold maxLen at hm
  have HF := Lib.hid hf.2
  have SX := Lib.hid hx
  have KO := Lib.hid (lkindsOf sh w hs)
  clear hf hx hs
  cases hk : kindsOf sh with
  | none =>
    have R := Lib.hid (prC_none (xs := xs) hk)
    have HK := Lib.hid hk
    clear hk
    go_enter Try.func9, Try.ntmps9
    go_wp2_with fail
    refine KO.out.mono ?_
    rintro e w1 ⟨h1, hb⟩
    rw [HK.out] at h1
    obtain rfl := h1
    have HB := Lib.hid hb
    clear hb
    go_wp2_with fail
    go_ret2
    exact ⟨ret_si R.out.2.symm R.out.1.symm, HB.out⟩
  | some ks =>
    have HK := Lib.hid hk
    have k40 := kindsOf_len hk
    clear hk
    by_cases hl : ks.length = xs.length
    case neg =>
      have R := Lib.hid (prC_no (xs := xs) HK.out (by
        cases hh : fitsAll ks xs with
        | false => rfl
        | true => exact absurd (fitsAll_len _ _ hh) hl))
      have T : ((xs.length : Int) != (ks.length : Int)) = true := by simp; omega
      clear hl
      go_enter Try.func9, Try.ntmps9
      go_wp2_with fail
      refine KO.out.mono ?_
      rintro e w1 ⟨h1, hb⟩
      rw [HK.out] at h1
      obtain ⟨v, rfl, hown⟩ := h1
      obtain ⟨KA, kc, rfl, _, _, _⟩ := hown.form
      have HB := Lib.hid hb
      clear hb hown
      go_wp2_with fail
      go_ret2
      exact ⟨ret_si R.out.2.symm R.out.1.symm, HB.out⟩
    have T : ((xs.length : Int) != (ks.length : Int)) = false := by simp; omega
    have HL := Lib.hid hl
    have x40 : xs.length ≤ 40 := by omega
    clear hl
    go_enter Try.func9, Try.ntmps9
    go_wp2_with fail
    refine KO.out.mono ?_
    rintro e w1 ⟨h1, hb⟩
    rw [HK.out] at h1
    obtain ⟨v, rfl, hown⟩ := h1
    obtain ⟨KA, kc, rfl, _, _, hkc⟩ := hown.form
    have KR := Lib.hid (show KRow w1 KA ks from fun hp => by obtain ⟨g, e, _, hg, hc⟩ := hkc hp; exact ⟨g, e, hg, hc⟩)
    have HB := Lib.hid hb
    clear hb hown hkc
    go_wp2_with fail
    go_loopw [8, 27] (fun vo i wr => ∃ (k : Nat) (bs : List Int), k ≤ xs.length ∧ i = .int .i64 k ∧ bs.length ≤ k * 13450 ∧ Hid (bs = encAll (ks.take k) (xs.take k)) ∧ Hid (fitsAll (ks.take k) (xs.take k) = true) ∧ Hid (OwnB wr w.heap.size vo bs) ∧ Hid (Below w.heap.size w wr) ∧ Hid (KRow wr KA ks) ∧ Hid (∀ g, KA = some ⟨g, 0, none⟩ → vo.ownBlock ≠ some g)) (fun _ i _ => xs.length - (intOf i).toNat)
    case atStart => exact ⟨0, [], Nat.zero_le _, rfl, by simp, Lib.hid (by simp [encAll]), Lib.hid (by simp [fitsAll]), OwnB.nil _ _, HB.out, KR.out, Lib.hid (by intro g _; simp [Value.ownBlock])⟩
    case round =>
      obtain ⟨k, bs, hk, rfl, hbl, HE, HFT, HO, HW, HKR, HN⟩ := hrel
      have hsz := HW.out.size
      by_cases hlt : k < xs.length
      · have hltk : k < ks.length := by have := HL.out; omega
        obtain ⟨g, rfl, hg, hkk⟩ := HKR.out (by omega)
        obtain ⟨k0, k1⟩ := hkk k hltk
        obtain ⟨b, o, rfl, hb, hc⟩ := SX.out (by omega)
        obtain ⟨AL, cL, AK, cK, b0, b1, b2, b3, sl, sk⟩ := hc k hlt
        have c0 := (HW.out.cell (p := ⟨b, o + k * 4, none⟩) hb).trans b0
        have c1 := (HW.out.cell (p := ⟨b, o + k * 4 + 1, none⟩) hb).trans b1
        have c2 := (HW.out.cell (p := ⟨b, o + k * 4 + 2, none⟩) hb).trans b2
        have c3 := (HW.out.cell (p := ⟨b, o + k * 4 + 3, none⟩) hb).trans b3
        clear b0 b1 b2 b3
        have hfx : FitOne (d + 1) (xs.getD k It0) := HF.out _ (getD_mem_it xs k hlt)
        have ES := Lib.hid (enc_take_succ ks xs k hltk hlt)
        have FS := Lib.hid (fits_take_succ ks xs k hltk hlt)
        have FN := Lib.hid (fits_no_at ks xs HL.out k hltk)
        obtain ⟨x, hx⟩ : ∃ x, xs.getD k It0 = x := ⟨_, rfl⟩
        obtain ⟨q, hq⟩ : ∃ q, ks[k] = q := ⟨_, rfl⟩
        rw [hx] at c0 c1 c2 c3 sl sk hfx ES FS FN
        rw [hq] at k0 k1 ES FS FN
        obtain ⟨C, hC⟩ : ∃ C, C = q.1.code := ⟨_, rfl⟩
        obtain ⟨S2, hS2⟩ : ∃ S2, S2 = q.2 := ⟨_, rfl⟩
        rw [← hC] at k0
        rw [← hS2] at k1
        have hlt3 : b < wr.heap.size := Nat.lt_of_lt_of_le hb hsz
        have hlt4 : g < wr.heap.size := hg
        have FX := Lib.hid hfx
        have BX0 := Lib.hid ((Below.refl wr.heap.size wr).alloc (Nat.le_refl _) (.cells #[.int .u8 C, .bool S2] 50))
        have CF := Lib.hid (show ∀ w2, Below wr.heap.size wr w2 → Calls Try.prog 19 #[.agg #[.int .u8 C, .bool S2], .agg #[.int .u64 x.n, .string x.s, .slice AL x.l.length cL, .slice AK x.ks.length cK]] w2 (fun e w' => e = .returned (.bool (fitsK q x)) ∧ Below w2.heap.size w2 w') from
          fun w2 hb2 => by rw [hC, hS2]; exact lfits q d x AL AK cL cK w2 hfx (sl.below (below_then HW.out hb2)) (sk.below (below_then HW.out hb2)))
        have CP := Lib.hid (show ∀ vo w2, Below w.heap.size w w2 → OwnB w2 w.heap.size vo bs → fitsK q x = true → Calls Try.prog 20 #[.agg #[.int .u8 C, .bool S2], vo, .agg #[.int .u64 x.n, .string x.s, .slice AL x.l.length cL, .slice AK x.ks.length cK]] w2 (PutB w.heap.size w2 vo (bs ++ encK q x)) from
          fun vo w2 hb2 ho2 hq2 => by rw [hC, hS2]; exact lprint q d w.heap.size vo bs x AL AK cL cK w w2 rfl hb2 hfx sl sk hq2 ho2 (by omega))
        have EL := Lib.hid (show fitsK q x = true → (encK q x).length ≤ 13450 from fun h => encK_len q d x hfx h)
        clear hc hx hq hC hS2 sl sk hfx hkk hb hg
        have i0 : (0 : Int) ≤ (k : Int) := by omega
        have i1 : (k : Int) < xs.length := by omega
        have i2 : ((k : Int)).toNat = k := by omega
        have i3 : (k : Int) < ks.length := by omega
        cases hft : fitsK q x
        · have R := Lib.hid (prC_no HK.out (FN.out hft))
          have FT := Lib.hid hft
          clear hft
          go_wp2_with fail
          refine wp_region_still_tail 5 (by kernel_rfl) (by kernel_rfl) ?_
          simp only [List.take_succ_cons, List.take_zero, List.drop_succ_cons, List.drop_zero]
          change wpStill _ _ (World.drew _) (fun a' => wpList _ _ _ _ a' (World.drew _)) _ _
          repeat still_step
          refine wpStill_nil ?_
          go_wp2_with fail
          refine (CF.out _ (below_drew BX0.out)).mono ?_
          rintro e w2 ⟨rfl, hb2⟩
          rw [FT.out]
          have HB2 := Lib.hid (below_then HW.out (below_then (below_drew BX0.out) hb2))
          clear hb2
          go_wp2_with fail
          go_ret2
          exact ⟨ret_si R.out.2.symm R.out.1.symm, HB2.out⟩
        · have FT := Lib.hid hft
          clear hft
          go_wp2_with fail
          refine wp_region_still_tail 5 (by kernel_rfl) (by kernel_rfl) ?_
          simp only [List.take_succ_cons, List.take_zero, List.drop_succ_cons, List.drop_zero]
          change wpStill _ _ (World.drew _) (fun a' => wpList _ _ _ _ a' (World.drew _)) _ _
          repeat still_step
          refine wpStill_nil ?_
          go_wp2_with fail
          refine (CF.out _ (below_drew BX0.out)).mono ?_
          rintro e w2 ⟨rfl, hb2⟩
          rw [FT.out]
          have k20 := (hb2.cell (p := ⟨wr.heap.size, 0, none⟩) (by simp)).trans (show ((wr.alloc (.cells #[.int .u8 C, .bool S2] 50)).drew).cell? ⟨wr.heap.size, 0, none⟩ = some (.int .u8 C) by rw [World.cell?_drew, World.cell?_alloc_at _ _ _ _ rfl]; rfl)
          have k21 := (hb2.cell (p := ⟨wr.heap.size, 1, none⟩) (by simp)).trans (show ((wr.alloc (.cells #[.int .u8 C, .bool S2] 50)).drew).cell? ⟨wr.heap.size, 1, none⟩ = some (.bool S2) by rw [World.cell?_drew, World.cell?_alloc_at _ _ _ _ rfl]; rfl)
          have BB := below_then (below_drew BX0.out) hb2
          have e0 := (BB.cell (p := ⟨b, o + k * 4, none⟩) hlt3).trans c0
          have e1 := (BB.cell (p := ⟨b, o + k * 4 + 1, none⟩) hlt3).trans c1
          have e2 := (BB.cell (p := ⟨b, o + k * 4 + 2, none⟩) hlt3).trans c2
          have e3 := (BB.cell (p := ⟨b, o + k * 4 + 3, none⟩) hlt3).trans c3
          have HB2 := Lib.hid (below_drew (below_then HW.out BB))
          have HK2 := Lib.hid (HKR.out.below (below_drew BB))
          have HO2 := Lib.hid ((HO.out.below BB).drew)
          have SZ2 := BB.size
          clear c0 c1 c2 c3 k0 k1 hb2 BB
          go_wp2_with fail
          refine wp_region_still_tail 6 (by kernel_rfl) (by kernel_rfl) ?_
          simp only [List.take_succ_cons, List.take_zero, List.drop_succ_cons, List.drop_zero]
          change wpStill _ _ (World.drew _) (fun a' => wpList _ _ _ _ a' (World.drew _)) _ _
          repeat still_step
          refine wpStill_nil ?_
          go_wp2_with fail
          refine (CP.out _ _ HB2.out HO2.out FT.out).mono ?_
          rintro e w3 ⟨v3, rfl, ho3, hg3, hf3⟩
          have O3 := Lib.hid ho3
          have B3 := Lib.hid (HB2.out.trans (below_of_grown hg3 HO2.out HB2.out.size))
          have K3 := Lib.hid (HK2.out.grown hg3 HN.out)
          have N3 := Lib.hid (show ∀ g2, some (⟨g, 0, none⟩ : Addr) = some ⟨g2, 0, none⟩ → v3.ownBlock ≠ some g2 from fun g2 e2 e3 => by
            injection e2 with e2
            injection e2 with e2
            subst e2
            rcases hf3 _ e3 with h | h
            · exact HN.out g rfl h
            · have h9 : w2.heap.size ≤ g := h
              omega)
          have E3 := EL.out FT.out
          clear ho3 hg3 hf3
          go_wp2_with fail
          go_roundw
          case rel => exact ⟨k + 1, bs ++ encK q x, by omega, by go_num, by rw [List.length_append]; omega, Lib.hid (by rw [ES.out, HE.out]), Lib.hid (by rw [FS.out, HFT.out, FT.out]; rfl), O3.out, B3.out, K3.out, N3.out⟩
          case measure => simp [intOf]; omega
      · have JJ := Lib.hid (show k = xs.length by omega)
        have FALL := Lib.hid (show fitsAll ks xs = true by
          have h9 := HFT.out
          rw [JJ.out, List.take_length, ← HL.out, List.take_length] at h9; exact h9)
        have R := Lib.hid (prC_yes (xs := xs) HK.out FALL.out)
        have EE := Lib.hid (show bs = encAll ks xs by
          rw [HE.out, JJ.out, List.take_length, ← HL.out, List.take_length])
        obtain ⟨Ao, co, hv, _, _, _, _⟩ := HO.out.form
        have hcv := conv_any (hv ▸ HO.out)
        obtain ⟨BL, hBL⟩ : ∃ BL, BL = bs.length := ⟨_, rfl⟩
        rw [← hBL] at hcv hv
        subst hv
        clear hBL
        have i3 : ¬ ((k : Int) < ks.length) := by have := HL.out; omega
        go_wp2_with fail
        go_ret2
        exact ⟨ret_si (by rw [R.out.2, EE.out]) R.out.1.symm, HW.out⟩

end Go.Proofs.Ytmcackghpkegbaa
