/- What is read is of the shape, and prints as it was: plain. -/
import Derived.Test.YtmcackghpkegbaaUb
namespace Go.Proofs.Ytmcackghpkegbaa
open Go.RowKit

theorem u8_self (c : UInt8) : UInt8.ofNat c.toNat = c := by simp
theorem byte_self (c : UInt8) : UInt8.ofNat ((c.toNat : Int)).toNat = c := by rw [Int.toNat_natCast]; exact u8_self c

theorem p128 (g : Nat) (h : g ≤ 8) : ∃ M, 18446744073709551616 = 128 ^ (g + 1) * M := by
  have : g = 0 ∨ g = 1 ∨ g = 2 ∨ g = 3 ∨ g = 4 ∨ g = 5 ∨ g = 6 ∨ g = 7 ∨ g = 8 := by omega
  rcases this with rfl | rfl | rfl | rfl | rfl | rfl | rfl | rfl | rfl
  · exact ⟨144115188075855872, by decide⟩
  · exact ⟨1125899906842624, by decide⟩
  · exact ⟨8796093022208, by decide⟩
  · exact ⟨68719476736, by decide⟩
  · exact ⟨536870912, by decide⟩
  · exact ⟨4194304, by decide⟩
  · exact ⟨32768, by decide⟩
  · exact ⟨256, by decide⟩
  · exact ⟨2, by decide⟩

theorem rdNum_inv : ∀ (l : List UInt8) (g acc m : Nat) (r : List UInt8), rdNum g acc l = .ok (m, r) → g ≤ 9 ∧ ∃ n, (0 < g → 0 < n) ∧ m = acc + n * 128 ^ g ∧ n * 128 ^ g < 18446744073709551616 ∧ l = by8 (leb n) ++ r
  | [], g, acc, m, r, h => by simp [rdNum] at h
  | c :: t, g, acc, m, r, h => by
    have hc := UInt8.toNat_lt c
    rw [rdNum] at h
    by_cases h1 : 9 < g ∨ (g = 9 ∧ 1 < c.toNat % 128)
    · rw [if_pos h1] at h; cases h
    rw [if_neg h1] at h
    have g9 : g ≤ 9 := by
      rcases Nat.lt_or_ge 9 g with k | k
      · exact absurd (.inl k) h1
      · exact k
    refine ⟨g9, ?_⟩
    by_cases h2 : c.toNat < 128
    · rw [if_pos h2] at h
      by_cases h3 : c.toNat = 0 ∧ 0 < g
      · rw [if_pos h3] at h; cases h
      rw [if_neg h3] at h
      injection h with h; injection h with h4 h5
      subst h4; subst h5
      refine ⟨c.toNat, fun k => ?_, rfl, ?_, ?_⟩
      · rcases Nat.eq_zero_or_pos c.toNat with e | e
        · exact absurd ⟨e, k⟩ h3
        · exact e
      · by_cases e9 : g = 9
        · subst e9
          have h6 : ¬ 1 < c.toNat % 128 := fun k => h1 (.inr ⟨rfl, k⟩)
          have e : (128 : Nat) ^ 9 = 9223372036854775808 := by decide
          rw [e]; omega
        · obtain ⟨M, hM⟩ := p128 g (by omega)
          have hp : 0 < 128 ^ g := Nat.pow_pos (by omega)
          have a1 : c.toNat * 128 ^ g < 128 ^ (g + 1) := by
            rw [Nat.pow_succ, Nat.mul_comm (128 ^ g) 128]; exact Nat.mul_lt_mul_of_pos_right h2 hp
          have a2 : 128 ^ (g + 1) ≤ 128 ^ (g + 1) * M := Nat.le_mul_of_pos_right _ (by
            rcases Nat.eq_zero_or_pos M with e | e
            · rw [e] at hM; omega
            · exact e)
          omega
      · rw [leb_small h2]
        show c :: t = UInt8.ofNat ((c.toNat : Int)).toNat :: t
        rw [byte_self]
    · rw [if_neg h2] at h
      obtain ⟨g8, n, hn0, hm, hb, ht⟩ := rdNum_inv t (g + 1) _ m r h
      have hp : 0 < 128 ^ g := Nat.pow_pos (by omega)
      have hn := hn0 (by omega)
      have e1 : (n * 128 + c.toNat % 128) * 128 ^ g = n * 128 ^ (g + 1) + c.toNat % 128 * 128 ^ g := by
        rw [Nat.add_mul, Nat.pow_succ, Nat.mul_comm (128 ^ g) 128, ← Nat.mul_assoc]
      refine ⟨n * 128 + c.toNat % 128, fun _ => by omega, by rw [e1]; omega, ?_, ?_⟩
      · obtain ⟨M, hM⟩ := p128 g (by omega)
        have a1 : c.toNat % 128 * 128 ^ g < 128 ^ (g + 1) := by
          rw [Nat.pow_succ, Nat.mul_comm (128 ^ g) 128]; exact Nat.mul_lt_mul_of_pos_right (by omega) hp
        have a2 : n < M := by
          rw [hM, Nat.mul_comm n] at hb
          exact Nat.lt_of_mul_lt_mul_left hb
        have a3 : 128 ^ (g + 1) * (n + 1) ≤ 128 ^ (g + 1) * M := Nat.mul_le_mul_left _ a2
        rw [Nat.mul_add, Nat.mul_one, Nat.mul_comm _ n, ← hM] at a3
        rw [e1]; omega
      · rw [leb_big (by omega), ht]
        have b1 : (n * 128 + c.toNat % 128) % 128 + 128 = c.toNat := by omega
        have b2 : (n * 128 + c.toNat % 128) / 128 = n := by omega
        rw [b1, b2]
        show c :: (by8 (leb n) ++ r) = UInt8.ofNat ((c.toNat : Int)).toNat :: (by8 (leb n) ++ r)
        rw [byte_self]
theorem rdNum_of {l r : List UInt8} {m : Nat} (h : rdNum 0 0 l = .ok (m, r)) : m < 18446744073709551616 ∧ l = by8 (leb m) ++ r := by
  obtain ⟨_, n, _, hm, hb, hl⟩ := rdNum_inv l 0 0 m r h
  have e : m = n := by rw [hm]; simp
  subst e
  exact ⟨by simpa using hb, hl⟩
theorem rdSize_of {most : Nat} {l r : List UInt8} {m : Nat} (h : rdSize most l = .ok (m, r)) : m ≤ most ∧ l = by8 (leb m) ++ r := by
  unfold rdSize at h
  cases hn : rdNum 0 0 l with
  | error c => rw [hn] at h; cases h
  | ok q =>
    obtain ⟨n, r'⟩ := q
    rw [hn] at h
    simp only at h
    split at h
    · cases h
    · injection h with h; injection h with h1 h2; subst h1; subst h2
      exact ⟨by omega, (rdNum_of hn).2⟩
theorem rdTake_of {n : Nat} {l a r : List UInt8} (h : rdTake n l = .ok (a, r)) : a.length = n ∧ l = a ++ r := by
  unfold rdTake at h
  split at h
  · cases h
  · injection h with h; injection h with h1 h2; subst h1; subst h2
    exact ⟨by rw [List.length_take]; omega, (List.take_append_drop n l).symm⟩
theorem nums_BA (k : List UInt8) : by8 (nums (BA k)) = k := by rw [by8_nums, BA_list]
theorem rdText_of {l k r : List UInt8} (h : rdText l = .ok (k, r)) : k.length ≤ 200 ∧ l = by8 (leb (BA k).size ++ nums (BA k)) ++ r := by
  unfold rdText at h
  cases hs : rdSize 200 l with
  | error c => rw [hs] at h; cases h
  | ok q =>
    obtain ⟨n, r'⟩ := q
    rw [hs] at h
    simp only at h
    obtain ⟨h1, h2⟩ := rdTake_of h
    obtain ⟨h3, h4⟩ := rdSize_of hs
    refine ⟨by omega, ?_⟩
    rw [by8_app, nums_BA, BA_size, h1, h4, h2, List.append_assoc]
theorem rdFloat_of {l r : List UInt8} {b : Nat} (h : rdFloat l = .ok (b, r)) : b < 18446744073709551616 ∧ Fl.bitsOf b = b ∧ l = by8 (keyNums (Fl.place b)) ++ r := by
  unfold rdFloat at h
  cases hs : rdTake 8 l with
  | error c => rw [hs] at h; cases h
  | ok q =>
    obtain ⟨k, r'⟩ := q
    rw [hs] at h
    simp only at h
    obtain ⟨h1, h2⟩ := rdTake_of hs
    split at h
    · rename_i ok
      injection h with h; injection h with h3 h4; subst h3; subst h4
      have hp : numTo (BA k) 8 ≤ Fl.NANP := of_decide_eq_true ok
      have ub : unB (BA k) = Fl.atB (numTo (BA k) 8) := by unfold unB; rw [if_pos hp]
      have hf := Fl.atB_fits hp
      have pa : Fl.place (Fl.atB (numTo (BA k) 8)) = numTo (BA k) 8 := Fl.place_atB hp
      have e1 : Fl.bitsOf (Fl.atB (numTo (BA k) 8)) = Fl.atB (numTo (BA k) 8) := by rw [← Fl.atB_place hf, pa]
      have ko := keyOf_numTo (BA k) (by rw [BA_size, h1])
      rw [ub, e1, e1, pa]
      refine ⟨?_, rfl, ?_⟩
      · exact hf.lt
      · have e2 : by8 (keyNums (numTo (BA k) 8)) = k := by
          have := congrArg (fun s : ByteArray => s.data.toList) ko
          rw [← by8_list]; exact this
        rw [e2, h2]
    · cases h

theorem numTo_nb (s : ByteArray) : ∀ k, numTo s k = nb s.data.toList k
  | 0 => rfl
  | k + 1 => by rw [numTo, nb, numTo_nb s k]
theorem nb_take (l : List UInt8) (n : Nat) : ∀ k, k ≤ n → nb (l.take n) k = nb l k
  | 0, _ => rfl
  | k + 1, h => by
    rw [nb, nb, nb_take l n k (by omega)]
    congr 2
    rw [List.getD_eq_getElem?_getD, List.getD_eq_getElem?_getD, List.getElem?_take, if_pos (by omega)]
theorem be8_nb (l : List UInt8) (h : 8 ≤ l.length) : by8 (La.be8 ((nb l 8 : Nat) : Int)) = l.take 8 := by
  have h1 := keyOf_numTo (BA (l.take 8)) (by rw [BA_size, List.length_take]; omega)
  rw [numTo_nb, BA_list, nb_take l 8 8 (Nat.le_refl _)] at h1
  rw [be8_keyNums _ (by omega), Int.toNat_natCast]
  have := congrArg (fun s : ByteArray => s.data.toList) h1
  rw [← by8_list]; exact this
theorem tagsOf_next (s : ByteArray) (k : Nat) : tagsOf s (k + 1) = tagsOf s k ++ [tagAt s k] := by
  unfold tagsOf; rw [List.range_succ, List.map_append]; rfl
theorem flat_snoc (a : List Int) (x : Int) : La.flat (a ++ [x]) = La.flat a ++ La.be8 x := by
  unfold La.flat; rw [List.flatMap_append]; simp
theorem flat_tags (s : ByteArray) : ∀ c, 1 + 8 * c ≤ s.size → by8 (La.flat (tagsOf s c)) = (s.data.toList.drop 1).take (8 * c)
  | 0, _ => by simp [tagsOf, La.flat, by8]
  | c + 1, h => by
    have hl : s.data.toList.length = s.size := by simp
    rw [tagsOf_next, flat_snoc, by8_app, flat_tags s c (by omega)]
    unfold tagAt
    rw [be8_nb _ (by rw [List.length_drop]; omega), show 8 * (c + 1) = 8 * c + 8 by omega, List.take_add, List.drop_drop]
theorem rdTags_of {l r : List UInt8} {zs : List Int} (h : rdTags l = .ok (zs, r)) : La.right zs = true ∧ La.U64 zs ∧ l = by8 (La.packL zs) ++ r := by
  unfold rdTags at h
  split at h
  · rename_i hu
    injection h with h; injection h with h1 h2; subst h1; subst h2
    have hv : upV (BA l) = tagsOf (BA l) (cnt (BA l)) := by unfold upV; rw [if_pos hu]
    have hn : (upN (BA l)).toNat = 1 + 8 * cnt (BA l) := by unfold upN; rw [if_pos hu]; omega
    unfold upC at hu
    split at hu
    · omega
    split at hu
    · omega
    split at hu
    · omega
    split at hu
    · rename_i k0 k1 k2 k3
      rw [BA_size] at k0 k2
      refine ⟨by rw [hv]; exact k3, by rw [hv]; exact tagsOf_u64 _ _, ?_⟩
      rw [hv, hn]
      unfold La.packL
      have e1 := flat_tags (BA l) (cnt (BA l)) (by rw [BA_size]; omega)
      rw [BA_list] at e1
      have e2 : by8 (((tagsOf (BA l) (cnt (BA l))).length : Int) :: La.flat (tagsOf (BA l) (cnt (BA l)))) = UInt8.ofNat (((tagsOf (BA l) (cnt (BA l))).length : Int)).toNat :: by8 (La.flat (tagsOf (BA l) (cnt (BA l)))) := rfl
      rw [e2, e1, tagsOf_length, Int.toNat_natCast]
      have e3 : UInt8.ofNat (cnt (BA l)) = l.getD 0 0 := by unfold cnt; rw [BA_list, u8_self]
      rw [e3]
      cases l with
      | nil => simp at k0
      | cons a t =>
        show a :: t = a :: ((t.take (8 * cnt (BA (a :: t)))) ++ (a :: t).drop (1 + 8 * cnt (BA (a :: t))))
        rw [Nat.add_comm 1, List.drop_succ_cons, List.take_append_drop]
    · omega
  · cases h

theorem fit_mk (d : Nat) (n : Int) (s : ByteArray) (l : List Int) (h0 : 0 ≤ n) (h1 : n < 18446744073709551616) (h2 : s.size ≤ 1000) (h3 : l.length ≤ 1000) (h4 : La.U64 l) : FitOne d (.mk n s l []) :=
  ⟨h0, h1, by show s.size ≤ maxLen; unfold maxLen; omega, by show l.length ≤ maxLen; unfold maxLen; omega, h4, by
    show FitIt d []
    cases d with
    | zero => simp [FitIt]
    | succ d => exact ⟨by simp, fun x hx => by cases hx⟩⟩
theorem u64_nil : La.U64 [] := by intro x hx; cases hx
theorem rd1_of (L : Ltr) (d : Nat) {l r : List UInt8} {x : Item} (h : rd1 L l = .ok (x, r)) : FitOne d x ∧ only L x = true ∧ x.ks = [] ∧ l = by8 (enc1 L x) ++ r := by
  cases L with
  | b =>
    obtain ⟨c, h1, rfl⟩ := rdMap_inv h
    have hc := UInt8.toNat_lt c
    cases l with
    | nil => cases h1
    | cons a t =>
      injection h1 with h1; injection h1 with h2 h3; subst h2; subst h3
      refine ⟨fit_mk d _ _ _ (by omega) (by omega) (by decide) (by simp) u64_nil, ?_, rfl, ?_⟩
      · rw [only_of ((blank_iff _).2 ⟨rfl, rfl, rfl, rfl⟩)]
        show decide (((a.toNat : Nat) : Int) ≤ 255) = true
        exact decide_eq_true (by omega)
      · show a :: t = UInt8.ofNat (((a.toNat : Nat) : Int) % 256).toNat :: t
        rw [show (((a.toNat : Nat) : Int) % 256).toNat = a.toNat by omega, u8_self]
  | n =>
    obtain ⟨m, h1, rfl⟩ := rdMap_inv h
    obtain ⟨h2, h3⟩ := rdNum_of h1
    refine ⟨fit_mk d _ _ _ (by omega) (by omega) (by decide) (by simp) u64_nil, only_of ((blank_iff _).2 ⟨rfl, rfl, rfl, rfl⟩), rfl, h3⟩
  | t =>
    obtain ⟨k, h1, rfl⟩ := rdMap_inv h
    obtain ⟨h2, h3⟩ := rdText_of h1
    refine ⟨fit_mk d _ _ _ (by omega) (by omega) (by rw [BA_size]; omega) (by simp) u64_nil, ?_, rfl, h3⟩
    rw [only_of ((blank_iff _).2 ⟨rfl, rfl, rfl, rfl⟩)]
    exact decide_eq_true (by rw [show (Item.mk 0 (BA k) [] []).s = BA k from rfl, BA_size]; exact h2)
  | f =>
    obtain ⟨b, h1, rfl⟩ := rdMap_inv h
    obtain ⟨h2, h3, h4⟩ := rdFloat_of h1
    refine ⟨fit_mk d _ _ _ (by omega) (by omega) (by decide) (by simp) u64_nil, ?_, rfl, ?_⟩
    · rw [only_of ((blank_iff _).2 ⟨rfl, rfl, rfl, rfl⟩)]
      exact decide_eq_true (by show ((Fl.bitsOf (Fl.bitsOf b) : Nat) : Int) = (b : Int); rw [h3, h3])
    · show l = by8 (keyNums (Fl.place (Fl.bitsOf b))) ++ r
      rw [h3]; exact h4
  | l =>
    obtain ⟨zs, h1, rfl⟩ := rdMap_inv h
    obtain ⟨h2, h3, h4⟩ := rdTags_of h1
    refine ⟨fit_mk d _ _ _ (by omega) (by omega) (by decide) (by have := ((La.right_iff zs).1 h2).1; omega) h3, ?_, rfl, h4⟩
    rw [only_of ((blank_iff _).2 ⟨rfl, rfl, rfl, rfl⟩)]
    exact h2
theorem rdKids_of (L : Ltr) (d : Nat) : ∀ (n : Nat) {l r : List UInt8} {xs : List Item}, rdKids L n l = .ok (xs, r) → xs.length = n ∧ (∀ x ∈ xs, FitOne d x) ∧ xs.all (only L) = true ∧ l = by8 (xs.flatMap (enc1 L)) ++ r
  | 0, l, r, xs, h => by
    injection h with h; injection h with h1 h2; subst h1; subst h2
    exact ⟨rfl, (fun x hx => by cases hx), rfl, rfl⟩
  | n + 1, l, r, xs, h => by
    cases hr : rd1 L l with
    | error c => rw [rdKids_err hr] at h; cases h
    | ok q =>
      obtain ⟨x, r'⟩ := q
      rw [rdKids_ok hr] at h
      obtain ⟨ys, h1, rfl⟩ := rdMap_inv h
      obtain ⟨a1, a2, a3, a4⟩ := rdKids_of L d n h1
      obtain ⟨b1, b2, b3, b4⟩ := rd1_of L d hr
      refine ⟨by rw [List.length_cons, a1], ?_, by rw [List.all_cons, b2, a3]; rfl, by rw [List.flatMap_cons, by8_app, b4, a4, List.append_assoc]⟩
      intro y hy
      rcases List.mem_cons.1 hy with e | e
      · rw [e]; exact b1
      · exact a2 y e
theorem rdK_of (k : Ltr × Bool) (d : Nat) {l r : List UInt8} {x : Item} (h : rdK k l = .ok (x, r)) : FitOne (d + 1) x ∧ fitsK k x = true ∧ l = by8 (encK k x) ++ r := by
  obtain ⟨L, st⟩ := k
  cases st
  · obtain ⟨b1, b2, _, b4⟩ := rd1_of L (d + 1) h
    exact ⟨b1, b2, b4⟩
  · simp only [rdK, if_true] at h
    cases hr : rdSize 64 l with
    | error c => rw [hr] at h; cases h
    | ok q =>
      obtain ⟨n, r'⟩ := q
      rw [hr] at h
      obtain ⟨ys, h1, rfl⟩ := rdMap_inv h
      obtain ⟨a1, a2, a3, a4⟩ := rdKids_of L d n h1
      obtain ⟨c1, c2⟩ := rdSize_of hr
      refine ⟨⟨by show (0 : Int) ≤ 0; omega, by show (0 : Int) < _; omega, by show (0 : Nat) ≤ maxLen; omega, by show (0 : Nat) ≤ maxLen; omega, u64_nil, ⟨by show ys.length ≤ maxLen; unfold maxLen; omega, a2⟩⟩, ?_, ?_⟩
      · simp only [fitsK, if_true, Bool.and_eq_true]
        exact ⟨⟨decide_eq_true (by show ys.length ≤ 64; omega), a3⟩, rfl⟩
      · show l = by8 (leb ys.length ++ ys.flatMap (enc1 L)) ++ r
        rw [by8_app, a1, List.append_assoc, c2, a4]
/-- what is read is of the shape, and prints as it was -/
theorem rdAll_of (d : Nat) : ∀ (ks : List (Ltr × Bool)) {l r : List UInt8} {xs : List Item}, rdAll ks l = .ok (xs, r) → (∀ x ∈ xs, FitOne (d + 1) x) ∧ fitsAll ks xs = true ∧ l = by8 (encAll ks xs) ++ r
  | [], l, r, xs, h => by
    injection h with h; injection h with h1 h2; subst h1; subst h2
    exact ⟨(fun x hx => by cases hx), rfl, rfl⟩
  | k :: ks, l, r, xs, h => by
    cases hr : rdK k l with
    | error c => rw [rdAll_err hr] at h; cases h
    | ok q =>
      obtain ⟨x, r'⟩ := q
      rw [rdAll_ok hr] at h
      obtain ⟨ys, h1, rfl⟩ := rdMap_inv h
      obtain ⟨a1, a2, a3⟩ := rdAll_of d ks h1
      obtain ⟨b1, b2, b3⟩ := rdK_of k d hr
      refine ⟨?_, by unfold fitsAll; rw [b2, a2]; rfl, ?_⟩
      · intro y hy
        rcases List.mem_cons.1 hy with e | e
        · rw [e]; exact b1
        · exact a1 y e
      · show l = by8 (encK k x ++ encAll ks ys) ++ r
        rw [by8_app, List.append_assoc, b3, a3]
/-- no proper beginning of what is printed is items of that shape -/
theorem rdAll_apart (d : Nat) (ks : List (Ltr × Bool)) (xs ys : List Item) (at_ : Nat) (hf : ∀ x ∈ xs, FitOne (d + 1) x) (h : fitsAll ks xs = true) (ha : at_ < (encAll ks xs).length) : rdAll ks ((by8 (encAll ks xs)).take at_) ≠ .ok (ys, []) := by
  intro hr
  obtain ⟨a1, a2, a3⟩ := rdAll_of d ks hr
  have e1 := rdAll_back d ks ys ((by8 (encAll ks xs)).drop at_) a1 a2
  have e2 := rdAll_back d ks xs [] hf h
  rw [List.append_nil] at a3 e2
  rw [← a3, List.take_append_drop, e2] at e1
  injection e1 with e1; injection e1 with _ e3
  have := congrArg List.length e3
  rw [List.length_drop, by8_len, List.length_nil] at this
  omega

end Go.Proofs.Ytmcackghpkegbaa
