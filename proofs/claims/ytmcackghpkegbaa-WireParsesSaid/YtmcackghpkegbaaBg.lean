/- wire.Right, Begin, Parse: walked, given what number does. -/
import Derived.Test.YtmcackghpkegbaaRw
namespace Go.Proofs.Ytmcackghpkegbaa
open Go.RowKit

theorem rdNum_code : ∀ (g n : Nat) (l : List UInt8) (c : Int), rdNum g n l = .error c → c ≠ 0
  | _, _, [], c, h => by simp only [rdNum, Except.error.injEq] at h; omega
  | g, n, a :: t, c, h => by
    unfold rdNum at h
    split at h
    · injection h with h; omega
    · split at h
      · split at h
        · injection h with h; omega
        · cases h
      · exact rdNum_code _ _ t c h
theorem rdSize_code {m : Nat} {l : List UInt8} {c : Int} (h : rdSize m l = .error c) : c ≠ 0 := by
  unfold rdSize at h
  cases hr : rdNum 0 0 l with
  | error c' => rw [hr] at h; injection h with h; subst h; exact rdNum_code _ _ _ _ hr
  | ok q =>
    obtain ⟨n, r⟩ := q
    rw [hr] at h
    simp only at h
    split at h
    · injection h with h; omega
    · cases h
theorem rdTake_code {n : Nat} {l : List UInt8} {c : Int} (h : rdTake n l = .error c) : c ≠ 0 := by
  unfold rdTake at h
  split at h
  · injection h with h; omega
  · cases h
theorem rdMap_code {α β : Type} {f : α → β} {o : Rd α} {c : Int} (h : rdMap f o = .error c) : o = .error c := by
  cases o with
  | error c' => injection h with h; rw [h]
  | ok q => cases h
theorem rd1_code {L : Ltr} {l : List UInt8} {c : Int} (h : rd1 L l = .error c) : c ≠ 0 := by
  cases L
  · have h1 := rdMap_code h
    cases l with
    | nil => injection h1 with h1; omega
    | cons a t => cases h1
  · exact rdNum_code _ _ _ _ (rdMap_code h)
  · have h1 := rdMap_code h
    unfold rdText at h1
    cases hr : rdSize 200 l with
    | error c' => rw [hr] at h1; injection h1 with h1; subst h1; exact rdSize_code hr
    | ok q => obtain ⟨n, r⟩ := q; rw [hr] at h1; exact rdTake_code h1
  · have h1 := rdMap_code h
    unfold rdFloat at h1
    cases hr : rdTake 8 l with
    | error c' => rw [hr] at h1; injection h1 with h1; subst h1; exact rdTake_code hr
    | ok q =>
      obtain ⟨n, r⟩ := q
      rw [hr] at h1
      simp only at h1
      split at h1
      · cases h1
      · injection h1 with h1; omega
  · have h1 := rdMap_code h
    unfold rdTags at h1
    split at h1
    · cases h1
    · rename_i hne; injection h1 with h1; subst h1; exact hne
theorem rdKids_code {L : Ltr} : ∀ {n : Nat} {l : List UInt8} {c : Int}, rdKids L n l = .error c → c ≠ 0
  | 0, l, c, h => by cases h
  | n + 1, l, c, h => by
    cases hr : rd1 L l with
    | error c' => rw [rdKids_err hr] at h; injection h with h; subst h; exact rd1_code hr
    | ok q =>
      obtain ⟨x, r⟩ := q
      rw [rdKids_ok hr] at h
      exact rdKids_code (rdMap_code h)
theorem rdK_code {k : Ltr × Bool} {l : List UInt8} {c : Int} (h : rdK k l = .error c) : c ≠ 0 := by
  obtain ⟨L, st⟩ := k
  cases st
  · exact rd1_code h
  · simp only [rdK, if_true] at h
    cases hr : rdSize 64 l with
    | error c' => rw [hr] at h; injection h with h; subst h; exact rdSize_code hr
    | ok q =>
      obtain ⟨n, r⟩ := q
      rw [hr] at h
      exact rdKids_code (rdMap_code h)
theorem rdAll_code : ∀ {ks : List (Ltr × Bool)} {l : List UInt8} {c : Int}, rdAll ks l = .error c → c ≠ 0
  | [], l, c, h => by cases h
  | k :: ks, l, c, h => by
    cases hr : rdK k l with
    | error c' => rw [rdAll_err hr] at h; injection h with h; subst h; exact rdK_code hr
    | ok q =>
      obtain ⟨x, r⟩ := q
      rw [rdAll_ok hr] at h
      exact rdAll_code (rdMap_code h)
theorem rdAll_len : ∀ {ks : List (Ltr × Bool)} {l r : List UInt8} {xs : List Item}, rdAll ks l = .ok (xs, r) → r.length ≤ l.length
  | [], l, r, xs, h => by injection h with h; injection h with _ h2; subst h2; exact Nat.le_refl _
  | k :: ks, l, r, xs, h => by
    cases hr : rdK k l with
    | error c' => rw [rdAll_err hr] at h; cases h
    | ok q =>
      obtain ⟨x, r'⟩ := q
      rw [rdAll_ok hr] at h
      obtain ⟨ys, h1, _⟩ := rdMap_inv h
      exact Nat.le_trans (rdAll_len h1) (rdK_len hr)

/-- what wire.Begin tells -/
def bgR (sh : ByteArray) (l : List UInt8) : Rd (List Item) := match kindsOf sh with
  | none => .error 1
  | some ks => rdAll ks l
theorem bgR_none {sh : ByteArray} {l : List UInt8} (h : kindsOf sh = none) : bgR sh l = .error 1 := by unfold bgR; rw [h]
theorem bgR_some {sh : ByteArray} {l : List UInt8} {ks : List (Ltr × Bool)} (h : kindsOf sh = some ks) : bgR sh l = rdAll ks l := by unfold bgR; rw [h]
theorem bgR_code {sh : ByteArray} {l : List UInt8} {c : Int} (h : bgR sh l = .error c) : c ≠ 0 := by
  unfold bgR at h; split at h
  · injection h with h; omega
  · exact rdAll_code h
theorem bgR_len {sh : ByteArray} {l r : List UInt8} {xs : List Item} (h : bgR sh l = .ok (xs, r)) : r.length ≤ l.length := by
  unfold bgR at h; split at h
  · cases h
  · exact rdAll_len h

/-- what wire.Begin leaves -/
def BgPost (o : Rd (List Item)) (l : List UInt8) (w : World) (e : Ending) (w' : World) : Prop :=
  Below w.heap.size w w' ∧ ((∃ c, o = .error c ∧ e = .returned (.tuple #[.slice none 0 0, .int .i64 0, .int .i64 c])) ∨
    (∃ xs r A c, o = .ok (xs, r) ∧ e = .returned (.tuple #[.slice A xs.length c, .int .i64 ((l.length - r.length : Nat) : Int), .int .i64 0]) ∧ SlItG 2 w.heap.size w' A xs))
theorem BgPost.err {o : Rd (List Item)} {l : List UInt8} {w w' : World} {e : Ending} {c : Int} (h : BgPost o l w e w') (ho : o = .error c) : e = .returned (.tuple #[.slice none 0 0, .int .i64 0, .int .i64 c]) ∧ Below w.heap.size w w' := by
  obtain ⟨hb, ⟨c', h1, h2⟩ | ⟨xs, r, A, cc, h1, _⟩⟩ := h
  · rw [ho] at h1; injection h1 with h1; subst h1; exact ⟨h2, hb⟩
  · rw [ho] at h1; cases h1
theorem BgPost.ok {o : Rd (List Item)} {l r : List UInt8} {xs : List Item} {w w' : World} {e : Ending} (h : BgPost o l w e w') (ho : o = .ok (xs, r)) :
    ∃ A c, e = .returned (.tuple #[.slice A xs.length c, .int .i64 ((l.length - r.length : Nat) : Int), .int .i64 0]) ∧ SlItG 2 w.heap.size w' A xs ∧ Below w.heap.size w w' := by
  obtain ⟨hb, ⟨c', h1, _⟩ | ⟨xs', r', A, cc, h1, h2, h3⟩⟩ := h
  · rw [ho] at h1; cases h1
  · rw [ho] at h1; injection h1 with h1; injection h1 with h4 h5; subst h4; subst h5; exact ⟨A, cc, h2, h3, hb⟩

theorem KRow.ofOwn {w : World} {B : Nat} {A : Option Addr} {c n : Nat} {ks : List (Ltr × Bool)} (h : OwnK w B (.slice A n c) ks) : KRow w A ks := by
  obtain ⟨A', c', e, _, _, hkc⟩ := h.form
  injection e with e1 _ _
  subst e1
  intro hp
  obtain ⟨g, e, _, hg, hc⟩ := hkc hp
  exact ⟨g, e, hg, hc⟩

set_option maxRecDepth 100000 in
/-- wire.Right -/
theorem lRight (sh : ByteArray) (w : World) (hs : sh.size ≤ maxLen) : Calls Try.prog 11 #[.string sh] w fun e w' => e = .returned (.bool (kindsOf sh).isSome) ∧ Below w.heap.size w w' := by
  have KO := Lib.hid (lkindsOf sh w hs)
  cases hk : kindsOf sh with
  | none =>
    have HK := Lib.hid hk
    clear hk
    go_enter Try.func11, Try.ntmps11
    go_wp2_with fail
    refine KO.out.mono ?_
    rintro e w1 ⟨h1, hb⟩
    rw [HK.out] at h1
    obtain rfl := h1
    have HB := Lib.hid hb
    clear hb
    go_wp2_with fail
    go_ret
    exact ⟨rfl, HB.out⟩
  | some ks =>
    have HK := Lib.hid hk
    clear hk
    go_enter Try.func11, Try.ntmps11
    go_wp2_with fail
    refine KO.out.mono ?_
    rintro e w1 ⟨h1, hb⟩
    rw [HK.out] at h1
    obtain ⟨v, rfl, hown⟩ := h1
    have HB := Lib.hid hb
    clear hb hown
    go_wp2_with fail
    go_ret
    exact ⟨rfl, HB.out⟩

set_option maxRecDepth 100000 in
/-- wire.Begin -/
theorem lBegin (hn : NumberAt) (sh : ByteArray) (l : List UInt8) (w : World) (hs : sh.size ≤ maxLen) (hl : l.length ≤ 1099511627776) : Calls Try.prog 14 #[.string sh, .string (BA l)] w (BgPost (bgR sh l) l w) := by
  have KO := Lib.hid (lkindsOf sh w hs)
  have NB := Lib.hid hn
  clear hn
  cases hk : kindsOf sh with
  | none =>
    have HK := Lib.hid hk
    have R := Lib.hid (bgR_none (l := l) hk)
    clear hk
    go_enter Try.func14, Try.ntmps14
    go_wp2_with fail
    refine KO.out.mono ?_
    rintro e w1 ⟨h1, hb⟩
    rw [HK.out] at h1
    obtain rfl := h1
    have HB := Lib.hid hb
    clear hb
    go_wp2_with fail
    refine bodyPost_ret (results_tmp3 rfl _ _ _) rfl ?_
    exact ⟨HB.out, .inl ⟨1, R.out, rfl⟩⟩
  | some ks =>
    have HK := Lib.hid hk
    have k40 := kindsOf_len hk
    have R := Lib.hid (bgR_some (l := l) hk)
    clear hk
    go_enter Try.func14, Try.ntmps14
    go_wp2_with fail
    refine KO.out.mono ?_
    rintro e w1 ⟨h1, hb⟩
    rw [HK.out] at h1
    obtain ⟨v, rfl, hown⟩ := h1
    obtain ⟨KA, kc, rfl, _, _, _⟩ := hown.form
    have KR := Lib.hid (KRow.ofOwn hown)
    have HB := Lib.hid hb
    clear hb hown
    go_wp2_with fail
    refine (lread NB.out ks KA kc l _ KR.out k40 hl).mono ?_
    rintro e w2 ⟨hb2, hp⟩
    rcases hp with ⟨c, ho, rfl⟩ | ⟨xs, r, A, c, ho, rfl, hsl⟩
    · have HO := Lib.hid ho
      have HB2 := Lib.hid (below_then HB.out hb2)
      clear ho hb2
      go_wp2_with fail
      refine bodyPost_ret (results_tmp3 rfl _ _ _) rfl ?_
      exact ⟨HB2.out, .inl ⟨c, by rw [R.out, HO.out], rfl⟩⟩
    · have HO := Lib.hid ho
      have HB2 := Lib.hid (below_then HB.out hb2)
      have HSL := Lib.hid (hsl.more HB.out.size)
      clear ho hb2 hsl
      obtain ⟨N, hN⟩ : ∃ N : Nat, N = l.length - r.length := ⟨_, rfl⟩
      obtain ⟨XL, hXL⟩ : ∃ XL : Nat, XL = xs.length := ⟨_, rfl⟩
      rw [← hN, ← hXL]
      have HN := Lib.hid hN
      have HXL := Lib.hid hXL
      clear hN hXL
      go_wp2_with fail
      refine bodyPost_ret (results_tmp3 rfl _ _ _) rfl ?_
      exact ⟨HB2.out, .inr ⟨xs, r, A, c, by rw [R.out, HO.out], by rw [← HN.out, ← HXL.out]; rfl, HSL.out⟩⟩

/-- what wire.Parse leaves -/
def PaPost (sh : ByteArray) (l : List UInt8) (w : World) (e : Ending) (w' : World) : Prop :=
  Below w.heap.size w w' ∧ ((∃ xs A c, bgR sh l = .ok (xs, []) ∧ e = .returned (.tuple #[.slice A xs.length c, .int .i64 0]) ∧ SlItG 2 w.heap.size w' A xs) ∨
    (∃ c, (∀ xs, bgR sh l ≠ .ok (xs, [])) ∧ c ≠ 0 ∧ (∀ c', bgR sh l = .error c' → c = c') ∧ (∀ xs r, bgR sh l = .ok (xs, r) → c = 4) ∧ e = .returned (.tuple #[.slice none 0 0, .int .i64 c])))

set_option maxRecDepth 100000 in
/-- wire.Parse -/
theorem lParse (hn : NumberAt) (sh : ByteArray) (l : List UInt8) (w : World) (hs : sh.size ≤ maxLen) (hl : l.length ≤ 1099511627776) : Calls Try.prog 13 #[.string sh, .string (BA l)] w (PaPost sh l w) := by
  have BG := Lib.hid (lBegin hn sh l w hs hl)
  have SZ := Lib.hid (BA_size l)
  have sz1 : (BA l).size ≤ 1099511627776 := by rw [BA_size]; exact hl
  clear hn
  cases ho : bgR sh l with
  | error c =>
    have HO := Lib.hid ho
    have CN := Lib.hid (bgR_code ho)
    have T : (c != 0) = true := by simp [bgR_code ho]
    clear ho
    go_enter Try.func13, Try.ntmps13
    go_wp2_with fail
    refine BG.out.mono ?_
    rintro e w1 hp
    obtain ⟨rfl, hb⟩ := hp.err HO.out
    have HB := Lib.hid hb
    clear hb hp
    go_wp2_with fail
    go_ret2
    exact ⟨HB.out, .inr ⟨c, (fun xs h => by rw [HO.out] at h; cases h), CN.out, (fun c' h => by rw [HO.out] at h; injection h), (fun xs r h => by rw [HO.out] at h; cases h), rfl⟩⟩
  | ok q =>
    obtain ⟨xs, r⟩ := q
    have HO := Lib.hid ho
    have RL := bgR_len ho
    obtain ⟨N, hN⟩ : ∃ N : Nat, N = l.length - r.length := ⟨_, rfl⟩
    obtain ⟨XL, hXL⟩ : ∃ XL : Nat, XL = xs.length := ⟨_, rfl⟩
    have HN := Lib.hid hN
    have HXL := Lib.hid hXL
    have NL : N ≤ l.length := by omega
    cases r with
    | nil =>
      have T : ¬ (N < (BA l).size) := by rw [BA_size, hN]; simp
      clear ho hN hXL RL
      go_enter Try.func13, Try.ntmps13
      go_wp2_with fail
      refine BG.out.mono ?_
      rintro e w1 hp
      obtain ⟨A, c, rfl, hsl, hb⟩ := hp.ok HO.out
      have HB := Lib.hid hb
      have HSL := Lib.hid hsl
      clear hb hp hsl
      rw [← HN.out, ← HXL.out]
      go_wp2_with fail
      go_ret2
      exact ⟨HB.out, .inl ⟨xs, A, c, HO.out, by rw [← HXL.out]; rfl, HSL.out⟩⟩
    | cons a t =>
      have T : N < (BA l).size := by rw [BA_size, hN]; simp at RL ⊢; omega
      clear ho hN hXL RL
      go_enter Try.func13, Try.ntmps13
      go_wp2_with fail
      refine BG.out.mono ?_
      rintro e w1 hp
      obtain ⟨A, c, rfl, hsl, hb⟩ := hp.ok HO.out
      have HB := Lib.hid hb
      clear hb hp hsl
      rw [← HN.out, ← HXL.out]
      go_wp2_with fail
      go_ret2
      exact ⟨HB.out, .inr ⟨4, (fun xs h => by rw [HO.out] at h; injection h with h; injection h with _ h; cases h), by omega, (fun c' h => by rw [HO.out] at h; cases h), fun _ _ _ => rfl, rfl⟩⟩

end Go.Proofs.Ytmcackghpkegbaa
