/- (*wire.reader).size, text, float, tags: walked, given what number does. -/
import Derived.Test.YtmcackghpkegbaaTk
import Derived.Test.YtmcackghpkegbaaUp
namespace Go.Proofs.Ytmcackghpkegbaa
open Go.RowKit

/-- (*wire.reader).number does as the document says -/
def NumberAt : Prop := ∀ (rb : Nat) (l : List UInt8) (w : World), Rdr w rb l → l.length ≤ 1099511627776 →
    Calls Try.prog 64 #[.pointer (some ⟨rb, 0, none⟩)] w (RdPost rb (fun (n : Nat) _ v => v = .int .u64 (n : Int)) w (rdNum 0 0 l))

theorem rdNum_len : ∀ (g n : Nat) (l : List UInt8) (x : Nat) (r : List UInt8), rdNum g n l = .ok (x, r) → r.length ≤ l.length
  | _, _, [], _, _, h => by simp [rdNum] at h
  | g, n, c :: t, x, r, h => by
    unfold rdNum at h
    split at h
    · cases h
    · split at h
      · split at h
        · cases h
        · cases h; simp
      · have := rdNum_len _ _ t x r h; simp; omega

set_option maxRecDepth 100000 in
/-- (*wire.reader).size -/
theorem lsize (hn : NumberAt) (rb most : Nat) (l : List UInt8) (w : World) (h : Rdr w rb l) (hl : l.length ≤ 1099511627776) (hm : most ≤ 1000) :
    Calls Try.prog 57 #[.pointer (some ⟨rb, 0, none⟩), .int .i64 (most : Int)] w (RdPost rb (fun (n : Nat) _ v => v = .int .i64 (n : Int) ∧ n ≤ most) w (rdSize most l)) := by
  have N := Lib.hid (hn rb l w h hl)
  clear h hn
  cases hr : rdNum 0 0 l with
  | error c =>
    have R := Lib.hid hr
    have RS := Lib.hid (show rdSize most l = .error c by unfold rdSize; rw [hr])
    clear hr
    go_enter Try.func57, Try.ntmps57
    go_wp2_with fail
    refine N.out.mono ?_
    rintro e w' hp
    obtain ⟨rfl, hg⟩ := hp.err R.out
    have G := Lib.hid hg
    clear hg hp
    go_wp2_with fail
    exact ⟨rfl, RdPost.mkErr RS.out G.out⟩
  | ok q =>
    obtain ⟨n, r⟩ := q
    have R := Lib.hid hr
    by_cases hlt : most < n
    · have RS := Lib.hid (show rdSize most l = .error 5 by unfold rdSize; rw [hr]; simp only; rw [if_pos hlt])
      clear hr
      go_enter Try.func57, Try.ntmps57
      go_wp2_with fail
      refine N.out.mono ?_
      rintro e w' hp
      obtain ⟨v, rfl, rfl, _, hg⟩ := hp.ok R.out
      have G := Lib.hid hg
      clear hg hp
      go_wp2_with fail
      exact ⟨rfl, RdPost.mkErr RS.out G.out⟩
    · have RS := Lib.hid (show rdSize most l = .ok (n, r) by unfold rdSize; rw [hr]; simp only; rw [if_neg hlt])
      clear hr
      go_enter Try.func57, Try.ntmps57
      go_wp2_with fail
      refine N.out.mono ?_
      rintro e w' hp
      obtain ⟨v, rfl, rfl, hrd, hg⟩ := hp.ok R.out
      have G := Lib.hid hg
      have HR := Lib.hid hrd
      clear hg hp hrd
      go_wp2_with fail
      go_ret
      exact RdPost.mkOk RS.out G.out ⟨rfl, by omega⟩ HR.out

theorem rdSize_ok {most : Nat} {l : List UInt8} {n : Nat} {r : List UInt8} (h : rdSize most l = .ok (n, r)) : n ≤ most ∧ r.length ≤ l.length := by
  unfold rdSize at h
  cases hr : rdNum 0 0 l with
  | error c => rw [hr] at h; cases h
  | ok q =>
    obtain ⟨n', r'⟩ := q
    rw [hr] at h
    simp only at h
    by_cases hlt : most < n'
    · rw [if_pos hlt] at h; cases h
    · rw [if_neg hlt] at h; injection h with h; injection h with h1 h2; subst h1; subst h2
      exact ⟨by omega, rdNum_len _ _ _ _ _ hr⟩
theorem rdTake_ok {n : Nat} {l k r : List UInt8} (h : rdTake n l = .ok (k, r)) : k.length = n ∧ r.length ≤ l.length := by
  unfold rdTake at h
  by_cases hlt : l.length < n
  · rw [if_pos hlt] at h; cases h
  · rw [if_neg hlt] at h; injection h with h; injection h with h1 h2; subst h1; subst h2
    simp; omega

set_option maxRecDepth 100000 in
/-- (*wire.reader).text -/
theorem ltext (hn : NumberAt) (rb : Nat) (l : List UInt8) (w : World) (h : Rdr w rb l) (hl : l.length ≤ 1099511627776) :
    Calls Try.prog 65 #[.pointer (some ⟨rb, 0, none⟩)] w (RdPost rb (fun (k : List UInt8) _ v => v = .string (BA k)) w (rdText l)) := by
  have N := Lib.hid (lsize hn rb 200 l w h hl (by omega))
  clear h hn
  cases hr : rdSize 200 l with
  | error c =>
    have R := Lib.hid hr
    have RS := Lib.hid (show rdText l = .error c by unfold rdText; rw [hr])
    clear hr
    go_enter Try.func65, Try.ntmps65
    go_wp2_with fail
    refine N.out.mono ?_
    rintro e w' hp
    obtain ⟨rfl, hg⟩ := hp.err R.out
    have G := Lib.hid hg
    clear hg hp
    go_wp2_with fail
    exact ⟨rfl, RdPost.mkErr RS.out G.out⟩
  | ok q =>
    obtain ⟨n, r⟩ := q
    have R := Lib.hid hr
    have n200 := (rdSize_ok hr).1
    have RL := Lib.hid (show r.length ≤ 1099511627776 from Nat.le_trans (rdSize_ok hr).2 hl)
    have RT : rdText l = rdTake n r := by unfold rdText; rw [hr]
    clear hr
    cases hk : rdTake n r with
    | error c =>
      have R2 := Lib.hid hk
      have RS := Lib.hid (RT.trans hk)
      clear hk RT
      go_enter Try.func65, Try.ntmps65
      go_wp2_with fail
      refine N.out.mono ?_
      rintro e w1 hp
      obtain ⟨v, rfl, ⟨rfl, _⟩, hrd, hg⟩ := hp.ok R.out
      have G := Lib.hid hg
      have HR := Lib.hid hrd
      clear hg hp hrd
      go_wp2_with fail
      refine (ltake rb n r _ HR.out RL.out).mono ?_
      rintro e w2 hp
      obtain ⟨rfl, hg⟩ := hp.err R2.out
      have G2 := Lib.hid (G.out.trans hg)
      clear hg hp
      go_wp2_with fail
      exact ⟨rfl, RdPost.mkErr RS.out G2.out⟩
    | ok q2 =>
      obtain ⟨k, r2⟩ := q2
      have R2 := Lib.hid hk
      have RS := Lib.hid (RT.trans hk)
      have KL := Lib.hid (show (BA k).size ≤ 281474976710656 by rw [BA_size, (rdTake_ok hk).1]; omega)
      clear hk RT
      go_enter Try.func65, Try.ntmps65
      go_wp2_with fail
      refine N.out.mono ?_
      rintro e w1 hp
      obtain ⟨v, rfl, ⟨rfl, _⟩, hrd, hg⟩ := hp.ok R.out
      have G := Lib.hid hg
      have HR := Lib.hid hrd
      clear hg hp hrd
      go_wp2_with fail
      refine (ltake rb n r _ HR.out RL.out).mono ?_
      rintro e w2 hp
      obtain ⟨v, rfl, rfl, hrd, hg⟩ := hp.ok R2.out
      have G2 := Lib.hid (G.out.trans hg)
      have HR2 := Lib.hid hrd
      clear hg hp hrd
      go_wp2_with fail
      refine (lclone (BA k) _ KL.out).mono ?_
      rintro e w3 ⟨rfl, hb⟩
      have G3 := Lib.hid (G2.out.trans (grown_below hb (some rb)))
      have HR3 := Lib.hid (HR2.out.below hb)
      clear hb
      go_wp2_with fail
      go_ret
      exact RdPost.mkOk RS.out G3.out rfl HR3.out

end Go.Proofs.Ytmcackghpkegbaa
