/- What each function of layer 1 and of its reference answers, walked: less, next, keys. -/
import Derived.Test.YtoljhoabbaigdaaWka
import Derived.RowKit3
import Derived.Below
namespace Go.Proofs.Ytoljhoabbaigdaa
open Go.RowKit

theorem Fl.place_lt {b : Nat} (hb : Fl.Fits b) (hn : Fl.nanB b = false) : Fl.place b < Fl.NANP := by
  have h1 := hb.lt
  unfold Fl.place
  rw [hn, Fl.neg_iff hb, Fl.INF_eq, Fl.S63_eq]
  rw [Fl.nanB_iff] at hn
  unfold Fl.NANP
  simp at hn ⊢
  split <;> omega

/-- cloisonneref01.Less -/
theorem rless (a b : Nat) (ha : Fl.Fits a) (hb : Fl.Fits b) (w : World) : Calls Try.prog 22 #[.float .f64 a, .float .f64 b] w fun e w' => e = .returned (.bool (decide (Fl.place a < Fl.place b))) ∧ w = w' := by
  have GA := Lib.hid ha
  have GB := Lib.hid hb
  cases na : Fl.nanB a
  · cases nb : Fl.nanB b
    · obtain ⟨f1, f2, f3⟩ := ord_facts a b ha hb na nb
      have NA := Lib.hid na
      have NB := Lib.hid nb
      have F3 := Lib.hid f3
      clear na nb f3 ha hb
      by_cases hr : Fl.rank a = Fl.rank b
      · have T1 : (FloatKind.f64.format.order a b == some Ordering.eq) = true := by rw [fcmp, f1]; simp [hr]
        have R := Lib.hid hr
        clear f1 f2 hr
        go_enter Try.func22, Try.ntmps22
        go_wp2_with fail
        refine (rnan a GA.out _).mono ?_
        rintro e w' ⟨rfl, rfl⟩
        rw [NA.out]
        go_wp2_with fail
        refine (rnan b GB.out _).mono ?_
        rintro e w' ⟨rfl, rfl⟩
        rw [NB.out]
        go_wp2_with fail
        refine (rclass a GA.out _).mono ?_
        rintro e w' ⟨rfl, rfl⟩
        go_wp2_with fail
        · refine (rclass b GB.out _).mono ?_
          rintro e w' ⟨rfl, rfl⟩
          go_wp2
          all_goals (go_ret; refine ⟨ret_bool ?_, rfl⟩; rw [F3.out, if_pos R.out]; simp [*])
        · go_ret
          refine ⟨ret_bool ?_, rfl⟩; rw [F3.out, if_pos R.out]; simp [*]
      · have T1 : (FloatKind.f64.format.order a b == some Ordering.eq) = false := by rw [fcmp, f1]; simp [hr]
        have T2 : (FloatKind.f64.format.order a b == some Ordering.lt) = decide (Fl.rank a < Fl.rank b) := f2
        have R := Lib.hid hr
        clear f1 f2 hr
        go_enter Try.func22, Try.ntmps22
        go_wp2_with fail
        refine (rnan a GA.out _).mono ?_
        rintro e w' ⟨rfl, rfl⟩
        rw [NA.out]
        go_wp2_with fail
        refine (rnan b GB.out _).mono ?_
        rintro e w' ⟨rfl, rfl⟩
        rw [NB.out]
        go_wp2
        go_ret
        refine ⟨ret_bool ?_, rfl⟩
        rw [F3.out, if_neg R.out]
    · have NA := Lib.hid na
      have NB := Lib.hid nb
      have hq : decide (Fl.place a < Fl.place b) = true := by
        have h1 := Fl.place_lt ha na
        have h2 : Fl.place b = Fl.NANP := by unfold Fl.place; rw [nb]; rfl
        simp; omega
      have Q := Lib.hid hq
      clear na nb hq ha hb
      go_enter Try.func22, Try.ntmps22
      go_wp2_with fail
      refine (rnan a GA.out _).mono ?_
      rintro e w' ⟨rfl, rfl⟩
      rw [NA.out]
      go_wp2_with fail
      refine (rnan b GB.out _).mono ?_
      rintro e w' ⟨rfl, rfl⟩
      rw [NB.out]
      go_wp2_with fail
      refine (rnan a GA.out _).mono ?_
      rintro e w' ⟨rfl, rfl⟩
      rw [NA.out]
      go_wp2_with fail
      refine (rnan b GB.out _).mono ?_
      rintro e w' ⟨rfl, rfl⟩
      rw [NB.out]
      go_wp2
      go_ret
      exact ⟨ret_bool Q.out.symm, rfl⟩
  · have NA := Lib.hid na
    have hq : decide (Fl.place a < Fl.place b) = false := by
      have h1 := Fl.place_le hb
      have h2 : Fl.place a = Fl.NANP := by unfold Fl.place; rw [na]; rfl
      simp; omega
    have Q := Lib.hid hq
    clear na hq ha hb
    go_enter Try.func22, Try.ntmps22
    go_wp2_with fail
    refine (rnan a GA.out _).mono ?_
    rintro e w' ⟨rfl, rfl⟩
    rw [NA.out]
    go_wp2_with fail
    refine (rnan a GA.out _).mono ?_
    rintro e w' ⟨rfl, rfl⟩
    rw [NA.out]
    go_wp2
    go_ret
    exact ⟨ret_bool Q.out.symm, rfl⟩

def keyNums (p : Nat) : List Int := [(p : Int) / 72057594037927936 % 256, (p : Int) / 281474976710656 % 256, (p : Int) / 1099511627776 % 256, (p : Int) / 4294967296 % 256, (p : Int) / 16777216 % 256, (p : Int) / 65536 % 256, (p : Int) / 256 % 256, (p : Int) % 256]
def keyOf (p : Nat) : ByteArray := strOfNums (keyNums p)

theorem ret_str {a b : ByteArray} (h : a = b) : Ending.returned (.string a) = .returned (.string b) := by rw [h]

end Go.Proofs.Ytoljhoabbaigdaa
