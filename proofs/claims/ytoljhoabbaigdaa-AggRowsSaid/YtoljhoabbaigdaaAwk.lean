/- The chapter's examples of layer 1 hold: the statements' own 'awake' answers true. -/
import Derived.Test.YtoljhoabbaigdaaWkc
import Derived.WideShapes
namespace Go.Proofs.Ytoljhoabbaigdaa
open Go.RowKit

/-- what bytes spell, the highest first -/
def nv : List UInt8 → Nat
  | [] => 0
  | a :: x => a.toNat * 256 ^ x.length + nv x

theorem nv_lt : ∀ l : List UInt8, nv l < 256 ^ l.length
  | [] => by simp [nv]
  | a :: x => by
    have h1 := nv_lt x
    have h2 := UInt8.toNat_lt a
    have h3 : a.toNat * 256 ^ x.length ≤ 255 * 256 ^ x.length := Nat.mul_le_mul_right _ (by omega)
    rw [nv, List.length_cons, Nat.pow_succ]; omega

theorem bytesLess_nv : ∀ l m : List UInt8, l.length = m.length → Op.bytesLess l m = decide (nv l < nv m)
  | [], [], _ => by simp [Op.bytesLess, nv]
  | [], _ :: _, h => by simp at h
  | _ :: _, [], h => by simp at h
  | a :: x, b :: y, h => by
    have hl : x.length = y.length := by simpa using h
    have ih := bytesLess_nv x y hl
    have h1 := nv_lt x
    have h2 := nv_lt y
    rw [Op.bytesLess, ih, nv, nv, hl]
    rw [hl] at h1
    generalize 256 ^ y.length = k at *
    rw [Bool.eq_iff_iff]
    simp only [Bool.or_eq_true, Bool.and_eq_true, decide_eq_true_eq, beq_iff_eq, UInt8.lt_iff_toNat_lt]
    rcases Nat.lt_trichotomy a.toNat b.toNat with c | c | c
    · have : (a.toNat + 1) * k ≤ b.toNat * k := Nat.mul_le_mul_right _ (by omega)
      rw [Nat.add_mul] at this
      constructor
      · intro _; omega
      · intro _; exact Or.inl c
    · have hab : a = b := UInt8.toNat_inj.1 c
      subst hab
      constructor
      · rintro (h | h)
        · omega
        · omega
      · intro h; exact Or.inr ⟨rfl, by omega⟩
    · have : (b.toNat + 1) * k ≤ a.toNat * k := Nat.mul_le_mul_right _ (by omega)
      rw [Nat.add_mul] at this
      constructor
      · rintro (h | h)
        · omega
        · have := h.1; subst this; omega
      · intro h; omega

theorem nv_numTo (s : ByteArray) (hs : s.size = 8) : nv s.toList = numTo s 8 := by
  rw [ByteArray.toList_eq]
  have hl : s.data.toList.length = 8 := by simpa using hs
  unfold numTo numTo numTo numTo numTo numTo numTo numTo numTo
  generalize s.data.toList = l at *
  match l, hl with
  | [a0, a1, a2, a3, a4, a5, a6, a7], _ =>
    simp only [nv, List.length_cons, List.length_nil, List.getD_cons_zero, List.getD_cons_succ]; omega

theorem key_less (p q : Nat) (hp : p < 18446744073709551616) (hq : q < 18446744073709551616) : Op.bytesLess (keyOf p).toList (keyOf q).toList = decide (p < q) := by
  rw [bytesLess_nv _ _ (by rw [ByteArray.toList_eq, ByteArray.toList_eq]; have := keyOf_size p; have := keyOf_size q; simp_all), nv_numTo _ (keyOf_size p), nv_numTo _ (keyOf_size q), numTo_keyOf p hp, numTo_keyOf q hq]

theorem key_inj (p q : Nat) (hp : p < 18446744073709551616) (hq : q < 18446744073709551616) (h : keyOf p = keyOf q) : p = q := by
  rw [← numTo_keyOf p hp, ← numTo_keyOf q hq, h]

theorem key_eqB (p q : Nat) (hp : p < 18446744073709551616) (hq : q < 18446744073709551616) : ((keyOf p).toList == (keyOf q).toList) = decide (p = q) := by
  by_cases h : p = q
  · subst h; simp
  · have : ¬ (keyOf p).toList = (keyOf q).toList := fun e => h (key_inj p q hp hq (toList_inj e))
    simp [h, this]

theorem fits_small (n : Nat) (h : n < 18446744073709551616) : Fl.Fits n := Fl.Fits.mk h

end Go.Proofs.Ytoljhoabbaigdaa
