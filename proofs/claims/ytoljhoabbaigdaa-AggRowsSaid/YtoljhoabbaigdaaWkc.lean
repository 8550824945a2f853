/- What each function of layer 1 and of its reference answers, walked: numbers of keys. -/
import Derived.Test.YtoljhoabbaigdaaWkb
import Derived.Laws.BitsLemmas
namespace Go.Proofs.Ytoljhoabbaigdaa
open Go.RowKit

/-- the number that the first k bytes spell -/
def numTo (s : ByteArray) : Nat → Nat
  | 0 => 0
  | k + 1 => numTo s k * 256 + (s.data.toList.getD k 0).toNat

theorem numTo_lt (s : ByteArray) : ∀ k, numTo s k < 256 ^ k
  | 0 => by simp [numTo]
  | k + 1 => by
    have h1 := numTo_lt s k
    have h2 : (s.data.toList.getD k 0).toNat < 256 := UInt8.toNat_lt _
    rw [numTo, Nat.pow_succ]; omega

/-- what num.Unkey, and the reference's, tells of eight bytes -/
def unB (s : ByteArray) : Nat := if numTo s 8 ≤ Fl.NANP then Fl.atB (numTo s 8) else 0
def unE (s : ByteArray) : Int := if numTo s 8 ≤ Fl.NANP then 0 else 4
def unOk (s : ByteArray) : Bool := decide (numTo s 8 ≤ Fl.NANP)

theorem keyOf_size (p : Nat) : (keyOf p).size = 8 := by unfold keyOf; rw [strOfNums_size]; rfl

theorem u8_of (x : Int) (h0 : 0 ≤ x) (h1 : x < 256) : (UInt8.ofNat x.toNat).toNat = x.toNat := by
  rw [UInt8.toNat_ofNat_of_lt']
  show x.toNat < 256
  omega

theorem dm (x : Nat) : x = 256 * (x / 256) + x % 256 ∧ x % 256 < 256 := by omega

theorem numTo_keyOf (p : Nat) (hp : p < 18446744073709551616) : numTo (keyOf p) 8 = p := by
  have e : (keyOf p).data.toList = (keyNums p).map fun n => UInt8.ofNat n.toNat := strOfNums_data _
  simp only [numTo, e, keyNums, List.map_cons, List.getD_cons_zero, List.getD_cons_succ, List.map_nil]
  rw [u8_of _ (by omega) (by omega), u8_of _ (by omega) (by omega), u8_of _ (by omega) (by omega), u8_of _ (by omega) (by omega), u8_of _ (by omega) (by omega), u8_of _ (by omega) (by omega), u8_of _ (by omega) (by omega), u8_of _ (by omega) (by omega)]
  have f : ∀ n : Nat, ((p : Int) / n % 256).toNat = p / n % 256 := by
    intro n; rw [← Int.natCast_ediv]; omega
  have f0 : ((p : Int) % 256).toNat = p % 256 := by omega
  rw [show ((p : Int) / 72057594037927936 % 256).toNat = p / 72057594037927936 % 256 from f 72057594037927936, show ((p : Int) / 281474976710656 % 256).toNat = p / 281474976710656 % 256 from f 281474976710656, show ((p : Int) / 1099511627776 % 256).toNat = p / 1099511627776 % 256 from f 1099511627776, show ((p : Int) / 4294967296 % 256).toNat = p / 4294967296 % 256 from f 4294967296, show ((p : Int) / 16777216 % 256).toNat = p / 16777216 % 256 from f 16777216, show ((p : Int) / 65536 % 256).toNat = p / 65536 % 256 from f 65536, show ((p : Int) / 256 % 256).toNat = p / 256 % 256 from f 256, f0]
  have e2 : p / 65536 = p / 256 / 256 := by rw [Nat.div_div_eq_div_mul]
  have e3 : p / 16777216 = p / 65536 / 256 := by rw [Nat.div_div_eq_div_mul]
  have e4 : p / 4294967296 = p / 16777216 / 256 := by rw [Nat.div_div_eq_div_mul]
  have e5 : p / 1099511627776 = p / 4294967296 / 256 := by rw [Nat.div_div_eq_div_mul]
  have e6 : p / 281474976710656 = p / 1099511627776 / 256 := by rw [Nat.div_div_eq_div_mul]
  have e7 : p / 72057594037927936 = p / 281474976710656 / 256 := by rw [Nat.div_div_eq_div_mul]
  have e8 : p / 72057594037927936 < 256 := by omega
  have g0 := dm p
  have g1 := dm (p / 256)
  have g2 := dm (p / 65536)
  have g3 := dm (p / 16777216)
  have g4 := dm (p / 4294967296)
  have g5 := dm (p / 1099511627776)
  have g6 := dm (p / 281474976710656)
  rw [← e2] at g1
  rw [← e3] at g2
  rw [← e4] at g3
  rw [← e5] at g4
  rw [← e6] at g5
  rw [← e7] at g6
  have g7 : p / 72057594037927936 % 256 = p / 72057594037927936 := Nat.mod_eq_of_lt e8
  rw [g7]
  clear e2 e3 e4 e5 e6 e7 g7 f f0 e hp
  generalize p / 72057594037927936 = q7 at *
  generalize p / 281474976710656 % 256 = r6 at *
  generalize p / 281474976710656 = q6 at *
  generalize p / 1099511627776 % 256 = r5 at *
  generalize p / 1099511627776 = q5 at *
  generalize p / 4294967296 % 256 = r4 at *
  generalize p / 4294967296 = q4 at *
  generalize p / 16777216 % 256 = r3 at *
  generalize p / 16777216 = q3 at *
  generalize p / 65536 % 256 = r2 at *
  generalize p / 65536 = q2 at *
  generalize p / 256 % 256 = r1 at *
  generalize p / 256 = q1 at *
  generalize p % 256 = r0 at *
  omega

theorem keyOf_numTo (s : ByteArray) (hs : s.size = 8) : keyOf (numTo s 8) = s := by
  have hl : s.data.toList.length = 8 := by simpa using hs
  have hd : s = ⟨s.data.toList.toArray⟩ := by cases s; simp
  generalize hq : s.data.toList = l at *
  match l, hl with
  | [a0, a1, a2, a3, a4, a5, a6, a7], _ =>
    have b0 := UInt8.toNat_lt a0
    have b1 := UInt8.toNat_lt a1
    have b2 := UInt8.toNat_lt a2
    have b3 := UInt8.toNat_lt a3
    have b4 := UInt8.toNat_lt a4
    have b5 := UInt8.toNat_lt a5
    have b6 := UInt8.toNat_lt a6
    have b7 := UInt8.toNat_lt a7
    have hn : numTo s 8 = ((((((a0.toNat * 256 + a1.toNat) * 256 + a2.toNat) * 256 + a3.toNat) * 256 + a4.toNat) * 256 + a5.toNat) * 256 + a6.toNat) * 256 + a7.toNat := by
      simp only [numTo, hq, List.getD_cons_zero, List.getD_cons_succ]; omega
    rw [hn, hd]
    unfold keyOf strOfNums keyNums
    have st : ∀ (a : UInt8) (x : Int), x = a.toNat → UInt8.ofNat x.toNat = a := by
      intro a x h; subst h; simp
    simp only [List.map_cons, List.map_nil]
    rw [st a0 _ (by omega), st a1 _ (by omega), st a2 _ (by omega), st a3 _ (by omega), st a4 _ (by omega), st a5 _ (by omega), st a6 _ (by omega), st a7 _ (by omega)]

end Go.Proofs.Ytoljhoabbaigdaa
