/- What label.Pack packs is read back: plain. -/
import Derived.Test.YtmcackghpkegbaaUp
import Derived.Test.YtmcackghpkegbaaPr
namespace Go.Proofs.Ytmcackghpkegbaa.labelPacks
open Go.ChangeShapes Go.WideShapes Go.RowKit Go.Proofs.Ytmcackghpkegbaa
set_option linter.unusedVariables false

/-! ### What is packed is read back, in plain words -/
def u8 (n : Int) : UInt8 := UInt8.ofNat n.toNat
theorem pack_list (l : List Int) : (packS l).data.toList = (La.packL l).map u8 := strOfNums_data _
theorem pack_size (l : List Int) : (packS l).size = 1 + 8 * l.length := by
  unfold packS; rw [strOfNums_size, La.packL_length]; omega
theorem app_list (a b : ByteArray) : (a ++ b).data.toList = a.data.toList ++ b.data.toList := by simp
theorem u8_of (x : Int) (h0 : 0 ≤ x) (h1 : x < 256) : ((u8 x).toNat : Int) = x := by
  unfold u8
  rw [UInt8.toNat_ofNat_of_lt' (show x.toNat < 256 by omega)]
  omega

theorem nb_be8 (y : Int) (h0 : 0 ≤ y) (h1 : y < 18446744073709551616) (r : List UInt8) : (nb ((La.be8 y).map u8 ++ r) 8 : Int) = y := by
  simp only [nb, La.be8, List.map_cons, List.map_nil, List.cons_append, List.nil_append, List.getD_cons_zero, List.getD_cons_succ]
  have e0 := u8_of (y / 72057594037927936 % 256) (by omega) (by omega)
  have e1 := u8_of (y / 281474976710656 % 256) (by omega) (by omega)
  have e2 := u8_of (y / 1099511627776 % 256) (by omega) (by omega)
  have e3 := u8_of (y / 4294967296 % 256) (by omega) (by omega)
  have e4 := u8_of (y / 16777216 % 256) (by omega) (by omega)
  have e5 := u8_of (y / 65536 % 256) (by omega) (by omega)
  have e6 := u8_of (y / 256 % 256) (by omega) (by omega)
  have e7 := u8_of (y % 256) (by omega) (by omega)
  generalize (u8 (y / 72057594037927936 % 256)).toNat = b0 at *
  generalize (u8 (y / 281474976710656 % 256)).toNat = b1 at *
  generalize (u8 (y / 1099511627776 % 256)).toNat = b2 at *
  generalize (u8 (y / 4294967296 % 256)).toNat = b3 at *
  generalize (u8 (y / 16777216 % 256)).toNat = b4 at *
  generalize (u8 (y / 65536 % 256)).toNat = b5 at *
  generalize (u8 (y / 256 % 256)).toNat = b6 at *
  generalize (u8 (y % 256)).toNat = b7 at *
  omega

theorem flat_drop : ∀ (l : List Int) (i : Nat), i < l.length → (La.flat l).drop (8 * i) = La.be8 (l.getD i 0) ++ La.flat (l.drop (i + 1))
  | [], i, h => by simp at h
  | x :: r, 0, _ => by simp [La.flat]
  | x :: r, i + 1, h => by
    have ih := flat_drop r i (by simpa using h)
    have e : La.flat (x :: r) = La.be8 x ++ La.flat r := by unfold La.flat; rw [List.flatMap_cons]
    rw [e, show 8 * (i + 1) = 8 + 8 * i by omega, ← List.drop_drop, List.drop_append, La.be8_length, show (La.be8 x).drop 8 = [] from rfl, List.nil_append, Nat.sub_self, List.drop_zero, ih]
    rfl

theorem tag_back (l : List Int) (s : ByteArray) (hu : La.U64 l) (i : Nat) (hi : i < l.length) : tagAt (packS l ++ s) i = l.getD i 0 := by
  unfold tagAt
  have hb := hu.get i hi
  have e : (packS l ++ s).data.toList.drop (1 + 8 * i) = (La.be8 (l.getD i 0)).map u8 ++ ((La.flat (l.drop (i + 1))).map u8 ++ s.data.toList) := by
    rw [app_list, pack_list, List.drop_append_of_le_length (by rw [List.length_map, La.packL_length]; omega), ← List.map_drop]
    unfold La.packL
    rw [show 1 + 8 * i = 8 * i + 1 by omega, List.drop_succ_cons, flat_drop l i hi, List.map_append, List.append_assoc]
  rw [e, nb_be8 _ hb.1 hb.2]

theorem tags_back (l : List Int) (s : ByteArray) (hu : La.U64 l) : tagsOf (packS l ++ s) l.length = l := by
  unfold tagsOf
  apply List.ext_getElem
  · simp
  · intro i h1 h2
    rw [List.getElem_map, List.getElem_range, tag_back l s hu i h2, List.getD, List.getElem?_eq_getElem h2]; rfl

theorem cnt_back (l : List Int) (s : ByteArray) (hl : l.length ≤ 6) : cnt (packS l ++ s) = l.length := by
  unfold cnt
  have e : (packS l ++ s).data.toList.getD 0 0 = u8 (l.length : Int) := by
    rw [app_list, pack_list]; unfold La.packL; rfl
  rw [e]
  have := u8_of (l.length : Int) (by omega) (by omega)
  omega

theorem back (l : List Int) (s : ByteArray) (hr : La.right l = true) (hu : La.U64 l) : upC (packS l ++ s) = 0 ∧ upN (packS l ++ s) = ((packS l).size : Int) ∧ upV (packS l ++ s) = l := by
  have hl := ((La.right_iff l).1 hr).1
  have hc := cnt_back l s hl
  have hsz : (packS l ++ s).size = (packS l).size + s.size := ByteArray.size_append
  have hp := pack_size l
  have h0 : upC (packS l ++ s) = 0 := by
    unfold upC
    rw [hc, if_neg (by omega), if_neg (by omega), if_neg (by omega), tags_back l s hu, hr]; rfl
  refine ⟨h0, ?_, ?_⟩
  · unfold upN; rw [h0, if_pos rfl, hc]; omega
  · unfold upV; rw [h0, if_pos rfl, hc, tags_back l s hu]

end Go.Proofs.Ytmcackghpkegbaa.labelPacks
