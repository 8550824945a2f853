/- label.Pack and the reference's Pack answer, walked. -/
import Derived.Test.YtmcackghpkegbaaLr
import Derived.Test.YtmcackghpkegbaaLk
import Derived.Test.YtmcackghpkegbaaOb
namespace Go.Proofs.Ytmcackghpkegbaa
open Go.RowKit

theorem cell_newb (w : World) (v : Value) (t : TypeId) : (w.alloc (.cells #[v] t)).cell? ⟨w.heap.size, 0, none⟩ = some v := by
  rw [World.cell?_alloc_at _ _ _ _ rfl]; rfl

/-- one more byte -/
theorem step_be {P0 : List Int} {y v : Int} {j : Nat} (hj : j < 8) (hv : v = (La.be8 y).getD j 0) : (P0 ++ (La.be8 y).take j) ++ [v] = P0 ++ (La.be8 y).take (j + 1) := by
  rw [La.be8_take_succ y j hj, hv, List.append_assoc]

/-- a label's bytes, as a string -/
def packS (zs : List Int) : ByteArray := strOfNums (La.packL zs)
def pkC (zs : List Int) : Int := if La.right zs then 0 else 1
def pkS (zs : List Int) : ByteArray := if La.right zs then packS zs else ⟨#[]⟩

theorem ret_sc {a b : ByteArray} {c d : Int} (h : a = b) (k : c = d) : Ending.returned (.tuple #[.string a, .int .i64 c]) = .returned (.tuple #[.string b, .int .i64 d]) := by rw [h, k]

set_option maxHeartbeats 1000000 in
set_option maxRecDepth 100000 in
/-- label.Pack -/
theorem lpack (A : Option Addr) (c : Nat) (zs : List Int) (w : World) (h : Sl w A zs) (hm : zs.length ≤ maxLen) (hu : La.U64 zs) :
    Calls Try.prog 52 #[.slice A zs.length c] w fun e w' => e = .returned (.tuple #[.string (pkS zs), .int .i64 (pkC zs)]) ∧ Below w.heap.size w w' := by
  have HM := Lib.hid hm
  have HS := Lib.hid h
  have U := Lib.hid hu
  clear hm h hu
  cases hr : La.right zs
  · have R := Lib.hid hr
    clear hr
    go_enter Try.func52, Try.ntmps52
    go_wp2_with fail
    refine (lright A c zs _ HS.out HM.out).mono ?_
    rintro e w' ⟨rfl, rfl⟩
    rw [R.out]
    go_wp2
    go_ret2
    refine ⟨ret_sc ?_ ?_, Below.refl _ _⟩
    · unfold pkS; rw [R.out]; rfl
    · unfold pkC; rw [R.out]; rfl
  · have hl6 : zs.length ≤ 6 := ((La.right_iff zs).1 hr).1
    have R := Lib.hid hr
    clear hr
    have hlb : IntKind.u8.wrap (zs.length : Int) = (zs.length : Int) := by rw [IntKind.wrap_u8]; omega
    go_enter Try.func52, Try.ntmps52
    go_wp2_with fail
    refine (lright A c zs _ HS.out HM.out).mono ?_
    rintro e w' ⟨rfl, rfl⟩
    rw [R.out]
    go_wp2
    go_loopw [4, 17] (fun vo vi wr => ∃ k : Nat, k ≤ zs.length ∧ vi = .int .i64 k ∧ Below w.heap.size w wr ∧ OwnB wr w.heap.size vo ((zs.length : Int) :: La.flat (zs.take k))) (fun _ vi _ => zs.length - (intOf vi).toNat)
    case atStart =>
      refine ⟨0, Nat.zero_le _, rfl, (Below.refl _ _).alloc (Nat.le_refl _) _, ?_⟩
      exact OwnB.made w w.heap.size (Nat.le_refl _) [(zs.length : Int)] (by simp [maxLen])
    case round =>
      obtain ⟨k, hk, rfl, hbel, hown⟩ := hrel
      have hsz := hbel.size
      have HB := Lib.hid hbel
      have HO := Lib.hid hown
      by_cases hlt : k < zs.length
      · obtain ⟨b, o, rfl, hb, hc⟩ := HS.out.at_ hlt
        have hck := (hbel.cell (p := ⟨b, o + k, none⟩) hb).trans (hc k hlt)
        have FT := Lib.hid (La.flat_take_succ zs k hlt)
        have hyu := U.out.get k hlt
        obtain ⟨y, hy⟩ : ∃ y, zs.getD k 0 = y := ⟨_, rfl⟩
        rw [hy] at hck hyu
        obtain ⟨hy0, hy1⟩ := hyu
        have Y := Lib.hid hy
        obtain ⟨P0, hP0⟩ : ∃ P0, P0 = (zs.length : Int) :: La.flat (zs.take k) := ⟨_, rfl⟩
        rw [← hP0] at hown
        have P0L : P0.length ≤ 100 := by rw [hP0, List.length_cons, La.flat_length, List.length_take]; omega
        have HP0 := Lib.hid hP0
        have HO0 := Lib.hid hown
        clear hc hy hbel hown hP0 hb
        go_wp2
        go_loopw [4, 7] (fun vo vi ws => ∃ j : Nat, j ≤ 8 ∧ vi = .int .i64 (7 - (j : Int)) ∧ Below w.heap.size w ws ∧ OwnB ws w.heap.size vo (P0 ++ (La.be8 y).take j)) (fun _ vi _ => (intOf vi + 1).toNat)
        case atStart => exact ⟨0, by omega, rfl, HB.out, by simpa using HO0.out⟩
        case round =>
          obtain ⟨j, hj, rfl, hbs, hos⟩ := hrel
          have hszs := hbs.size
          have HBS := Lib.hid hbs
          have HOS := Lib.hid hos
          clear hbs hos
          obtain ⟨J, hJ⟩ : ∃ J, J = j := ⟨_, rfl⟩
          have HJ := Lib.hid hJ
          clear hJ
          have hj9 : j = 0 ∨ j = 1 ∨ j = 2 ∨ j = 3 ∨ j = 4 ∨ j = 5 ∨ j = 6 ∨ j = 7 ∨ j = 8 := by omega
          rcases hj9 with rfl | rfl | rfl | rfl | rfl | rfl | rfl | rfl | rfl
          case inr.inr.inr.inr.inr.inr.inr.inr =>
            go_wp2
            go_roundw
            case rel =>
              refine ⟨k + 1, by omega, by go_num, HBS.out, ?_⟩
              have h9 := HOS.out
              rw [show (La.be8 y).take 8 = La.be8 y from rfl, HP0.out] at h9
              rw [FT.out, Y.out]
              simpa using h9
            case measure => simp [intOf]; omega
          case inl =>
            go_wp2_with (at_builtin; refine wp_put1b rfl (.tmp 25) (.tmp 31) rfl w.heap.size _ _ rfl (HOS.out.alloc _) _ _ rfl (cell_newb _ _ _) (by simp [La.be8]; omega) (by simp; omega) ?_; intro v1 w1 hown1 hb1; have HB1 := Lib.hid ((HBS.out.alloc hszs _).trans hb1); have HO1 := Lib.hid hown1; clear hb1 hown1)
            go_roundw
            case rel =>
              have hjv := HJ.out
              refine ⟨J + 1, by omega, by rw [hjv]; rfl, HB1.out, ?_⟩
              have h9 := HO1.out
              rw [step_be (by omega) (by simp only [La.be8, List.getD_cons_zero]; omega)] at h9
              rw [hjv]
              exact h9
            case measure => simp [intOf]
          all_goals
            go_wp2_with (at_builtin; refine wp_put1b rfl (.tmp 25) (.tmp 31) rfl w.heap.size _ _ rfl (HOS.out.alloc _) _ _ rfl (cell_newb _ _ _) (by simp [La.be8]; omega) (by simp; omega) ?_; intro v1 w1 hown1 hb1; have HB1 := Lib.hid ((HBS.out.alloc hszs _).trans hb1); have HO1 := Lib.hid hown1; clear hb1 hown1)
            go_roundw
            case rel =>
              have hjv := HJ.out
              refine ⟨J + 1, by omega, by rw [hjv]; rfl, HB1.out, ?_⟩
              have h9 := HO1.out
              rw [step_be (by omega) (by simp only [La.be8, List.getD_cons_zero, List.getD_cons_succ])] at h9
              rw [hjv]
              exact h9
            case measure => simp [intOf]
      · clear hbel hown
        have hkk : k = zs.length := by omega
        have e1 : ((zs.length : Int) :: La.flat (zs.take k)) = La.packL zs := by rw [hkk, List.take_length]; rfl
        have h9 := HO.out
        rw [e1] at h9
        obtain ⟨Ao, co, rfl, _, _, _, _⟩ := h9.form
        have hcv := conv_own h9 (by rw [La.packL_length]; omega)
        obtain ⟨PL, hPL⟩ : ∃ PL, PL = (La.packL zs).length := ⟨_, rfl⟩
        rw [← hPL] at hcv ⊢
        have KK := Lib.hid hkk
        clear e1 h9 hPL hkk
        go_wp2
        go_ret2
        refine ⟨ret_sc ?_ ?_, HB.out⟩
        · unfold pkS; rw [R.out]; rfl
        · unfold pkC; rw [R.out]; rfl

end Go.Proofs.Ytmcackghpkegbaa
