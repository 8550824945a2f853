/- The reference's Pack answers, walked. -/
import Derived.Test.YtmcackghpkegbaaPk
import Derived.Deep.OwnRows
namespace Go.Proofs.Ytmcackghpkegbaa
open Go.RowKit

/-- the eight bytes while they are filled from behind: j of them are there -/
def fill8 (y : Int) (j : Nat) : List Int := (List.range 8).map (fun i => if 8 ≤ i + j then (La.be8 y).getD i 0 else 0)
theorem fill8_zero (y : Int) : fill8 y 0 = List.replicate 8 0 := rfl
theorem fill8_all (y : Int) : fill8 y 8 = La.be8 y := rfl
theorem fill8_length (y : Int) (j : Nat) : (fill8 y j).length = 8 := by simp [fill8]
theorem fill8_set (y : Int) (j K : Nat) (h : K + j = 7) : (fill8 y j).set K ((La.be8 y).getD K 0) = fill8 y (j + 1) := by
  unfold fill8
  apply List.ext_getElem
  · simp
  · intro i h1 h2
    simp only [List.getElem_set, List.getElem_map, List.getElem_range]
    by_cases c : K = i
    · subst c; rw [if_pos rfl, if_pos (by omega)]
    · rw [if_neg c]
      by_cases d : 8 ≤ i + j
      · rw [if_pos d, if_pos (by omega)]
      · rw [if_neg d, if_neg (by omega)]
theorem be8_get (y : Int) (j K : Nat) (h : K + j = 7) : (La.be8 y).getD K 0 = y / 256 ^ j % 256 := by
  have hj : j = 0 ∨ j = 1 ∨ j = 2 ∨ j = 3 ∨ j = 4 ∨ j = 5 ∨ j = 6 ∨ j = 7 := by omega
  rcases hj with rfl | rfl | rfl | rfl | rfl | rfl | rfl | rfl
  · obtain rfl : K = 7 := by omega
    simp [La.be8]
  · obtain rfl : K = 6 := by omega
    simp [La.be8]
  · obtain rfl : K = 5 := by omega
    simp [La.be8]
  · obtain rfl : K = 4 := by omega
    simp [La.be8]
  · obtain rfl : K = 3 := by omega
    simp [La.be8]
  · obtain rfl : K = 2 := by omega
    simp [La.be8]
  · obtain rfl : K = 1 := by omega
    simp [La.be8]
  · obtain rfl : K = 0 := by omega
    simp [La.be8]
theorem div_step (y : Int) (j : Nat) : y / 256 ^ j / 256 = y / 256 ^ (j + 1) := by
  rw [Int.ediv_ediv_of_nonneg (Int.pow_nonneg (by omega)), Int.pow_succ]

theorem heap_setb (w : World) (g i : Nat) (zs : List Int) (x : Int) (h : w.heap[g]? = some (.cells (zs.map (Value.int .u8)).toArray 5 (0, 0))) :
    (w.setCell ⟨g, i, none⟩ (.int .u8 x)).heap[g]? = some (.cells ((zs.set i x).map (Value.int .u8)).toArray 5 (0, 0)) := by
  simp [World.setCell, Array.getElem?_modify, h]

set_option maxHeartbeats 1000000 in
set_option maxRecDepth 100000 in
/-- cloisonneref02.Pack -/
theorem rpack (A : Option Addr) (c : Nat) (zs : List Int) (w : World) (h : Sl w A zs) (hm : zs.length ≤ 60) (hu : La.U64 zs) :
    Calls Try.prog 38 #[.slice A zs.length c] w fun e w' => e = .returned (.string (packS zs)) ∧ Below w.heap.size w w' := by
  have HS := Lib.hid h
  have U := Lib.hid hu
  clear h hu
  have hlb : IntKind.u8.wrap (zs.length : Int) = (zs.length : Int) := by rw [IntKind.wrap_u8]; omega
  have hmk : ∀ W : World, (Instr.makeSlice 48 (.int .i64 8) (.int .i64 8)).run Try.prog W = .ok (.slice (some ⟨W.heap.size, 0, none⟩) 8 8) (W.alloc (.cells ((List.replicate 8 (0 : Int)).map (Value.int .u8)).toArray 5)) := fun W => by
    have h := run_make_row' (P := Try.prog) 48 5 (.int .u8 0) 1 Try.underlying48 infoB rfl .i64 .i64 8 (by omega) (by omega) W
    rw [show ((8 : Nat) : Int) = 8 from rfl] at h
    rw [h]
    congr 3
    apply Array.ext'
    rw [toList_madeCells_one]
    simp
  obtain ⟨R0, hR0⟩ : ∃ R0 : Array Value, R0 = ((List.replicate 8 (0 : Int)).map (Value.int .u8)).toArray := ⟨_, rfl⟩
  rw [← hR0] at hmk
  have HR0 := Lib.hid hR0
  clear hR0
  go_enter Try.func38, Try.ntmps38
  go_wp2_with fail
  go_loopw [3, 4] (fun vo vi wr => ∃ k : Nat, k ≤ zs.length ∧ vi = .int .i64 k ∧ Below w.heap.size w wr ∧ OwnB wr w.heap.size vo ((zs.length : Int) :: La.flat (zs.take k))) (fun _ vi _ => zs.length - (intOf vi).toNat)
  case atStart =>
    refine ⟨0, Nat.zero_le _, rfl, (Below.refl _ _).alloc (Nat.le_refl _) _, ?_⟩
    exact OwnB.made w w.heap.size (Nat.le_refl _) [(zs.length : Int)] (by simp [maxLen])
  case round =>
    obtain ⟨k, hk, rfl, hbel, hown⟩ := hrel
    obtain ⟨wo, hwo⟩ : ∃ wo, wo = wr := ⟨_, rfl⟩
    subst hwo
    have hsz := hbel.size
    have HB := Lib.hid hbel
    have HO := Lib.hid hown
    by_cases hlt : k < zs.length
    · obtain ⟨b, o, rfl, hb, hc⟩ := HS.out.at_ hlt
      have hckw := hc k hlt
      have hck : ∀ obj, (wo.alloc obj).cell? ⟨b, o + k, none⟩ = some (.int .u64 (zs.getD k 0)) := fun obj => ((hbel.alloc hsz obj).cell (p := ⟨b, o + k, none⟩) hb).trans hckw
      have FT := Lib.hid (La.flat_take_succ zs k hlt)
      have hyu := U.out.get k hlt
      obtain ⟨y, hy⟩ : ∃ y, zs.getD k 0 = y := ⟨_, rfl⟩
      rw [hy] at hyu hckw
      rw [hy] at hck
      obtain ⟨hy0, hy1⟩ := hyu
      have Y := Lib.hid hy
      obtain ⟨P0, hP0⟩ : ∃ P0, P0 = (zs.length : Int) :: La.flat (zs.take k) := ⟨_, rfl⟩
      rw [← hP0] at hown
      have P0L : P0.length ≤ 1000 := by rw [hP0, List.length_cons, La.flat_length, List.length_take]; omega
      have HP0 := Lib.hid hP0
      have HO0 := Lib.hid hown
      clear hc hy hbel hown hP0 hb hckw
      go_wp2_with fail
      obtain ⟨g, hg⟩ : ∃ g, g = wo.heap.size := ⟨_, rfl⟩
      have hr0 : (wo.alloc (.cells R0 5)).heap[wo.heap.size]? = some (.cells ((fill8 y 0).map (Value.int .u8)).toArray 5 (0, 0)) := by rw [heap_alloc_new, HR0.out, fill8_zero]
      have hb0 : Below wo.heap.size wo (wo.alloc (.cells R0 5)) := (Below.refl _ _).alloc (Nat.le_refl _) _
      have HR := Lib.hid hr0
      have HB0 := Lib.hid hb0
      have HG := Lib.hid hg
      rw [← hg] at HR
      clear hr0 hb0 hck
      rw [← hg]
      clear hg
      go_loopw [6, 7] (fun vt vk ws => ∃ (j : Nat) (t z : Int), vt = .int .u64 t ∧ vk = .int .i64 z ∧ 0 ≤ t ∧ t < 18446744073709551616 ∧ z ≤ 7 - (j : Int) ∧ 7 - (j : Int) ≤ z ∧ j ≤ 8 ∧ Hid (t = y / 256 ^ j) ∧
        Hid (ws.heap[g]? = some (.cells ((fill8 y j).map (Value.int .u8)).toArray 5 (0, 0))) ∧ Hid (Below wo.heap.size wo ws)) (fun _ vk _ => (intOf vk + 1).toNat)
      case atStart => exact ⟨0, y, 7, rfl, rfl, hy0, hy1, by omega, by omega, by omega, (by rw [Int.pow_zero, Int.ediv_one] : y = y / 256 ^ 0), HR, HB0⟩
      case round =>
        obtain ⟨j, t, z, rfl, rfl, t0, t1, z0, z1, hj8, T, R, BB⟩ := hrel
        by_cases hz : 0 ≤ z
        · obtain ⟨K, rfl⟩ := Int.eq_ofNat_of_zero_le hz
          have hKj : K + j = 7 := by omega
          have hb1 : IntKind.u8.wrap (t % 256) = t % 256 := by rw [IntKind.wrap_u8]; omega
          have hcell : wr.cell? ⟨g, K, none⟩ = some (.int .u8 ((fill8 y j).getD K 0)) := by
            rw [cell_of_row wr g K _ 5 (0, 0) R.out]
            have : K < (fill8 y j).length := by rw [fill8_length]; omega
            simp [List.getD, this]
          have hfrz : wr.frozen? ⟨g, K, none⟩ = false := by simp [World.frozen?, R.out]
          obtain ⟨u, hu⟩ : ∃ u, (fill8 y j).getD K 0 = u := ⟨_, rfl⟩
          rw [hu] at hcell
          have HS1 := Lib.hid (heap_setb wr g K _ (t % 256) R.out)
          have BS := Lib.hid (BB.out.setCell (p := ⟨g, K, none⟩) (by rw [HG.out]; exact Nat.le_refl _) (.int .u8 (t % 256)))
          have FS := Lib.hid (fill8_set y j K hKj)
          have BG := Lib.hid (be8_get y j K hKj)
          have DV := Lib.hid (div_step y j)
          have KJ := Lib.hid hKj
          clear hu hKj hz
          go_wp2
          go_roundw
          case rel =>
            refine ⟨j + 1, t / 256, (K : Int) - 1, by first | rfl | go_num, by first | rfl | go_num, by omega, by omega, by omega, by omega, by omega, ?_, ?_, BS.out⟩
            · show _ = _
              rw [T.out]; exact DV.out
            · have h9 := HS1.out
              rw [show (fill8 y j).set K (t % 256) = fill8 y (j + 1) by rw [T.out, ← BG.out]; exact FS.out] at h9
              exact h9
          case measure => simp [intOf]
        · have hj : j = 8 := by omega
          subst hj
          have R8 : Hid (wr.heap[g]? = some (.cells ((La.be8 y).map (Value.int .u8)).toArray 5 (0, 0))) := by
            have h9 := R.out
            rw [fill8_all] at h9
            exact h9
          have hgl : g < wr.heap.size := by
            rcases Nat.lt_or_ge g wr.heap.size with c | c
            · exact c
            · have h9 := R8.out
              rw [Array.getElem?_eq_none c] at h9; cases h9
          have SX : Hid (SlB wr (some ⟨g, 0, none⟩) (La.be8 y)) := fun _ => by
            refine ⟨g, 0, rfl, hgl, fun i hi => ?_⟩
            rw [Nat.zero_add, cell_of_row wr g i _ 5 (0, 0) R8.out]
            simp [List.getD, hi]
          have OP := Lib.hid (HO0.out.below BB.out)
          have BW := Lib.hid (HB.out.trans (BB.out.mono hsz))
          have hws := BW.out.size
          go_wp2_with (at_builtin; refine wp_putNb rfl (.tmp 35) (.tmp 36) rfl w.heap.size _ P0 rfl OP.out (some ⟨g, 0, none⟩) 8 (La.be8 y) rfl SX.out (fun e => by cases e) (by rw [La.be8_length]; omega) hws ?_; intro v1 w1 hown1 hb1; have HB1 := Lib.hid (BW.out.trans hb1); have HO1 := Lib.hid hown1; clear hb1 hown1)
          go_roundw
          case rel =>
            refine ⟨k + 1, by omega, by go_num, HB1.out, ?_⟩
            have h9 := HO1.out
            rw [HP0.out] at h9
            rw [FT.out, Y.out]
            simpa using h9
          case measure => simp [intOf]; omega
    · clear hbel hown
      have hkk : k = zs.length := by omega
      have e1 : ((zs.length : Int) :: La.flat (zs.take k)) = La.packL zs := by rw [hkk, List.take_length]; rfl
      have h9 := HO.out
      rw [e1] at h9
      obtain ⟨Ao, co, rfl, _, _, _, _⟩ := h9.form
      have hcv := conv_own h9 (by rw [La.packL_length]; omega)
      obtain ⟨PL, hPL⟩ : ∃ PL, PL = (La.packL zs).length := ⟨_, rfl⟩
      rw [← hPL] at hcv ⊢
      have KK := Lib.hid hkk
      clear e1 h9 hPL hkk
      go_wp2
      go_ret
      exact ⟨rfl, HB.out⟩

end Go.Proofs.Ytmcackghpkegbaa
