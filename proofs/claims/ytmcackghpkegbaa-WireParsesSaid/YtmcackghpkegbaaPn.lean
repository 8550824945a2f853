/- wire.printNumber answers, walked. -/
import Derived.Test.YtmcackghpkegbaaKb
import Derived.Test.YtmcackghpkegbaaKi
namespace Go.Proofs.Ytmcackghpkegbaa
open Go.RowKit

theorem nums_numsS (s : ByteArray) : numsS s = nums s := rfl
theorem numsS_strOfNums {zs : List Int} (h : B256 zs) : numsS (strOfNums zs) = zs := numsS_strOfNums' h
theorem or128 (m : Nat) (h : m < 256) : bits .or .u8 (m : Int) 128 = ((m % 128 + 128 : Nat) : Int) := by
  have h2 : ∀ m : Fin 256, bits .or .u8 ((m.val : Nat) : Int) 128 = ((m.val % 128 + 128 : Nat) : Int) := by decide +kernel
  exact h2 ⟨m, h⟩

theorem cell_newk (w : World) (v : Value) (t : TypeId) : (w.alloc (.cells #[v] t)).cell? ⟨w.heap.size, 0, none⟩ = some v := by
  rw [World.cell?_alloc_at _ _ _ _ rfl]; rfl

theorem cell_new2 (w : World) (o : Obj) (v : Value) (t : TypeId) : ((w.alloc o).alloc (.cells #[v] t)).cell? ⟨w.heap.size + 1, 0, none⟩ = some v := by
  rw [World.cell?_alloc_at _ _ _ _ (by simp)]; rfl

set_option maxRecDepth 100000 in
set_option maxHeartbeats 1000000 in
/-- wire.printNumber -/
theorem lprintNumber (B : Nat) (v : Value) (zs : List Int) (n : Nat) (w : World) (ho : OwnB w B v zs) (hB : B ≤ w.heap.size) (hz : zs.length ≤ 1000000) (hn : n < 18446744073709551616) :
    Calls Try.prog 34 #[v, .int .u64 (n : Int)] w (PutB B w v (zs ++ leb n)) := by
  have HO := Lib.hid ho
  have HN := Lib.hid hn
  clear ho hn
  go_enter Try.func34, Try.ntmps34
  go_wp2_with fail
  go_loopw [0, 1] (fun vo vn wr => ∃ (m : Nat) (ds : List Int), vn = .int .u64 (m : Int) ∧ Hid (m < 18446744073709551616) ∧ ds.length ≤ 10 ∧ Hid (leb n = ds ++ leb m) ∧ Hid (OwnB wr B vo (zs ++ ds)) ∧ Hid (w.grownBy wr v.ownBlock) ∧ Hid (Fresh w v vo)) (fun _ vn _ => (intOf vn).toNat)
  case atStart => exact ⟨n, [], rfl, HN.out, by simp, rfl, Lib.hid (by simpa using HO.out), World.grownBy.refl _ _, Fresh.refl _ _⟩
  case round =>
    obtain ⟨m, ds, rfl, HM, hd, HL, HW, HG, HF⟩ := hrel
    have hsz := HG.out.size
    have m0 : (0 : Int) ≤ (m : Int) := by omega
    by_cases hlt : 128 ≤ m
    · have HB := Lib.hid (leb_big hlt)
      have hwr : IntKind.u8.wrap (m : Int) = ((m % 256 : Nat) : Int) := by rw [IntKind.wrap_u8]; omega
      have hor := or128 (m % 256) (by omega)
      have HWR := Lib.hid hwr
      have HOR := Lib.hid hor
      have hzd : (zs ++ ds).length ≤ 1000100 := by rw [List.length_append]; omega
      obtain ⟨zd, hzd2⟩ : ∃ zd, zd = zs ++ ds := ⟨_, rfl⟩
      rw [← hzd2] at HW hzd
      have HZD := Lib.hid hzd2
      have hdl : ds.length < 10 := by
        have h1 := leb_len64 HN.out
        rw [HL.out, List.length_append] at h1
        have h2 : 0 < (leb m).length := by rw [HB.out]; simp
        omega
      clear hzd2 hwr hor
      go_wp2_with (at_builtin; refine wp_put1k rfl (.tmp 9) (.tmp 13) rfl B _ _ rfl (HW.out.alloc _) _ _ rfl (cell_newk _ _ _) (by omega) (by simp; omega) ?_; intro v1 w1 hown1 hg1 hf1; have HO1 := Lib.hid hown1; have HG1 := Lib.hid hg1; have HF1 := Lib.hid hf1; clear hown1 hg1 hf1)
      go_roundw
      case rel =>
        refine ⟨m / 128, ds ++ [((m % 128 + 128 : Nat) : Int)], by go_num, Lib.hid (by have := HM.out; omega), by rw [List.length_append]; simp; omega, ?_, ?_, ?_, ?_⟩
        · rw [HL.out, HB.out, List.append_assoc]; exact rfl
        · have h9 := HO1.out
          rw [show (m : Int) % 256 = ((m % 256 : Nat) : Int) by omega, HOR.out, HZD.out, List.append_assoc, show m % 256 % 128 = m % 128 by omega] at h9
          exact h9
        · exact grown_then HG.out HF.out (grown_of_below ((Below.refl _ _).alloc (Nat.le_refl _) _) HG1.out)
        · exact HF.out.trans (HF1.out.before (by simp)) HG.out.size
      case measure => simp [intOf]; omega
    · have HB := Lib.hid (leb_small (n := m) (by omega))
      have hzd : (zs ++ ds).length ≤ 1000100 := by rw [List.length_append]; omega
      obtain ⟨zd, hzd2⟩ : ∃ zd, zd = zs ++ ds := ⟨_, rfl⟩
      rw [← hzd2] at HW hzd
      have HZD := Lib.hid hzd2
      have hm8 : m < 128 := by omega
      clear hzd2 hlt
      go_wp2_with (at_builtin; refine wp_put1k rfl (.tmp 15) (.tmp 18) rfl B _ _ rfl (HW.out.alloc _) _ _ rfl (cell_newk _ _ _) (by omega) (by simp; omega) ?_; intro v1 w1 hown1 hg1 hf1; have HO1 := Lib.hid hown1; have HG1 := Lib.hid hg1; have HF1 := Lib.hid hf1; clear hown1 hg1 hf1)
      go_ret
      refine ⟨v1, rfl, ?_, ?_, ?_⟩
      · have h9 := HO1.out
        rw [HZD.out, List.append_assoc] at h9
        rw [HL.out, HB.out]
        exact h9
      · exact grown_then HG.out HF.out (grown_of_below ((Below.refl _ _).alloc (Nat.le_refl _) _) HG1.out)
      · exact HF.out.trans (HF1.out.before (by simp)) HG.out.size

end Go.Proofs.Ytmcackghpkegbaa
