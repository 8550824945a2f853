/- floats, awake, Rows, Numbers: walked. -/
import Derived.Test.YtoljhoabbaigdaaI1r
namespace Go.Proofs.Ytoljhoabbaigdaa
open Go.RowKit Ex Fl Ag Ieee
attribute [local go_sem] Oper.semAt_some

/-- numbers of bits -/
def fls (zs : List Int) : List Nat := zs.map Int.toNat
theorem fls_fits {zs : List Int} (h : La.U64 zs) : AllFits (fls zs) := fun z hz => by
  obtain ⟨x, hx, rfl⟩ := List.mem_map.1 hz
  have := h x hx
  exact Fits.mk (by omega)
theorem cell_newF (w : World) (x : Nat) (t : TypeId) : (w.alloc (.cells #[.float .f64 x] t)).cell? ⟨w.heap.size, 0, none⟩ = some (.float .f64 x) :=
  (RowAt.new w [.float .f64 x] t).cell 0

set_option maxRecDepth 100000 in
set_option maxHeartbeats 2000000 in
/-- floats -/
theorem xFloats (zs : List Int) (A : Option Addr) (c : Nat) (w : World) (h : Sl w A zs) (hl : zs.length ≤ 1000) :
    Calls Try.prog 8 #[.slice A zs.length c] w fun e w' => (∃ A' c', e = .returned (.slice A' (fls zs).length c') ∧ SlF w' A' (fls zs) ∧ (fls zs).length ≤ c' ∧ (A' = none → fls zs = [] ∧ c' = 0)) ∧ Below w.heap.size w w' := by
  obtain ⟨n, hn⟩ : ∃ n, n = zs.length := ⟨_, rfl⟩
  have HN := Lib.hid hn
  have HNF := Lib.hid (show n = (fls zs).length by unfold fls; rw [List.length_map, hn])
  have HS := Lib.hid h
  have hl' : n ≤ 1000 := by omega
  have SN := Lib.hid (fun i (hi : i < n) => show (fls zs).take (i + 1) = (fls zs).take i ++ [(zs.getD i 0).toNat] by
    rw [take_snoc (by rw [← HNF.out]; exact hi)]
    unfold fls
    rw [List.getD_eq_getElem?_getD, List.getD_eq_getElem?_getD, List.getElem?_map, List.getElem?_eq_getElem (show i < zs.length by omega)]
    rfl)
  rw [← hn]
  clear hn h hl
  go_enter Try.func8, Try.ntmps8
  go_wp2_with fail
  have O0 := Lib.hid (OwnF.made w w.heap.size (Nat.le_refl _) [] (by decide))
  have B0 := Lib.hid ((Below.refl w.heap.size w).alloc (Nat.le_refl _) (.cells #[] 36))
  go_loopw [3, 4] (fun vl vi wr => ∃ j : Nat, j ≤ n ∧ vi = .int .i64 j ∧ Hid (OwnF wr w.heap.size vl ((fls zs).take j)) ∧ Hid (Below w.heap.size w wr)) (fun _ vi _ => n - (intOf vi).toNat)
  case atStart => exact ⟨0, Nat.zero_le _, rfl, O0, B0⟩
  case round =>
    obtain ⟨j, hj, rfl, HO, HB⟩ := hrel
    by_cases q : j < n
    · obtain ⟨b, o, rfl, hb, hcj⟩ := (HS.out.below HB.out).at_ (k := j) (by rw [← HN.out]; exact q)
      have cj := hcj j (by rw [← HN.out]; exact q)
      have SJ := Lib.hid (SN.out j q)
      obtain ⟨y, hy⟩ : ∃ y, y = zs.getD j 0 := ⟨_, rfl⟩
      rw [← hy] at cj SJ
      have i5 : (0 : Int) ≤ (j : Int) := by omega
      have i6 : (j : Int) < (n : Int) := by omega
      have hsz := HB.out.size
      have LL := Lib.hid (show ((fls zs).take j).length ≤ 1000 by rw [List.length_take]; omega)
      obtain ⟨z, hz⟩ : ∃ z, z = y.toNat := ⟨_, rfl⟩
      have hz' := hz.symm
      rw [← hz] at SJ
      clear hcj hy hb hz
      go_wp2_with (at_builtin; refine wp_put1F rfl (.tmp 12) (.tmp 18) rfl w.heap.size _ _ rfl (HO.out.alloc _) _ z rfl (cell_newF _ _ _) (by have := LL.out; omega) (by simp; omega) ?_; intro v3 w3 hown3 hb3; have HO3 := Lib.hid hown3; have HB3 := Lib.hid ((HB.out.alloc hsz _).trans hb3); clear hown3 hb3)
      go_roundw
      case rel => exact ⟨j + 1, by omega, by go_num, Lib.hid (by rw [SJ.out]; exact HO3.out), HB3⟩
      case measure => simp [intOf]; omega
    · obtain rfl : j = n := by omega
      have own2 := HO.out
      rw [show (fls zs).take j = fls zs from List.take_of_length_le (by rw [← HNF.out]; exact Nat.le_refl _)] at own2
      obtain ⟨A3, c3, rfl, k3, s3, n3, _⟩ := own2.form
      have S3 := Lib.hid s3
      have K3 := Lib.hid k3
      have N3 := Lib.hid n3
      clear own2 s3 k3 n3
      go_wp2_with fail
      go_ret
      exact ⟨⟨A3, c3, rfl, S3.out, K3.out, fun e => ⟨(N3.out e).2, (N3.out e).1⟩⟩, HB.out⟩

theorem mNaN15 (w : World) : Calls Try.prog 21 #[] w fun e w' => e = .returned (.float .f64 9221120237041090561) ∧ w = w' := by
  go_enter Try.func21, Try.ntmps21
  go_wp2_with fail
  go_ret
  exact ⟨rfl, rfl⟩
theorem awk15 : tal [4607182418800017408, 9221120237041090561] = .agg #[.int .i64 2, .int .u64 9221120237041090561, .int .u64 4607182418800017408, .int .u64 9221120237041090561, .int .u64 9221120237041090561] := by
  have e1 : sm [4607182418800017408, 9221120237041090561] = 9221120237041090561 := by decide +kernel
  have e2 : bitsOf (lst [4607182418800017408, 9221120237041090561]) = 4607182418800017408 := by decide +kernel
  have e3 : bitsOf (mst [4607182418800017408, 9221120237041090561]) = 9221120237041090561 := by decide +kernel
  have e4 : mean [4607182418800017408, 9221120237041090561] = 9221120237041090561 := by decide +kernel
  unfold tal
  rw [if_neg (by simp), e1, e2, e3, e4]
  rfl
theorem slF_two (w : World) (x y : Nat) (t : TypeId) : SlF (w.alloc (.cells #[.float .f64 x, .float .f64 y] t)) (some ⟨w.heap.size, 0, none⟩) [x, y] := fun _ => by
  have r := RowAt.new w [.float .f64 x, .float .f64 y] t
  refine ⟨w.heap.size, 0, rfl, r.lt, fun j hj => ?_⟩
  rw [Nat.zero_add]
  match j, hj with
  | 0, _ => exact r.cell 0
  | 1, _ => exact r.cell 1

set_option maxRecDepth 100000 in
set_option maxHeartbeats 2000000 in
theorem awake15 (w : World) : Calls Try.prog 7 #[] w fun e w' => e = .returned (.bool true) ∧ Below w.heap.size w w' := by
  have TW := Lib.hid (fun W => slF_two W 4607182418800017408 9221120237041090561 36)
  have XO := Lib.hid (fun A c W (h : SlF W A [4607182418800017408, 9221120237041090561]) => xOf15 [4607182418800017408, 9221120237041090561] A c W h (fun z hz => by
    simp at hz
    rcases hz with rfl | rfl
    · exact Fits.mk (by decide)
    · exact Fits.mk (by decide)) (by decide))
  rw [awk15] at XO
  have B0 := Lib.hid (Below.refl w.heap.size w)
  go_enter Try.func7, Try.ntmps7
  go_wp2_with fail
  refine (mNaN15 _).mono ?_
  rintro e w1 ⟨rfl, rfl⟩
  go_wp2_with fail
  refine (XO.out _ 2 _ (TW.out _)).mono ?_
  rintro e w2 ⟨rfl, hb2⟩
  have B2 := Lib.hid (below_then (B0.out.alloc (Nat.le_refl _) (.cells #[.float .f64 4607182418800017408, .float .f64 9221120237041090561] 36)) hb2)
  clear hb2
  have B3 := Lib.hid (B2.out.alloc B2.out.size (.cells #[.int .i64 2, .int .u64 9221120237041090561, .int .u64 4607182418800017408, .int .u64 9221120237041090561, .int .u64 9221120237041090561] 28))
  go_wp2_with fail
  go_ret
  exact ⟨rfl, B3.out⟩

end Go.Proofs.Ytoljhoabbaigdaa
