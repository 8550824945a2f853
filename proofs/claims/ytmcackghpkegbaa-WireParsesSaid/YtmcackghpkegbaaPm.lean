/- (wire.kind).print answers, walked. -/
import Derived.Test.YtmcackghpkegbaaPo
import Derived.Test.YtmcackghpkegbaaFi
namespace Go.Proofs.Ytmcackghpkegbaa
open Go.RowKit

theorem Boxed.grown {w w' : World} {row : Option Nat} {b : Nat} {c : Int} {st : Bool} {x : Item} {AL AK : Option Addr} {cL cK : Nat} (h : Boxed w b c st x AL AK cL cK) (hg : w.grownBy w' row) (h0 : row ≠ some b) (h1 : row ≠ some (b + 1)) : Boxed w' b c st x AL AK cL cK := by
  have l0 : b < w.heap.size := by have := h.lt; omega
  exact ⟨Nat.lt_of_lt_of_le h.lt hg.size, hg.cell h.k0 (Ne.symm h0), hg.cell h.k1 (Ne.symm h0), hg.cell h.i0 (Ne.symm h1), hg.cell h.i1 (Ne.symm h1), hg.cell h.i2 (Ne.symm h1), hg.cell h.i3 (Ne.symm h1),
    fun j => (hg.frozen_far ⟨b + 1, j, none⟩ h.lt (Ne.symm h1)).trans (h.f j)⟩

theorem flatMap_take_succ (f : Item → List Int) (xs : List Item) (j : Nat) (h : j < xs.length) : (xs.take (j + 1)).flatMap f = (xs.take j).flatMap f ++ f (xs.getD j It0) := by
  rw [take_succ_it xs j h, List.flatMap_append, List.flatMap_cons, List.flatMap_nil, List.append_nil]

theorem enc1_len (L : Ltr) (d : Nat) (x : Item) (hf : FitOne d x) (h : only L x = true) : (enc1 L x).length ≤ 210 := by
  obtain ⟨h0, h1, _⟩ := hf
  unfold only at h
  rw [Bool.and_eq_true] at h
  cases L
  · simp [enc1]
  · have := leb_len64 (n := x.n.toNat) (by omega); show (leb x.n.toNat).length ≤ 210; omega
  · have h200 : x.s.size ≤ 200 := of_decide_eq_true h.1
    have := leb_len64 (n := x.s.size) (by omega)
    show (leb x.s.size ++ nums x.s).length ≤ 210
    rw [List.length_append, nums_len]; omega
  · exact Nat.le_trans (Nat.le_of_eq (keyNums_len _)) (by omega)
  · have := ((La.right_iff x.l).1 h.1).1
    show (La.packL x.l).length ≤ 210
    rw [La.packL_length]; omega
theorem flatMap_len (L : Ltr) (d : Nat) : ∀ (xs : List Item), (∀ x ∈ xs, FitOne d x) → xs.all (only L) = true → (xs.flatMap (enc1 L)).length ≤ 210 * xs.length
  | [], _, _ => by simp
  | x :: xs, hf, h => by
    rw [List.all_cons, Bool.and_eq_true] at h
    have h1 := enc1_len L d x (hf x (by simp)) h.1
    have h2 := flatMap_len L d xs (fun y hy => hf y (List.mem_cons_of_mem _ hy)) h.2
    rw [List.flatMap_cons, List.length_append, List.length_cons]; omega
theorem encK_len (k : Ltr × Bool) (d : Nat) (x : Item) (hf : FitOne (d + 1) x) (h : fitsK k x = true) : (encK k x).length ≤ 13450 := by
  obtain ⟨L, st⟩ := k
  cases st
  · have := enc1_len L (d + 1) x hf h
    show (enc1 L x).length ≤ 13450; omega
  · simp only [fitsK, if_true, Bool.and_eq_true, decide_eq_true_eq] at h
    simp only [encK, if_true, List.length_append]
    have h1 := leb_len64 (n := x.ks.length) (by omega)
    have h2 := flatMap_len L d x.ks hf.2.2.2.2.2.2 h.1.2
    omega

set_option maxRecDepth 100000 in
set_option maxHeartbeats 1000000 in
/-- (wire.kind).print of an item that fits -/
theorem lprint (k : Ltr × Bool) (d B : Nat) (v : Value) (zs : List Int) (x : Item) (AL AK : Option Addr) (cL cK : Nat) (w0 w : World) (hB0 : B = w0.heap.size) (hb0 : Below w0.heap.size w0 w) (hf : FitOne (d + 1) x) (hsl0 : Sl w0 AL x.l) (hsk0 : SlIt (d + 1) w0 AK x.ks) (hfit : fitsK k x = true)
    (ho : OwnB w B v zs) (hz : zs.length ≤ 800000) :
    Calls Try.prog 20 #[.agg #[.int .u8 k.1.code, .bool k.2], v, .agg #[.int .u64 x.n, .string x.s, .slice AL x.l.length cL, .slice AK x.ks.length cK]] w (PutB B w v (zs ++ encK k x)) := by
  have hB : B ≤ w.heap.size := by have := hb0.size; omega
  have hsl := hsl0.below hb0
  have BZ := Lib.hid hb0
  have BZ0 := Lib.hid hB0
  have SK0 := Lib.hid hsk0
  clear hb0 hB0 hsl0 hsk0
  obtain ⟨L, st⟩ := k
  show Calls Try.prog 20 #[.agg #[.int .u8 L.code, .bool st], v, .agg #[.int .u64 x.n, .string x.s, .slice AL x.l.length cL, .slice AK x.ks.length cK]] w _
  have B0 := Lib.hid (((Below.refl w.heap.size w).alloc (Nat.le_refl _) (.cells #[.int .u8 L.code, .bool st] 50)).alloc (by simp) (.cells #[.int .u64 x.n, .string x.s, .slice AL x.l.length cL, .slice AK x.ks.length cK] 44))
  have ag0 : v.ownBlock ≠ some w.heap.size := fun e => by have := (ownB_lt ho _ e).2; omega
  have ag1 : v.ownBlock ≠ some (w.heap.size + 1) := fun e => by have := (ownB_lt ho _ e).2; omega
  obtain ⟨C, hC⟩ : ∃ C, C = L.code := ⟨_, rfl⟩
  rw [← hC] at B0 ⊢
  have HC := Lib.hid hC
  have HF := Lib.hid hf
  have SL := Lib.hid hsl
  have FT := Lib.hid hfit
  have HO := Lib.hid ho
  clear hC hf hsl hfit ho
  cases st
  · have R := Lib.hid (show encK (L, false) x = enc1 L x from rfl)
    go_enter Try.func20, Try.ntmps20
    go_wp2_with fail
    rw [HC.out] at B0 ⊢
    refine (lprintOne L (d + 1) B v zs x AL AK cL cK _ HF.out (SL.out.below B0.out) FT.out (HO.out.below B0.out) (Nat.le_trans hB B0.out.size) (by omega)).mono ?_
    rintro e w' ⟨v1, rfl, ho1, hg1, hf1⟩
    have O1 := Lib.hid ho1
    have G1 := Lib.hid hg1
    have F1 := Lib.hid hf1
    clear ho1 hg1 hf1
    go_wp2_with fail
    go_ret
    exact ⟨v1, rfl, by rw [R.out]; exact O1.out, grown_of_below B0.out G1.out, F1.out.before B0.out.size⟩
  have hfit := FT.out
  simp only [fitsK, if_true, Bool.and_eq_true, decide_eq_true_eq] at hfit
  have k64 := hfit.1.1
  have ALL := Lib.hid hfit.1.2
  have R := Lib.hid (show encK (L, true) x = leb x.ks.length ++ x.ks.flatMap (enc1 L) from rfl)
  have LL := Lib.hid (leb_len64 (n := x.ks.length) (by omega))
  have BX := Lib.hid (Boxed.made w C true x AL AK cL cK 50 44)
  have LP := Lib.hid (lprintNumber B v zs x.ks.length ((w.alloc (.cells #[.int .u8 C, .bool true] 50)).alloc (.cells #[.int .u64 x.n, .string x.s, .slice AL x.l.length cL, .slice AK x.ks.length cK] 44)) (HO.out.below B0.out) (Nat.le_trans hB B0.out.size) (by omega) (by omega))
  clear hfit
  go_enter Try.func20, Try.ntmps20
  go_wp2_with fail
  refine LP.out.mono ?_
  rintro e w1 ⟨v1, rfl, ho1, hg1, hf1⟩
  have BX1 := BX.out.grown hg1 ag0 ag1
  obtain ⟨hlt1, k0, k1, i0, i1, i2, i3, fz⟩ := BX1
  have O1 := Lib.hid ho1
  have G1 := Lib.hid (grown_of_below B0.out hg1)
  have F1 := Lib.hid (hf1.before B0.out.size)
  have F1X := Lib.hid (show v1.ownBlock ≠ some w.heap.size ∧ v1.ownBlock ≠ some (w.heap.size + 1) from
    ⟨fun e => by rcases hf1 _ e with h | h; exact ag0 h; simp at h; omega, fun e => by rcases hf1 _ e with h | h; exact ag1 h; simp at h; omega⟩)
  have BXH := Lib.hid (BX.out.grown hg1 ag0 ag1)
  clear ho1 hg1 hf1 fz i0 i1 i2 k0 k1
  go_wp2_with fail
  go_loopw [1, 26] (fun vo i wr => ∃ (j : Nat) (ds : List Int), j ≤ x.ks.length ∧ i = .int .i64 j ∧ Hid (ds = zs ++ leb x.ks.length ++ (x.ks.take j).flatMap (enc1 L)) ∧ Hid (OwnB wr B vo ds) ∧ Hid (w.grownBy wr v.ownBlock) ∧ Hid (Fresh w v vo) ∧ Hid (Boxed wr w.heap.size C true x AL AK cL cK) ∧ Hid (vo.ownBlock ≠ some w.heap.size ∧ vo.ownBlock ≠ some (w.heap.size + 1))) (fun _ i _ => x.ks.length - (intOf i).toNat)
  case atStart => exact ⟨0, zs ++ leb x.ks.length, Nat.zero_le _, rfl, Lib.hid (by simp), O1.out, G1.out, F1.out, BXH.out, F1X.out⟩
  case round =>
    obtain ⟨j, ds, hj, rfl, HD, HW, HG, HFR, HX, HN⟩ := hrel
    obtain ⟨hlt2, k0, _, _, _, _, _, _⟩ := HX.out
    have hlt0 : w.heap.size < wr.heap.size := by omega
    by_cases hlt : j < x.ks.length
    · have BW : Below w0.heap.size w0 wr := by
        have h1 := below_of_grown HG.out HO.out hB
        rw [BZ0.out] at h1
        exact BZ.out.trans h1
      obtain ⟨b, o, rfl, hb, hc⟩ := (SK0.out.below BW) (by omega)
      obtain ⟨BL, dL, BK, dK, c0, c1, c2, c3, bsl, _⟩ := hc j hlt
      have hfy : FitOne d (x.ks.getD j It0) := HF.out.2.2.2.2.2.2 _ (getD_mem_it x.ks j hlt)
      have hoy : only L (x.ks.getD j It0) = true := List.all_eq_true.1 ALL.out _ (getD_mem_it x.ks j hlt)
      have TS := Lib.hid (flatMap_take_succ (enc1 L) x.ks j hlt)
      have DL := Lib.hid (show ds.length ≤ 850000 by
        have h1 := flatMap_len L d (x.ks.take j) (fun y hy => HF.out.2.2.2.2.2.2 _ (List.mem_of_mem_take hy)) (List.all_eq_true.2 fun y hy => List.all_eq_true.1 ALL.out y (List.mem_of_mem_take hy))
        have h2 : (x.ks.take j).length ≤ 64 := by rw [List.length_take]; omega
        rw [HD.out, List.length_append, List.length_append]
        have := LL.out
        omega)
      obtain ⟨y, hy⟩ : ∃ y, x.ks.getD j It0 = y := ⟨_, rfl⟩
      rw [hy] at c0 c1 c2 c3 bsl hfy hoy TS
      have B1 := Lib.hid ((Below.refl wr.heap.size wr).alloc (Nat.le_refl _) (.cells #[.int .u64 y.n, .string y.s, .slice BL y.l.length dL, .slice BK y.ks.length dK] 44))
      have HVO := Lib.hid (ownB_lt HW.out)
      have hBr : B ≤ wr.heap.size := by have := HG.out.size; omega
      have CC := Lib.hid (show ∀ w2, Below wr.heap.size wr w2 → Calls Try.prog 33 #[u1, .int .u8 C, .agg #[.int .u64 y.n, .string y.s, .slice BL y.l.length dL, .slice BK y.ks.length dK]] w2 (PutB B w2 u1 (ds ++ enc1 L y)) from
        fun w2 hb => by rw [HC.out]; exact lprintOne L d B u1 ds y BL BK dL dK w2 hfy (bsl.below hb) hoy (HW.out.below hb) (Nat.le_trans hBr hb.size) (by have := DL.out; omega))
      clear hc hy bsl hfy hoy hb BW
      go_wp2_with fail
      refine (CC.out _ B1.out).mono ?_
      rintro e w2 ⟨v2, rfl, ho2, hg2, hf2⟩
      have GG := grown_of_below B1.out hg2
      have FF := hf2.before B1.out.size
      have O2 := Lib.hid ho2
      have G2 := Lib.hid (grown_then HG.out HFR.out GG)
      have F2 := Lib.hid (HFR.out.trans FF HG.out.size)
      have X2 := Lib.hid (HX.out.grown GG HN.out.1 HN.out.2)
      have N2 := Lib.hid (show v2.ownBlock ≠ some w.heap.size ∧ v2.ownBlock ≠ some (w.heap.size + 1) from
        ⟨fun e => by rcases FF _ e with h | h; exact HN.out.1 h; omega, fun e => by rcases FF _ e with h | h; exact HN.out.2 h; omega⟩)
      clear ho2 hg2 hf2 GG FF
      go_wp2_with fail
      go_roundw
      case rel => exact ⟨j + 1, ds ++ enc1 L y, by omega, by go_num, Lib.hid (by rw [TS.out, HD.out, List.append_assoc]), O2.out, G2.out, F2.out, X2.out, N2.out⟩
      case measure => simp [intOf]; omega
    · have JJ := Lib.hid (show j = x.ks.length by omega)
      go_wp2_with fail
      go_ret
      refine ⟨_, rfl, ?_, HG.out, HFR.out⟩
      have h9 := HW.out
      rw [HD.out, JJ.out, List.take_length, List.append_assoc] at h9
      rw [R.out]; exact h9

end Go.Proofs.Ytmcackghpkegbaa
