/- wire.printOne answers, walked. -/
import Derived.Test.YtmcackghpkegbaaPn
import Derived.Test.YtmcackghpkegbaaPk
import Derived.Deep.RegionHeld3
namespace Go.Proofs.Ytmcackghpkegbaa
open Go.RowKit

/-- wire.printOne of a letter, of an item that is of it -/
def PoAt (L : Ltr) : Prop := ∀ (d B : Nat) (v : Value) (zs : List Int) (x : Item) (AL AK : Option Addr) (cL cK : Nat) (w : World), FitOne d x → Sl w AL x.l → only L x = true → OwnB w B v zs → B ≤ w.heap.size → zs.length ≤ 900000 →
    Calls Try.prog 33 #[v, .int .u8 L.code, .agg #[.int .u64 x.n, .string x.s, .slice AL x.l.length cL, .slice AK x.ks.length cK]] w (PutB B w v (zs ++ enc1 L x))

set_option maxRecDepth 100000 in
theorem po_b : PoAt .b := by
  intro d B v zs x AL AK cL cK w hf _ _ ho hB hz
  have n0 := hf.1
  have HO := Lib.hid ho
  clear hf ho
  show Calls Try.prog 33 #[v, .int .u8 98, _] w _
  go_enter Try.func33, Try.ntmps33
  go_wp2_with (at_builtin; refine wp_put1k rfl (.tmp 12) (.tmp 16) rfl B v zs rfl ((HO.out.alloc _).alloc _) _ _ rfl (cell_new2 _ _ _ _) (by omega) (by simp; omega) ?_; intro v1 w1 hown1 hg1 hf1; have HO1 := Lib.hid hown1; have HG1 := Lib.hid hg1; have HF1 := Lib.hid hf1; clear hown1 hg1 hf1)
  go_ret
  exact ⟨v1, rfl, HO1.out, grown_of_below (((Below.refl _ _).alloc (Nat.le_refl _) _).alloc (by simp) _) HG1.out, HF1.out.before (by simp; omega)⟩

set_option maxRecDepth 100000 in
theorem po_n : PoAt .n := by
  intro d B v zs x AL AK cL cK w hf _ _ ho hB hz
  have n1 := hf.2.1
  obtain ⟨N, hN⟩ : ∃ N : Nat, x.n = N := ⟨x.n.toNat, by have := hf.1; omega⟩
  have EN := Lib.hid (show enc1 .n x = leb N by show leb x.n.toNat = leb N; rw [hN]; rfl)
  rw [hN] at n1 ⊢
  have N1 := Lib.hid (show N < 18446744073709551616 by omega)
  have HO := Lib.hid ho
  clear hf ho hN n1
  show Calls Try.prog 33 #[v, .int .u8 110, _] w _
  go_enter Try.func33, Try.ntmps33
  go_wp2_with fail
  refine (lprintNumber B v zs N _ (HO.out.alloc _) (by simp; omega) (by omega) N1.out).mono ?_
  rintro e w' ⟨v1, rfl, ho1, hg1, hf1⟩
  have HO1 := Lib.hid ho1
  have HG1 := Lib.hid hg1
  have HF1 := Lib.hid hf1
  clear ho1 hg1 hf1
  go_wp2_with fail
  go_ret
  exact ⟨v1, rfl, by rw [EN.out]; exact HO1.out, grown_of_below ((Below.refl _ _).alloc (Nat.le_refl _) _) HG1.out, HF1.out.before (by simp)⟩

set_option maxRecDepth 100000 in
theorem po_f : PoAt .f := by
  intro d B v zs x AL AK cL cK w hf _ _ ho hB hz
  have EN := Lib.hid (show enc1 .f x = keyNums (Fl.place (Fl.bitsOf x.n.toNat)) from rfl)
  have FB := Lib.hid (show Fl.Fits (Fl.bitsOf x.n.toNat) from Fl.bitsOf_fits (Fl.Fits.mk (by have := hf.1; have := hf.2.1; omega)))
  have HO := Lib.hid ho
  clear hf ho
  show Calls Try.prog 33 #[v, .int .u8 102, _] w _
  go_enter Try.func33, Try.ntmps33
  go_wp2_with fail
  refine (nfrom x.n _).mono ?_
  rintro e w' ⟨rfl, rfl⟩
  go_wp2_with fail
  refine (nkeyB _ FB.out _).mono ?_
  rintro e w1 ⟨rfl, hb1⟩
  have B1 := Lib.hid (below_then ((Below.refl w.heap.size w).alloc (Nat.le_refl _) _) hb1)
  have hsz := B1.out.size
  have O1 := Lib.hid (HO.out.below B1.out)
  obtain ⟨P, hP⟩ : ∃ P, P = Fl.place (Fl.bitsOf x.n.toNat) := ⟨_, rfl⟩
  rw [← hP]
  have HP := Lib.hid hP
  have K8 : (keyOf P).size = 8 := keyOf_size P
  obtain ⟨K, hK⟩ : ∃ K, K = keyOf P := ⟨_, rfl⟩
  rw [← hK] at K8 ⊢
  have HK := Lib.hid hK
  clear hb1 hP hK
  have k9 : K.size ≤ 8 := by omega
  clear K8
  go_wp2_with (at_builtin; refine wp_putSk rfl (.tmp 37) (.tmp 41) rfl B v zs rfl O1.out K rfl (by omega) (by omega) ?_; intro v1 w1 hown1 hg1 hf1; have HO1 := Lib.hid hown1; have HG1 := Lib.hid hg1; have HF1 := Lib.hid hf1; clear hown1 hg1 hf1)
  go_ret
  refine ⟨v1, rfl, ?_, grown_of_below B1.out HG1.out, HF1.out.before hsz⟩
  have h9 := HO1.out
  rw [HK.out, HP.out] at h9
  rw [EN.out]
  rw [show numsS (keyOf (Fl.place (Fl.bitsOf x.n.toNat))) = keyNums (Fl.place (Fl.bitsOf x.n.toNat)) from numsS_strOfNums (keyNums_b256 _)] at h9
  exact h9

set_option maxRecDepth 100000 in
theorem po_l : PoAt .l := by
  intro d B v zs x AL AK cL cK w hf hsl hon ho hB hz
  have hr : La.right x.l = true := by unfold only at hon; rw [Bool.and_eq_true] at hon; exact hon.1
  have EN := Lib.hid (show enc1 .l x = La.packL x.l from rfl)
  have PC := Lib.hid (show pkC x.l = 0 by unfold pkC; rw [hr]; rfl)
  have PS := Lib.hid (show pkS x.l = strOfNums (La.packL x.l) by unfold pkS; rw [hr]; rfl)
  have LP := Lib.hid (lpack AL cL x.l (w.alloc (.cells #[.int .u64 x.n, .string x.s, .slice AL x.l.length cL, .slice AK x.ks.length cK] 44)) (hsl.alloc _) hf.2.2.2.1 hf.2.2.2.2.1)
  have L6 := ((La.right_iff x.l).1 hr).1
  have SZ := Lib.hid (show (strOfNums (La.packL x.l)).size ≤ 49 by rw [strOfNums_size, La.packL_length]; omega)
  have B256L := Lib.hid (show B256 (La.packL x.l) from (flat_b256 x.l).cons (by omega))
  have HO := Lib.hid ho
  clear hf ho hsl hon hr L6
  show Calls Try.prog 33 #[v, .int .u8 108, _] w _
  go_enter Try.func33, Try.ntmps33
  go_wp2_with fail
  refine LP.out.mono ?_
  rintro e w1 ⟨rfl, hb1⟩
  rw [PC.out, PS.out]
  have B1 := Lib.hid (below_then ((Below.refl w.heap.size w).alloc (Nat.le_refl _) _) hb1)
  have hsz := B1.out.size
  have O1 := Lib.hid (HO.out.below B1.out)
  obtain ⟨K, hK⟩ : ∃ K, K = strOfNums (La.packL x.l) := ⟨_, rfl⟩
  rw [← hK] at SZ ⊢
  have HK := Lib.hid hK
  have k9 := SZ.out
  clear hb1 hK
  go_wp2_with (at_builtin; refine wp_putSk rfl (.tmp 49) (.tmp 50) rfl B v zs rfl O1.out K rfl (by omega) (by omega) ?_; intro v1 w1 hown1 hg1 hf1; have HO1 := Lib.hid hown1; have HG1 := Lib.hid hg1; have HF1 := Lib.hid hf1; clear hown1 hg1 hf1)
  go_ret
  refine ⟨v1, rfl, ?_, grown_of_below B1.out HG1.out, HF1.out.before hsz⟩
  have h9 := HO1.out
  rw [HK.out, numsS_strOfNums B256L.out] at h9
  rw [EN.out]
  exact h9

set_option maxRecDepth 100000 in
theorem po_t : PoAt .t := by
  intro d B v zs x AL AK cL cK w hf _ hon ho hB hz
  have s200 : x.s.size ≤ 200 := by unfold only at hon; rw [Bool.and_eq_true] at hon; exact of_decide_eq_true hon.1
  have EN := Lib.hid (show enc1 .t x = leb x.s.size ++ nums x.s from rfl)
  have LL := Lib.hid (leb_len64 (n := x.s.size) (by omega))
  have ag : v.ownBlock ≠ some w.heap.size := fun e => by have := (ownB_lt ho _ e).2; omega
  have LP := Lib.hid (lprintNumber B v zs x.s.size (World.drew (w.alloc (.cells #[.int .u64 x.n, .string x.s, .slice AL x.l.length cL, .slice AK x.ks.length cK] 44))) ((ho.alloc _).drew) (by simp; omega) (by omega) (by omega))
  have hw : IntKind.u64.wrap (x.s.size : Int) = x.s.size := by rw [IntKind.wrap_u64]; omega
  have HO := Lib.hid ho
  clear hf ho hon
  show Calls Try.prog 33 #[v, .int .u8 116, _] w _
  go_enter Try.func33, Try.ntmps33
  go_wp2_with fail
  go_region_held3 (fun w' => w'.cell? ⟨w.heap.size, 1, none⟩ = some (.string x.s))
    (first
      | go_keep
      | exact HC2.out
      | exact HC3.out)
    (first
      | (go_at_call 34; (with_reducible refine LP.out.mono ?_); rintro e w2 ⟨v2, rfl, ho2, hg2, hf2⟩; have HC2 := Lib.hid (show w2.cell? ⟨w.heap.size, 1, none⟩ = some (.string x.s) from hg2.cell (by simp) (Ne.symm ag)))
      | (have _t := HC2.out; refine step_putSk (.tmp 31) (.tmp 33) (by rfl) B v2 _ (by rfl) ho2 x.s (by rfl) (by rw [List.length_append]; have := LL.out; omega) (by have := hg2.size; simp at this; omega) ?_; intro v3 w3 ho3 hg3 hf3; have HC3 := Lib.hid (show w3.cell? ⟨w.heap.size, 1, none⟩ = some (.string x.s) from hg3.cell HC2.out (fun e => by rcases hf2 _ e.symm with h | h; exact ag h; simp at h; omega)))
      | fail)
  have O3 := Lib.hid ho3
  have G2 := Lib.hid hg2
  have F2 := Lib.hid hf2
  have G3 := Lib.hid hg3
  have F3 := Lib.hid hf3
  clear ho2 ho3 hg2 hf2 hg3 hf3
  go_wp2_with fail
  go_ret
  refine ⟨v3, rfl, ?_, ?_, ?_⟩
  · have h9 := O3.out
    rw [List.append_assoc] at h9
    rw [EN.out]; exact h9
  · exact grown_of_below (below_drew ((Below.refl _ _).alloc (Nat.le_refl _) _)) (grown_then G2.out F2.out G3.out)
  · exact (F2.out.trans F3.out G2.out.size).before (by simp)

/-- wire.printOne -/
theorem lprintOne (L : Ltr) : PoAt L := by
  cases L
  · exact po_b
  · exact po_n
  · exact po_t
  · exact po_f
  · exact po_l

end Go.Proofs.Ytmcackghpkegbaa
