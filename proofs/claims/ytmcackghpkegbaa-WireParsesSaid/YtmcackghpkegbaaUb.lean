/- What is printed is read back: plain. -/
import Derived.Test.YtmcackghpkegbaaBg
import Derived.Test.YtmcackghpkegbaaPb
import Derived.Test.YtmcackghpkegbaaQb
import Derived.Test.YtmcackghpkegbaaAwk
namespace Go.Proofs.Ytmcackghpkegbaa
open Go.RowKit

/-- numbers as bytes -/
def by8 (zs : List Int) : List UInt8 := zs.map fun n => UInt8.ofNat n.toNat
theorem by8_app (a b : List Int) : by8 (a ++ b) = by8 a ++ by8 b := List.map_append
theorem by8_list (zs : List Int) : (strOfNums zs).data.toList = by8 zs := strOfNums_data zs
theorem by8_len (zs : List Int) : (by8 zs).length = zs.length := List.length_map ..
theorem by8_nums (s : ByteArray) : by8 (nums s) = s.data.toList := by rw [← by8_list, strOf_nums]
theorem BA_by8 (zs : List Int) : BA (by8 zs) = strOfNums zs := by rw [← by8_list, BA_of]
theorem BA_app (a b : List UInt8) : BA (a ++ b) = BA a ++ BA b := by
  apply WideShapes.bytes_inj
  rw [ByteArray.data_append, Array.toList_append, BA_list, BA_list, BA_list]
theorem byte_num (n : Nat) (h : n < 256) : (UInt8.ofNat (n : Int).toNat).toNat = n := by
  rw [Int.toNat_natCast]; exact UInt8.toNat_ofNat_of_lt' h

theorem rdNum_leb : ∀ (n g acc : Nat) (r : List UInt8), n * 128 ^ g < 18446744073709551616 → g ≤ 9 → (0 < g → 0 < n) → rdNum g acc (by8 (leb n) ++ r) = .ok (acc + n * 128 ^ g, r) := by
  intro n
  induction n using Nat.strongRecOn with
  | _ n ih =>
    intro g acc r h hg h0
    have P9 : g = 9 → 128 ^ g = 9223372036854775808 := fun e => by rw [e]
    by_cases hn : n < 128
    · rw [leb_small hn]
      show rdNum g acc (UInt8.ofNat (n : Int).toNat :: r) = _
      have hb := byte_num n (by omega)
      rw [rdNum, hb, Nat.mod_eq_of_lt hn]
      rw [if_neg (by
        rintro (h1 | ⟨h1, h2⟩)
        · omega
        · rw [P9 h1] at h; omega), if_pos hn, if_neg (by rintro ⟨h1, h2⟩; have := h0 h2; omega)]
    · rw [leb_big (by omega)]
      have e0 : (((n % 128 + 128 : Nat) : Int)) = ((n % 128 + 128 : Nat) : Int) := rfl
      show rdNum g acc (UInt8.ofNat ((n % 128 + 128 : Nat) : Int).toNat :: (by8 (leb (n / 128)) ++ r)) = _
      have hb := byte_num (n % 128 + 128) (by omega)
      rw [rdNum, hb]
      have hm : (n % 128 + 128) % 128 = n % 128 := by omega
      have g9 : g ≠ 9 := fun e => by rw [P9 e] at h; omega
      have e1 : n / 128 * 128 ^ (g + 1) + n % 128 * 128 ^ g = n * 128 ^ g := by
        rw [Nat.pow_succ, Nat.mul_comm (128 ^ g) 128, ← Nat.mul_assoc, ← Nat.add_mul]
        congr 1; omega
      rw [if_neg (by rintro (h1 | ⟨h1, _⟩) <;> omega), if_neg (by omega), hm, ih (n / 128) (by omega) (g + 1) _ r (by omega) (by omega) (fun _ => by omega)]
      congr 2; omega
theorem rdNum_back (n : Nat) (r : List UInt8) (h : n < 18446744073709551616) : rdNum 0 0 (by8 (leb n) ++ r) = .ok (n, r) := by
  have := rdNum_leb n 0 0 r (by simpa using h) (by omega) (fun h => absurd h (by omega))
  simpa using this
theorem rdSize_back (m n : Nat) (r : List UInt8) (h : n < 18446744073709551616) (hm : n ≤ m) : rdSize m (by8 (leb n) ++ r) = .ok (n, r) := by
  unfold rdSize; rw [rdNum_back n r h]; simp only; rw [if_neg (by omega)]
theorem rdTake_back (a r : List UInt8) (n : Nat) (h : a.length = n) : rdTake n (a ++ r) = .ok (a, r) := by
  subst h
  unfold rdTake; rw [if_neg (by rw [List.length_append]; omega), List.take_left, List.drop_left]
theorem rdText_back (s : ByteArray) (r : List UInt8) (h : s.size ≤ 200) : rdText (by8 (leb s.size ++ nums s) ++ r) = .ok (s.data.toList, r) := by
  unfold rdText
  rw [by8_app, List.append_assoc, rdSize_back 200 s.size _ (by omega) h, by8_nums]
  exact rdTake_back _ _ _ (by simp)
theorem rdFloat_back (b : Nat) (r : List UInt8) (hb : Fl.Fits b) (hn : Fl.bitsOf b = b) : rdFloat (by8 (keyNums (Fl.place b)) ++ r) = .ok (b, r) := by
  have hp := Fl.place_le hb
  unfold rdFloat
  rw [rdTake_back _ _ 8 (by rw [by8_len]; rfl)]
  simp only
  have e : BA (by8 (keyNums (Fl.place b))) = keyOf (Fl.place b) := BA_by8 _
  have hu : numTo (keyOf (Fl.place b)) 8 = Fl.place b := numTo_keyOf _ (by unfold Fl.NANP at hp; omega)
  have ok : unOk (keyOf (Fl.place b)) = true := by unfold unOk; rw [hu]; exact decide_eq_true hp
  have ub : unB (keyOf (Fl.place b)) = Fl.atB (Fl.place b) := by unfold unB; rw [hu, if_pos hp]
  rw [e, ok, ub, if_pos rfl, Fl.atB_place hb, hn, hn]

theorem rdTags_back (zs : List Int) (r : List UInt8) (hr : La.right zs = true) (hu : La.U64 zs) : rdTags (by8 (La.packL zs) ++ r) = .ok (zs, r) := by
  have e : BA (by8 (La.packL zs) ++ r) = packS zs ++ BA r := by rw [BA_app, BA_by8]; rfl
  obtain ⟨h1, h2, h3⟩ := labelPacks.back zs (BA r) hr hu
  have l : (by8 (La.packL zs)).length = (packS zs).size := by rw [by8_len]; unfold packS; rw [strOfNums_size]
  unfold rdTags
  rw [e, h1, if_pos rfl, h2, h3, Int.toNat_natCast, ← l, List.drop_left]

theorem rdMap_eq {α β : Type} {f : α → β} {o : Rd α} {x : α} {y : β} {r : List UInt8} (h : o = .ok (x, r)) (e : f x = y) : rdMap f o = .ok (y, r) := by rw [rdMap_ok h, e]
theorem only_right {L : Ltr} {x : Item} (h : only L x = true) : right1 L x = true := by
  unfold only at h; rw [Bool.and_eq_true] at h; exact h.1
/-- what is an item of a letter is read as it was -/
theorem rd1_back (L : Ltr) (d : Nat) (x : Item) (r : List UInt8) (hf : FitOne d x) (h : only L x = true) : rd1 L (by8 (enc1 L x) ++ r) = .ok (x, r) := by
  obtain ⟨n0, n1, _, _, hu, _⟩ := hf
  have hr := only_right h
  have hks := only_ks h
  cases L with
  | b =>
    have hs := only_s (by decide) h
    have hl := only_l (by decide) h
    have h255 : x.n ≤ 255 := of_decide_eq_true hr
    show rdMap (fun c : UInt8 => Item.mk (c.toNat : Int) ⟨#[]⟩ [] []) (rdNext (UInt8.ofNat (x.n % 256).toNat :: r)) = _
    refine rdMap_eq (x := UInt8.ofNat (x.n % 256).toNat) rfl (Item.ext4 ?_ hs.symm hl.symm hks.symm)
    have e : (x.n % 256).toNat = x.n.toNat := by omega
    show (((UInt8.ofNat (x.n % 256).toNat).toNat : Nat) : Int) = x.n
    rw [e, UInt8.toNat_ofNat_of_lt' (show x.n.toNat < 256 by omega)]; omega
  | n =>
    have hs := only_s (by decide) h
    have hl := only_l (by decide) h
    refine rdMap_eq (rdNum_back x.n.toNat r (by omega)) (Item.ext4 ?_ hs.symm hl.symm hks.symm)
    show ((x.n.toNat : Nat) : Int) = x.n; omega
  | t =>
    have hn := only_nt h
    have hl := only_l (by decide) h
    refine rdMap_eq (rdText_back x.s r (of_decide_eq_true hr)) (Item.ext4 hn.symm ?_ hl.symm hks.symm)
    exact BA_of x.s
  | f =>
    have hs := only_s (by decide) h
    have hl := only_l (by decide) h
    have hq : ((Fl.bitsOf (Fl.bitsOf x.n.toNat) : Nat) : Int) = x.n := of_decide_eq_true hr
    rw [bitsOf_idem] at hq
    have hq2 : Fl.bitsOf x.n.toNat = x.n.toNat := by omega
    refine rdMap_eq (rdFloat_back (Fl.bitsOf x.n.toNat) r (Fl.bitsOf_fits (Fl.Fits.mk (by omega))) (bitsOf_idem _)) (Item.ext4 ?_ hs.symm hl.symm hks.symm)
    exact hq
  | l =>
    have hn := only_nl h
    have hs := only_s (by decide) h
    exact rdMap_eq (rdTags_back x.l r hr hu) (Item.ext4 hn.symm hs.symm rfl hks.symm)
theorem rdKids_back (L : Ltr) (d : Nat) : ∀ (xs : List Item) (r : List UInt8), (∀ x ∈ xs, FitOne d x) → xs.all (only L) = true → rdKids L xs.length (by8 (xs.flatMap (enc1 L)) ++ r) = .ok (xs, r)
  | [], r, _, _ => rfl
  | x :: xs, r, hf, h => by
    rw [List.all_cons, Bool.and_eq_true] at h
    rw [List.flatMap_cons, by8_app, List.append_assoc, List.length_cons, rdKids_ok (rd1_back L d x _ (hf x (by simp)) h.1)]
    exact rdMap_ok (rdKids_back L d xs r (fun y hy => hf y (List.mem_cons_of_mem _ hy)) h.2)
theorem rdK_back (k : Ltr × Bool) (d : Nat) (x : Item) (r : List UInt8) (hf : FitOne (d + 1) x) (h : fitsK k x = true) : rdK k (by8 (encK k x) ++ r) = .ok (x, r) := by
  obtain ⟨L, st⟩ := k
  cases st
  · exact rd1_back L (d + 1) x r hf h
  · simp only [fitsK, if_true, Bool.and_eq_true, decide_eq_true_eq] at h
    obtain ⟨⟨h64, hall⟩, hbl⟩ := h
    obtain ⟨b0, b1, b2, _⟩ := (blank_iff _).1 hbl
    simp only [rdK, encK, if_true]
    rw [by8_app, List.append_assoc, rdSize_back 64 x.ks.length _ (by omega) h64]
    exact rdMap_eq (rdKids_back L d x.ks r hf.2.2.2.2.2.2 hall) (Item.ext4 b0.symm b1.symm b2.symm rfl)
/-- what is printed is read as it was, whatever stands behind -/
theorem rdAll_back (d : Nat) : ∀ (ks : List (Ltr × Bool)) (xs : List Item) (r : List UInt8), (∀ x ∈ xs, FitOne (d + 1) x) → fitsAll ks xs = true → rdAll ks (by8 (encAll ks xs) ++ r) = .ok (xs, r)
  | [], [], r, _, _ => rfl
  | k :: ks, x :: xs, r, hf, h => by
    unfold fitsAll at h; rw [Bool.and_eq_true] at h
    show rdAll (k :: ks) (by8 (encK k x ++ encAll ks xs) ++ r) = _
    rw [by8_app, List.append_assoc, rdAll_ok (rdK_back k d x _ (hf x (by simp)) h.1)]
    exact rdMap_ok (rdAll_back d ks xs r (fun y hy => hf y (List.mem_cons_of_mem _ hy)) h.2)
  | [], x :: xs, _, _, h => by simp [fitsAll] at h
  | k :: ks, [], _, _, h => by simp [fitsAll] at h

end Go.Proofs.Ytmcackghpkegbaa
