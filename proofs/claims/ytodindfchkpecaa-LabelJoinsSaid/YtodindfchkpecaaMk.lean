/- What the functions that make labels out of labels answer, walked: the reference's Put and Of; label.Meet and label.Less. -/
import Derived.Test.YtodindfchkpecaaLs
import Derived.Test.YtodindfchkpecaaOw
import Derived.Test.YtodindfchkpecaaLb
namespace Go.Proofs.Ytodindfchkpecaa
open Go.RowKit

/-- a new row that holds zs; all that was there is as it was -/
def MkPost (B : Nat) (zs : List Int) (w : World) (e : Ending) (w' : World) : Prop := ∃ v, e = .returned v ∧ Own w' B v zs ∧ Below w.heap.size w w'

theorem cell_new (w : World) (v : Value) (t : TypeId) : (w.alloc (.cells #[v] t)).cell? ⟨w.heap.size, 0, none⟩ = some v := by
  rw [World.cell?_alloc_at _ _ _ _ rfl]; rfl

theorem putGo_at (zs : List Int) (k : Nat) (h : k < zs.length) (t : Int) (p : Bool) :
    La.putGo (zs.drop k) t p = (if !p && decide (t ≤ zs.getD k 0) then [t] else []) ++ ((if zs.getD k 0 == t then [] else [zs.getD k 0]) ++ La.putGo (zs.drop (k + 1)) t (p || decide (t ≤ zs.getD k 0))) := by
  rw [List.drop_eq_getElem_cons h, La.putGo, List.getD, List.getElem?_eq_getElem h]; rfl

set_option maxRecDepth 100000 in
/-- cloisonneref02.Put -/
theorem rput (A : Option Addr) (c : Nat) (zs : List Int) (t : Int) (w : World) (h : Sl w A zs) (hm : zs.length ≤ 1073741824) :
    Calls Try.prog 31 #[.slice A zs.length c, .int .u64 t] w (MkPost w.heap.size (La.put zs t) w) := by
  go_enter Try.func31, Try.ntmps31
  go_wp2
  go_loopw [5, 6, 7] (fun vo vp vi wr => ∃ (k : Nat) (out : List Int) (p : Bool), k ≤ zs.length ∧ vi = .int .i64 k ∧ vp = .bool p ∧ Own wr w.heap.size vo out ∧ Below w.heap.size w wr ∧ out.length ≤ 2 * k ∧
    Hid (La.put zs t = out ++ La.putGo (zs.drop k) t p)) (fun _ _ vi _ => zs.length - (intOf vi).toNat)
  case atStart =>
    exact ⟨0, [], false, Nat.zero_le _, rfl, rfl, Own.made w _ (Nat.le_refl _) [] (Nat.zero_le _), (Below.refl _ _).alloc (Nat.le_refl _) _, Nat.le_refl _, rfl⟩
  case round =>
    obtain ⟨k, out, p, hk, rfl, rfl, hown, hbel, hol, X⟩ := hrel
    have hsz := hbel.size
    have HB := Lib.hid hbel
    have HO := Lib.hid hown
    by_cases hlt : k < zs.length
    · obtain ⟨b, o, rfl, hb, hc⟩ := h.at_ hlt
      have hckw := hc k hlt
      have hck := (hbel.cell (p := ⟨b, o + k, none⟩) hb).trans hckw
      have PG := Lib.hid (putGo_at zs k hlt t p)
      obtain ⟨x, hx⟩ : ∃ x, zs.getD k 0 = x := ⟨_, rfl⟩
      rw [hx] at hck hckw
      have XX := Lib.hid hx
      clear hc hx hbel hown
      cases p
      · by_cases htx : t ≤ x
        · have T1 : decide (t ≤ x) = true := decide_eq_true htx
          by_cases hxt : x = t
          · have T2 : (x != t) = false := by simp [hxt]
            have HX := Lib.hid hxt
            clear hxt
            go_wp2_with (at_builtin; refine wp_put1 rfl _ _ rfl w.heap.size _ out rfl (HO.out.alloc _) _ t rfl (cell_new _ _ _) (by omega) (by simp; omega) ?_; intro v1 w1 hown1 hb1; have HB1 := Lib.hid ((HB.out.alloc hsz _).trans hb1); have hck1 := (HB1.out.cell (p := ⟨b, o + k, none⟩) hb).trans hckw; have HO1 := Lib.hid hown1; clear hb1 hown1)
            go_roundw
            case rel =>
              refine ⟨k + 1, out ++ [t], true, by omega, by go_num, rfl, HO1.out, HB1.out, by simp; omega, ?_⟩
              show _ = _
              rw [X.out, PG.out, XX.out, T1, HX.out]; simp
            case measure => simp [intOf]; omega
          · have T2 : (x != t) = true := by simp [hxt]
            have HX := Lib.hid hxt
            clear hxt
            go_wp2_with (first
              | (at_builtin; refine wp_put1 rfl (.tmp 25) (.tmp 27) rfl w.heap.size _ out rfl (HO.out.alloc _) _ t rfl (cell_new _ _ _) (by omega) (by simp; omega) ?_; intro v1 w1 hown1 hb1; have HB1 := Lib.hid ((HB.out.alloc hsz _).trans hb1); have hck1 := (HB1.out.cell (p := ⟨b, o + k, none⟩) hb).trans hckw; have HO1 := Lib.hid hown1; have hsz1 := HB1.out.size; clear hb1 hown1)
              | (at_builtin; refine wp_put1 rfl (.tmp 35) (.tmp 40) rfl w.heap.size _ (out ++ [t]) rfl (HO1.out.alloc _) _ x rfl (cell_new _ _ _) (by simp; omega) (by simp; omega) ?_; intro v2 w2 hown2 hb2; have HB2 := Lib.hid ((HB1.out.alloc hsz1 _).trans hb2); have HO2 := Lib.hid hown2; clear hb2 hown2))
            go_roundw
            case rel =>
              refine ⟨k + 1, out ++ [t] ++ [x], true, by omega, by go_num, rfl, HO2.out, HB2.out, by simp; omega, ?_⟩
              show _ = _
              rw [X.out, PG.out, XX.out, T1]
              have h9 : (x == t) = false := by simp [HX.out]
              rw [h9]; simp
            case measure => simp [intOf]; omega
        · have T1 : decide (t ≤ x) = false := decide_eq_false htx
          have T2 : (x != t) = true := by simp; omega
          have HX := Lib.hid htx
          clear htx
          go_wp2_with (at_builtin; refine wp_put1 rfl (.tmp 35) (.tmp 40) rfl w.heap.size _ out rfl (HO.out.alloc _) _ x rfl (cell_new _ _ _) (by omega) (by simp; omega) ?_; intro v1 w1 hown1 hb1; have HB1 := Lib.hid ((HB.out.alloc hsz _).trans hb1); have HO1 := Lib.hid hown1; clear hb1 hown1)
          go_roundw
          case rel =>
            refine ⟨k + 1, out ++ [x], false, by omega, by go_num, rfl, HO1.out, HB1.out, by simp; omega, ?_⟩
            show _ = _
            rw [X.out, PG.out, XX.out, T1]
            have h9 : (x == t) = false := by have := HX.out; simp; omega
            rw [h9]; simp
          case measure => simp [intOf]; omega
      · by_cases hxt : x = t
        · have T2 : (x != t) = false := by simp [hxt]
          have HX := Lib.hid hxt
          clear hxt
          go_wp2
          go_roundw
          case rel =>
            refine ⟨k + 1, out, true, by omega, by go_num, rfl, HO.out, HB.out, by omega, ?_⟩
            show _ = _
            rw [X.out, PG.out, XX.out, HX.out]; simp
          case measure => simp [intOf]; omega
        · have T2 : (x != t) = true := by simp [hxt]
          have HX := Lib.hid hxt
          clear hxt
          go_wp2_with (at_builtin; refine wp_put1 rfl (.tmp 35) (.tmp 40) rfl w.heap.size _ out rfl (HO.out.alloc _) _ x rfl (cell_new _ _ _) (by omega) (by simp; omega) ?_; intro v1 w1 hown1 hb1; have HB1 := Lib.hid ((HB.out.alloc hsz _).trans hb1); have HO1 := Lib.hid hown1; clear hb1 hown1)
          go_roundw
          case rel =>
            refine ⟨k + 1, out ++ [x], true, by omega, by go_num, rfl, HO1.out, HB1.out, by simp; omega, ?_⟩
            show _ = _
            rw [X.out, PG.out, XX.out]
            have h9 : (x == t) = false := by simp [HX.out]
            rw [h9]; simp
          case measure => simp [intOf]; omega
    · have X2 : Hid (La.put zs t = out ++ if p then [] else [t]) := by
        have h9 := X.out
        rw [List.drop_eq_nil_of_le (by omega), La.putGo] at h9
        exact h9
      clear hbel hown
      cases p
      · go_wp2_with (at_builtin; refine wp_put1 rfl (.tmp 44) (.tmp 46) rfl w.heap.size _ out rfl (HO.out.alloc _) _ t rfl (cell_new _ _ _) (by omega) (by simp; omega) ?_; intro v1 w1 hown1 hb1; have HB1 := Lib.hid ((HB.out.alloc hsz _).trans hb1); have HO1 := Lib.hid hown1; clear hb1 hown1)
        go_ret
        refine ⟨_, rfl, ?_, HB1.out⟩
        rw [X2.out]; exact HO1.out
      · go_wp2
        go_ret
        refine ⟨_, rfl, ?_, HB.out⟩
        rw [X2.out]; simpa using HO.out

theorem fold_at (f : List Int → Int → List Int) (zs acc : List Int) (k : Nat) (h : k < zs.length) : (zs.drop k).foldl f acc = (zs.drop (k + 1)).foldl f (f acc (zs.getD k 0)) := by
  rw [List.drop_eq_getElem_cons h, List.foldl_cons, List.getD, List.getElem?_eq_getElem h]; rfl

theorem below_drop {B : Nat} {a b c : World} (h : Below B a b) (k : Below b.heap.size b c) (hB : B ≤ b.heap.size) : Below B a c := h.trans (k.mono hB)

set_option maxRecDepth 100000 in
/-- cloisonneref02.Of -/
theorem rof (A : Option Addr) (c : Nat) (zs : List Int) (w : World) (h : Sl w A zs) (hm : zs.length ≤ 1073741824) :
    Calls Try.prog 11 #[.slice A zs.length c] w (MkPost w.heap.size (La.ofAll zs) w) := by
  go_enter Try.func11, Try.ntmps11
  go_wp2
  go_loopw [3, 4] (fun vo vi wr => ∃ (k : Nat) (out : List Int), k ≤ zs.length ∧ vi = .int .i64 k ∧ Own wr w.heap.size vo out ∧ Below w.heap.size w wr ∧ out.length ≤ k ∧
    Hid (La.Up out) ∧ Hid (La.ofAll zs = (zs.drop k).foldl La.put out)) (fun _ vi _ => zs.length - (intOf vi).toNat)
  case atStart =>
    exact ⟨0, [], Nat.zero_le _, rfl, Own.made w _ (Nat.le_refl _) [] (Nat.zero_le _), (Below.refl _ _).alloc (Nat.le_refl _) _, Nat.le_refl _, List.Pairwise.nil, rfl⟩
  case round =>
    obtain ⟨k, out, hk, rfl, hown, hbel, hol, U, X⟩ := hrel
    have hsz := hbel.size
    have HB := Lib.hid hbel
    by_cases hlt : k < zs.length
    · obtain ⟨b, o, rfl, hb, hc⟩ := h.at_ hlt
      have hck := (hbel.cell (p := ⟨b, o + k, none⟩) hb).trans (hc k hlt)
      have FA := Lib.hid (fold_at La.put zs out k hlt)
      obtain ⟨x, hx⟩ : ∃ x, zs.getD k 0 = x := ⟨_, rfl⟩
      rw [hx] at hck
      have XX := Lib.hid hx
      obtain ⟨Ao, co, rfl, _, hsl, _, _⟩ := hown.form
      have HS := Lib.hid hsl
      clear hc hx hbel hown hsl
      go_wp2_with fail
      refine (rput Ao co out x _ HS.out (by omega)).mono ?_
      rintro e w1 ⟨v1, rfl, hown1, hb1⟩
      have HO1 := Lib.hid (hown1.more hsz)
      have HB1 := Lib.hid (below_drop HB.out hb1 hsz)
      clear hown1 hb1
      go_wp2
      go_roundw
      case rel =>
        refine ⟨k + 1, La.put out x, by omega, by go_num, HO1.out, HB1.out, ?_, La.put_ups out U.out x, ?_⟩
        · have := La.put_length out U.out x
          split at this <;> omega
        · show _ = _
          rw [X.out, FA.out, XX.out]
      case measure => simp [intOf]; omega
    · have X2 : Hid (La.ofAll zs = out) := by
        have h9 := X.out
        rw [List.drop_eq_nil_of_le (by omega)] at h9
        exact h9
      have HO := Lib.hid hown
      clear hbel hown
      go_wp2
      go_ret
      refine ⟨_, rfl, ?_, HB.out⟩
      rw [X2.out]; exact HO.out

theorem part_at (a b : List Int) (s : Bool) (k : Nat) (h : k < a.length) : La.parted (a.drop k) b s = (if La.has b (a.getD k 0) == s then [a.getD k 0] else []) ++ La.parted (a.drop (k + 1)) b s := by
  rw [List.drop_eq_getElem_cons h, List.getD, List.getElem?_eq_getElem h]
  unfold La.parted
  rw [List.filter_cons]
  show (if La.has b a[k] == s then _ else _) = (if La.has b a[k] == s then _ else _) ++ _
  split <;> rfl

/-- what label.parted tells -/
def partL (a b : List Int) (s : Bool) : List Int := if La.right a && La.right b then La.parted a b s else []

set_option maxRecDepth 100000 in
/-- label.parted -/
theorem lparted (A B : Option Addr) (c d : Nat) (a b : List Int) (s : Bool) (w : World) (h : Sl w A a) (hb : Sl w B b) (hm : a.length ≤ maxLen) (hn : b.length ≤ maxLen) :
    Calls Try.prog 33 #[.slice A a.length c, .slice B b.length d, .bool s] w (MkPost w.heap.size (partL a b s) w) := by
  have HN := Lib.hid hn
  have HBb := Lib.hid hb
  have HA := Lib.hid h
  have HM := Lib.hid hm
  clear hn hb h hm
  cases hra : La.right a
  · have E : Hid (partL a b s = []) := by show _ = _; unfold partL; rw [hra, Bool.false_and]; rfl
    have R := Lib.hid hra
    clear hra
    go_enter Try.func33, Try.ntmps33
    go_wp2_with fail
    refine (lright A c a _ HA.out HM.out).mono ?_
    rintro e w' ⟨rfl, rfl⟩
    rw [R.out]
    go_wp2
    go_ret
    refine ⟨_, rfl, ?_, Below.refl _ _⟩
    rw [E.out]; exact Own.nil _ _
  cases hrb : La.right b
  · have E : Hid (partL a b s = []) := by show _ = _; unfold partL; rw [hrb, Bool.and_false]; rfl
    have R := Lib.hid hra
    have R2 := Lib.hid hrb
    clear hra hrb
    go_enter Try.func33, Try.ntmps33
    go_wp2_with fail
    refine (lright A c a _ HA.out HM.out).mono ?_
    rintro e w' ⟨rfl, rfl⟩
    rw [R.out]
    go_wp2_with fail
    refine (lright B d b _ HBb.out HN.out).mono ?_
    rintro e w' ⟨rfl, rfl⟩
    rw [R2.out]
    go_wp2
    go_ret
    refine ⟨_, rfl, ?_, Below.refl _ _⟩
    rw [E.out]; exact Own.nil _ _
  have E : Hid (partL a b s = La.parted a b s) := by show _ = _; unfold partL; rw [hra, hrb]; rfl
  have hl6 : a.length ≤ 6 := ((La.right_iff a).1 hra).1
  have R := Lib.hid hra
  have R2 := Lib.hid hrb
  clear hra hrb
  go_enter Try.func33, Try.ntmps33
  go_wp2_with fail
  refine (lright A c a _ HA.out HM.out).mono ?_
  rintro e w' ⟨rfl, rfl⟩
  rw [R.out]
  go_wp2_with fail
  refine (lright B d b _ HBb.out HN.out).mono ?_
  rintro e w' ⟨rfl, rfl⟩
  rw [R2.out]
  go_wp2
  go_loopw [7, 20] (fun vo vi wr => ∃ (k : Nat) (out : List Int), k ≤ a.length ∧ vi = .int .i64 k ∧ Own wr w.heap.size vo out ∧ Below w.heap.size w wr ∧ out.length ≤ k ∧
    Hid (La.parted a b s = out ++ La.parted (a.drop k) b s)) (fun _ vi _ => a.length - (intOf vi).toNat)
  case atStart =>
    exact ⟨0, [], Nat.zero_le _, rfl, Own.nil _ _, Below.refl _ _, Nat.le_refl _, rfl⟩
  case round =>
    obtain ⟨k, out, hk, rfl, hown, hbel, hol, X⟩ := hrel
    have hsz := hbel.size
    have HB := Lib.hid hbel
    have HO := Lib.hid hown
    by_cases hlt : k < a.length
    · obtain ⟨bb, o, rfl, hbb, hc⟩ := HA.out.at_ hlt
      have hck := (hbel.cell (p := ⟨bb, o + k, none⟩) hbb).trans (hc k hlt)
      have FA := Lib.hid (part_at a b s k hlt)
      obtain ⟨x, hx⟩ : ∃ x, a.getD k 0 = x := ⟨_, rfl⟩
      rw [hx] at hck
      have XX := Lib.hid hx
      have HS := Lib.hid (HBb.out.below hbel)
      obtain ⟨q, hq⟩ : ∃ q, La.has b x = q := ⟨_, rfl⟩
      have Q := Lib.hid hq
      clear hc hx hbel hown hq
      by_cases hqs : q = s
      · have T : (q == s) = true := by simp [hqs]
        have HQ := Lib.hid hqs
        clear hqs
        go_wp2_with fail
        refine (lhas B d b x _ HS.out HN.out).mono ?_
        rintro e w' ⟨rfl, rfl⟩
        rw [Q.out]
        go_wp2_with (at_builtin; refine wp_put1 rfl (.tmp 29) (.tmp 31) rfl w.heap.size _ out rfl (HO.out.alloc _) _ x rfl (cell_new _ _ _) (by omega) (by simp; omega) ?_; intro v1 w1 hown1 hb1; have HB1 := Lib.hid ((HB.out.alloc hsz _).trans hb1); have HO1 := Lib.hid hown1; clear hb1 hown1)
        go_roundw
        case rel =>
          refine ⟨k + 1, out ++ [x], by omega, by go_num, HO1.out, HB1.out, by simp; omega, ?_⟩
          show _ = _
          rw [X.out, FA.out, XX.out, Q.out, T]; simp
        case measure => simp [intOf]; omega
      · have T : (q == s) = false := by simp [hqs]
        have HQ := Lib.hid hqs
        clear hqs
        go_wp2_with fail
        refine (lhas B d b x _ HS.out HN.out).mono ?_
        rintro e w' ⟨rfl, rfl⟩
        rw [Q.out]
        go_wp2
        go_roundw
        case rel =>
          refine ⟨k + 1, out, by omega, by go_num, HO.out, HB.out, by omega, ?_⟩
          show _ = _
          rw [X.out, FA.out, XX.out, Q.out, T]; simp
        case measure => simp [intOf]; omega
    · have X2 : Hid (La.parted a b s = out) := by
        have h9 := X.out
        rw [List.drop_eq_nil_of_le (by omega)] at h9
        show _ = _
        rw [h9]; simp [La.parted]
      clear hbel hown
      go_wp2
      go_ret
      refine ⟨_, rfl, ?_, HB.out⟩
      rw [E.out, X2.out]; exact HO.out

/-- label.Meet -/
theorem lmeet (A B : Option Addr) (c d : Nat) (a b : List Int) (w : World) (h : Sl w A a) (hb : Sl w B b) (hm : a.length ≤ maxLen) (hn : b.length ≤ maxLen) :
    Calls Try.prog 18 #[.slice A a.length c, .slice B b.length d] w (MkPost w.heap.size (partL a b true) w) := by
  go_enter Try.func18, Try.ntmps18
  go_wp2_with fail
  refine (lparted A B c d a b true _ h hb hm hn).mono ?_
  rintro e w1 ⟨v1, rfl, hown1, hb1⟩
  have HO1 := Lib.hid hown1
  have HB1 := Lib.hid hb1
  clear hown1 hb1
  go_wp2
  go_ret
  exact ⟨_, rfl, HO1.out, HB1.out⟩

/-- label.Less -/
theorem lless (A B : Option Addr) (c d : Nat) (a b : List Int) (w : World) (h : Sl w A a) (hb : Sl w B b) (hm : a.length ≤ maxLen) (hn : b.length ≤ maxLen) :
    Calls Try.prog 19 #[.slice A a.length c, .slice B b.length d] w (MkPost w.heap.size (partL a b false) w) := by
  go_enter Try.func19, Try.ntmps19
  go_wp2_with fail
  refine (lparted A B c d a b false _ h hb hm hn).mono ?_
  rintro e w1 ⟨v1, rfl, hown1, hb1⟩
  have HO1 := Lib.hid hown1
  have HB1 := Lib.hid hb1
  clear hown1 hb1
  go_wp2
  go_ret
  exact ⟨_, rfl, HO1.out, HB1.out⟩

end Go.Proofs.Ytodindfchkpecaa
