/- wire.kindsOf answers, walked. -/
import Derived.Test.YtmcackghpkegbaaBl
import Derived.Test.YtmcackghpkegbaaKb
namespace Go.Proofs.Ytmcackghpkegbaa
open Go.RowKit

theorem infoK : (Try.prog.info? 50).map (fun i => (i.zero, i.size, i.bytes)) = some (some (.agg #[.int .u8 0, .bool false]), 2, 2) := by kernel_rfl

def kCells (k : Ltr × Bool) : List Value := [.int .u8 k.1.code, .bool k.2]
/-- v is a row of the call's own, from block B on, and holds the kinds ks -/
def OwnK (w : World) (B : Nat) (v : Value) (ks : List (Ltr × Bool)) : Prop := w.ownsRow B 50 2 v ks.length (ks.flatMap kCells)
theorem kCells_len : ∀ ks : List (Ltr × Bool), (ks.flatMap kCells).length = ks.length * 2
  | [] => rfl
  | k :: ks => by rw [List.flatMap_cons, List.length_append, kCells_len ks, List.length_cons]; simp [kCells]; omega
theorem kCells_at : ∀ (ks : List (Ltr × Bool)) (j : Nat) (h : j < ks.length), (ks.flatMap kCells)[j * 2]? = some (.int .u8 ks[j].1.code) ∧ (ks.flatMap kCells)[j * 2 + 1]? = some (.bool ks[j].2)
  | [], j, h => by simp at h
  | k :: ks, 0, _ => by simp [kCells]
  | k :: ks, j + 1, h => by
    have ih := kCells_at ks j (by simpa using h)
    rw [List.flatMap_cons]
    rw [show (j + 1) * 2 = j * 2 + 2 by omega]
    have e : (kCells k).length = 2 := rfl
    rw [List.getElem?_append_right (by rw [e]; omega), List.getElem?_append_right (by rw [e]; omega), e]
    rw [show j * 2 + 2 - 2 = j * 2 by omega, show j * 2 + 2 + 1 - 2 = j * 2 + 1 by omega]
    simpa using ih

section
variable {w w' : World} {B : Nat} {v : Value} {ks : List (Ltr × Bool)}
theorem OwnK.nil (w : World) (B : Nat) : OwnK w B (.slice none 0 0) [] := World.ownsRow_nil _ _ _ _
theorem OwnK.alloc (h : OwnK w B v ks) (o : Obj) : OwnK (w.alloc o) B v ks := World.ownsRow.alloc h o
theorem OwnK.lt (h : OwnK w B v ks) : ∀ k, v.ownBlock = some k → B ≤ k ∧ k < w.heap.size := World.ownsRow.lt h
/-- how it lies in memory -/
theorem OwnK.form (h : OwnK w B v ks) : ∃ A c, v = .slice A ks.length c ∧ ks.length ≤ c ∧ (A = none → c = 0 ∧ ks = []) ∧ (0 < ks.length → ∃ g, A = some ⟨g, 0, none⟩ ∧ B ≤ g ∧ g < w.heap.size ∧
    ∀ j (hj : j < ks.length), w.cell? ⟨g, j * 2, none⟩ = some (.int .u8 ks[j].1.code) ∧ w.cell? ⟨g, j * 2 + 1, none⟩ = some (.bool ks[j].2)) := by
  rcases h.2 with ⟨rfl, hn⟩ | ⟨g, cap, cur, rfl, hB, hg, hnc, _, hs, ht⟩
  · have hz : ks = [] := List.eq_nil_of_length_eq_zero hn
    subst hz
    exact ⟨none, 0, rfl, Nat.zero_le _, fun _ => ⟨rfl, rfl⟩, fun h => absurd h (by simp)⟩
  · have hgl : g < w.heap.size := by
      rcases Nat.lt_or_ge g w.heap.size with hlt | hge
      · exact hlt
      · rw [Array.getElem?_eq_none hge] at hg; cases hg
    refine ⟨some ⟨g, 0, none⟩, cap, rfl, hnc, (fun e => by cases e), fun _ => ⟨g, rfl, hB, hgl, fun j hj => ?_⟩⟩
    have h1 := World.ownsRow.cellAt (w := w) (base := B) (e := 50) (size := 2) (xs := ks.flatMap kCells) h (j * 2) (by omega)
    have h2 := World.ownsRow.cellAt (w := w) (base := B) (e := 50) (size := 2) (xs := ks.flatMap kCells) h (j * 2 + 1) (by omega)
    exact ⟨h1.trans (kCells_at ks j hj).1, h2.trans (kCells_at ks j hj).2⟩

set_option maxRecDepth 100000 in
/-- append(v, k) of one kind -/
theorem wp_putK {ops : Array Oper} {rest : List Oper} {o : Oper} {a : Act} {Q : Exit → Act → World → Prop} (hgd : o.guard = none) (s x : Operand)
    (ho : o.op = .call { callee := .builtin .append, args := #[s, x], argTypes := #[45, 45] })
    (B : Nat) (v : Value) (ks : List (Ltr × Bool)) (hs : a.eval s = v) (hown : OwnK w B v ks) (k : Ltr × Bool) (g : Nat) (hx : a.eval x = .slice (some ⟨g, 0, none⟩) 1 1)
    (hg : w.heap[g]? = some (.cells #[.int .u8 k.1.code, .bool k.2] 50)) (hl : ks.length + 1 ≤ 1000) (hB : B ≤ w.heap.size)
    (h : ∀ v' w', OwnK w' B v' (ks ++ [k]) → Below B w w' → wpList Try.prog ops Q rest (a.put o.dst v') w') : wpList Try.prog ops Q (o :: rest) a w := by
  obtain ⟨i0, hi, hz0, hz1, hz2⟩ := info_parts infoK
  refine wpList_append_own w hgd s x 45 ho B 50 i0 _ 2 2 Try.underlying45 hi hz0 hz1 hz2 rfl (by decide) v ks.length _ hs hown ⟨g, 0, none⟩ 1 1 [.int .u8 k.1.code, .bool k.2] hx rfl ?_ ?_
    (by unfold maxLen; omega) (by omega) hB ?_
  · exact World.news_of_block (cs := #[.int .u8 k.1.code, .bool k.2]) (t := 50) (fr := (0, 0)) hg
  · intro u hu; simp at hu; rcases hu with rfl | rfl <;> rfl
  · intro v' w' h1 h2 _
    refine h v' w' ?_ ((Below.refl _ _).grown h2 hB (fun k hk => (World.ownsRow.lt hown k hk).1))
    unfold OwnK
    rw [List.flatMap_append]
    simpa [kCells] using h1
end

/-- what wire.kindsOf leaves -/
def KoPost (s : ByteArray) (w : World) (e : Ending) (w' : World) : Prop :=
  (match kindsOf s with
    | none => e = .returned (.tuple #[.slice none 0 0, .bool false])
    | some ks => ∃ v, e = .returned (.tuple #[v, .bool true]) ∧ OwnK w' w.heap.size v ks) ∧ Below w.heap.size w w'
theorem KoPost.no {s : ByteArray} {w w' : World} (h : kindsOf s = none) (hb : Below w.heap.size w w') : KoPost s w (.returned (.tuple #[.slice none 0 0, .bool false])) w' := by
  unfold KoPost; rw [h]; exact ⟨rfl, hb⟩
theorem KoPost.yes {s : ByteArray} {w w' : World} {v : Value} {ks : List (Ltr × Bool)} (h : kindsOf s = some ks) (ho : OwnK w' w.heap.size v ks) (hb : Below w.heap.size w w') : KoPost s w (.returned (.tuple #[v, .bool true])) w' := by
  unfold KoPost; rw [h]; exact ⟨⟨v, rfl, ho⟩, hb⟩

theorem drop_byte (s : ByteArray) (k : Nat) (h : k < s.size) : s.data.toList.drop k = s[k] :: s.data.toList.drop (k + 1) := by
  rw [List.drop_eq_getElem_cons (by simpa using h)]; rfl

theorem byte_ne {c d : UInt8} (h : c ≠ d) : ((c.toNat : Int) == (d.toNat : Int)) = false := by
  rw [beq_eq_false_iff_ne]; intro e; exact h (UInt8.toNat_inj.1 (by omega))

set_option maxRecDepth 100000 in
set_option maxHeartbeats 1000000 in
/-- wire.kindsOf -/
theorem lkindsOf (s : ByteArray) (w : World) (hs : s.size ≤ maxLen) : Calls Try.prog 18 #[.string s] w (KoPost s w) := by
  unfold maxLen at hs
  by_cases h40 : 40 < s.size
  · have R := Lib.hid (show kindsOf s = none by unfold kindsOf; rw [if_pos h40])
    go_enter Try.func18, Try.ntmps18
    go_wp2_with fail
    go_ret2
    exact KoPost.no R.out (Below.refl _ _)
  have R := Lib.hid (show kindsOf s = kindsGo s.data.toList false by unfold kindsOf; rw [if_neg h40])
  go_enter Try.func18, Try.ntmps18
  go_wp2_with fail
  go_loopw [4, 5, 13] (fun vo vs i wr => ∃ (k : Nat) (ks : List (Ltr × Bool)) (st : Bool), k ≤ s.size ∧ i = .int .i64 k ∧ vs = .bool st ∧ ks.length ≤ k ∧ Hid (kindsOf s = (kindsGo (s.data.toList.drop k) st).map (ks ++ ·)) ∧ Hid (OwnK wr w.heap.size vo ks) ∧ Hid (Below w.heap.size w wr)) (fun _ _ i _ => s.size - (intOf i).toNat)
  case atStart => exact ⟨0, [], false, Nat.zero_le _, rfl, rfl, Nat.zero_le _, Lib.hid (by rw [R.out]; simp), OwnK.nil _ _, Below.refl _ _⟩
  case round =>
    obtain ⟨k, ks, st, hk, rfl, rfl, hkl, HK, HO, HW⟩ := hrel
    have hsz := HW.out.size
    by_cases hlt : k < s.size
    · have DB := Lib.hid (drop_byte s k hlt)
      obtain ⟨c, hc⟩ : ∃ c, s[k] = c := ⟨_, rfl⟩
      rw [hc] at DB
      cases st
      · by_cases c42 : c = 42
        · have T : ((c.toNat : Int) == 42) = true := by subst c42; rfl
          have NX := Lib.hid (show kindsOf s = (kindsGo (s.data.toList.drop (k + 1)) true).map (ks ++ ·) by rw [HK.out, DB.out, c42, kindsGo_star])
          clear c42
          go_wp2_with fail
          go_roundw
          case rel => exact ⟨k + 1, ks, true, by omega, by go_num, rfl, by omega, NX.out, HO.out, HW.out⟩
          case measure => simp [intOf]; omega
        · have T : ((c.toNat : Int) == 42) = false := byte_ne c42
          have CS := Lib.hid (show ¬ (c = 42 ∧ false = false) from fun h => c42 h.1)
          clear c42
          cases hL : ltr c with
          | none =>
            have NO := Lib.hid (show kindsOf s = none by rw [HK.out, DB.out, kindsGo_no CS.out hL]; rfl)
            have HLI := Lib.hid (show (ltr c).isSome = false by rw [hL]; rfl)
            clear hL
            go_wp2_with fail
            refine (lidxL c _).mono ?_
            rintro e w' ⟨⟨n, rfl, hn⟩, rfl⟩
            have hn1 : n < 0 := by
              rw [HLI.out] at hn
              have := of_decide_eq_false hn.symm
              omega
            clear hn
            go_wp2_with fail
            go_ret2
            exact KoPost.no NO.out HW.out
          | some L =>
            have YES := Lib.hid (show kindsOf s = (kindsGo (s.data.toList.drop (k + 1)) false).map ((ks ++ [(L, false)]) ++ ·) by rw [HK.out, DB.out, kindsGo_yes CS.out hL, kindsGo_step])
            have HLI := Lib.hid (show (ltr c).isSome = true by rw [hL]; rfl)
            have LC := Lib.hid (ltr_code hL)
            clear hL
            go_wp2_with fail
            refine (lidxL c _).mono ?_
            rintro e w' ⟨⟨n, rfl, hn⟩, rfl⟩
            have hn1 : 0 ≤ n := by
              rw [HLI.out] at hn
              exact of_decide_eq_true hn.symm
            clear hn
            have NB := Lib.hid (show (wr.alloc (.cells #[.int .u8 (c.toNat : Int), .bool false] 50)).heap[wr.heap.size]? = some (.cells #[.int .u8 (L, false).1.code, .bool (L, false).2] 50) by rw [heap_alloc_new, LC.out])
            go_wp2_with (at_builtin; refine wp_putK rfl (.tmp 30) (.tmp 34) rfl w.heap.size _ ks rfl (HO.out.alloc _) (L, false) wr.heap.size rfl NB.out (by omega) (by simp; omega) ?_; intro v1 w1 hown1 hb1; have HO1 := Lib.hid hown1; have HB1 := Lib.hid ((HW.out.alloc hsz _).trans hb1); clear hown1 hb1)
            go_roundw
            case rel => exact ⟨k + 1, ks ++ [(L, false)], false, by omega, by go_num, rfl, by simp; omega, YES.out, HO1.out, HB1.out⟩
            case measure => simp [intOf]; omega
      · by_cases c42 : c = 42
        · have NO := Lib.hid (show kindsOf s = none by rw [HK.out, DB.out, c42, kindsGo_no (fun h => by cases h.2) rfl]; rfl)
          have T : (c.toNat : Int) = 42 := by subst c42; rfl
          clear c42
          go_wp2_with fail
          refine (lidx42 _).mono ?_
          rintro e w' ⟨rfl, rfl⟩
          go_wp2_with fail
          go_ret2
          exact KoPost.no NO.out HW.out
        · have T : ((c.toNat : Int) == 42) = false := byte_ne c42
          clear c42
          have CS := Lib.hid (show ¬ (c = 42 ∧ true = false) from fun h => by cases h.2)
          cases hL : ltr c with
          | none =>
            have NO := Lib.hid (show kindsOf s = none by rw [HK.out, DB.out, kindsGo_no CS.out hL]; rfl)
            have HLI := Lib.hid (show (ltr c).isSome = false by rw [hL]; rfl)
            clear hL
            go_wp2_with fail
            refine (lidxL c _).mono ?_
            rintro e w' ⟨⟨n, rfl, hn⟩, rfl⟩
            have hn1 : n < 0 := by
              rw [HLI.out] at hn
              have := of_decide_eq_false hn.symm
              omega
            clear hn
            go_wp2_with fail
            go_ret2
            exact KoPost.no NO.out HW.out
          | some L =>
            have YES := Lib.hid (show kindsOf s = (kindsGo (s.data.toList.drop (k + 1)) false).map ((ks ++ [(L, true)]) ++ ·) by rw [HK.out, DB.out, kindsGo_yes CS.out hL, kindsGo_step])
            have HLI := Lib.hid (show (ltr c).isSome = true by rw [hL]; rfl)
            have LC := Lib.hid (ltr_code hL)
            clear hL
            go_wp2_with fail
            refine (lidxL c _).mono ?_
            rintro e w' ⟨⟨n, rfl, hn⟩, rfl⟩
            have hn1 : 0 ≤ n := by
              rw [HLI.out] at hn
              exact of_decide_eq_true hn.symm
            clear hn
            have NB := Lib.hid (show (wr.alloc (.cells #[.int .u8 (c.toNat : Int), .bool true] 50)).heap[wr.heap.size]? = some (.cells #[.int .u8 (L, true).1.code, .bool (L, true).2] 50) by rw [heap_alloc_new, LC.out])
            go_wp2_with (at_builtin; refine wp_putK rfl (.tmp 30) (.tmp 34) rfl w.heap.size _ ks rfl (HO.out.alloc _) (L, true) wr.heap.size rfl NB.out (by omega) (by simp; omega) ?_; intro v1 w1 hown1 hb1; have HO1 := Lib.hid hown1; have HB1 := Lib.hid ((HW.out.alloc hsz _).trans hb1); clear hown1 hb1)
            go_roundw
            case rel => exact ⟨k + 1, ks ++ [(L, true)], false, by omega, by go_num, rfl, by simp; omega, YES.out, HO1.out, HB1.out⟩
            case measure => simp [intOf]; omega
    · have DN := Lib.hid (show s.data.toList.drop k = [] from List.drop_eq_nil_of_le (by simp; omega))
      cases st
      · have Y := Lib.hid (show kindsOf s = some ks by rw [HK.out, DN.out]; simp [kindsGo])
        go_wp2_with fail
        go_ret2
        exact KoPost.yes Y.out HO.out HW.out
      · have Y := Lib.hid (show kindsOf s = none by rw [HK.out, DN.out]; simp [kindsGo])
        go_wp2_with fail
        go_ret2
        exact KoPost.no Y.out HW.out

end Go.Proofs.Ytmcackghpkegbaa
