/- Proved parts: S7gi E5la. Conditions: each theorem's own. -/
import Derived.Test.YtfodclafkdkjbaaDoorM37
import Derived.BigQuiet
import Derived.Laws.StructEq
import Derived.Test.YtfodclafkdkjbaaDoorM33
import Derived.Test.YtfodclafkdkjbaaDoorM6
namespace Go.Proofs.YtfodclafkdkjbaaDoor
open Go.RowKit

theorem pc_parts (s : ByteArray) : ∃ n : Nat, (pcOf s).st.parts = (n : Int) ∧ n ≤ 128 ∧ (n = 0 ↔ isSec s = false) := by
  cases h : isSec s with
  | true =>
    obtain ⟨h1, h2, _⟩ := parts_pos h
    rw [pcOf_yes h]
    exact ⟨(stp s).parts.toNat, by show (stp s).parts = _; omega, by omega, ⟨fun q => by omega, fun q => by cases q⟩⟩
  | false => rw [pcOf_no h]; exact ⟨0, rfl, by omega, by simp⟩
/-- part j is there -/
def Hit (c : Cont) (G : Int) (a n : Nat) (Y : Int) (j : Nat) : Prop := (pcOf (c (a + j))).st = ⟨G, (a : Int) + (j : Int), Y, (j : Int), (n : Int)⟩
theorem hit_iff {c : Cont} {G : Int} {a n : Nat} {Y : Int} {j : Nat} (hn : 0 < n) : Hit c G a n Y j ↔ isAt (c (a + j)) G (a + j) j n Y = true := by
  unfold Hit
  rw [isAt_iff]
  cases h : isSec (c (a + j)) with
  | true =>
    rw [pcOf_yes h]
    constructor
    · intro q
      have q : stp (c (a + j)) = _ := q
      rw [q]; exact ⟨rfl, rfl, by simp only; omega, rfl, rfl, rfl⟩
    · rintro ⟨_, q1, q2, q3, q4, q5⟩
      show stp (c (a + j)) = _
      cases hs : stp (c (a + j)) with
      | mk g i l p k =>
        rw [hs] at q1 q2 q3 q4 q5
        simp only at q1 q2 q3 q4 q5
        subst q1; subst q3; subst q4; subst q5
        rw [q2]; simp
  | false =>
    rw [pcOf_no h]
    constructor
    · intro q
      have : (0 : Int) = n := congrArg Stp.parts q
      omega
    · intro q; simp at q
theorem recN_none {c : Cont} {S : Nat} {G : Int} {a : Nat} (h : begins c S G a = false) : recN c S G a = 0 := by
  unfold recN; rw [h]; rfl
/-- the record is there just if all its parts are -/
theorem recN_hits {c : Cont} {S : Nat} {G : Int} {a n : Nat} {Y : Int} (ha : a < S) (hp : (pcOf (c a)).st.parts = (n : Int)) (hy : (pcOf (c a)).st.life = Y) (hn : a + n ≤ S) (h : ∀ j, j < n → Hit c G a n Y j) : recN c S G a = n := by
  rcases Nat.eq_zero_or_pos n with z | z
  · subst z
    refine recN_none ?_
    cases hb : begins c S G a with
    | false => rfl
    | true =>
      have b := (begins_iff _ _ _ _).1 hb
      rw [pcOf_yes b.2.1] at hp
      have := (parts_pos b.2.1).1
      have hp : (stp (c a)).parts = 0 := hp
      omega
  · have h0 := (isAt_iff _ _ _ _ _ _).1 ((hit_iff z).1 (h 0 z))
    rw [Nat.add_zero] at h0
    rw [pcOf_yes h0.1] at hp hy
    have hp : (stp (c a)).parts = (n : Int) := hp
    have hy : (stp (c a)).life = Y := hy
    refine recN_of ((begins_iff _ _ _ _).2 ⟨ha, h0.1, h0.2.1, h0.2.2.1, h0.2.2.2.1, by omega⟩) hp ((goes_iff _ _ _ _ _ _).2 fun j hj => ?_)
    rw [hy]; exact (hit_iff z).1 (h j hj)
theorem recN_miss {c : Cont} {S : Nat} {G : Int} {a n : Nat} {Y : Int} (hp : (pcOf (c a)).st.parts = (n : Int)) (hy : (pcOf (c a)).st.life = Y) {j : Nat} (hj : j < n) (h : ¬ Hit c G a n Y j) : recN c S G a = 0 := by
  rcases Nat.eq_zero_or_pos (recN c S G a) with z | z
  · exact z
  · obtain ⟨hb, h1, h2, _⟩ := recN_some rfl z
    have b := (begins_iff _ _ _ _).1 hb
    rw [pcOf_yes b.2.1] at hp hy
    have hp : (stp (c a)).parts = (n : Int) := hp
    have hy : (stp (c a)).life = Y := hy
    have e : recN c S G a = n := by omega
    rw [e, hy] at h2
    exact absurd ((hit_iff (by omega)).2 ((goes_iff _ _ _ _ _ _).1 h2 j hj)) h
theorem recN_far {c : Cont} {S : Nat} {G : Int} {a n : Nat} (hp : (pcOf (c a)).st.parts = (n : Int)) (h : S < a + n) : recN c S G a = 0 := by
  rcases Nat.eq_zero_or_pos (recN c S G a) with z | z
  · exact z
  · obtain ⟨hb, h1, h2, h3⟩ := recN_some rfl z
    have b := (begins_iff _ _ _ _).1 hb
    rw [pcOf_yes b.2.1] at hp
    have hp : (stp (c a)).parts = (n : Int) := hp
    omega
theorem recN_end {c : Cont} {S : Nat} {G : Int} : recN c S G S = 0 := by
  rcases recN_le c S G S with e | e
  · exact e
  · omega

set_option maxRecDepth 100000 in
set_option maxHeartbeats 2000000 in
/-- recordAt -/
theorem qRecAt (g S a : Nat) (G : Int) (c : Cont) (w : World) (h : PcRow w g (pcs c S)) (hS : S ≤ 128) (ha : a ≤ S) :
    Calls Tryd.prog 57 #[.slice (some ⟨g, 0, none⟩) S S, .int .i64 G, .int .i64 (a : Int)] w fun x w' => (∃ A cp, x = .returned (.slice A (recN c S G a) cp) ∧ (0 < recN c S G a → A = some ⟨g, a * 6, none⟩)) ∧ Below w.heap.size w w' := by
  have H := Lib.hid h
  have B0 := Lib.hid (Below.refl w.heap.size w)
  by_cases hE : a = S
  · subst hE
    have R := Lib.hid (recN_end (c := c) (S := a) (G := G))
    rw [R.out]
    clear h
    go_enter Tryd.func57, Tryd.ntmps57
    go_wp2_with fail
    go_ret
    exact ⟨⟨_, _, rfl, fun q => absurd q (by omega)⟩, B0.out⟩
  have hlt : a < S := by omega
  obtain ⟨c0, c1, c2, c3, c4, c5⟩ := h.cells hlt
  obtain ⟨n, hn, n1, _⟩ := pc_parts (c a)
  rw [hn] at c4
  by_cases hf : S < a + n
  · have R := Lib.hid (recN_far (G := G) hn hf)
    rw [R.out]
    clear h
    go_enter Tryd.func57, Tryd.ntmps57
    go_wp2_with fail
    go_ret
    exact ⟨⟨_, _, rfl, fun q => absurd q (by omega)⟩, B0.out⟩
  have hy : (pcOf (c a)).st.life = (pcOf (c a)).st.life := rfl
  obtain ⟨Y, hY⟩ : ∃ Y, Y = (pcOf (c a)).st.life := ⟨_, rfl⟩
  rw [← hY] at c2
  have OK := Lib.hid (fun h => recN_hits (G := G) (Y := Y) hlt hn hY.symm (show a + n ≤ S by omega) h)
  have NO := Lib.hid (fun j (hj : j < n) h => recN_miss (S := S) (G := G) (Y := Y) hn hY.symm hj h)
  obtain ⟨K, hK⟩ : ∃ K, K = recN c S G a := ⟨_, rfl⟩
  rw [← hK] at OK NO ⊢
  have D1 : decide (S - a < n) = false := decide_eq_false (by omega)
  have D2 : ((((S - a : Nat) : Int)) == 0) = false := by simp; omega
  have fit : a + n ≤ S := by omega
  clear h hy hY hn hf hE hK
  go_enter Tryd.func57, Tryd.ntmps57
  go_wp2_with fail
  obtain ⟨g0, hg0⟩ : ∃ g0, g0 = (pcOf (c a)).st.gen := ⟨_, rfl⟩
  obtain ⟨g1, hg1⟩ : ∃ g1, g1 = (pcOf (c a)).st.index := ⟨_, rfl⟩
  obtain ⟨g3, hg3⟩ : ∃ g3, g3 = (pcOf (c a)).st.part := ⟨_, rfl⟩
  rw [← hg0, ← hg1, ← hg3]
  clear hg0 hg1 hg3
  have R1 := Lib.hid (RowAt.new w [.int .i64 g0, .int .i64 g1, .int .i64 Y, .int .i64 g3, .int .i64 (n : Int)] 110)
  have B1 := Lib.hid ((Below.refl w.heap.size w).alloc (Nat.le_refl _) (.cells #[.int .i64 g0, .int .i64 g1, .int .i64 Y, .int .i64 g3, .int .i64 (n : Int)] 110))
  have H1 := Lib.hid (H.out.below B1.out)
  obtain ⟨hb, hhb⟩ : ∃ hb, hb = w.heap.size := ⟨_, rfl⟩
  rw [← hhb] at R1 ⊢
  clear hhb c0 c1 c2 c3 c4 c5
  go_loopw [33] (fun v wr => ∃ j : Nat, j ≤ n ∧ v = .int .i64 j ∧ Hid (PcRow wr g (pcs c S)) ∧ Hid (RowAt wr hb [.int .i64 g0, .int .i64 g1, .int .i64 Y, .int .i64 g3, .int .i64 (n : Int)] 110) ∧ Hid (∀ i, i < j → Hit c G a n Y i) ∧ Hid (Below w.heap.size w wr)) (fun v _ => n - (Go.RowKit.intOf v).toNat)
  case atStart => exact ⟨0, Nat.zero_le _, rfl, H1, R1, Lib.hid (fun i hi => absurd hi (by omega)), B1⟩
  case round =>
    obtain ⟨j, hj, rfl, HR, HH, HI, HB⟩ := hrel
    have h2 := HH.out.cell 2
    have h4 := HH.out.cell 4
    simp only [List.getElem?_cons_succ, List.getElem?_cons_zero] at h2 h4
    by_cases hlj : j < n
    · obtain ⟨c0, c1, c2, c3, c4, c5⟩ := HR.out.cells (i := a + j) (by omega)
      rw [show (a + j) * 6 = a * 6 + j * 6 by omega] at c0 c1 c2 c3 c4 c5
      have LR : g < wr.heap.size := HR.out.lt
      have MI := Lib.hid (show ¬ Hit c G a n Y j → K = 0 from NO.out j hlj)
      obtain ⟨y, hy⟩ : ∃ y, y = pcOf (c (a + j)) := ⟨_, rfl⟩
      have YH := Lib.hid (show Hit c G a n Y j ↔ y.st = ⟨G, (a : Int) + (j : Int), Y, (j : Int), (n : Int)⟩ by unfold Hit; rw [hy])
      rw [← hy] at c0 c1 c2 c3 c4 c5
      have HY := Lib.hid hy
      clear hy
      go_wp2_with fail
      obtain ⟨wn, hwn⟩ : ∃ wn, wn = wr.alloc (.cells #[.int .i64 G, .int .i64 ((a : Int) + (j : Int)), .int .i64 Y, .int .i64 (j : Int), .int .i64 (n : Int)] 110) := ⟨_, rfl⟩
      have BN : Below wr.heap.size wr wn := by rw [hwn]; exact (Below.refl _ _).alloc (Nat.le_refl _) _
      have RN : RowAt wn wr.heap.size [.int .i64 G, .int .i64 ((a : Int) + (j : Int)), .int .i64 Y, .int .i64 (j : Int), .int .i64 (n : Int)] 110 := by rw [hwn]; exact RowAt.new wr _ _
      have HRn := Lib.hid (HR.out.below BN)
      have HHn := Lib.hid (HH.out.below BN)
      have HBn := Lib.hid (below_then HB.out BN)
      rw [← hwn]
      obtain ⟨c0', c1', c2', c3', c4', c5'⟩ := HRn.out.cells (i := a + j) (by omega)
      rw [show (a + j) * 6 = a * 6 + j * 6 by omega] at c0' c1' c2' c3' c4' c5'
      rw [← HY.out] at c0' c1' c2' c3' c4' c5'
      have e0 := RN.cell 0
      have e1 := RN.cell 1
      have e2 := RN.cell 2
      have e3 := RN.cell 3
      have e4 := RN.cell 4
      simp only [List.getElem?_cons_succ, List.getElem?_cons_zero] at e0 e1 e2 e3 e4
      obtain ⟨q, hq⟩ : ∃ q, q = wr.heap.size := ⟨_, rfl⟩
      rw [← hq] at e0 e1 e2 e3 e4 ⊢
      clear hwn BN RN hq c0 c1 c2 c3 c4 c5 h2 h4 LR
      have LJ : j < S - a := by omega
      by_cases hit : Hit c G a n Y j
      · have e := YH.out.1 hit
        rw [e] at c0' c1' c2' c3' c4'
        simp only at c0' c1' c2' c3' c4'
        have HI2 := Lib.hid (show ∀ i, i < j + 1 → Hit c G a n Y i from fun i hi => by
          rcases Nat.lt_or_ge i j with q | q
          · exact HI.out i q
          · obtain rfl : i = j := by omega
            exact hit)
        clear e hit
        go_quiet (fail)
        go_wp2_with fail
        go_roundw
        case rel => exact ⟨j + 1, by omega, by go_num, HRn, HHn, HI2, Lib.hid (below_drewN HBn.out _)⟩
        case measure => simp [Go.RowKit.intOf]; omega
      · have K0 := MI.out hit
        have ne : ¬ y.st = ⟨G, (a : Int) + (j : Int), Y, (j : Int), (n : Int)⟩ := fun e => hit (YH.out.2 e)
        obtain ⟨⟨s0, s1, s2, s3, s4⟩, d⟩ := y
        have M : s0 ≠ G ∨ (s0 = G ∧ s1 ≠ (a : Int) + (j : Int)) ∨ (s0 = G ∧ s1 = (a : Int) + (j : Int) ∧ s2 ≠ Y) ∨ (s0 = G ∧ s1 = (a : Int) + (j : Int) ∧ s2 = Y ∧ s3 ≠ (j : Int)) ∨ (s0 = G ∧ s1 = (a : Int) + (j : Int) ∧ s2 = Y ∧ s3 = (j : Int) ∧ s4 ≠ (n : Int)) := by
          by_cases q0 : s0 = G
          · by_cases q1 : s1 = (a : Int) + (j : Int)
            · by_cases q2 : s2 = Y
              · by_cases q3 : s3 = (j : Int)
                · by_cases q4 : s4 = (n : Int)
                  · exact absurd (by rw [q0, q1, q2, q3, q4]) ne
                  · exact .inr (.inr (.inr (.inr ⟨q0, q1, q2, q3, q4⟩)))
                · exact .inr (.inr (.inr (.inl ⟨q0, q1, q2, q3⟩)))
              · exact .inr (.inr (.inl ⟨q0, q1, q2⟩))
            · exact .inr (.inl ⟨q0, q1⟩)
          · exact .inl q0
        simp only at c0' c1' c2' c3' c4' c5'
        clear ne hit YH HY MI NO OK
        rcases M with q | ⟨q0, q⟩ | ⟨q0, q1, q⟩ | ⟨q0, q1, q2, q⟩ | ⟨q0, q1, q2, q3, q⟩
        · replace q := beq_eq_false_iff_ne.2 q
          go_quiet (fail)
          go_wp2_with fail
          go_ret
          exact ⟨⟨none, 0, by rw [K0]; rfl, fun h => absurd h (by rw [K0]; omega)⟩, below_drewN HBn.out _⟩
        · rw [q0] at c0'
          replace q := beq_eq_false_iff_ne.2 q
          go_quiet (fail)
          go_wp2_with fail
          go_ret
          exact ⟨⟨none, 0, by rw [K0]; rfl, fun h => absurd h (by rw [K0]; omega)⟩, below_drewN HBn.out _⟩
        · rw [q0] at c0'
          rw [q1] at c1'
          replace q := beq_eq_false_iff_ne.2 q
          go_quiet (fail)
          go_wp2_with fail
          go_ret
          exact ⟨⟨none, 0, by rw [K0]; rfl, fun h => absurd h (by rw [K0]; omega)⟩, below_drewN HBn.out _⟩
        · rw [q0] at c0'
          rw [q1] at c1'
          rw [q2] at c2'
          replace q := beq_eq_false_iff_ne.2 q
          go_quiet (fail)
          go_wp2_with fail
          go_ret
          exact ⟨⟨none, 0, by rw [K0]; rfl, fun h => absurd h (by rw [K0]; omega)⟩, below_drewN HBn.out _⟩
        · rw [q0] at c0'
          rw [q1] at c1'
          rw [q2] at c2'
          rw [q3] at c3'
          replace q := beq_eq_false_iff_ne.2 q
          go_quiet (fail)
          go_wp2_with fail
          go_ret
          exact ⟨⟨none, 0, by rw [K0]; rfl, fun h => absurd h (by rw [K0]; omega)⟩, below_drewN HBn.out _⟩
    · obtain rfl : j = n := by omega
      have e := OK.out HI.out
      subst e
      go_wp2_with fail
      go_ret
      exact ⟨⟨some ⟨g, a * 6, none⟩, ⟨S - a, rfl⟩, fun _ => rfl⟩, HB.out⟩

end Go.Proofs.YtfodclafkdkjbaaDoor

namespace Go.Proofs.YtfodclafkdkjbaaDoor
open Go.RowKit Go.Maps

set_option maxRecDepth 100000 in
set_option maxHeartbeats 2000000 in
/-- Lay: what it answers, where nothing is done -/
theorem xLayNo (b : Nat) (F : Nat → Prop) (m : Ext) (e a : Int) (s : ByteArray) (w : World) (h : RelX w b F m) (hz : s.size ≤ 9223372036854775807) (r : Int) (hr0 : r ≠ 0) (he : m.lay e a s = (m, r)) :
    Calls Tryd.prog 26 #[.pointer (some ⟨b, 0, none⟩), .int .i64 e, .int .i64 a, .string s] w fun x w' => x = .returned (.int .i64 (m.lay e a s).2) ∧ LeftE RelX b F w (m.lay e a s).1 w' := by
  rw [he]
  refine Calls.mono (R := fun x w' => x = .returned (.int .i64 r) ∧ Below w.heap.size w w') ?_ fun x w' hq => ⟨hq.1, h.left_below hq.2⟩
  obtain ⟨g, cap, ds, ms, Ds, hr, hb', hg, hd, hF⟩ := h
  clear hb' hg hd hF
  have c1 := hr.sec
  have c2 := hr.ext
  obtain ⟨x1, h1⟩ : ∃ x1 : Int, x1 = (if 0 ≤ e ∧ e < m.ext ∧ 0 ≤ a ∧ a < m.sec then 0 else 1) := ⟨_, rfl⟩
  obtain ⟨x2, h2⟩ : ∃ x2 : Int, x2 = (if 64 < s.size then 5 else 0) := ⟨_, rfl⟩
  have OR := Lib.hid (show (if x1 = 0 then x2 else x1) = r by
    unfold Ext.lay at he
    rw [h1, h2]
    by_cases k : m.has e a
    · have k' : 0 ≤ e ∧ e < m.ext ∧ 0 ≤ a ∧ a < m.sec := k
      rw [if_pos k] at he
      rw [if_pos k', if_pos rfl]
      by_cases k2 : 64 < s.size
      · rw [if_pos k2] at he ⊢; simp at he; exact he
      · rw [if_neg k2] at he; simp at he; exact absurd he.2.symm hr0
    · have k' : ¬ (0 ≤ e ∧ e < m.ext ∧ 0 ≤ a ∧ a < m.sec) := k
      rw [if_neg k] at he
      rw [if_neg k']; simp at he; simp; exact he)
  have C2 := Lib.hid (xHas b e a m.ext m.sec cap (some ⟨g, 0, none⟩) w c1 c2)
  have C3 := Lib.hid (xFits s w hz)
  rw [← h1] at C2
  rw [← h2] at C3
  clear h1 h2 hr he c1 c2 hz
  have HB := Lib.hid (Below.refl w.heap.size w)
  have hrb : (r == 0) = false := beq_eq_false_iff_ne.2 hr0
  have hrb2 : (r != 0) = true := by simp [bne, hrb]
  clear hr0
  go_enter Tryd.func26, Tryd.ntmps26
  go_wp2_with fail
  refine C2.out.mono ?_
  rintro x w' ⟨rfl, rfl⟩
  go_wp2_with fail
  refine C3.out.mono ?_
  rintro x w' ⟨rfl, rfl⟩
  go_wp2_with fail
  refine (xOr2 x1 x2 r OR.out _ _ _ (World.cell?_alloc_at _ _ _ _ rfl) (World.cell?_alloc_at _ _ _ _ rfl)).mono ?_
  rintro x w3 ⟨rfl, rfl⟩
  go_wp2_with fail
  go_ret
  exact ⟨rfl, HB.out.alloc (Nat.le_refl _) _⟩

set_option maxRecDepth 100000 in
set_option maxHeartbeats 2000000 in
/-- Lay, where it is done -/
theorem xLayYes (b : Nat) (F : Nat → Prop) (m : Ext) (e a : Nat) (s : ByteArray) (w : World) (h : RelX w b F m) (hz : s.size ≤ 64) (he : e < m.ext) (ha : a < m.sec) :
    Calls Tryd.prog 26 #[.pointer (some ⟨b, 0, none⟩), .int .i64 e, .int .i64 a, .string s] w fun x w' => x = .returned (.int .i64 0) ∧ LeftE RelX b F w (m.put (e * m.sec + a) ⟨s, s, false⟩) w' := by
  obtain ⟨g, cap, ds, ms, Ds, hr, hb', hg, hd, hF⟩ := h
  have c1 := hr.sec
  have c2 := hr.ext
  have HR := Lib.hid hr
  have i0 : (0 : Int) ≤ (e : Int) := by omega
  have i1 : (e : Int) < (m.ext : Int) := by omega
  have j0 : (0 : Int) ≤ (a : Int) := by omega
  have j1 : (a : Int) < (m.sec : Int) := by omega
  have C2 := Lib.hid (xHasYes b m e a cap (some ⟨g, 0, none⟩) w (has_of he ha) c1 c2)
  have C3 := Lib.hid (xFits s w (by omega))
  rw [if_neg (by omega)] at C3
  have HZ := Lib.hid hz
  have HB := Lib.hid hb'
  have HG := Lib.hid hg
  have HD := Lib.hid hd
  have HF := Lib.hid hF
  clear hr hz c1 c2 hb' hg hd hF
  go_enter Tryd.func26, Tryd.ntmps26
  go_wp2_with fail
  refine C2.out.mono ?_
  rintro x w' ⟨rfl, rfl⟩
  go_wp2_with fail
  refine C3.out.mono ?_
  rintro x w' ⟨rfl, rfl⟩
  go_wp2_with fail
  refine (xOr2 0 0 0 rfl _ _ _ (World.cell?_alloc_at _ _ _ _ rfl) (World.cell?_alloc_at _ _ _ _ rfl)).mono ?_
  rintro x w3 ⟨rfl, rfl⟩
  obtain ⟨W, hW⟩ : ∃ W, W = w'.alloc (.cells #[.int .i64 0, .int .i64 0] 25) := ⟨_, rfl⟩
  rw [← hW]
  have B := Lib.hid (show Below w'.heap.size w' W by rw [hW]; exact (Below.refl _ _).alloc (Nat.le_refl _) _)
  have HR2 := Lib.hid (HR.out.below B.out)
  have c2 := HR2.out.ext
  have c3 := HR2.out.dc e he
  have c4 := HR2.out.mc e he
  have l2 := HR2.out.lt_b
  have l3 := HR2.out.lt_g
  clear hW HR
  go_wp2_with fail
  obtain ⟨W2, hW2⟩ : ∃ W2, W2 = W.alloc (.cells #[.slice (some ⟨ds e, 0, none⟩) m.sec m.sec, .map (some (ms e))] 70) := ⟨_, rfl⟩
  rw [← hW2]
  have B2 := Lib.hid (show Below W.heap.size W W2 by rw [hW2]; exact (Below.refl _ _).alloc (Nat.le_refl _) _)
  have CC := Lib.hid (show W2.cell? ⟨W.heap.size, 0, none⟩ = some (.slice (some ⟨ds e, 0, none⟩) m.sec m.sec) by rw [hW2, World.cell?_alloc_at _ _ _ _ rfl]; rfl)
  have CD := Lib.hid (show W2.cell? ⟨W.heap.size, 1, none⟩ = some (.map (some (ms e))) by rw [hW2, World.cell?_alloc_at _ _ _ _ rfl]; rfl)
  have HS := Lib.hid (show W2.heap.size = W.heap.size + 1 by rw [hW2]; simp)
  have NB := Lib.hid (show W.heap.size ≠ ds e ∧ W.heap.size ≠ ms e from ⟨fun q => by have := HR2.out.lt_row he; omega, fun q => by have := HR2.out.lt_map he; omega⟩)
  clear hW2 c2 c3 c4 l2 l3
  refine wp_region_held_drew (S := fun v => v.cell? ⟨W.heap.size, 0, none⟩ = some (.slice (some ⟨ds e, 0, none⟩) m.sec m.sec)) (by kernel_rfl) CC.out (fun hHeld => ?_)
  refine rgnTake 0 rfl (by kernel_rfl) (by kernel_rfl) (by kernel_rfl) (fun _ _ _ h => h) (by rfl) (v := ?v0) ?hy0 hHeld ?rest0
  case hy0 => (intro v hSw; have y0 := hSw; first | (go_simp; done) | (go_simp; with_reducible rfl))
  try simp only [Act.put, List.setIfInBounds_toArray, List.set_cons_zero, List.set_cons_succ]
  refine rgnTake 1 rfl (by kernel_rfl) (by kernel_rfl) (by kernel_rfl) (fun _ _ _ h => h) (by rfl) (v := ?v1) ?hy1 hHeld ?rest1
  case hy1 => (intro v hSw; have y0 := hSw; first | (go_simp; done) | (go_simp; with_reducible rfl))
  try simp only [Act.put, List.setIfInBounds_toArray, List.set_cons_zero, List.set_cons_succ]
  refine rgnTake 2 rfl (by kernel_rfl) (by kernel_rfl) (by kernel_rfl) (fun _ _ _ h => h) (by rfl) (v := ?v2) ?hy2 hHeld ?rest2
  case hy2 => (intro v hSw; have y0 := hSw; first | (go_simp; done) | (go_simp; with_reducible rfl))
  try simp only [Act.put, List.setIfInBounds_toArray, List.set_cons_zero, List.set_cons_succ]
  refine rgnTake 3 rfl (by kernel_rfl) (by kernel_rfl) (by kernel_rfl) (fun _ _ _ h => h) (by rfl) (v := ?v3) ?hy3 hHeld ?rest3
  case hy3 => (intro v hSw; have y0 := hSw; first | (go_simp; done) | (go_simp; with_reducible rfl))
  try simp only [Act.put, List.setIfInBounds_toArray, List.set_cons_zero, List.set_cons_succ]
  refine rgnOne 4 rfl (by kernel_rfl) (fun K hK => ?_)
  go_simp
  refine (xSecOf s _ HZ.out).mono ?_
  rintro r w4 ⟨rfl, h4⟩
  have B4 := Lib.hid h4
  clear h4
  have HR3 := Lib.hid (((HR2.out.below B2.out).below (w' := W2.drew) ((Below.refl _ _).drew)).below B4.out)
  have CD4 := Lib.hid ((Chg.of_below (F := fun _ => False) B4.out).cell (p := ⟨W.heap.size, 1, none⟩) CD.out id)
  have CC4 := Lib.hid ((Chg.of_below (F := fun _ => False) B4.out).cell (p := ⟨W.heap.size, 0, none⟩) CC.out id)
  refine hK.out _ _ CC4.out (fun hHeld => ?_)
  clear hK K
  try simp only [Act.put, List.setIfInBounds_toArray, List.set_cons_zero, List.set_cons_succ]
  have RW := Lib.hid (HR3.out.row e he)
  have LN := Lib.hid (show a * 65 + 65 ≤ ((drys m e).flatMap secL).length by
    rw [flat_len secL_len, drys_len]
    have := Nat.mul_le_mul_right 65 (show a + 1 ≤ m.sec from ha)
    rw [Nat.add_mul] at this; omega)
  refine rgnTake 5 rfl (by kernel_rfl) (by kernel_rfl) (by kernel_rfl) (fun _ _ _ h => h) (by rfl) (v := ?v5) ?hy5 hHeld ?rest5
  case hy5 => (intro v hSw; have y0 := hSw; first | (go_simp; done) | (go_simp; with_reducible rfl))
  try simp only [Act.put, List.setIfInBounds_toArray, List.set_cons_zero, List.set_cons_succ]
  have TH := Lib.hid (RowAt.there RW.out (o := a * 65) (n := 65) LN.out)
  obtain ⟨w5, hw5⟩ : ∃ w5, w5 = w4.setCells (ds e) (a * 65) (secL s) := ⟨_, rfl⟩
  have GR5 := Lib.hid (show w4.grownBy w5 (some (ds e)) by rw [hw5]; exact setCells_grown _ _ _ _)
  have RW5 := Lib.hid (show RowAt w5 (ds e) (((drys m e).set a s).flatMap secL) 85 by
    rw [hw5, ← flat_seg secL_len s (drys m e) a (by rw [drys_len]; exact ha)]
    exact RowAt.setCells (secL s) (a * 65) _ w4 RW.out (by rw [secL_len]; exact LN.out))
  have HW5 := Lib.hid hw5
  clear hw5
  have C5 := Lib.hid (show Chg (fun k => k = ds e) w4 w5 from (Chg.refl _ _).grown GR5.out (fun k hk => by cases hk; exact .inl rfl))
  have CC5 := Lib.hid (C5.out.cell (p := ⟨W.heap.size, 0, none⟩) CC4.out NB.out.1)
  have CD5 := Lib.hid (C5.out.cell (p := ⟨W.heap.size, 1, none⟩) CD4.out NB.out.1)
  refine rgnOne 6 rfl (by kernel_rfl) (fun K hK => ?_)
  refine (if_pos rfl).mpr ?_
  refine wp_store_mid 85 (.tmp 34) (.tmp 33) rfl (ds e) (a * 65) (secL s).toArray rfl rfl (by rw [List.size_toArray, secL_len]; exact TH.out) (by rw [List.size_toArray, secL_len]; exact sizeS74) (all_oneCell_toArray (secL_one s)) ?_
  rw [List.toList_toArray, ← HW5.out]
  refine hK.out _ _ CC5.out (fun hHeld => ?_)
  clear hK K
  try simp only [Act.put]
  refine wpAnyH_done (by kernel_rfl) ?_ _
  have d1 := CD5.out
  have HM5 := Lib.hid (ownsMap_chg (HR3.out.map e he) C5.out (fun q => HR3.out.d_m he he q))
  go_wp2_with (
    (at_delete; refine wpList_delete_own _ rfl _ _ 68 3 rfl _ keyI Tryd.underlying68 secElem (ms e) (Maps.size (Ds e)) (Ds e) rfl HM5.out (.int .i64 a) (.int .i64 a) rfl (keyOfI (a : Int) ⟨by omega, by have h2 := HR3.out.ok.2.2.2.1; omega⟩) ?_; intro w6 hown6 hturn6))
  have GR6 := Lib.hid hturn6.grown
  have hc6 : Chg (fun k => k = ds e ∨ k = ms e) w4 w6 := (C5.out.mono fun i q => .inl q).grown GR6.out (fun k hk => by cases hk; exact .inl (.inr rfl))
  have hr6 : RepE w6 b g cap ds ms _ (m.put (e * m.sec + a) ⟨s, s, false⟩) := HR3.out.step he hc6 (by
      rw [drys_put HR3.out.ok he ha]; exact RW5.out.keep ((Chg.refl (fun k => k = ms e) w5).grown GR6.out (fun k hk => by cases hk; exact .inl rfl)) (fun q => HR3.out.d_m he he q.symm)) hown6
    ((HR3.out.says e he).del HR3.out.ok he ha s s) rfl rfl rfl (Ext.put_ok HR3.out.ok _ _) (HR3.out.fine.put HR3.out.ok he ha _ ⟨HZ.out, HZ.out, fun _ => rfl⟩)
    (fun e' a' he' ha' hne => by rw [secAt_put (pos_lt_nat HR3.out.ok he ha), if_neg (fun k => hne (pos_ne ha ha' k).1.symm)])
  have HR6 := Lib.hid hr6
  have HC6 := Lib.hid (show Chg (fun k => k = ds e ∨ k = ms e) w' w6 from ((((Chg.of_below B.out).trans (Chg.of_below (F := fun _ => False) B2.out) (fun _ q => q.elim)).drew).trans (Chg.of_below (F := fun _ => False) B4.out) (fun _ q => q.elim)).trans hc6 (fun i q => .inl q))
  clear hr6 hc6 hown6 hturn6
  go_ret
  exact ⟨rfl, RelX.left HC6.out (fun k hk => by
    rcases hk with rfl | rfl
    · exact .inl (HD.out e he).1
    · exact .inl (HD.out e he).2) HR6.out HB.out HG.out HD.out HF.out⟩

/-- Lay -/
theorem xLay (b : Nat) (F : Nat → Prop) (m : Ext) (e a : Int) (s : ByteArray) (w : World) (h : RelX w b F m) (_ : In64 e) (_ : In64 a) (hz : s.size ≤ 9223372036854775807) :
    Calls Tryd.prog 26 #[.pointer (some ⟨b, 0, none⟩), .int .i64 e, .int .i64 a, .string s] w fun x w' => x = .returned (.int .i64 (m.lay e a s).2) ∧ LeftE RelX b F w (m.lay e a s).1 w' := by
  by_cases hh : m.has e a
  · by_cases h64 : 64 < s.size
    · exact xLayNo b F m e a s w h hz 5 (by decide) (by unfold Ext.lay; rw [if_pos hh, if_pos h64])
    · obtain ⟨en, an, rfl, rfl, hen, han⟩ := has_nat hh
      rw [show m.lay (en : Int) (an : Int) s = (m.put (en * m.sec + an) ⟨s, s, false⟩, 0) by unfold Ext.lay; rw [if_pos hh, if_neg h64, pos_nat]]
      exact xLayYes b F m en an s w h (by omega) hen han
  · exact xLayNo b F m e a s w h hz 1 (by decide) (by unfold Ext.lay; rw [if_neg hh])

end Go.Proofs.YtfodclafkdkjbaaDoor
