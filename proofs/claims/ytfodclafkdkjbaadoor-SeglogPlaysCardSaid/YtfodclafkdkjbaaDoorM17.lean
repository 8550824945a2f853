/- Proved parts: S7t S7u. Conditions: each theorem's own. -/
import Derived.Test.YtfodclafkdkjbaaDoorM16
namespace Go.Proofs.YtfodclafkdkjbaaDoor
open Go.RowKit

theorem recB_size (c : Cont) (a : Nat) : ∀ k, (∀ j, j < k → isSec (c (a + j)) = true) → (recB c a k).size ≤ 50 * k
  | 0, _ => Nat.zero_le _
  | k + 1, h => by
    have d := dat_size (h k (by omega))
    have l := ((isSec_iff _).1 (h k (by omega))).2.2.1
    have ih := recB_size c a k fun j hj => h j (by omega)
    show (recB c a k ++ dat (c (a + k))).size ≤ _
    rw [ByteArray.size_append, d]; omega

set_option maxRecDepth 100000 in
set_option maxHeartbeats 4000000 in
theorem rRecord_yes {p g : Nat} {m : Ext} {e a : Nat} {G : Int} {S : Nat} {c : Cont} (H : RcIn p g m e a G S c) (w : World) (h : RefE w p g m) (hb : begins c S G a = true) :
    Calls Tryd.prog 64 #[.pointer (some ⟨p, 0, none⟩), .int .i64 (e : Int), .int .i64 G, .int .i64 (a : Int)] w (RcPost c S G a w) := by
  have HR := Lib.hid h
  have S128 := H.s128
  have e32 := H.e32
  have c2 := h.p2
  rw [← H.sec] at c2
  have H' := Lib.hid H
  obtain ⟨hlt, hsec, hg, hi, hp, hn⟩ := (begins_iff _ _ _ _).1 hb
  have RK := Lib.hid (H.read a w hlt h)
  have UN := Lib.hid (fun w => unpack_yes hsec w (H'.out.small a))
  have PP := parts_pos hsec
  obtain ⟨xl, hl⟩ : ∃ x, x = (stp (c a)).life := ⟨_, rfl⟩
  obtain ⟨n, hnn⟩ : ∃ n : Nat, (stp (c a)).parts = (n : Int) := ⟨(stp (c a)).parts.toNat, by omega⟩
  rw [hnn] at hn PP
  rw [hg, hi, hp, hnn, ← hl] at UN
  have n0 : 1 ≤ n := by omega
  have an : a + n ≤ S := by omega
  have STOP := Lib.hid (show ∀ k, k < n → isAt (c (a + k)) G (a + k) k (n : Int) xl = false → recN c S G a = 0 from fun k hk q => recN_stop (k := k) (by rw [hnn, Int.toNat_natCast]; exact hk) (by rw [hnn, ← hl]; exact q))
  have ALL := Lib.hid (show (∀ k, k < n → isAt (c (a + k)) G (a + k) k (n : Int) xl = true) → recN c S G a = n from fun q => by
    have := recN_all hb (fun k hk => by rw [hnn, Int.toNat_natCast] at hk; rw [hnn, ← hl]; exact q k hk)
    rw [this, hnn, Int.toNat_natCast])
  have T3 : decide ((S : Int) < (a : Int) + (n : Int)) = false := decide_eq_false (by omega)
  have WR : IntKind.i64.wrap ((a : Int) + (n : Int)) = (a : Int) + (n : Int) := by rw [IntKind.wrap_i64]; omega
  clear H h hb hsec hg hi hp hn hl hnn PP
  go_enter Tryd.func64, Tryd.ntmps64
  go_wp2_with fail
  refine RK.out.mono ?_
  rintro e1 w1 ⟨rfl, rfl⟩
  go_wp2_with fail
  refine (UN.out _).mono ?_
  rintro e2 w2 ⟨rfl, hb2⟩
  have R2 := (HR.out.below hb2).below (w' := w2.alloc (.cells #[.int .i64 G, .int .i64 (a : Int), .int .i64 xl, .int .i64 0, .int .i64 (n : Int)] 110)) ((Below.refl _ _).alloc (Nat.le_refl _) _)
  have B2 := Lib.hid (hb2.alloc hb2.size (.cells #[.int .i64 G, .int .i64 (a : Int), .int .i64 xl, .int .i64 0, .int .i64 (n : Int)] 110))
  have X2 := RowAt.new w2 [.int .i64 G, .int .i64 (a : Int), .int .i64 xl, .int .i64 0, .int .i64 (n : Int)] 110
  change RowAt (w2.alloc (.cells #[.int .i64 G, .int .i64 (a : Int), .int .i64 xl, .int .i64 0, .int .i64 (n : Int)] 110)) _ _ _ at X2
  go_wp2_with fail
  clear hb2 c2
  generalize w2.alloc (.cells #[.int .i64 G, .int .i64 (a : Int), .int .i64 xl, .int .i64 0, .int .i64 (n : Int)] 110) = w3 at R2 B2 X2 ⊢
  generalize w2.heap.size = q at X2 ⊢
  have c2 := R2.p2
  rw [← H'.out.sec] at c2
  obtain ⟨d0, d1, d2, d3, d4⟩ := BoxS.of_row X2
  go_quiet (fail)
  clear d0 d1 d2 d3 d4 c2
  obtain ⟨w4, hw4⟩ : ∃ w4, w4 = w3.drewN nq := ⟨_, rfl⟩
  have RW := Lib.hid (show RefE w4 p g m by rw [hw4]; exact R2.below (below_drewN (Below.refl _ _) _))
  have XW := Lib.hid (show RowAt w4 q [.int .i64 G, .int .i64 (a : Int), .int .i64 xl, .int .i64 0, .int .i64 (n : Int)] 110 by rw [hw4]; exact X2.drewN _)
  have BW := Lib.hid (show Below w.heap.size w w4 by rw [hw4]; exact below_drewN B2.out _)
  rw [← hw4]
  clear R2 X2 B2 hw4 T3 WR
  go_wp2_with fail
  go_loopw [15, 16] (fun va vk wr => ∃ k : Nat, k ≤ n ∧ vk = .int .i64 k ∧ va = .string (recB c a k) ∧ Hid (∀ j, j < k → isAt (c (a + j)) G (a + j) j (n : Int) xl = true) ∧ Hid (RefE wr p g m) ∧ Hid (RowAt wr q [.int .i64 G, .int .i64 (a : Int), .int .i64 xl, .int .i64 0, .int .i64 (n : Int)] 110) ∧ Hid (Below w.heap.size w wr)) (fun _ vk _ => n - (intOf vk).toNat)
  case atStart => exact ⟨0, Nat.zero_le _, rfl, rfl, Lib.hid (fun j hj => absurd hj (by omega)), RW, XW, BW⟩
  case round =>
    obtain ⟨k, hk, rfl, rfl, HA, HRW, HXW, HBW⟩ := hrel
    obtain ⟨d0, d1, d2, d3, d4⟩ := BoxS.of_row HXW.out
    by_cases kk : k < n
    case neg =>
      obtain rfl : k = n := by omega
      have RN := Lib.hid (ALL.out HA.out)
      go_wp2_with fail
      go_quiet (fail)
      go_wp2_with fail
      show bodyPost Tryd.prog Tryd.f64 _ .ret _ _
      go_ret2
      exact ⟨by rw [RN.out]; rfl, below_drewN HBW.out _⟩
    have RK := Lib.hid (H'.out.read (a + k) wr (by omega) HRW.out)
    rw [Int.natCast_add] at RK
    cases hsec : isSec (c (a + k)) with
    | false =>
      have NO := Lib.hid (STOP.out k kk (by unfold isAt; rw [hsec]; rfl))
      have UN2 := Lib.hid (fun w => unpack_no hsec w (H'.out.small (a + k)))
      clear hsec
      go_wp2_with fail
      refine RK.out.mono ?_
      rintro e5 w5 ⟨rfl, rfl⟩
      go_wp2_with fail
      refine (UN2.out _).mono ?_
      rintro e6 w6 ⟨rfl, hb6⟩
      have B6 := Lib.hid (below_then HBW.out hb6)
      clear hb6 d0 d1 d2 d3 d4
      go_wp2_with fail
      show bodyPost Tryd.prog Tryd.f64 _ .ret _ _
      go_ret2
      exact RcPost.no NO.out (B6.out.alloc B6.out.size _)
    | true =>
      have UN2 := Lib.hid (fun w => unpack_yes hsec w (H'.out.small (a + k)))
      have IA := Lib.hid (isAt_iff (c (a + k)) G (a + k) k (n : Int) xl)
      have SZ : (recB c a k).size + (dat (c (a + k))).size ≤ 100000 := by
        have s1 := recB_size c a k fun j hj => ((isAt_iff _ _ _ _ _ _).1 (HA.out j hj)).1
        have s2 := dat_size hsec
        have s3 := ((isSec_iff _).1 hsec).2.2.1
        omega
      have RS := Lib.hid (show recB c a k ++ dat (c (a + k)) = recB c a (k + 1) from rfl)
      have HSC := Lib.hid hsec
      obtain ⟨yg, hg⟩ : ∃ x, x = (stp (c (a + k))).gen := ⟨_, rfl⟩
      obtain ⟨yi, hi⟩ : ∃ x, x = (stp (c (a + k))).index := ⟨_, rfl⟩
      obtain ⟨yl, hl⟩ : ∃ x, x = (stp (c (a + k))).life := ⟨_, rfl⟩
      obtain ⟨yp, hp⟩ : ∃ x, x = (stp (c (a + k))).part := ⟨_, rfl⟩
      obtain ⟨yn, hn⟩ : ∃ x, x = (stp (c (a + k))).parts := ⟨_, rfl⟩
      obtain ⟨D, hD⟩ : ∃ D, D = dat (c (a + k)) := ⟨_, rfl⟩
      rw [← hg, ← hi, ← hl, ← hp, ← hn, ← hD] at UN2
      rw [← hg, ← hi, ← hl, ← hp, ← hn] at IA
      rw [← hD] at SZ RS
      clear hsec hg hi hl hp hn hD
      have W : (yg ≠ G) ∨ (yg = G ∧ yi ≠ (a : Int) + k) ∨ (yg = G ∧ yi = (a : Int) + k ∧ yp ≠ k) ∨ (yg = G ∧ yi = (a : Int) + k ∧ yp = k ∧ yn ≠ n) ∨ (yg = G ∧ yi = (a : Int) + k ∧ yp = k ∧ yn = n ∧ yl ≠ xl) ∨ (yg = G ∧ yi = (a : Int) + k ∧ yp = k ∧ yn = n ∧ yl = xl) := by omega
      rcases W with W | ⟨W1, W2⟩ | ⟨W1, W2, W3⟩ | ⟨W1, W2, W3, W4⟩ | ⟨W1, W2, W3, W4, W5⟩ | ⟨W1, W2, W3, W4, W5⟩
      · have NO := Lib.hid (STOP.out k kk (by cases q : isAt (c (a + k)) G (a + k) k (n : Int) xl with | false => rfl | true => (exfalso; have z := IA.out.1 q; omega)))
        have T : (yg != G) = true := by rw [bne_iff_ne]; exact W
        clear W
        go_wp2_with fail
        refine RK.out.mono ?_
        rintro e5 w5 ⟨rfl, rfl⟩
        go_wp2_with fail
        refine (UN2.out _).mono ?_
        rintro e6 w6 ⟨rfl, hb6⟩
        have B6 := Lib.hid (below_then HBW.out hb6)
        have R6 := Lib.hid (HRW.out.below hb6)
        have X6 := Lib.hid (HXW.out.below hb6)
        clear hb6 d0 d1 d2 d3 d4
        obtain ⟨d0, d1, d2, d3, d4⟩ := BoxS.of_row (X6.out.alloc (.cells #[.int .i64 yg, .int .i64 yi, .int .i64 yl, .int .i64 yp, .int .i64 yn] 110))
        go_wp2_with fail
        show bodyPost Tryd.prog Tryd.f64 _ .ret _ _
        go_ret2
        exact RcPost.no NO.out (B6.out.alloc B6.out.size _)
      · have NO := Lib.hid (STOP.out k kk (by cases q : isAt (c (a + k)) G (a + k) k (n : Int) xl with | false => rfl | true => (exfalso; have z := IA.out.1 q; omega)))
        subst W1
        have T : (yi != ((a : Int) + k)) = true := by rw [bne_iff_ne]; exact W2
        clear W2
        go_wp2_with fail
        refine RK.out.mono ?_
        rintro e5 w5 ⟨rfl, rfl⟩
        go_wp2_with fail
        refine (UN2.out _).mono ?_
        rintro e6 w6 ⟨rfl, hb6⟩
        have B6 := Lib.hid (below_then HBW.out hb6)
        have R6 := Lib.hid (HRW.out.below hb6)
        have X6 := Lib.hid (HXW.out.below hb6)
        clear hb6 d0 d1 d2 d3 d4
        obtain ⟨d0, d1, d2, d3, d4⟩ := BoxS.of_row (X6.out.alloc (.cells #[.int .i64 yg, .int .i64 yi, .int .i64 yl, .int .i64 yp, .int .i64 yn] 110))
        go_wp2_with fail
        show bodyPost Tryd.prog Tryd.f64 _ .ret _ _
        go_ret2
        exact RcPost.no NO.out (B6.out.alloc B6.out.size _)
      · have NO := Lib.hid (STOP.out k kk (by cases q : isAt (c (a + k)) G (a + k) k (n : Int) xl with | false => rfl | true => (exfalso; have z := IA.out.1 q; omega)))
        subst W1
        subst W2
        have T : (yp != (k : Int)) = true := by rw [bne_iff_ne]; exact W3
        clear W3
        go_wp2_with fail
        refine RK.out.mono ?_
        rintro e5 w5 ⟨rfl, rfl⟩
        go_wp2_with fail
        refine (UN2.out _).mono ?_
        rintro e6 w6 ⟨rfl, hb6⟩
        have B6 := Lib.hid (below_then HBW.out hb6)
        have R6 := Lib.hid (HRW.out.below hb6)
        have X6 := Lib.hid (HXW.out.below hb6)
        clear hb6 d0 d1 d2 d3 d4
        obtain ⟨d0, d1, d2, d3, d4⟩ := BoxS.of_row (X6.out.alloc (.cells #[.int .i64 yg, .int .i64 ((a : Int) + (k : Int)), .int .i64 yl, .int .i64 yp, .int .i64 yn] 110))
        go_wp2_with fail
        show bodyPost Tryd.prog Tryd.f64 _ .ret _ _
        go_ret2
        exact RcPost.no NO.out (B6.out.alloc B6.out.size _)
      · have NO := Lib.hid (STOP.out k kk (by cases q : isAt (c (a + k)) G (a + k) k (n : Int) xl with | false => rfl | true => (exfalso; have z := IA.out.1 q; omega)))
        subst W1
        subst W2
        subst W3
        have T : (yn != (n : Int)) = true := by rw [bne_iff_ne]; exact W4
        clear W4
        go_wp2_with fail
        refine RK.out.mono ?_
        rintro e5 w5 ⟨rfl, rfl⟩
        go_wp2_with fail
        refine (UN2.out _).mono ?_
        rintro e6 w6 ⟨rfl, hb6⟩
        have B6 := Lib.hid (below_then HBW.out hb6)
        have R6 := Lib.hid (HRW.out.below hb6)
        have X6 := Lib.hid (HXW.out.below hb6)
        clear hb6 d0 d1 d2 d3 d4
        obtain ⟨d0, d1, d2, d3, d4⟩ := BoxS.of_row (X6.out.alloc (.cells #[.int .i64 yg, .int .i64 ((a : Int) + (k : Int)), .int .i64 yl, .int .i64 (k : Int), .int .i64 yn] 110))
        go_wp2_with fail
        show bodyPost Tryd.prog Tryd.f64 _ .ret _ _
        go_ret2
        exact RcPost.no NO.out (B6.out.alloc B6.out.size _)
      · have NO := Lib.hid (STOP.out k kk (by cases q : isAt (c (a + k)) G (a + k) k (n : Int) xl with | false => rfl | true => (exfalso; have z := IA.out.1 q; omega)))
        subst W1
        subst W2
        subst W3
        subst W4
        have T : (yl != xl) = true := by rw [bne_iff_ne]; exact W5
        clear W5
        go_wp2_with fail
        refine RK.out.mono ?_
        rintro e5 w5 ⟨rfl, rfl⟩
        go_wp2_with fail
        refine (UN2.out _).mono ?_
        rintro e6 w6 ⟨rfl, hb6⟩
        have B6 := Lib.hid (below_then HBW.out hb6)
        have R6 := Lib.hid (HRW.out.below hb6)
        have X6 := Lib.hid (HXW.out.below hb6)
        clear hb6 d0 d1 d2 d3 d4
        obtain ⟨d0, d1, d2, d3, d4⟩ := BoxS.of_row (X6.out.alloc (.cells #[.int .i64 yg, .int .i64 ((a : Int) + (k : Int)), .int .i64 yl, .int .i64 (k : Int), .int .i64 (n : Int)] 110))
        go_wp2_with fail
        show bodyPost Tryd.prog Tryd.f64 _ .ret _ _
        go_ret2
        exact RcPost.no NO.out (B6.out.alloc B6.out.size _)
      · subst W1
        subst W2
        subst W3
        subst W4
        subst W5
        have HA2 := Lib.hid (show ∀ j, j < k + 1 → isAt (c (a + j)) yg (a + j) j (n : Int) yl = true from fun j hj => by
          rcases (show j < k ∨ j = k by omega) with q | q
          · exact HA.out j q
          · subst q; exact IA.out.2 ⟨HSC.out, rfl, by omega, rfl, rfl, rfl⟩)
        go_wp2_with fail
        refine RK.out.mono ?_
        rintro e5 w5 ⟨rfl, rfl⟩
        go_wp2_with fail
        refine (UN2.out _).mono ?_
        rintro e6 w6 ⟨rfl, hb6⟩
        have B6 := Lib.hid (below_then HBW.out hb6)
        have R6 := Lib.hid (HRW.out.below hb6)
        have X6 := Lib.hid (HXW.out.below hb6)
        clear hb6 d0 d1 d2 d3 d4
        obtain ⟨d0, d1, d2, d3, d4⟩ := BoxS.of_row (X6.out.alloc (.cells #[.int .i64 yg, .int .i64 ((a : Int) + (k : Int)), .int .i64 yl, .int .i64 (k : Int), .int .i64 (n : Int)] 110))
        go_wp2_with fail
        go_roundw
        case rel => exact ⟨k + 1, by omega, by go_num, by rw [RS.out], HA2, Lib.hid (R6.out.below ((Below.refl _ _).alloc (Nat.le_refl _) _)), Lib.hid (X6.out.alloc _), Lib.hid (B6.out.alloc B6.out.size _)⟩
        case measure => simp [intOf]; omega

/-- cloisonneref07.Record -/
theorem rRecord {p g : Nat} {m : Ext} {e a : Nat} {G : Int} {S : Nat} {c : Cont} (H : RcIn p g m e a G S c) (w : World) (h : RefE w p g m) (ha : a ≤ 1000) :
    Calls Tryd.prog 64 #[.pointer (some ⟨p, 0, none⟩), .int .i64 (e : Int), .int .i64 G, .int .i64 (a : Int)] w (RcPost c S G a w) := by
  cases hb : begins c S G a with
  | false => exact rRecord_no H w h ha hb
  | true => exact rRecord_yes H w h hb

end Go.Proofs.YtfodclafkdkjbaaDoor

namespace Go.Proofs.YtfodclafkdkjbaaDoor
open Go.RowKit

/-- what it answers -/
def StPost (c : Cont) (S : Nat) (w : World) (x : Ending) (w' : World) : Prop :=
  (∃ v, x = .returned (.tuple #[.int .i64 (stands c S).1, v, .int .i64 ((stands c S).2.2 : Nat)]) ∧ OwnS w' w.heap.size v (stands c S).2.1) ∧ Below w.heap.size w w'
theorem ownS_nil (w : World) (B : Nat) : OwnS w B (.slice none 0 0) [] := World.ownsRow_nil w B _ _
theorem StPost.no {c : Cont} {S : Nat} {w w' : World} (h : stands c S = (0, [], 0)) (hb : Below w.heap.size w w') : StPost c S w (.returned (.tuple #[.int .i64 0, .slice none 0 0, .int .i64 0])) w' := by
  unfold StPost
  rw [h]
  exact ⟨⟨_, rfl, ownS_nil _ _⟩, hb⟩
theorem Chain.len {c : Cont} {S : Nat} {G : Int} {a u : Nat} {rs : List ByteArray} (h : Chain c S G a rs u) : rs.length ≤ u - a := by
  induction h with
  | nil => simp
  | cons h1 h2 hc ih => have := hc.le.1; simp only [List.length_cons]; omega

set_option maxRecDepth 100000 in
set_option maxHeartbeats 2000000 in
/-- cloisonneref07.Stands -/
theorem rStands (p g : Nat) (m : Ext) (e : Nat) (w : World) (h : RefE w p g m) (hoff : m.off = false) (he : e < m.ext) (hs : m.Small) :
    Calls Tryd.prog 52 #[.pointer (some ⟨p, 0, none⟩), .int .i64 (e : Int)] w (StPost (nowC m e) m.sec w) := by
  have HR := Lib.hid h
  have s0 : 0 < m.sec := by have := h.ok.2.2.1; omega
  have IN := Lib.hid (fun (a : Nat) (G : Int) g0 g1 => RcIn.of (p := p) (g := g) (a := a) (G := G) h.ok hoff he hs g0 g1)
  obtain ⟨S, hS⟩ : ∃ S, S = m.sec := ⟨_, rfl⟩
  obtain ⟨c, hc⟩ : ∃ c, c = nowC m e := ⟨_, rfl⟩
  rw [← hS, ← hc] at IN ⊢
  rw [← hS] at s0
  have I0 := IN.out 0 0 (by omega) (by omega)
  have S128 := I0.s128
  have e32 := I0.e32
  have RK := Lib.hid (I0.read 0 w s0 h)
  have SM := Lib.hid (I0.small 0)
  clear h hS hc hoff he hs I0
  cases hsec : isSec (c 0) with
  | false =>
    have NO := Lib.hid (show stands c S = (0, [], 0) by unfold stands; rw [hsec]; rfl)
    have UN := Lib.hid (fun w => unpack_no hsec w SM.out)
    clear hsec
    go_enter Tryd.func52, Tryd.ntmps52
    go_wp2_with fail
    refine RK.out.mono ?_
    rintro e1 w1 ⟨rfl, rfl⟩
    go_wp2_with fail
    refine (UN.out _).mono ?_
    rintro e2 w2 ⟨rfl, hb2⟩
    have B2 := Lib.hid hb2
    clear hb2
    go_wp2_with fail
    go_ret3
    exact StPost.no NO.out (B2.out.alloc B2.out.size _)
  | true =>
    have UN := Lib.hid (fun w => unpack_yes hsec w SM.out)
    have PP := parts_pos hsec
    obtain ⟨G, hG⟩ : ∃ G, G = (stp (c 0)).gen := ⟨_, rfl⟩
    obtain ⟨xi, hxi⟩ : ∃ x, x = (stp (c 0)).index := ⟨_, rfl⟩
    obtain ⟨xl, hxl⟩ : ∃ x, x = (stp (c 0)).life := ⟨_, rfl⟩
    obtain ⟨xp, hxp⟩ : ∃ x, x = (stp (c 0)).part := ⟨_, rfl⟩
    obtain ⟨xn, hxn⟩ : ∃ x, x = (stp (c 0)).parts := ⟨_, rfl⟩
    rw [← hG, ← hxi, ← hxl, ← hxp, ← hxn] at UN
    have ST := Lib.hid (show stands c S = if (recs c S G S 0).2 = 0 then (0, [], 0) else (G, (recs c S G S 0).1, (recs c S G S 0).2) by unfold stands; rw [hsec, if_pos rfl, ← hG])
    have RC := Lib.hid (fun (a : Nat) (w : World) (hr : RefE w p g m) (ha : a ≤ 1000) => rRecord (IN.out a G (by omega) (by omega)) w hr ha)
    clear hsec hG hxi hxl hxp hxn PP
    go_enter Tryd.func52, Tryd.ntmps52
    go_wp2_with fail
    refine RK.out.mono ?_
    rintro e1 w1 ⟨rfl, rfl⟩
    go_wp2_with fail
    refine (UN.out _).mono ?_
    rintro e2 w2 ⟨rfl, hb2⟩
    have R2 := (HR.out.below hb2).below (w' := w2.alloc (.cells #[.int .i64 G, .int .i64 xi, .int .i64 xl, .int .i64 xp, .int .i64 xn] 110)) ((Below.refl _ _).alloc (Nat.le_refl _) _)
    have B2 := hb2.alloc hb2.size (.cells #[.int .i64 G, .int .i64 xi, .int .i64 xl, .int .i64 xp, .int .i64 xn] 110)
    have X2 := RowAt.new w2 [.int .i64 G, .int .i64 xi, .int .i64 xl, .int .i64 xp, .int .i64 xn] 110
    have R3 := R2.below ((Below.refl _ _).alloc (Nat.le_refl _) (.cells #[] 9))
    have B3 := B2.alloc B2.size (.cells #[] 9)
    have X3 := X2.alloc (.cells #[] 9)
    have O3 := OwnS.made (B := w2.heap.size + 1) (w2.alloc (.cells #[.int .i64 G, .int .i64 xi, .int .i64 xl, .int .i64 xp, .int .i64 xn] 110)) (by simp)
    change RowAt ((w2.alloc (.cells #[.int .i64 G, .int .i64 xi, .int .i64 xl, .int .i64 xp, .int .i64 xn] 110)).alloc (.cells #[] 9)) _ _ _ at X3
    rw [show (w2.alloc (.cells #[.int .i64 G, .int .i64 xi, .int .i64 xl, .int .i64 xp, .int .i64 xn] 110)).heap.size = w2.heap.size + 1 by simp] at O3
    clear R2 B2 X2
    go_wp2_with fail
    have QW := Lib.hid (show w.heap.size ≤ w2.heap.size from hb2.size)
    clear hb2
    generalize ((w2.alloc (.cells #[.int .i64 G, .int .i64 xi, .int .i64 xl, .int .i64 xp, .int .i64 xn] 110)).alloc (.cells #[] 9)) = w3 at R3 B3 X3 O3 ⊢
    generalize w2.heap.size = q at X3 O3 QW ⊢
    have RW := Lib.hid R3
    have BW := Lib.hid B3
    have XW := Lib.hid X3
    have OW := Lib.hid O3
    clear R3 B3 X3 O3
    go_loopw [12, 13] (fun vo va wr => ∃ (a : Nat) (acc : List ByteArray), va = .int .i64 a ∧ Chain c S G 0 acc a ∧ a ≤ S ∧ Hid (OwnS wr (q + 1) vo acc) ∧ Hid (RefE wr p g m) ∧ Hid (RowAt wr q [.int .i64 G, .int .i64 xi, .int .i64 xl, .int .i64 xp, .int .i64 xn] 110) ∧ Hid (Below w.heap.size w wr)) (fun _ va _ => S - (intOf va).toNat)
    case atStart => exact ⟨0, [], rfl, .nil 0, Nat.zero_le _, OW, RW, XW, BW⟩
    case round =>
      obtain ⟨a, acc, rfl, hch, ha, HO, HRW, HXW, HBW⟩ := hrel
      have CH := Lib.hid hch
      have AL := Lib.hid (show acc.length ≤ 128 by have := hch.len; omega)
      obtain ⟨d0, d1, d2, d3, d4⟩ := BoxS.of_row HXW.out
      clear hch
      go_wp2_with fail
      refine (RC.out a wr HRW.out (by omega)).mono ?_
      rintro e5 w5 ⟨rfl, hb5⟩
      have R5 := Lib.hid (HRW.out.below hb5)
      have X5 := Lib.hid (HXW.out.below hb5)
      have O5 := Lib.hid (HO.out.below hb5)
      have B5 := Lib.hid (below_then HBW.out hb5)
      clear hb5 d0 d1 d2 d3 d4
      obtain ⟨d0, d1, d2, d3, d4⟩ := BoxS.of_row X5.out
      obtain ⟨n, hn⟩ : ∃ n, n = recN c S G a := ⟨_, rfl⟩
      by_cases n0 : n = 0
      · have RS := Lib.hid (CH.out.recs (hn.symm.trans n0) S (by omega))
        rw [← hn]
        clear hn
        subst n0
        by_cases a0 : a = 0
        · have NO := Lib.hid (show stands c S = (0, [], 0) by rw [ST.out, RS.out, if_pos a0])
          subst a0
          go_wp2_with fail
          show bodyPost Tryd.prog Tryd.f52 _ .ret _ _
          go_ret3
          exact StPost.no NO.out B5.out
        · have YES := Lib.hid (show stands c S = (G, acc, a) by rw [ST.out, RS.out, if_neg a0])
          go_wp2_with fail
          show bodyPost Tryd.prog Tryd.f52 _ .ret _ _
          go_ret3
          unfold StPost
          rw [YES.out]
          exact ⟨⟨_, rfl, O5.out.mono (by have := QW.out; omega)⟩, B5.out⟩
      · have RB := Lib.hid (CH.out.snoc hn.symm (by omega))
        have LE := Lib.hid (show a + n ≤ S by rcases recN_le c S G a with q | q; exact absurd (hn.trans q) n0; omega)
        rw [← hn]
        obtain ⟨y, hy⟩ : ∃ y, y = recB c a n := ⟨_, rfl⟩
        rw [← hy] at RB ⊢
        have n1 : 0 < n := by omega
        have n2 : n ≤ 128 := by have := LE.out; omega
        have CW := Lib.hid (show ∀ w : World, (w.alloc (.cells #[.string y] 9)).cell? ⟨w.heap.size, 0, none⟩ = some (.string y) from fun w => by rw [World.cell?_alloc_at _ _ _ _ rfl]; rfl)
        clear hn hy n0
        have Q5 := Lib.hid (show q + 1 ≤ w5.heap.size from X5.out.lt)
        go_wp2_with (at_builtin; refine wp_putS rfl (.tmp 42) (.tmp 44) rfl (q + 1) _ _ rfl (O5.out.alloc _) _ y rfl (CW.out _) (by have := AL.out; omega) (by have := Q5.out; simp; omega) ?_; intro v1 w6 hown1 hb1; have HO1 := Lib.hid hown1; have HB1 := Lib.hid hb1; clear hown1 hb1)
        have X6 := Lib.hid (show RowAt w6 q _ _ from (HB1.out.block q (by omega)).trans (X5.out.alloc _))
        have B6 := Lib.hid ((B5.out.alloc B5.out.size _).trans (HB1.out.mono (by have := QW.out; omega)))
        have R6 := Lib.hid (HR.out.below B6.out)
        go_roundw
        case rel => exact ⟨a + n, _, by go_num, RB.out, LE.out, HO1, R6, X6, B6⟩
        case measure => have := LE.out; simp [intOf]; omega

end Go.Proofs.YtfodclafkdkjbaaDoor
