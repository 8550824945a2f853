/- ChainSweptOnce: walked, given what the program's chain does. -/
import Derived.Test.YtpafnjdaiagdiaaC9x
import Derived.Lib.SmallJoins
namespace Go.Proofs.Ytpafnjdaiagdiaa.chainSweptOnce
open Go.Proofs.Ytpafnjdaiagdiaa Go.Joins Go.ChangeShapes Go.WideShapes Go.ChangeAt Go.RowKit

set_option maxRecDepth 100000 in
set_option maxHeartbeats 2000000 in
theorem walk (X : ChainAt) (A : Option Addr) (c : Nat) (l : List Ver) (a b : Int) (w : World) (h : SlV w A l) (hf : FitsL l) (hl : l.length ≤ 9223372036854775807) (hc : l.length ≤ c) :
    Calls Try.prog 6 #[.slice A l.length c, .int .i64 a, .int .i64 b] w fun r w' => r = .returned (.bool true) ∧ Below w.heap.size w w' := by
  obtain ⟨n, hn⟩ : ∃ n, n = l.length := ⟨_, rfl⟩
  rw [← hn]
  have HN := Lib.hid hn
  have X' := Lib.hid X
  have AW := Lib.hid (awake9 X w)
  have HS := Lib.hid h
  have HC := Lib.hid hc
  have HF := Lib.hid hf
  have FA := Lib.hid (fun W (hb : Below w.heap.size w W) => show Calls Try.prog 8 #[.slice A n c] W _ from by rw [hn]; exact xFar9 l A c W (h.below hb) hl)
  clear hn X h hf hl hc
  go_enter Try.func6, Try.ntmps6
  go_wp2_with fail
  refine AW.out.mono ?_
  rintro r w1 ⟨rfl, hb1⟩
  have B1 := Lib.hid hb1
  clear hb1 AW
  go_wp2_with fail
  refine (FA.out w1 B1.out).mono ?_
  rintro r w2 ⟨hfar, rfl⟩
  rcases hfar with rfl | ⟨rfl, l1, l2⟩
  · go_wp2_with fail
    go_ret
    exact ⟨rfl, B1.out⟩
  have GL := Lib.hid (show GoodL l from ⟨HF.out, fun x hx => by have := l2 x hx; omega, by omega⟩)
  have S2 := Lib.hid (HS.out.below B1.out)
  have RR := Lib.hid (show Calls Try.prog 9 #[.slice A n c] w2 _ from by rw [HN.out]; exact rRight9 l A c w2 S2.out GL.out.fits GL.out.len)
  clear l1 l2 FA
  go_wp2_with fail
  refine RR.out.mono ?_
  rintro r w3 ⟨rfl, hb3⟩
  have B3 := Lib.hid (B1.out.trans (hb3.mono B1.out.size))
  have S3 := Lib.hid (S2.out.below hb3)
  clear hb3 RR
  cases hr : rightL l with
  | false =>
    go_wp2_with fail
    go_ret
    exact ⟨rfl, B3.out⟩
  | true =>
    have RV := Lib.hid (rise_of_right hr)
    have r1 := right_drop hr (oldL l a)
    have C1 := Lib.hid (X'.out.sweep l A c a w3 HC.out S3.out GL.out)
    have C2 := Lib.hid (fun A4 c4 W (hc : (sweepL l a).length ≤ c4) (hs : SlV W A4 (sweepL l a)) => X'.out.sweep (sweepL l a) A4 c4 b W hc hs (GL.out.sweep a))
    have C3 := Lib.hid (fun W (hs : SlV W A l) => rSweep9 l A c (max a b) W hs RV.out GL.out.len)
    have C4 := Lib.hid (fun W (hs : SlV W A l) => X'.out.old l A c (max a b) W hs GL.out)
    have C5 := Lib.hid (fun W (hs : SlV W A l) => X'.out.old l A c a W hs GL.out)
    have e1 : rightL (sweepL l a) = true := r1
    simp only [hr, if_true] at C1 C4 C5
    simp only [e1, if_true] at C2
    simp only [← HN.out] at C1 C3 C4 C5
    obtain ⟨Z1, z1⟩ : ∃ Z, Z = sweepL l a := ⟨_, rfl⟩
    obtain ⟨Z2, z2⟩ : ∃ Z, Z = sweepL Z1 b := ⟨_, rfl⟩
    obtain ⟨Z3, z3⟩ : ∃ Z, Z = sweepL l (max a b) := ⟨_, rfl⟩
    have EQ := Lib.hid (show Z2 = Z3 by rw [z2, z3, z1]; exact sweep_twice RV.out a b)
    have L2 := Lib.hid (show Z2.length ≤ 1000 by rw [z2, z1]; exact ((GL.out.sweep a).sweep b).len)
    have L3 := Lib.hid (show Z3.length ≤ 1000 by rw [z3]; exact (GL.out.sweep _).len)
    have OM := old_mono RV.out a b
    obtain ⟨o1, ho1⟩ : ∃ o, o = oldL l a := ⟨_, rfl⟩
    obtain ⟨o2, ho2⟩ : ∃ o, o = oldL l (max a b) := ⟨_, rfl⟩
    rw [← z1] at C1
    simp only [← z1, ← z2] at C2
    simp only [← z3] at C3
    simp only [← ho2] at C4
    simp only [← ho1] at C5
    rw [← ho1, ← ho2] at OM
    have le : (o1 : Int) ≤ (o2 : Int) := by omega
    obtain ⟨k1, hk1⟩ : ∃ k, k = Z1.length := ⟨_, rfl⟩
    obtain ⟨k2, hk2⟩ : ∃ k, k = Z2.length := ⟨_, rfl⟩
    obtain ⟨k3, hk3⟩ : ∃ k, k = Z3.length := ⟨_, rfl⟩
    have C6 := Lib.hid (show ∀ A5 A6 c5 c6 W, SlV W A5 Z2 → SlV W A6 Z3 → Calls Try.prog 19 #[.slice A5 k2 c5, .slice A6 k3 c6] W fun e w' => e = .returned (.bool true) ∧ ∃ m, w' = W.drewN m from fun A5 A6 c5 c6 W h5 h6 => by
      rw [hk2, hk3]; exact rSameYes Z2 Z3 A5 A6 c5 c6 W h5 h6 L2.out L3.out EQ.out)
    rw [← hk1] at C1
    simp only [← hk1, ← hk2] at C2
    simp only [← hk3] at C3
    clear r1 e1 z1 z2 z3 ho1 ho2 OM hk1 hk2 hk3
    go_wp2_with fail
    refine C1.out.mono ?_
    rintro r w4 ⟨A4, c4, rfl, cc4, s4, hb4⟩
    have CC4 := Lib.hid cc4
    clear cc4
    have S4 := Lib.hid (S3.out.below hb4)
    have Z4 := Lib.hid s4
    have B4 := Lib.hid (B3.out.trans (hb4.mono B3.out.size))
    clear s4 hb4
    go_wp2_with fail
    refine (C2.out A4 c4 w4 CC4.out Z4.out).mono ?_
    rintro r w5 ⟨A5, c5, rfl, -, s5, hb5⟩
    have S5 := Lib.hid (S4.out.below hb5)
    have Z5 := Lib.hid s5
    have B5 := Lib.hid (B4.out.trans (hb5.mono B4.out.size))
    clear s5 hb5
    go_wp2_with fail
    refine (C3.out w5 S5.out).mono ?_
    rintro r w6 ⟨A6, c6, rfl, s6, hb6⟩
    have S6 := Lib.hid (S5.out.below hb6)
    have Z6 := Lib.hid s6
    have Y6 := Lib.hid (Z5.out.below hb6)
    have B6 := Lib.hid (B5.out.trans (hb6.mono B5.out.size))
    clear s6 hb6
    go_wp2_with fail
    refine (C6.out A5 A6 c5 c6 w6 Y6.out Z6.out).mono ?_
    rintro r w7 ⟨rfl, m7, h7⟩
    have b7 : Below w6.heap.size w6 w7 := by rw [h7]; exact below_drewN (Below.refl _ _) _
    have S7 := Lib.hid (S6.out.below b7)
    have B7 := Lib.hid (B6.out.trans (b7.mono B6.out.size))
    clear b7 h7
    go_wp2_with fail
    refine (C4.out w7 S7.out).mono ?_
    rintro r w8 ⟨rfl, hb8⟩
    have S8 := Lib.hid (S7.out.below hb8)
    have B8 := Lib.hid (B7.out.trans (hb8.mono B7.out.size))
    clear hb8
    go_wp2_with fail
    refine (C5.out w8 S8.out).mono ?_
    rintro r w9 ⟨rfl, hb9⟩
    have B9 := Lib.hid (B8.out.trans (hb9.mono B8.out.size))
    clear hb9
    go_wp2_with fail
    go_ret
    exact ⟨rfl, B9.out⟩

end Go.Proofs.Ytpafnjdaiagdiaa.chainSweptOnce
