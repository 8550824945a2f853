/- ChainSweeps: walked, given what the program's chain does. -/
import Derived.Test.YtpafnjdaiagdiaaC9x
import Derived.Lib.SmallJoins
namespace Go.Proofs.Ytpafnjdaiagdiaa.chainSweeps
open Go.Proofs.Ytpafnjdaiagdiaa Go.Joins Go.ChangeShapes Go.WideShapes Go.ChangeAt Go.RowKit

/-- the five cells of a version in a block -/
theorem row5 {w : World} {g : Nat} {x : Ver} {t : TypeId} (h : RowAt w g x.cs t) : w.cell? ⟨g, 0, none⟩ = some (.int .i64 x.seq) ∧ w.cell? ⟨g, 1, none⟩ = some (.bool x.gone) ∧ w.cell? ⟨g, 2, none⟩ = some (.bool x.val.num) ∧ w.cell? ⟨g, 3, none⟩ = some (.string x.val.txt) ∧ w.cell? ⟨g, 4, none⟩ = some (.int .u64 (x.val.bits : Int)) :=
  ⟨h.cell 0, h.cell 1, h.cell 2, h.cell 3, h.cell 4⟩

set_option maxRecDepth 100000 in
set_option maxHeartbeats 4000000 in
theorem walk (X : ChainAt) (A : Option Addr) (c : Nat) (l : List Ver) (f z : Int) (w : World) (h : SlV w A l) (hf : FitsL l) (hl : l.length ≤ 9223372036854775807) (hc : l.length ≤ c) :
    Calls Try.prog 5 #[.slice A l.length c, .int .i64 f, .int .i64 z] w fun r w' => r = .returned (.bool true) ∧ Below w.heap.size w w' := by
  obtain ⟨n, hn⟩ : ∃ n, n = l.length := ⟨_, rfl⟩
  rw [← hn]
  have HN := Lib.hid hn
  have X' := Lib.hid X
  have AW := Lib.hid (awake9 X w)
  have HS := Lib.hid h
  have HC := Lib.hid hc
  have HF := Lib.hid hf
  have FA := Lib.hid (fun W (hb : Below w.heap.size w W) => show Calls Try.prog 8 #[.slice A n c] W _ from by rw [hn]; exact xFar9 l A c W (h.below hb) hl)
  clear hn X h hf hl hc
  go_enter Try.func5, Try.ntmps5
  go_wp2_with fail
  refine AW.out.mono ?_
  rintro r w1 ⟨rfl, hb1⟩
  have B1 := Lib.hid hb1
  clear hb1 AW
  go_wp2_with fail
  refine (FA.out w1 B1.out).mono ?_
  rintro r w2 ⟨hfar, rfl⟩
  rcases hfar with rfl | ⟨rfl, l1, l2⟩
  · go_wp2_with fail
    go_ret
    exact ⟨rfl, B1.out⟩
  have GL := Lib.hid (show GoodL l from ⟨HF.out, fun x hx => by have := l2 x hx; omega, by omega⟩)
  have S2 := Lib.hid (HS.out.below B1.out)
  have nl : n ≤ 100 := by rw [HN.out]; exact l1
  have C1 := Lib.hid (X'.out.sweep l A c f w2 HC.out S2.out GL.out)
  have C2 := Lib.hid (fun W (hs : SlV W A l) => show Calls Try.prog 9 #[.slice A n c] W _ from by rw [HN.out]; exact rRight9 l A c W hs GL.out.fits GL.out.len)
  clear l1 l2 FA
  cases hr : rightL l with
  | false =>
    simp only [hr, Bool.false_eq_true, if_false, List.length_nil] at C1
    simp only [hr] at C2
    rw [← HN.out] at C1
    clear hr
    go_wp2_with fail
    refine C1.out.mono ?_
    rintro r w3 ⟨A4, c4, rfl, -, _, hb3⟩
    have S3 := Lib.hid (S2.out.below hb3)
    have B3 := Lib.hid (B1.out.trans (hb3.mono B1.out.size))
    clear hb3
    go_wp2_with fail
    refine (C2.out w3 S3.out).mono ?_
    rintro r w4 ⟨rfl, hb4⟩
    have B4 := Lib.hid (B3.out.trans (hb4.mono B3.out.size))
    clear hb4
    go_wp2_with fail
    go_ret
    exact ⟨rfl, B4.out⟩
  | true =>
    have RV := Lib.hid (rise_of_right hr)
    have r1 : rightL (sweepL l f) = true := right_drop hr (oldL l f)
    have C3 := Lib.hid (fun W (hs : SlV W A l) => rSweep9 l A c f W hs RV.out GL.out.len)
    have C5 := Lib.hid (fun A4 c4 W (hc : (sweepL l f).length ≤ c4) (hs : SlV W A4 (sweepL l f)) => X'.out.sweep (sweepL l f) A4 c4 f W hc hs (GL.out.sweep f))
    have C6 := Lib.hid (fun s W (hs : SlV W A l) => X'.out.at_ l A c s W HC.out hs GL.out)
    have C7 := Lib.hid (fun A4 c4 s W (hc : (sweepL l f).length ≤ c4) (hs : SlV W A4 (sweepL l f)) => X'.out.at_ (sweepL l f) A4 c4 s W hc hs (GL.out.sweep f))
    have C8 := Lib.hid (fun A4 c4 W (hs : SlV W A4 (sweepL l f)) => X'.out.weight (sweepL l f) A4 c4 W hs (GL.out.sweep f))
    have C9 := Lib.hid (fun W (hs : SlV W A l) => rWeight9 l A c W hs GL.out.fits GL.out.texts GL.out.len)
    have SA := Lib.hid (fun s (hs : f ≤ s) => sweep_at RV.out hs)
    have SW := Lib.hid (sweep_weight (l := l) f)
    have SG := Lib.hid (sweep_again RV.out f)
    have ML := Lib.hid (GL.out.sweep f).len
    simp only [hr, if_true] at C1 C6
    simp only [hr] at C2
    simp only [r1, if_true, Bool.true_and, SG.out] at C5 C7 C8
    simp only [Bool.true_and] at C6
    simp only [SW.out] at C8
    simp only [← HN.out] at C1 C3 C6 C9
    obtain ⟨Z, hz⟩ : ∃ Z, Z = sweepL l f := ⟨_, rfl⟩
    rw [← hz] at C1 ML
    simp only [← hz] at C3 C5 C7 C8 SA
    obtain ⟨k, hk⟩ : ∃ k, k = Z.length := ⟨_, rfl⟩
    have CS := Lib.hid (show ∀ A5 A6 c5 c6 W, SlV W A5 Z → SlV W A6 Z → Calls Try.prog 19 #[.slice A5 k c5, .slice A6 k c6] W fun e w' => e = .returned (.bool true) ∧ ∃ m, w' = W.drewN m from fun A5 A6 c5 c6 W h5 h6 => by
      rw [hk]; exact rSameYes Z Z A5 A6 c5 c6 W h5 h6 ML.out ML.out rfl)
    rw [← hk] at C1
    simp only [← hk] at C3 C5 C7 C8
    obtain ⟨W0, hW0⟩ : ∃ W, W = weightL l := ⟨_, rfl⟩
    simp only [← hW0] at C8 C9
    have HW0 := Lib.hid hW0
    clear hz hk r1 hr hW0
    go_wp2_with fail
    refine C1.out.mono ?_
    rintro r w3 ⟨A4, c4, rfl, cc4, s3, hb3⟩
    have CC4 := Lib.hid cc4
    clear cc4
    have S3 := Lib.hid (S2.out.below hb3)
    have Z3 := Lib.hid s3
    have B3 := Lib.hid (B1.out.trans (hb3.mono B1.out.size))
    clear hb3 s3
    go_wp2_with fail
    refine (C2.out w3 S3.out).mono ?_
    rintro r w4 ⟨rfl, hb4⟩
    have B4 := Lib.hid (B3.out.trans (hb4.mono B3.out.size))
    have S4 := Lib.hid (S3.out.below hb4)
    have Z4 := Lib.hid (Z3.out.below hb4)
    clear hb4
    go_wp2_with fail
    refine (C3.out w4 S4.out).mono ?_
    rintro r w5 ⟨A5, c5, rfl, s5, hb5⟩
    have B5 := Lib.hid (B4.out.trans (hb5.mono B4.out.size))
    have S5 := Lib.hid (S4.out.below hb5)
    have Z5 := Lib.hid (Z4.out.below hb5)
    have Y5 := Lib.hid s5
    clear hb5 s5
    go_wp2_with fail
    refine (CS.out A4 A5 c4 c5 w5 Z5.out Y5.out).mono ?_
    rintro r w6 ⟨rfl, m6, h6⟩
    have b6 : Below w5.heap.size w5 w6 := by rw [h6]; exact below_drewN (Below.refl _ _) _
    have B6 := Lib.hid (B5.out.trans (b6.mono B5.out.size))
    have S6 := Lib.hid (S5.out.below b6)
    have Z6 := Lib.hid (Z5.out.below b6)
    clear b6 h6
    go_wp2_with fail
    refine (C5.out A4 c4 w6 CC4.out Z6.out).mono ?_
    rintro r w7 ⟨A7, c7, rfl, -, s7, hb7⟩
    have B7 := Lib.hid (B6.out.trans (hb7.mono B6.out.size))
    have S7 := Lib.hid (S6.out.below hb7)
    have Z7 := Lib.hid (Z6.out.below hb7)
    have Y7 := Lib.hid s7
    clear hb7 s7
    go_wp2_with fail
    refine (CS.out A7 A4 c7 c4 w7 Y7.out Z7.out).mono ?_
    rintro r w8 ⟨rfl, m8, h8⟩
    have b8 : Below w7.heap.size w7 w8 := by rw [h8]; exact below_drewN (Below.refl _ _) _
    have B8 := Lib.hid (B7.out.trans (b8.mono B7.out.size))
    have S8 := Lib.hid (S7.out.below b8)
    have Z8 := Lib.hid (Z7.out.below b8)
    clear b8 h8
    go_wp2_with fail
    go_loopw [8] (fun vk wr => ∃ k : Nat, k ≤ 2 ∧ vk = .int .i64 k ∧ Hid (Below w.heap.size w wr) ∧ Hid (SlV wr A l) ∧ Hid (SlV wr A4 Z)) (fun vk _ => 2 - (intOf vk).toNat)
    case atStart => exact ⟨0, by omega, rfl, B8, S8, Z8⟩
    case round =>
      obtain ⟨i, hi, rfl, HB, HL, HZ⟩ := hrel
      by_cases q : i < 2
      · have at_ : ∃ s : Int, f ≤ s ∧ ((i = 0 ∧ s = max z f) ∨ (i = 1 ∧ s = f)) := by
          by_cases e : i = 0
          · exact ⟨max z f, by omega, .inl ⟨e, rfl⟩⟩
          · exact ⟨f, by omega, .inr ⟨by omega, rfl⟩⟩
        obtain ⟨s, sf, hs⟩ := at_
        have P1 := Lib.hid (C6.out s wr HL.out)
        have P2 := Lib.hid (fun W (h : SlV W A4 Z) => C7.out A4 c4 s W CC4.out h)
        obtain ⟨t1, t2⟩ := SA.out s sf
        rw [t1, t2] at P2
        obtain ⟨x, hx⟩ : ∃ x, x = atL l s := ⟨_, rfl⟩
        obtain ⟨o, ho⟩ : ∃ o, o = atOk l s := ⟨_, rfl⟩
        rw [← hx, ← ho] at P1 P2
        have NE : ∀ w, (binOp .neq 29 (.agg #[.int .i64 x.seq, .bool x.gone, .bool x.val.num, .string x.val.txt, .int .u64 (x.val.bits : Int)]) (.agg #[.int .i64 x.seq, .bool x.gone, .bool x.val.num, .string x.val.txt, .int .u64 (x.val.bits : Int)])).run Try.prog w = .ok (.bool false) w := fun w => by
          have := neq_ver x x w
          rw [Ver.same_self] at this
          exact this
        have P1 : Hid (Calls Try.prog 10 #[.slice A n c, .int .i64 s] wr fun e w' => e = .returned (.tuple #[.agg #[.int .i64 x.seq, .bool x.gone, .bool x.val.num, .string x.val.txt, .int .u64 (x.val.bits : Int)], .bool o]) ∧ Below wr.heap.size wr w') := P1
        have P2 : Hid (∀ W, SlV W A4 Z → Calls Try.prog 10 #[.slice A4 k c4, .int .i64 s] W fun e w' => e = .returned (.tuple #[.agg #[.int .i64 x.seq, .bool x.gone, .bool x.val.num, .string x.val.txt, .int .u64 (x.val.bits : Int)], .bool o]) ∧ Below W.heap.size W w') := P2
        clear t1 t2 hx ho
        rcases hs with ⟨rfl, rfl⟩ | ⟨rfl, rfl⟩
        · skip
          go_wp2_with fail
          refine P1.out.mono ?_
          rintro e w9 ⟨rfl, hb9⟩
          have L9 := Lib.hid (HL.out.below hb9)
          have Z9 := Lib.hid (HZ.out.below hb9)
          have B9 := Lib.hid (HB.out.trans (hb9.mono HB.out.size))
          have q9 : Below w9.heap.size w9 (w9.alloc (.cells x.cs.toArray 29)) := (Below.refl _ _).alloc (Nat.le_refl _) _
          have Q9 := Lib.hid q9
          clear hb9 q9
          go_wp2_with fail
          refine (P2.out _ (Z9.out.below Q9.out)).mono ?_
          rintro e w10 ⟨rfl, hb10⟩
          have b10 : Below w9.heap.size w9 w10 := Q9.out.trans (hb10.mono Q9.out.size)
          have q10 : Below w10.heap.size w10 (w10.alloc (.cells x.cs.toArray 29)) := (Below.refl _ _).alloc (Nat.le_refl _) _
          have ra : RowAt (w10.alloc (.cells x.cs.toArray 29)) w9.heap.size x.cs _ := ((RowAt.new w9 x.cs 29).below hb10).below q10
          obtain ⟨d0, d1, d2, d3, d4⟩ := row5 ra
          have d0 : (w10.alloc (.cells #[.int .i64 x.seq, .bool x.gone, .bool x.val.num, .string x.val.txt, .int .u64 (x.val.bits : Int)] 29)).cell? ⟨w9.heap.size, 0, none⟩ = some (.int .i64 x.seq) := d0
          have d1 : (w10.alloc (.cells #[.int .i64 x.seq, .bool x.gone, .bool x.val.num, .string x.val.txt, .int .u64 (x.val.bits : Int)] 29)).cell? ⟨w9.heap.size, 1, none⟩ = some (.bool x.gone) := d1
          have d2 : (w10.alloc (.cells #[.int .i64 x.seq, .bool x.gone, .bool x.val.num, .string x.val.txt, .int .u64 (x.val.bits : Int)] 29)).cell? ⟨w9.heap.size, 2, none⟩ = some (.bool x.val.num) := d2
          have d3 : (w10.alloc (.cells #[.int .i64 x.seq, .bool x.gone, .bool x.val.num, .string x.val.txt, .int .u64 (x.val.bits : Int)] 29)).cell? ⟨w9.heap.size, 3, none⟩ = some (.string x.val.txt) := d3
          have d4 : (w10.alloc (.cells #[.int .i64 x.seq, .bool x.gone, .bool x.val.num, .string x.val.txt, .int .u64 (x.val.bits : Int)] 29)).cell? ⟨w9.heap.size, 4, none⟩ = some (.int .u64 (x.val.bits : Int)) := d4
          have E1 := Lib.hid (show Below w.heap.size w (w10.alloc (.cells #[.int .i64 x.seq, .bool x.gone, .bool x.val.num, .string x.val.txt, .int .u64 (x.val.bits : Int)] 29)) from B9.out.trans ((b10.trans (q10.mono b10.size)).mono B9.out.size))
          have E2 := Lib.hid (show SlV (w10.alloc (.cells #[.int .i64 x.seq, .bool x.gone, .bool x.val.num, .string x.val.txt, .int .u64 (x.val.bits : Int)] 29)) A l from (L9.out.below b10).below q10)
          have E3 := Lib.hid (show SlV (w10.alloc (.cells #[.int .i64 x.seq, .bool x.gone, .bool x.val.num, .string x.val.txt, .int .u64 (x.val.bits : Int)] 29)) A4 Z from (Z9.out.below b10).below q10)
          clear hb10 b10 q10 ra
          go_wp2_with fail
          go_roundw
          case rel => exact ⟨1, by omega, by go_num, E1, E2, E3⟩
          case measure => simp [intOf]
        · skip
          go_wp2_with fail
          refine P1.out.mono ?_
          rintro e w9 ⟨rfl, hb9⟩
          have L9 := Lib.hid (HL.out.below hb9)
          have Z9 := Lib.hid (HZ.out.below hb9)
          have B9 := Lib.hid (HB.out.trans (hb9.mono HB.out.size))
          have q9 : Below w9.heap.size w9 (w9.alloc (.cells x.cs.toArray 29)) := (Below.refl _ _).alloc (Nat.le_refl _) _
          have Q9 := Lib.hid q9
          clear hb9 q9
          go_wp2_with fail
          refine (P2.out _ (Z9.out.below Q9.out)).mono ?_
          rintro e w10 ⟨rfl, hb10⟩
          have b10 : Below w9.heap.size w9 w10 := Q9.out.trans (hb10.mono Q9.out.size)
          have q10 : Below w10.heap.size w10 (w10.alloc (.cells x.cs.toArray 29)) := (Below.refl _ _).alloc (Nat.le_refl _) _
          have ra : RowAt (w10.alloc (.cells x.cs.toArray 29)) w9.heap.size x.cs _ := ((RowAt.new w9 x.cs 29).below hb10).below q10
          obtain ⟨d0, d1, d2, d3, d4⟩ := row5 ra
          have d0 : (w10.alloc (.cells #[.int .i64 x.seq, .bool x.gone, .bool x.val.num, .string x.val.txt, .int .u64 (x.val.bits : Int)] 29)).cell? ⟨w9.heap.size, 0, none⟩ = some (.int .i64 x.seq) := d0
          have d1 : (w10.alloc (.cells #[.int .i64 x.seq, .bool x.gone, .bool x.val.num, .string x.val.txt, .int .u64 (x.val.bits : Int)] 29)).cell? ⟨w9.heap.size, 1, none⟩ = some (.bool x.gone) := d1
          have d2 : (w10.alloc (.cells #[.int .i64 x.seq, .bool x.gone, .bool x.val.num, .string x.val.txt, .int .u64 (x.val.bits : Int)] 29)).cell? ⟨w9.heap.size, 2, none⟩ = some (.bool x.val.num) := d2
          have d3 : (w10.alloc (.cells #[.int .i64 x.seq, .bool x.gone, .bool x.val.num, .string x.val.txt, .int .u64 (x.val.bits : Int)] 29)).cell? ⟨w9.heap.size, 3, none⟩ = some (.string x.val.txt) := d3
          have d4 : (w10.alloc (.cells #[.int .i64 x.seq, .bool x.gone, .bool x.val.num, .string x.val.txt, .int .u64 (x.val.bits : Int)] 29)).cell? ⟨w9.heap.size, 4, none⟩ = some (.int .u64 (x.val.bits : Int)) := d4
          have E1 := Lib.hid (show Below w.heap.size w (w10.alloc (.cells #[.int .i64 x.seq, .bool x.gone, .bool x.val.num, .string x.val.txt, .int .u64 (x.val.bits : Int)] 29)) from B9.out.trans ((b10.trans (q10.mono b10.size)).mono B9.out.size))
          have E2 := Lib.hid (show SlV (w10.alloc (.cells #[.int .i64 x.seq, .bool x.gone, .bool x.val.num, .string x.val.txt, .int .u64 (x.val.bits : Int)] 29)) A l from (L9.out.below b10).below q10)
          have E3 := Lib.hid (show SlV (w10.alloc (.cells #[.int .i64 x.seq, .bool x.gone, .bool x.val.num, .string x.val.txt, .int .u64 (x.val.bits : Int)] 29)) A4 Z from (Z9.out.below b10).below q10)
          clear hb10 b10 q10 ra
          go_wp2_with fail
          go_roundw
          case rel => exact ⟨2, by omega, by go_num, E1, E2, E3⟩
          case measure => simp [intOf]
      · obtain rfl : i = 2 := by omega
        go_wp2_with fail
        refine (C8.out A4 c4 wr HZ.out).mono ?_
        rintro e w9 ⟨rfl, hb9⟩
        have L9 := Lib.hid (HL.out.below hb9)
        have Z9 := Lib.hid (HZ.out.below hb9)
        have B9 := Lib.hid (HB.out.trans (hb9.mono HB.out.size))
        clear hb9
        go_wp2_with fail
        refine (C9.out w9 L9.out).mono ?_
        rintro e w10 ⟨rfl, hb10⟩
        have L10 := Lib.hid (L9.out.below hb10)
        have Z10 := Lib.hid (Z9.out.below hb10)
        have B10 := Lib.hid (B9.out.trans (hb10.mono B9.out.size))
        clear hb10
        go_wp2_with fail
        refine (C8.out A4 c4 w10 Z10.out).mono ?_
        rintro e w11 ⟨rfl, hb11⟩
        have L11 := Lib.hid (L10.out.below hb11)
        have B11 := Lib.hid (B10.out.trans (hb11.mono B10.out.size))
        clear hb11
        by_cases n0 : n = 0
        · have wz : W0 = 0 := by rw [HW0.out]; unfold weightL; rw [if_pos (.inl (by rw [← HN.out]; exact n0))]
          subst n0
          subst wz
          go_wp2_with fail
          go_ret
          exact ⟨rfl, B11.out⟩
        · obtain ⟨i, hi⟩ : ∃ i, i = n - 1 := ⟨_, rfl⟩
          have hil : i < l.length := by rw [← HN.out]; omega
          obtain ⟨b, o, rfl, hb, c0, c1, c2, c3, c4'⟩ := L11.out.at hil
          have XF := GL.out.fits.get hil
          have XT : (l.getD i Ver.Z).val.txt.size ≤ 1000 := by
            rw [List.getD_eq_getElem?_getD, List.getElem?_eq_getElem hil]
            exact GL.out.texts _ (List.getElem_mem hil)
          have ER0 : W0 = if (l.getD i Ver.Z).gone = true then 0 else (l.getD i Ver.Z).val.pack.size := by
            rw [HW0.out]
            have e : lastL l = l.getD i Ver.Z := by unfold lastL; rw [← HN.out, ← hi]
            unfold weightL
            rw [e]
            by_cases g : (l.getD i Ver.Z).gone = true
            · rw [if_pos (.inr g), if_pos g]
            · rw [if_neg (fun z => z.elim (fun z => by rw [← HN.out] at z; omega) g), if_neg g]
          obtain ⟨x, hx⟩ : ∃ x, x = l.getD i Ver.Z := ⟨_, rfl⟩
          rw [← hx] at c1 c2 c3 c4' XF XT ER0
          obtain ⟨s, g, v⟩ := x
          obtain ⟨m, t, k'⟩ := v
          change w11.cell? _ = some (.bool g) at c1
          change w11.cell? _ = some (.bool m) at c2
          change w11.cell? _ = some (.string t) at c3
          change w11.cell? _ = some (.int .u64 (k' : Int)) at c4'
          have VP := Lib.hid (vrPack ⟨m, t, k'⟩ w11 XF XT)
          obtain ⟨S, hS⟩ : ∃ S, S = Val.pack ⟨m, t, k'⟩ := ⟨_, rfl⟩
          rw [← hS] at VP
          have ER : W0 = if g = true then 0 else S.size := by rw [hS]; exact ER0
          have VP : Hid (Calls Try.prog 21 #[.agg #[.bool m, .string t, .int .u64 (k' : Int)]] w11 fun e w' => e = .returned (.string S) ∧ Below w11.heap.size w11 w') := VP
          have i2 : (0 : Int) ≤ (i : Int) := by omega
          have i3 : (i : Int) < (n : Int) := by omega
          have i1 : (n : Int) - 1 = (i : Int) := by omega
          have i4 : (0 : Int) < (n : Int) := by omega
          clear ER0 hx hS XF XT hi hil hb c0
          cases g with
          | true =>
            have wz : W0 = 0 := ER
            clear ER
            subst wz
            go_wp2_with fail
            go_ret
            exact ⟨rfl, B11.out⟩
          | false =>
            have wz : W0 = S.size := ER
            clear ER HW0
            subst wz
            go_wp2_with fail
            refine VP.out.mono ?_
            rintro e w12 ⟨rfl, hb12⟩
            have B12 := Lib.hid (B11.out.trans (hb12.mono B11.out.size))
            clear hb12
            go_wp2_with fail
            go_ret
            exact ⟨rfl, B12.out⟩

end Go.Proofs.Ytpafnjdaiagdiaa.chainSweeps
