/- ChainTells: walked, given what the program's chain does. -/
import Derived.Test.YtpafnjdaiagdiaaC9x
import Derived.Lib.SmallJoins
import Derived.Deep.CutRange
namespace Go.Proofs.Ytpafnjdaiagdiaa.chainTells
open Go.Proofs.Ytpafnjdaiagdiaa Go.Joins Go.ChangeShapes Go.WideShapes Go.ChangeAt Go.RowKit Go.Deep

theorem row5 {w : World} {g : Nat} {x : Ver} {t : TypeId} (h : RowAt w g x.cs t) : w.cell? ⟨g, 0, none⟩ = some (.int .i64 x.seq) ∧ w.cell? ⟨g, 1, none⟩ = some (.bool x.gone) ∧ w.cell? ⟨g, 2, none⟩ = some (.bool x.val.num) ∧ w.cell? ⟨g, 3, none⟩ = some (.string x.val.txt) ∧ w.cell? ⟨g, 4, none⟩ = some (.int .u64 (x.val.bits : Int)) :=
  ⟨h.cell 0, h.cell 1, h.cell 2, h.cell 3, h.cell 4⟩
theorem zero5 {w : World} {g : Nat} {t : TypeId} (h : RowAt w g Ver.Z.cs t) : w.cell? ⟨g, 0, none⟩ = some (.int .i64 0) ∧ w.cell? ⟨g, 1, none⟩ = some (.bool false) ∧ w.cell? ⟨g, 2, none⟩ = some (.bool false) ∧ w.cell? ⟨g, 3, none⟩ = some (.string ⟨#[]⟩) ∧ w.cell? ⟨g, 4, none⟩ = some (.int .u64 0) :=
  ⟨h.cell 0, h.cell 1, h.cell 2, h.cell 3, h.cell 4⟩

set_option maxRecDepth 100000 in
set_option maxHeartbeats 4000000 in
theorem walk (X : ChainAt) (A : Option Addr) (c : Nat) (l : List Ver) (f : Int) (w : World) (h : SlV w A l) (hf : FitsL l) (hl : l.length ≤ 9223372036854775807) (hc : l.length ≤ c) :
    Calls Try.prog 3 #[.slice A l.length c, .int .i64 f] w fun r w' => r = .returned (.bool true) ∧ Below w.heap.size w w' := by
  obtain ⟨n, hn⟩ : ∃ n, n = l.length := ⟨_, rfl⟩
  rw [← hn]
  have HN := Lib.hid hn
  have X' := Lib.hid X
  have AW := Lib.hid (awake9 X w)
  have HS := Lib.hid h
  have HC := Lib.hid hc
  have HF := Lib.hid hf
  have FA := Lib.hid (fun W (hb : Below w.heap.size w W) => show Calls Try.prog 8 #[.slice A n c] W _ from by rw [hn]; exact xFar9 l A c W (h.below hb) hl)
  clear hn X h hf hl hc
  go_enter Try.func3, Try.ntmps3
  go_wp2_with fail
  refine AW.out.mono ?_
  rintro r w1 ⟨rfl, hb1⟩
  have B1 := Lib.hid hb1
  clear hb1 AW
  go_wp2_with fail
  refine (FA.out w1 B1.out).mono ?_
  rintro r w2 ⟨hfar, rfl⟩
  rcases hfar with rfl | ⟨rfl, l1, l2⟩
  · go_wp2_with fail
    go_ret
    exact ⟨rfl, B1.out⟩
  have GL := Lib.hid (show GoodL l from ⟨HF.out, fun x hx => by have := l2 x hx; omega, by omega⟩)
  have S2 := Lib.hid (HS.out.below B1.out)
  have nl : n ≤ 100 := by rw [HN.out]; exact l1
  have C1 := Lib.hid (show Calls Try.prog 9 #[.slice A n c] w2 _ from by rw [HN.out]; exact rRight9 l A c w2 S2.out GL.out.fits GL.out.len)
  have C2 := Lib.hid (fun W (hs : SlV W A l) => X'.out.at_ l A c f W HC.out hs GL.out)
  have C3 := Lib.hid (fun W (hs : SlV W A l) => X'.out.last l A c W hs GL.out)
  have C4 := Lib.hid (fun W (hs : SlV W A l) => X'.out.right l A c W hs GL.out)
  have C5 := Lib.hid (fun W (hs : SlV W A l) => X'.out.weight l A c W hs GL.out)
  have C6 := Lib.hid (fun W (hs : SlV W A l) => X'.out.old l A c f W hs GL.out)
  simp only [← HN.out] at C2 C3 C4 C5 C6
  clear l1 l2 FA
  go_wp2_with fail
  refine C1.out.mono ?_
  rintro r w3 ⟨rfl, hb3⟩
  have S3 := Lib.hid (S2.out.below hb3)
  have B3 := Lib.hid (B1.out.trans (hb3.mono B1.out.size))
  clear hb3 C1
  cases hr : rightL l with
  | false =>
    simp only [hr, Bool.false_eq_true, if_false, Bool.false_and] at C2 C3 C4 C5 C6
    have C2 : Hid (∀ W, SlV W A l → Calls Try.prog 10 #[.slice A n c, .int .i64 f] W fun e w' => e = .returned (.tuple #[.agg #[.int .i64 0, .bool false, .bool false, .string ⟨#[]⟩, .int .u64 0], .bool false]) ∧ Below W.heap.size W w') := C2
    have C3 : Hid (∀ W, SlV W A l → Calls Try.prog 11 #[.slice A n c] W fun e w' => e = .returned (.tuple #[.agg #[.int .i64 0, .bool false, .bool false, .string ⟨#[]⟩, .int .u64 0], .bool false]) ∧ Below W.heap.size W w') := C3
    have NE : ∀ w, (binOp .eql 29 (.agg #[.int .i64 0, .bool false, .bool false, .string ⟨#[]⟩, .int .u64 0]) (.agg #[.int .i64 0, .bool false, .bool false, .string ⟨#[]⟩, .int .u64 0])).run Try.prog w = .ok (.bool true) w := fun w => by
      have := eql_ver Ver.Z Ver.Z w
      rw [Ver.same_self] at this
      exact this
    clear hr
    go_wp2_with fail
    refine (C2.out w3 S3.out).mono ?_
    rintro r w4 ⟨rfl, hb4⟩
    have q4 : Below w4.heap.size w4 (w4.alloc (.cells Ver.Z.cs.toArray 29)) := (Below.refl _ _).alloc (Nat.le_refl _) _
    have B4 := Lib.hid (B3.out.trans (hb4.mono B3.out.size))
    have S4 := Lib.hid ((S3.out.below hb4).below q4)
    have Q4 := Lib.hid q4
    clear hb4 q4
    go_wp2_with fail
    refine (C3.out _ S4.out).mono ?_
    rintro r w5 ⟨rfl, hb5⟩
    have q5 : Below w5.heap.size w5 (w5.alloc (.cells Ver.Z.cs.toArray 29)) := (Below.refl _ _).alloc (Nat.le_refl _) _
    have RA := Lib.hid (((RowAt.new w4 Ver.Z.cs 29).below hb5).below q5)
    have b5 : Below w4.heap.size w4 w5 := Q4.out.trans (hb5.mono Q4.out.size)
    have B5 := Lib.hid (B4.out.trans (b5.mono B4.out.size))
    have S5 := Lib.hid ((S4.out.below hb5).below q5)
    have Q5 := Lib.hid q5
    clear hb5 q5 b5
    go_wp2_with fail
    refine (C4.out _ S5.out).mono ?_
    rintro r w6 ⟨rfl, hb6⟩
    obtain ⟨a0, a1, a2, a3, a4⟩ := zero5 (RA.out.below hb6)
    obtain ⟨b0, b1, b2, b3, b4⟩ := zero5 ((RowAt.new w5 Ver.Z.cs 29).below hb6)
    have S6 := Lib.hid (S5.out.below hb6)
    have b6 : Below w5.heap.size w5 w6 := Q5.out.trans (hb6.mono Q5.out.size)
    have B6 := Lib.hid (B5.out.trans (b6.mono B5.out.size))
    clear hb6 b6
    go_wp2_with fail
    refine (C5.out _ S6.out).mono ?_
    rintro r w7 ⟨rfl, hb7⟩
    have S7 := Lib.hid (S6.out.below hb7)
    have B7 := Lib.hid (B6.out.trans (hb7.mono B6.out.size))
    clear hb7
    go_wp2_with fail
    refine (C6.out _ S7.out).mono ?_
    rintro r w8 ⟨rfl, hb8⟩
    have B8 := Lib.hid (B7.out.trans (hb8.mono B7.out.size))
    clear hb8
    go_wp2_with fail
    go_ret
    exact ⟨rfl, B8.out⟩
  | true =>
    have RV := Lib.hid (rise_of_right hr)
    have C7 := Lib.hid (fun W (hs : SlV W A l) => rAt9 l A c f W hs RV.out GL.out.len)
    have C8 := Lib.hid (fun W (hs : SlV W A l) => rWeight9 l A c W hs GL.out.fits GL.out.texts GL.out.len)
    have C9 := Lib.hid (fun W (hs : SlV W A l) => rSweep9 l A c f W hs RV.out GL.out.len)
    simp only [hr, if_true, Bool.true_and] at C2 C3 C4 C5 C6
    simp only [← HN.out] at C7 C8 C9
    have SL : (sweepL l f).length = n - oldL l f := by unfold sweepL; rw [List.length_drop, ← HN.out]
    have OL : oldL l f ≤ n := by have := oldL_le l f; have := cnt_le f l; rw [HN.out]; omega
    obtain ⟨x, hx⟩ : ∃ x, x = atL l f := ⟨_, rfl⟩
    obtain ⟨ok, hok⟩ : ∃ ok, ok = atOk l f := ⟨_, rfl⟩
    obtain ⟨y, hy⟩ : ∃ y, y = (if decide (0 < n) = true then lastL l else Ver.Z) := ⟨_, rfl⟩
    obtain ⟨d, hd⟩ : ∃ d, d = oldL l f := ⟨_, rfl⟩
    obtain ⟨e, he⟩ : ∃ e, e = (sweepL l f).length := ⟨_, rfl⟩
    obtain ⟨W0, hW⟩ : ∃ W, W = weightL l := ⟨_, rfl⟩
    simp only [← hx, ← hok] at C2 C7
    simp only [← hy] at C3
    simp only [← hW] at C5 C8
    simp only [← hd] at C6
    simp only [← he] at C9
    rw [← he, ← hd] at SL
    rw [← hd] at OL
    have DE : (n : Int) - (e : Int) = (d : Int) := by omega
    have C2 : Hid (∀ W, SlV W A l → Calls Try.prog 10 #[.slice A n c, .int .i64 f] W fun e w' => e = .returned (.tuple #[.agg #[.int .i64 x.seq, .bool x.gone, .bool x.val.num, .string x.val.txt, .int .u64 (x.val.bits : Int)], .bool ok]) ∧ Below W.heap.size W w') := C2
    have C7 : Hid (∀ W, SlV W A l → Calls Try.prog 15 #[.slice A n c, .int .i64 f] W fun e w' => e = .returned (.tuple #[.agg #[.int .i64 x.seq, .bool x.gone, .bool x.val.num, .string x.val.txt, .int .u64 (x.val.bits : Int)], .bool ok]) ∧ Below W.heap.size W w') := C7
    have C3 : Hid (∀ W, SlV W A l → Calls Try.prog 11 #[.slice A n c] W fun e w' => e = .returned (.tuple #[.agg #[.int .i64 y.seq, .bool y.gone, .bool y.val.num, .string y.val.txt, .int .u64 (y.val.bits : Int)], .bool (decide (0 < n))]) ∧ Below W.heap.size W w') := C3
    have NX : ∀ w, (binOp .eql 29 (.agg #[.int .i64 x.seq, .bool x.gone, .bool x.val.num, .string x.val.txt, .int .u64 (x.val.bits : Int)]) (.agg #[.int .i64 x.seq, .bool x.gone, .bool x.val.num, .string x.val.txt, .int .u64 (x.val.bits : Int)])).run Try.prog w = .ok (.bool true) w := fun w => by
      have := eql_ver x x w
      rw [Ver.same_self] at this
      exact this
    have NY : ∀ w, (binOp .eql 29 (.agg #[.int .i64 y.seq, .bool y.gone, .bool y.val.num, .string y.val.txt, .int .u64 (y.val.bits : Int)]) (.agg #[.int .i64 y.seq, .bool y.gone, .bool y.val.num, .string y.val.txt, .int .u64 (y.val.bits : Int)])).run Try.prog w = .ok (.bool true) w := fun w => by
      have := eql_ver y y w
      rw [Ver.same_self] at this
      exact this
    obtain ⟨p, hp⟩ : ∃ p, p = decide (0 < n) := ⟨_, rfl⟩
    rw [← hp] at C3
    have HP := Lib.hid hp
    have HY := Lib.hid hy
    clear hp hr hx hok hy hd he hW SL OL
    go_wp2_with fail
    refine (C2.out w3 S3.out).mono ?_
    rintro r w4 ⟨rfl, hb4⟩
    have q4 : Below w4.heap.size w4 (w4.alloc (.cells x.cs.toArray 29)) := (Below.refl _ _).alloc (Nat.le_refl _) _
    have B4 := Lib.hid (B3.out.trans (hb4.mono B3.out.size))
    have S4 := Lib.hid ((S3.out.below hb4).below q4)
    have Q4 := Lib.hid q4
    clear hb4 q4
    go_wp2_with fail
    refine (C3.out _ S4.out).mono ?_
    rintro r w5 ⟨rfl, hb5⟩
    have q5 : Below w5.heap.size w5 (w5.alloc (.cells y.cs.toArray 29)) := (Below.refl _ _).alloc (Nat.le_refl _) _
    have RA := Lib.hid (((RowAt.new w4 x.cs 29).below hb5).below q5)
    have b5 : Below w4.heap.size w4 w5 := Q4.out.trans (hb5.mono Q4.out.size)
    have B5 := Lib.hid (B4.out.trans (b5.mono B4.out.size))
    have S5 := Lib.hid ((S4.out.below hb5).below q5)
    have Q5 := Lib.hid q5
    clear hb5 q5 b5
    go_wp2_with fail
    refine (C4.out _ S5.out).mono ?_
    rintro r w6 ⟨rfl, hb6⟩
    have RA6 := Lib.hid (RA.out.below hb6)
    have RB6 := Lib.hid ((RowAt.new w5 y.cs 29).below hb6)
    have S6 := Lib.hid (S5.out.below hb6)
    have b6 : Below w5.heap.size w5 w6 := Q5.out.trans (hb6.mono Q5.out.size)
    have B6 := Lib.hid (B5.out.trans (b6.mono B5.out.size))
    clear hb6 b6 RA Q4 Q5
    go_wp2_with fail
    refine (C7.out _ S6.out).mono ?_
    rintro r w7 ⟨rfl, hb7⟩
    have B7 := Lib.hid (B6.out.trans (hb7.mono B6.out.size))
    have q7 : Below w7.heap.size w7 ((w7.alloc (.cells x.cs.toArray 29)).alloc (.cells Ver.Z.cs.toArray 29)) := ((Below.refl _ _).alloc (Nat.le_refl _) _).alloc (by simp) _
    have S7 := Lib.hid ((S6.out.below hb7).below q7)
    have RA7 := Lib.hid ((RA6.out.below hb7).below q7)
    have RB7 := Lib.hid ((RB6.out.below hb7).below q7)
    have Q7 := Lib.hid q7
    have RAw := Lib.hid (RA6.out.below hb7)
    have RBw := Lib.hid (RB6.out.below hb7)
    have SLw := Lib.hid (S6.out.below hb7)
    clear hb7 q7
    by_cases n0 : n = 0
    · have yz : y = Ver.Z := by rw [HY.out, if_neg (by simp [n0])]
      have pz : p = false := by rw [HP.out, n0]; rfl
      subst pz
      subst yz
      subst n0
      have RC := (RowAt.new w7 x.cs 29).alloc (.cells Ver.Z.cs.toArray 29)
      have RD := RowAt.new (w7.alloc (.cells x.cs.toArray 29)) Ver.Z.cs 29
      rw [show (w7.alloc (.cells x.cs.toArray 29)).heap.size = w7.heap.size + 1 by simp] at RD
      obtain ⟨a0, a1, a2, a3, a4⟩ := row5 (RA7.out)
      have a0 : ((w7.alloc (.cells #[.int .i64 x.seq, .bool x.gone, .bool x.val.num, .string x.val.txt, .int .u64 (x.val.bits : Int)] 29)).alloc (.cells #[.int .i64 0, .bool false, .bool false, .string ⟨#[]⟩, .int .u64 0] 29)).cell? ⟨w4.heap.size, 0, none⟩ = some (.int .i64 x.seq) := a0
      have a1 : ((w7.alloc (.cells #[.int .i64 x.seq, .bool x.gone, .bool x.val.num, .string x.val.txt, .int .u64 (x.val.bits : Int)] 29)).alloc (.cells #[.int .i64 0, .bool false, .bool false, .string ⟨#[]⟩, .int .u64 0] 29)).cell? ⟨w4.heap.size, 1, none⟩ = some (.bool x.gone) := a1
      have a2 : ((w7.alloc (.cells #[.int .i64 x.seq, .bool x.gone, .bool x.val.num, .string x.val.txt, .int .u64 (x.val.bits : Int)] 29)).alloc (.cells #[.int .i64 0, .bool false, .bool false, .string ⟨#[]⟩, .int .u64 0] 29)).cell? ⟨w4.heap.size, 2, none⟩ = some (.bool x.val.num) := a2
      have a3 : ((w7.alloc (.cells #[.int .i64 x.seq, .bool x.gone, .bool x.val.num, .string x.val.txt, .int .u64 (x.val.bits : Int)] 29)).alloc (.cells #[.int .i64 0, .bool false, .bool false, .string ⟨#[]⟩, .int .u64 0] 29)).cell? ⟨w4.heap.size, 3, none⟩ = some (.string x.val.txt) := a3
      have a4 : ((w7.alloc (.cells #[.int .i64 x.seq, .bool x.gone, .bool x.val.num, .string x.val.txt, .int .u64 (x.val.bits : Int)] 29)).alloc (.cells #[.int .i64 0, .bool false, .bool false, .string ⟨#[]⟩, .int .u64 0] 29)).cell? ⟨w4.heap.size, 4, none⟩ = some (.int .u64 (x.val.bits : Int)) := a4
      obtain ⟨b0, b1, b2, b3, b4⟩ := row5 (RB7.out)
      have b0 : ((w7.alloc (.cells #[.int .i64 x.seq, .bool x.gone, .bool x.val.num, .string x.val.txt, .int .u64 (x.val.bits : Int)] 29)).alloc (.cells #[.int .i64 0, .bool false, .bool false, .string ⟨#[]⟩, .int .u64 0] 29)).cell? ⟨w5.heap.size, 0, none⟩ = some (.int .i64 0) := b0
      have b1 : ((w7.alloc (.cells #[.int .i64 x.seq, .bool x.gone, .bool x.val.num, .string x.val.txt, .int .u64 (x.val.bits : Int)] 29)).alloc (.cells #[.int .i64 0, .bool false, .bool false, .string ⟨#[]⟩, .int .u64 0] 29)).cell? ⟨w5.heap.size, 1, none⟩ = some (.bool false) := b1
      have b2 : ((w7.alloc (.cells #[.int .i64 x.seq, .bool x.gone, .bool x.val.num, .string x.val.txt, .int .u64 (x.val.bits : Int)] 29)).alloc (.cells #[.int .i64 0, .bool false, .bool false, .string ⟨#[]⟩, .int .u64 0] 29)).cell? ⟨w5.heap.size, 2, none⟩ = some (.bool false) := b2
      have b3 : ((w7.alloc (.cells #[.int .i64 x.seq, .bool x.gone, .bool x.val.num, .string x.val.txt, .int .u64 (x.val.bits : Int)] 29)).alloc (.cells #[.int .i64 0, .bool false, .bool false, .string ⟨#[]⟩, .int .u64 0] 29)).cell? ⟨w5.heap.size, 3, none⟩ = some (.string ⟨#[]⟩) := b3
      have b4 : ((w7.alloc (.cells #[.int .i64 x.seq, .bool x.gone, .bool x.val.num, .string x.val.txt, .int .u64 (x.val.bits : Int)] 29)).alloc (.cells #[.int .i64 0, .bool false, .bool false, .string ⟨#[]⟩, .int .u64 0] 29)).cell? ⟨w5.heap.size, 4, none⟩ = some (.int .u64 0) := b4
      obtain ⟨c0, c1, c2, c3, c4⟩ := row5 (RC)
      have c0 : ((w7.alloc (.cells #[.int .i64 x.seq, .bool x.gone, .bool x.val.num, .string x.val.txt, .int .u64 (x.val.bits : Int)] 29)).alloc (.cells #[.int .i64 0, .bool false, .bool false, .string ⟨#[]⟩, .int .u64 0] 29)).cell? ⟨w7.heap.size, 0, none⟩ = some (.int .i64 x.seq) := c0
      have c1 : ((w7.alloc (.cells #[.int .i64 x.seq, .bool x.gone, .bool x.val.num, .string x.val.txt, .int .u64 (x.val.bits : Int)] 29)).alloc (.cells #[.int .i64 0, .bool false, .bool false, .string ⟨#[]⟩, .int .u64 0] 29)).cell? ⟨w7.heap.size, 1, none⟩ = some (.bool x.gone) := c1
      have c2 : ((w7.alloc (.cells #[.int .i64 x.seq, .bool x.gone, .bool x.val.num, .string x.val.txt, .int .u64 (x.val.bits : Int)] 29)).alloc (.cells #[.int .i64 0, .bool false, .bool false, .string ⟨#[]⟩, .int .u64 0] 29)).cell? ⟨w7.heap.size, 2, none⟩ = some (.bool x.val.num) := c2
      have c3 : ((w7.alloc (.cells #[.int .i64 x.seq, .bool x.gone, .bool x.val.num, .string x.val.txt, .int .u64 (x.val.bits : Int)] 29)).alloc (.cells #[.int .i64 0, .bool false, .bool false, .string ⟨#[]⟩, .int .u64 0] 29)).cell? ⟨w7.heap.size, 3, none⟩ = some (.string x.val.txt) := c3
      have c4 : ((w7.alloc (.cells #[.int .i64 x.seq, .bool x.gone, .bool x.val.num, .string x.val.txt, .int .u64 (x.val.bits : Int)] 29)).alloc (.cells #[.int .i64 0, .bool false, .bool false, .string ⟨#[]⟩, .int .u64 0] 29)).cell? ⟨w7.heap.size, 4, none⟩ = some (.int .u64 (x.val.bits : Int)) := c4
      obtain ⟨d0, d1, d2, d3, d4⟩ := row5 (RD)
      have d0 : ((w7.alloc (.cells #[.int .i64 x.seq, .bool x.gone, .bool x.val.num, .string x.val.txt, .int .u64 (x.val.bits : Int)] 29)).alloc (.cells #[.int .i64 0, .bool false, .bool false, .string ⟨#[]⟩, .int .u64 0] 29)).cell? ⟨w7.heap.size + 1, 0, none⟩ = some (.int .i64 0) := d0
      have d1 : ((w7.alloc (.cells #[.int .i64 x.seq, .bool x.gone, .bool x.val.num, .string x.val.txt, .int .u64 (x.val.bits : Int)] 29)).alloc (.cells #[.int .i64 0, .bool false, .bool false, .string ⟨#[]⟩, .int .u64 0] 29)).cell? ⟨w7.heap.size + 1, 1, none⟩ = some (.bool false) := d1
      have d2 : ((w7.alloc (.cells #[.int .i64 x.seq, .bool x.gone, .bool x.val.num, .string x.val.txt, .int .u64 (x.val.bits : Int)] 29)).alloc (.cells #[.int .i64 0, .bool false, .bool false, .string ⟨#[]⟩, .int .u64 0] 29)).cell? ⟨w7.heap.size + 1, 2, none⟩ = some (.bool false) := d2
      have d3 : ((w7.alloc (.cells #[.int .i64 x.seq, .bool x.gone, .bool x.val.num, .string x.val.txt, .int .u64 (x.val.bits : Int)] 29)).alloc (.cells #[.int .i64 0, .bool false, .bool false, .string ⟨#[]⟩, .int .u64 0] 29)).cell? ⟨w7.heap.size + 1, 3, none⟩ = some (.string ⟨#[]⟩) := d3
      have d4 : ((w7.alloc (.cells #[.int .i64 x.seq, .bool x.gone, .bool x.val.num, .string x.val.txt, .int .u64 (x.val.bits : Int)] 29)).alloc (.cells #[.int .i64 0, .bool false, .bool false, .string ⟨#[]⟩, .int .u64 0] 29)).cell? ⟨w7.heap.size + 1, 4, none⟩ = some (.int .u64 0) := d4
      have NY : ∀ w, (binOp .eql 29 (.agg #[.int .i64 0, .bool false, .bool false, .string ⟨#[]⟩, .int .u64 0]) (.agg #[.int .i64 0, .bool false, .bool false, .string ⟨#[]⟩, .int .u64 0])).run Try.prog w = .ok (.bool true) w := NY
      have S7' : Hid (SlV ((w7.alloc (.cells #[.int .i64 x.seq, .bool x.gone, .bool x.val.num, .string x.val.txt, .int .u64 (x.val.bits : Int)] 29)).alloc (.cells #[.int .i64 0, .bool false, .bool false, .string ⟨#[]⟩, .int .u64 0] 29)) A l) := S7
      have B7' : Hid (Below w.heap.size w ((w7.alloc (.cells #[.int .i64 x.seq, .bool x.gone, .bool x.val.num, .string x.val.txt, .int .u64 (x.val.bits : Int)] 29)).alloc (.cells #[.int .i64 0, .bool false, .bool false, .string ⟨#[]⟩, .int .u64 0] 29))) := Lib.hid (B7.out.trans (Q7.out.mono B7.out.size))
      have DE : (0 : Int) - (e : Int) = (d : Int) := DE
      clear RC RD
      go_wp2_with fail
      refine (C5.out _ S7'.out).mono ?_
      rintro r w8 ⟨rfl, hb8⟩
      have S8 := Lib.hid (S7'.out.below hb8)
      have B8 := Lib.hid (B7'.out.trans (hb8.mono B7'.out.size))
      clear hb8
      go_wp2_with fail
      refine (C8.out _ S8.out).mono ?_
      rintro r w9 ⟨rfl, hb9⟩
      have S9 := Lib.hid (S8.out.below hb9)
      have B9 := Lib.hid (B8.out.trans (hb9.mono B8.out.size))
      clear hb9
      go_wp2_with fail
      refine (C6.out _ S9.out).mono ?_
      rintro r w10 ⟨rfl, hb10⟩
      have S10 := Lib.hid (S9.out.below hb10)
      have B10 := Lib.hid (B9.out.trans (hb10.mono B9.out.size))
      clear hb10
      go_wp2_with fail
      refine (C9.out _ S10.out).mono ?_
      rintro r w11 ⟨A11, c11, rfl, _, hb11⟩
      have B11 := Lib.hid (B10.out.trans (hb11.mono B10.out.size))
      clear hb11
      go_wp2_with fail
      go_ret
      exact ⟨rfl, B11.out⟩
    · have n1 : (0 : Int) < (n : Int) := by omega
      obtain ⟨i, hi⟩ : ∃ i, i = n - 1 := ⟨_, rfl⟩
      have i2 : (0 : Int) ≤ (i : Int) := by omega
      have i3 : (i : Int) < (n : Int) := by omega
      have i1 : (n : Int) - 1 = (i : Int) := by omega
      have yl : y = l.getD i Ver.Z := by rw [HY.out, if_pos (by simp; omega)]; unfold lastL; rw [← HN.out, ← hi]
      obtain ⟨b, o, rfl, hb, c0, c1, c2, c3, c4⟩ := S7.out.at (j := i) (by rw [← HN.out]; omega)
      rw [← yl] at c0 c1 c2 c3 c4
      have pz : p = true := by rw [HP.out]; exact decide_eq_true (by omega)
      subst pz
      have c0 : ((w7.alloc (.cells #[.int .i64 x.seq, .bool x.gone, .bool x.val.num, .string x.val.txt, .int .u64 (x.val.bits : Int)] 29)).alloc (.cells #[.int .i64 0, .bool false, .bool false, .string ⟨#[]⟩, .int .u64 0] 29)).cell? ⟨b, o + i * 5, none⟩ = some (.int .i64 y.seq) := c0
      have c1 : ((w7.alloc (.cells #[.int .i64 x.seq, .bool x.gone, .bool x.val.num, .string x.val.txt, .int .u64 (x.val.bits : Int)] 29)).alloc (.cells #[.int .i64 0, .bool false, .bool false, .string ⟨#[]⟩, .int .u64 0] 29)).cell? ⟨b, o + i * 5 + 1, none⟩ = some (.bool y.gone) := c1
      have c2 : ((w7.alloc (.cells #[.int .i64 x.seq, .bool x.gone, .bool x.val.num, .string x.val.txt, .int .u64 (x.val.bits : Int)] 29)).alloc (.cells #[.int .i64 0, .bool false, .bool false, .string ⟨#[]⟩, .int .u64 0] 29)).cell? ⟨b, o + i * 5 + 2, none⟩ = some (.bool y.val.num) := c2
      have c3 : ((w7.alloc (.cells #[.int .i64 x.seq, .bool x.gone, .bool x.val.num, .string x.val.txt, .int .u64 (x.val.bits : Int)] 29)).alloc (.cells #[.int .i64 0, .bool false, .bool false, .string ⟨#[]⟩, .int .u64 0] 29)).cell? ⟨b, o + i * 5 + 3, none⟩ = some (.string y.val.txt) := c3
      have c4 : ((w7.alloc (.cells #[.int .i64 x.seq, .bool x.gone, .bool x.val.num, .string x.val.txt, .int .u64 (x.val.bits : Int)] 29)).alloc (.cells #[.int .i64 0, .bool false, .bool false, .string ⟨#[]⟩, .int .u64 0] 29)).cell? ⟨b, o + i * 5 + 4, none⟩ = some (.int .u64 (y.val.bits : Int)) := c4
      clear yl hi hb
      go_upto_region 16 with fail
      clear c0 c1 c2 c3 c4
      have q8 : Below w7.heap.size w7 ((w7.alloc (.cells x.cs.toArray 29)).alloc (.cells y.cs.toArray 29)) := ((Below.refl _ _).alloc (Nat.le_refl _) _).alloc (by simp) _
      have RC := (RowAt.new w7 x.cs 29).alloc (.cells y.cs.toArray 29)
      have RD := RowAt.new (w7.alloc (.cells x.cs.toArray 29)) y.cs 29
      rw [show (w7.alloc (.cells x.cs.toArray 29)).heap.size = w7.heap.size + 1 by simp] at RD
      obtain ⟨a0, a1, a2, a3, a4⟩ := row5 (RAw.out.below q8)
      have a0 : ((w7.alloc (.cells #[.int .i64 x.seq, .bool x.gone, .bool x.val.num, .string x.val.txt, .int .u64 (x.val.bits : Int)] 29)).alloc (.cells #[.int .i64 y.seq, .bool y.gone, .bool y.val.num, .string y.val.txt, .int .u64 (y.val.bits : Int)] 29)).cell? ⟨w4.heap.size, 0, none⟩ = some (.int .i64 x.seq) := a0
      have a1 : ((w7.alloc (.cells #[.int .i64 x.seq, .bool x.gone, .bool x.val.num, .string x.val.txt, .int .u64 (x.val.bits : Int)] 29)).alloc (.cells #[.int .i64 y.seq, .bool y.gone, .bool y.val.num, .string y.val.txt, .int .u64 (y.val.bits : Int)] 29)).cell? ⟨w4.heap.size, 1, none⟩ = some (.bool x.gone) := a1
      have a2 : ((w7.alloc (.cells #[.int .i64 x.seq, .bool x.gone, .bool x.val.num, .string x.val.txt, .int .u64 (x.val.bits : Int)] 29)).alloc (.cells #[.int .i64 y.seq, .bool y.gone, .bool y.val.num, .string y.val.txt, .int .u64 (y.val.bits : Int)] 29)).cell? ⟨w4.heap.size, 2, none⟩ = some (.bool x.val.num) := a2
      have a3 : ((w7.alloc (.cells #[.int .i64 x.seq, .bool x.gone, .bool x.val.num, .string x.val.txt, .int .u64 (x.val.bits : Int)] 29)).alloc (.cells #[.int .i64 y.seq, .bool y.gone, .bool y.val.num, .string y.val.txt, .int .u64 (y.val.bits : Int)] 29)).cell? ⟨w4.heap.size, 3, none⟩ = some (.string x.val.txt) := a3
      have a4 : ((w7.alloc (.cells #[.int .i64 x.seq, .bool x.gone, .bool x.val.num, .string x.val.txt, .int .u64 (x.val.bits : Int)] 29)).alloc (.cells #[.int .i64 y.seq, .bool y.gone, .bool y.val.num, .string y.val.txt, .int .u64 (y.val.bits : Int)] 29)).cell? ⟨w4.heap.size, 4, none⟩ = some (.int .u64 (x.val.bits : Int)) := a4
      obtain ⟨b0, b1, b2, b3, b4⟩ := row5 (RBw.out.below q8)
      have b0 : ((w7.alloc (.cells #[.int .i64 x.seq, .bool x.gone, .bool x.val.num, .string x.val.txt, .int .u64 (x.val.bits : Int)] 29)).alloc (.cells #[.int .i64 y.seq, .bool y.gone, .bool y.val.num, .string y.val.txt, .int .u64 (y.val.bits : Int)] 29)).cell? ⟨w5.heap.size, 0, none⟩ = some (.int .i64 y.seq) := b0
      have b1 : ((w7.alloc (.cells #[.int .i64 x.seq, .bool x.gone, .bool x.val.num, .string x.val.txt, .int .u64 (x.val.bits : Int)] 29)).alloc (.cells #[.int .i64 y.seq, .bool y.gone, .bool y.val.num, .string y.val.txt, .int .u64 (y.val.bits : Int)] 29)).cell? ⟨w5.heap.size, 1, none⟩ = some (.bool y.gone) := b1
      have b2 : ((w7.alloc (.cells #[.int .i64 x.seq, .bool x.gone, .bool x.val.num, .string x.val.txt, .int .u64 (x.val.bits : Int)] 29)).alloc (.cells #[.int .i64 y.seq, .bool y.gone, .bool y.val.num, .string y.val.txt, .int .u64 (y.val.bits : Int)] 29)).cell? ⟨w5.heap.size, 2, none⟩ = some (.bool y.val.num) := b2
      have b3 : ((w7.alloc (.cells #[.int .i64 x.seq, .bool x.gone, .bool x.val.num, .string x.val.txt, .int .u64 (x.val.bits : Int)] 29)).alloc (.cells #[.int .i64 y.seq, .bool y.gone, .bool y.val.num, .string y.val.txt, .int .u64 (y.val.bits : Int)] 29)).cell? ⟨w5.heap.size, 3, none⟩ = some (.string y.val.txt) := b3
      have b4 : ((w7.alloc (.cells #[.int .i64 x.seq, .bool x.gone, .bool x.val.num, .string x.val.txt, .int .u64 (x.val.bits : Int)] 29)).alloc (.cells #[.int .i64 y.seq, .bool y.gone, .bool y.val.num, .string y.val.txt, .int .u64 (y.val.bits : Int)] 29)).cell? ⟨w5.heap.size, 4, none⟩ = some (.int .u64 (y.val.bits : Int)) := b4
      obtain ⟨c0, c1, c2, c3, c4⟩ := row5 (RC)
      have c0 : ((w7.alloc (.cells #[.int .i64 x.seq, .bool x.gone, .bool x.val.num, .string x.val.txt, .int .u64 (x.val.bits : Int)] 29)).alloc (.cells #[.int .i64 y.seq, .bool y.gone, .bool y.val.num, .string y.val.txt, .int .u64 (y.val.bits : Int)] 29)).cell? ⟨w7.heap.size, 0, none⟩ = some (.int .i64 x.seq) := c0
      have c1 : ((w7.alloc (.cells #[.int .i64 x.seq, .bool x.gone, .bool x.val.num, .string x.val.txt, .int .u64 (x.val.bits : Int)] 29)).alloc (.cells #[.int .i64 y.seq, .bool y.gone, .bool y.val.num, .string y.val.txt, .int .u64 (y.val.bits : Int)] 29)).cell? ⟨w7.heap.size, 1, none⟩ = some (.bool x.gone) := c1
      have c2 : ((w7.alloc (.cells #[.int .i64 x.seq, .bool x.gone, .bool x.val.num, .string x.val.txt, .int .u64 (x.val.bits : Int)] 29)).alloc (.cells #[.int .i64 y.seq, .bool y.gone, .bool y.val.num, .string y.val.txt, .int .u64 (y.val.bits : Int)] 29)).cell? ⟨w7.heap.size, 2, none⟩ = some (.bool x.val.num) := c2
      have c3 : ((w7.alloc (.cells #[.int .i64 x.seq, .bool x.gone, .bool x.val.num, .string x.val.txt, .int .u64 (x.val.bits : Int)] 29)).alloc (.cells #[.int .i64 y.seq, .bool y.gone, .bool y.val.num, .string y.val.txt, .int .u64 (y.val.bits : Int)] 29)).cell? ⟨w7.heap.size, 3, none⟩ = some (.string x.val.txt) := c3
      have c4 : ((w7.alloc (.cells #[.int .i64 x.seq, .bool x.gone, .bool x.val.num, .string x.val.txt, .int .u64 (x.val.bits : Int)] 29)).alloc (.cells #[.int .i64 y.seq, .bool y.gone, .bool y.val.num, .string y.val.txt, .int .u64 (y.val.bits : Int)] 29)).cell? ⟨w7.heap.size, 4, none⟩ = some (.int .u64 (x.val.bits : Int)) := c4
      obtain ⟨d0, d1, d2, d3, d4⟩ := row5 (RD)
      have d0 : ((w7.alloc (.cells #[.int .i64 x.seq, .bool x.gone, .bool x.val.num, .string x.val.txt, .int .u64 (x.val.bits : Int)] 29)).alloc (.cells #[.int .i64 y.seq, .bool y.gone, .bool y.val.num, .string y.val.txt, .int .u64 (y.val.bits : Int)] 29)).cell? ⟨w7.heap.size + 1, 0, none⟩ = some (.int .i64 y.seq) := d0
      have d1 : ((w7.alloc (.cells #[.int .i64 x.seq, .bool x.gone, .bool x.val.num, .string x.val.txt, .int .u64 (x.val.bits : Int)] 29)).alloc (.cells #[.int .i64 y.seq, .bool y.gone, .bool y.val.num, .string y.val.txt, .int .u64 (y.val.bits : Int)] 29)).cell? ⟨w7.heap.size + 1, 1, none⟩ = some (.bool y.gone) := d1
      have d2 : ((w7.alloc (.cells #[.int .i64 x.seq, .bool x.gone, .bool x.val.num, .string x.val.txt, .int .u64 (x.val.bits : Int)] 29)).alloc (.cells #[.int .i64 y.seq, .bool y.gone, .bool y.val.num, .string y.val.txt, .int .u64 (y.val.bits : Int)] 29)).cell? ⟨w7.heap.size + 1, 2, none⟩ = some (.bool y.val.num) := d2
      have d3 : ((w7.alloc (.cells #[.int .i64 x.seq, .bool x.gone, .bool x.val.num, .string x.val.txt, .int .u64 (x.val.bits : Int)] 29)).alloc (.cells #[.int .i64 y.seq, .bool y.gone, .bool y.val.num, .string y.val.txt, .int .u64 (y.val.bits : Int)] 29)).cell? ⟨w7.heap.size + 1, 3, none⟩ = some (.string y.val.txt) := d3
      have d4 : ((w7.alloc (.cells #[.int .i64 x.seq, .bool x.gone, .bool x.val.num, .string x.val.txt, .int .u64 (x.val.bits : Int)] 29)).alloc (.cells #[.int .i64 y.seq, .bool y.gone, .bool y.val.num, .string y.val.txt, .int .u64 (y.val.bits : Int)] 29)).cell? ⟨w7.heap.size + 1, 4, none⟩ = some (.int .u64 (y.val.bits : Int)) := d4
      have S7' : Hid (SlV ((w7.alloc (.cells #[.int .i64 x.seq, .bool x.gone, .bool x.val.num, .string x.val.txt, .int .u64 (x.val.bits : Int)] 29)).alloc (.cells #[.int .i64 y.seq, .bool y.gone, .bool y.val.num, .string y.val.txt, .int .u64 (y.val.bits : Int)] 29)) (some ⟨b, o, none⟩) l) := Lib.hid (SLw.out.below q8)
      have B7' : Hid (Below w.heap.size w ((w7.alloc (.cells #[.int .i64 x.seq, .bool x.gone, .bool x.val.num, .string x.val.txt, .int .u64 (x.val.bits : Int)] 29)).alloc (.cells #[.int .i64 y.seq, .bool y.gone, .bool y.val.num, .string y.val.txt, .int .u64 (y.val.bits : Int)] 29))) := Lib.hid (B7.out.trans (q8.mono B7.out.size))
      clear RC RD q8
      go_wp2_with fail
      refine (C5.out _ S7'.out).mono ?_
      rintro r w8 ⟨rfl, hb8⟩
      have S8 := Lib.hid (S7'.out.below hb8)
      have B8 := Lib.hid (B7'.out.trans (hb8.mono B7'.out.size))
      clear hb8
      go_wp2_with fail
      refine (C8.out _ S8.out).mono ?_
      rintro r w9 ⟨rfl, hb9⟩
      have S9 := Lib.hid (S8.out.below hb9)
      have B9 := Lib.hid (B8.out.trans (hb9.mono B8.out.size))
      clear hb9
      go_wp2_with fail
      refine (C6.out _ S9.out).mono ?_
      rintro r w10 ⟨rfl, hb10⟩
      have S10 := Lib.hid (S9.out.below hb10)
      have B10 := Lib.hid (B9.out.trans (hb10.mono B9.out.size))
      clear hb10
      go_wp2_with fail
      refine (C9.out _ S10.out).mono ?_
      rintro r w11 ⟨A11, c11, rfl, _, hb11⟩
      have B11 := Lib.hid (B10.out.trans (hb11.mono B10.out.size))
      clear hb11
      go_wp2_with fail
      go_ret
      exact ⟨rfl, B11.out⟩

end Go.Proofs.Ytpafnjdaiagdiaa.chainTells
