/- RingHidden: walked, given what the program's ring does. -/
import Derived.Test.YtagodofcjnlnbaaA0t
import Derived.Test.YtagodofcjnlnbaaA0b
import Derived.Lib.SmallJoins
namespace Go.Proofs.Ytagodofcjnlnbaa.ringHidden
open Go.Proofs.Ytagodofcjnlnbaa Go.Joins Go.ChangeShapes Go.WideShapes Go.ChangeAt Go.RowKit Go.Deep

theorem upto_push {r : Rg} {x p : Int} (h : p < x) : (r.push x).upto p = r.upto p := by
  unfold Rg.push
  by_cases e : r.no x = 0
  · rw [if_pos e]
    unfold Rg.upto
    simp only [List.countP_append]
    simp; omega
  · rw [if_neg e]
theorem upto_all {r : Rg} (ok : r.Ok) {x : Int} (h : r.last ≤ x) : r.upto x = r.l.length := by
  unfold Rg.upto
  rw [List.countP_eq_length]
  intro y hy
  obtain ⟨i, hi, rfl⟩ := List.getElem_of_mem hy
  have := Rg.last_ge ok hi
  rw [List.getD_eq_getElem?_getD, List.getElem?_eq_getElem hi] at this
  have this : r.l[i] ≤ r.last := this
  simp; omega
theorem last_push {r : Rg} {x : Int} (h : r.last ≤ x) : (r.push x).last ≤ x := by
  unfold Rg.push
  by_cases e : r.no x = 0
  · rw [if_pos e]
    show Rg.last ⟨r.size, r.beg, r.l ++ [x]⟩ ≤ x
    unfold Rg.last
    rw [if_neg (by simp)]
    show (r.l ++ [x]).getD ((r.l ++ [x]).length - 1) 0 ≤ x
    rw [show (r.l ++ [x]).length - 1 = r.l.length by simp, Rg.getD_snoc_eq]
    exact Int.le_refl _
  · rw [if_neg e]; exact h
/-- two rings alike but for their stamps -/
structure Alike (r s : Rg) : Prop where
  size : r.size = s.size
  beg : r.beg = s.beg
  len : r.l.length = s.l.length
theorem Alike.seq {r s : Rg} (h : Alike r s) : r.seq = s.seq := by unfold Rg.seq; rw [h.beg, h.len]
theorem Alike.floor {r s : Rg} (h : Alike r s) : r.floor = s.floor := by unfold Rg.floor; rw [h.seq, h.beg, h.size]
theorem Alike.no {r s : Rg} (h : Alike r s) {x y : Int} (hx : r.last < x) (hy : s.last < y) : r.no x = s.no y := by
  unfold Rg.no
  rw [if_neg (show ¬ x ≤ r.last by omega), if_neg (show ¬ y ≤ s.last by omega), h.seq]
theorem Alike.told {r s : Rg} (h : Alike r s) {x y : Int} (hx : r.last < x) (hy : s.last < y) : r.told x = s.told y := by
  unfold Rg.told
  rw [h.no hx hy, h.seq]
theorem Alike.push {r s : Rg} (h : Alike r s) {x y : Int} (hx : r.last < x) (hy : s.last < y) : Alike (r.push x) (s.push y) := by
  have e := h.no hx hy
  unfold Rg.push
  rw [← e]
  by_cases q : r.no x = 0
  · rw [if_pos q, if_pos q]
    exact ⟨h.size, h.beg, by show (r.l ++ [x]).length = (s.l ++ [y]).length; simp [h.len]⟩
  · rw [if_neg q, if_neg q]; exact h
theorem Alike.asOf {r s : Rg} (h : Alike r s) {p q : Int} (hu : r.upto p = s.upto q) : r.asOf p = s.asOf q ∧ r.asNo p = s.asNo q := by
  have e : r.old p = s.old q := by unfold Rg.old; rw [h.size, h.len, hu]
  unfold Rg.asOf Rg.asNo
  rw [e, h.beg, hu]
  exact ⟨rfl, rfl⟩
/-- what holds behind i rounds -/
structure Inv (r s : Rg) (x y p q : Int) (i : Nat) : Prop where
  like : Alike r s
  lx : r.last ≤ x
  ly : s.last ≤ y
  px : p ≤ x
  qy : q ≤ y
  up : r.upto p = s.upto q
  p0 : 0 ≤ p
  q0 : 0 ≤ q
  xi : x ≤ 256 * i
  yi : y ≤ 256 * i
  len : r.l.length ≤ i
  len2 : s.l.length ≤ i
theorem Inv.stay {r s : Rg} {x y p q : Int} {i : Nat} (h : Inv r s x y p q i) {a b : Int} (ha : 0 ≤ a ∧ a ≤ 255) (hb : 0 ≤ b ∧ b ≤ 255) : Inv (r.push (x + 1 + a)) (s.push (y + 1 + b)) (x + 1 + a) (y + 1 + b) p q (i + 1) := by
  have := h.lx
  have := h.ly
  have := h.px
  have := h.qy
  have := h.xi
  have := h.yi
  have := h.len
  have := h.len2
  refine ⟨h.like.push (by omega) (by omega), last_push (by omega), last_push (by omega), by omega, by omega, ?_, h.p0, h.q0, by omega, by omega, ?_, ?_⟩
  · rw [upto_push (by omega), upto_push (by omega)]; exact h.up
  · have := r.push_len (x + 1 + a); omega
  · have := s.push_len (y + 1 + b); omega
theorem Inv.mark {r s : Rg} {x y p q : Int} {i : Nat} (h : Inv r s x y p q i) (okr : r.Ok) (oks : s.Ok) {a b : Int} (ha : 0 ≤ a ∧ a ≤ 255) (hb : 0 ≤ b ∧ b ≤ 255) : Inv (r.push (x + 1 + a)) (s.push (y + 1 + b)) (x + 1 + a) (y + 1 + b) (x + 1 + a) (y + 1 + b) (i + 1) := by
  have k := h.stay ha hb
  have := h.p0
  have := h.q0
  have := h.px
  have := h.qy
  refine ⟨k.like, k.lx, k.ly, Int.le_refl _, Int.le_refl _, ?_, by omega, by omega, k.xi, k.yi, k.len, k.len2⟩
  rw [upto_all (Rg.push_ok okr _) k.lx, upto_all (Rg.push_ok oks _) k.ly]
  exact k.like.len

section
variable {R : RelR} (X : RingAt R) {w0 w w' : World} {N : Nat → Prop} {b b2 : Nat} {r r2 : Rg}
include X
theorem twoPush (x : Int) (h : TwoR R w0 N w b r b2 r2) (h0 : 0 ≤ x) (h1 : x ≤ 18446744073709551615) (hl : r.l.length ≤ 1000) :
    Calls Try.prog 11 #[PtrR b, .int .u64 x] w fun e w' => e = .returned (.tuple #[.int .i64 (r.told x : Nat), .int .i64 (r.no x)]) ∧ TwoR R w0 N w' b (r.push x) b2 r2 := by
  obtain ⟨N2, g2, k2⟩ := TwoR.fst X h
  exact (oPush X x g2 h0 h1 hl).mono fun e w' ⟨he, hh⟩ => ⟨he, k2 _ _ hh⟩
theorem twoAsOf (x : Int) (h : TwoR R w0 N w b r b2 r2) (h0 : 0 ≤ x) (h1 : x ≤ 18446744073709551615) (hl : r.l.length ≤ 1000) :
    Calls Try.prog 15 #[PtrR b, .int .u64 x] w fun e w' => e = .returned (.tuple #[.int .i64 (r.asOf x : Nat), .int .i64 (r.asNo x)]) ∧ TwoR R w0 N w' b r b2 r2 := by
  obtain ⟨N2, g2, k2⟩ := TwoR.fst X h
  exact (oAsOf X x g2 h0 h1 hl).mono fun e w' ⟨he, hh⟩ => ⟨he, k2 _ _ hh⟩
theorem twoFloor (h : TwoR R w0 N w b r b2 r2) : Calls Try.prog 17 #[PtrR b] w fun e w' => e = .returned (.int .i64 (r.floor : Nat)) ∧ TwoR R w0 N w' b r b2 r2 := by
  obtain ⟨N2, g2, k2⟩ := TwoR.fst X h
  exact (oFloor X g2).mono fun e w' ⟨he, hh⟩ => ⟨he, k2 _ _ hh⟩
theorem twoOk (h : TwoR R w0 N w b r b2 r2) : r.Ok ∧ r2.Ok := by
  obtain ⟨_, _, h1, h2, _⟩ := h
  exact ⟨X.ok h1, X.ok h2⟩
theorem twoNew {F F2 : Nat → Prop} {w1 : World} (hb : Below w0.heap.size w0 w1) (q : R w1 b F r) (hF : ∀ k, F k → w0.heap.size ≤ k) (hb2 : Below w1.heap.size w1 w) (q2 : R w b2 F2 r2) (hF2 : ∀ k, F2 k → w1.heap.size ≤ k) :
    TwoR R w0 (fun k => k < w0.heap.size) w b r b2 r2 := by
  have hw := hb.trans (hb2.mono hb.size)
  refine ⟨F, F2, X.keep q (fun k e => hb2.block k (X.lt q e)) hb2.size, q2, fun k e f => ?_, fun k e f => ?_, fun k e f => ?_, fun k e => e, ⟨hw.os, hw.tape, hw.output, hw.size, fun k hk _ => hw.block k hk⟩⟩
  · have := X.lt q e; have := hF2 k f; omega
  · have := hF k e; omega
  · have := hF2 k e; have := hb.size; omega
end

set_option maxRecDepth 100000 in
set_option maxHeartbeats 2000000 in
theorem walk {R : RelR} (X : RingAt R) (s q : Int) (A : Option Addr) (c : Nat) (l : List Int) (A2 : Option Addr) (c2 : Nat) (l2 : List Int) (at_ : Int) (w : World) (h : SlB w A l) (hu : U8 l) (hl : l.length ≤ maxLen) (h2 : SlB w A2 l2) (hu2 : U8 l2) (hl2 : l2.length ≤ maxLen) :
    Calls Try.prog 6 #[.int .i64 s, .int .i64 q, .slice A l.length c, .slice A2 l2.length c2, .int .i64 at_] w fun e w' => e = .returned (.bool true) ∧ Below w.heap.size w w' := by
  obtain ⟨n, hn⟩ : ∃ n, n = l.length := ⟨_, rfl⟩
  obtain ⟨n2, hn2⟩ : ∃ n, n = l2.length := ⟨_, rfl⟩
  rw [← hn, ← hn2]
  have HN := Lib.hid hn
  have HN2 := Lib.hid hn2
  have X' := Lib.hid X
  have AW := Lib.hid (awake0 X w)
  have CN := Lib.hid (X.new s q)
  have HS := Lib.hid h
  have HU := Lib.hid hu
  have HS2 := Lib.hid h2
  have HU2 := Lib.hid hu2
  have HL := Lib.hid hl
  have HL2 := Lib.hid hl2
  clear hn hn2 X h hu hl h2 hu2 hl2
  go_enter Try.func6, Try.ntmps6
  go_wp2_with fail
  refine AW.out.mono ?_
  rintro e w1 ⟨rfl, hb1⟩
  have B1 := Lib.hid hb1
  clear hb1 AW
  go_wp2_with fail
  refine (CN.out _).mono ?_
  rintro e w2 ⟨hb2, hh⟩
  have B2 := Lib.hid (B1.out.trans (hb2.mono B1.out.size))
  rcases hh with ⟨hfit, b, F, rfl, hr, hF⟩ | ⟨hfit, rfl⟩
  case inr =>
    have HB2 := Lib.hid hfit
    clear hb2 hfit
    go_wp2_with fail
    refine (CN.out _).mono ?_
    rintro e w3 ⟨hb3, hh⟩
    have B3 := Lib.hid (B2.out.trans (hb3.mono B2.out.size))
    clear hb3
    rcases hh with ⟨hfit, _⟩ | ⟨_, rfl⟩
    · rw [HB2.out] at hfit; cases hfit
    go_wp2_with fail
    go_ret
    exact ⟨rfl, B3.out⟩
  have HF1 := Lib.hid hfit
  have HR := Lib.hid hr
  have HFF := Lib.hid hF
  have H2 := Lib.hid hb2
  clear hfit hr hF hb2
  go_wp2_with fail
  refine (CN.out _).mono ?_
  rintro e w3 ⟨hb3, hh⟩
  rcases hh with ⟨_, b2, F2, rfl, hr2, hF2⟩ | ⟨hfit, _⟩
  case inr => rw [HF1.out] at hfit; cases hfit
  have O3 := Lib.hid (twoNew X'.out H2.out HR.out HFF.out hb3 hr2 hF2)
  clear hb3 hr2 hF2 HR HFF H2 HF1 CN
  obtain ⟨r0, hr0⟩ : ∃ r, r = Rg.new s q := ⟨_, rfl⟩
  have I0 := Lib.hid (show Inv r0 r0 0 0 0 0 0 from by
    rw [hr0]
    exact ⟨⟨rfl, rfl, rfl⟩, by unfold Rg.last Rg.new; simp, by unfold Rg.last Rg.new; simp, Int.le_refl _, Int.le_refl _, rfl, Int.le_refl _, Int.le_refl _, by omega, by omega, Nat.le_refl _, Nat.le_refl _⟩)
  rw [← hr0] at O3
  clear hr0
  have BB := Lib.hid (fun (w9 : World) r r2 (h : TwoR R w1 (fun k => k < w1.heap.size) w9 b r b2 r2) => show Below w.heap.size w w9 from B1.out.trans ((stays h.chg (Nat.le_refl _) (fun _ e => e)).mono B1.out.size))
  go_wp2_with fail
  go_loopw [15, 16, 17, 18, 19] (fun vx vy vp vq vi wr => ∃ (i : Nat) (r r2 : Rg) (x y p q : Int), i ≤ n ∧ i ≤ n2 ∧ i ≤ 100 ∧ vx = .int .u64 x ∧ vy = .int .u64 y ∧ vp = .int .u64 p ∧ vq = .int .u64 q ∧ vi = .int .i64 i ∧ Hid (Inv r r2 x y p q i) ∧ Hid (TwoR R w1 (fun k => k < w1.heap.size) wr b r b2 r2)) (fun _ _ _ _ vi _ => 100 - (intOf vi).toNat)
  case atStart => exact ⟨0, r0, r0, 0, 0, 0, 0, Nat.zero_le _, Nat.zero_le _, by omega, rfl, rfl, rfl, rfl, rfl, I0, O3⟩
  case round =>
    obtain ⟨i, r, r2, x, y, p, q, hi, hi2, hi3, rfl, rfl, rfl, rfl, rfl, HI, HO⟩ := hrel
    by_cases q1 : i < n
    · by_cases q2 : i < n2
      · by_cases q3 : i < 100
        · obtain ⟨bb, o, rfl, hbb, cc⟩ := HS.out (by rw [← HN.out]; omega)
          have cl := cc i (by rw [← HN.out]; exact q1)
          have au := HU.out.get i (by rw [← HN.out]; exact q1)
          obtain ⟨bb2, o2, rfl, hbb2, cc2⟩ := HS2.out (by rw [← HN2.out]; omega)
          have cl2 := cc2 i (by rw [← HN2.out]; exact q2)
          have bu := HU2.out.get i (by rw [← HN2.out]; exact q2)
          have bw := BB.out _ _ _ HO.out
          have cl := (bw.cell (p := ⟨bb, o + i, none⟩) hbb).trans cl
          have cl2 := (bw.cell (p := ⟨bb2, o2 + i, none⟩) hbb2).trans cl2
          obtain ⟨a, ha⟩ : ∃ a, a = l.getD i 0 := ⟨_, rfl⟩
          obtain ⟨d, hd⟩ : ∃ a, a = l2.getD i 0 := ⟨_, rfl⟩
          rw [← ha] at cl au
          rw [← hd] at cl2 bu
          obtain ⟨okr, oks⟩ := twoOk X'.out HO.out
          have x0 : 0 ≤ x := by have := HI.out.p0; have := HI.out.px; omega
          have y0 : 0 ≤ y := by have := HI.out.q0; have := HI.out.qy; omega
          have xi := HI.out.xi
          have yi := HI.out.yi
          have IS := Lib.hid (HI.out.stay au bu)
          have IM := Lib.hid (HI.out.mark okr oks au bu)
          have lr : r.l.length ≤ 1000 := by have := HI.out.len; omega
          have lr2 : r2.l.length ≤ 1000 := by have := HI.out.len2; omega
          have lt1 : r.last < x + 1 + a := by have := HI.out.lx; omega
          have lt2 : r2.last < y + 1 + d := by have := HI.out.ly; omega
          have P1 := Lib.hid (twoPush X'.out (x + 1 + a) HO.out (by omega) (by omega) lr)
          have P2 := Lib.hid (fun W r1 (h : TwoR R w1 (fun k => k < w1.heap.size) W b2 r2 b r1) => twoPush X'.out (y + 1 + d) h (by omega) (by omega) lr2)
          rw [HI.out.like.told lt1 lt2, HI.out.like.no lt1 lt2] at P1
          obtain ⟨T, hT⟩ : ∃ a, a = r2.told (y + 1 + d) := ⟨_, rfl⟩
          obtain ⟨E, hE⟩ : ∃ a, a = r2.no (y + 1 + d) := ⟨_, rfl⟩
          obtain ⟨r3, hr3⟩ : ∃ u, u = r.push (x + 1 + a) := ⟨_, rfl⟩
          obtain ⟨r4, hr4⟩ : ∃ a, a = r2.push (y + 1 + d) := ⟨_, rfl⟩
          rw [← hT, ← hE, ← hr3] at P1
          simp only [← hT, ← hE, ← hr4] at P2
          rw [← hr3, ← hr4] at IS IM
          obtain ⟨x', hx'⟩ : ∃ a', a' = x + 1 + a := ⟨_, rfl⟩
          obtain ⟨y', hy'⟩ : ∃ a', a' = y + 1 + d := ⟨_, rfl⟩
          rw [← hx'] at P1 IS IM
          simp only [← hy'] at P2
          rw [← hy'] at IS IM
          have i0 : (0 : Int) ≤ (i : Int) := by omega
          have i1 : (i : Int) < (n : Int) := by omega
          have i2 : (i : Int) < (n2 : Int) := by omega
          clear cc cc2 hbb hbb2 ha hd okr oks lr lr2 lt1 lt2 hT hE hr3 hr4 bw
          have HX := Lib.hid hx'
          have HY := Lib.hid hy'
          clear hx' hy'
          go_wp2_with fail
          rw [← HX.out, ← HY.out]
          clear xi yi x0 y0 au bu cl cl2
          refine P1.out.mono ?_
          rintro e w4 ⟨rfl, o4⟩
          have O4 := Lib.hid o4
          clear o4
          go_wp2_with fail
          refine (P2.out _ _ O4.out.swap).mono ?_
          rintro e w5 ⟨rfl, o5⟩
          have O5 := Lib.hid o5.swap
          clear o5
          by_cases q4 : (i : Int) = at_
          · have q5 : ((i : Int) == at_) = true := by rw [beq_iff_eq]; exact q4
            clear q4
            go_wp2_with fail
            go_roundw
            case rel => exact ⟨i + 1, r3, r4, x', y', x', y', by omega, by omega, by omega, rfl, rfl, rfl, rfl, by go_num, IM, O5⟩
            case measure => simp [intOf]; omega
          · have q5 : ((i : Int) == at_) = false := by rw [beq_eq_false_iff_ne]; exact q4
            clear q4
            go_wp2_with fail
            go_roundw
            case rel => exact ⟨i + 1, r3, r4, x', y', p, q, by omega, by omega, by omega, rfl, rfl, rfl, rfl, by go_num, IS, O5⟩
            case measure => simp [intOf]; omega
        · skip
          have P1 := Lib.hid (twoAsOf X'.out p HO.out HI.out.p0 (by have := HI.out.px; have := HI.out.xi; omega) (by have := HI.out.len; omega))
          have P2 := Lib.hid (fun W (h : TwoR R w1 (fun k => k < w1.heap.size) W b2 r2 b r) => twoAsOf X'.out q h HI.out.q0 (by have := HI.out.qy; have := HI.out.yi; omega) (by have := HI.out.len2; omega))
          have P3 := Lib.hid (fun W (h : TwoR R w1 (fun k => k < w1.heap.size) W b r b2 r2) => twoFloor X'.out h)
          have P4 := Lib.hid (fun W (h : TwoR R w1 (fun k => k < w1.heap.size) W b2 r2 b r) => twoFloor X'.out h)
          obtain ⟨t1, t2⟩ := HI.out.like.asOf HI.out.up
          have t3 := HI.out.like.floor
          rw [t1, t2] at P1
          simp only [t3] at P3
          obtain ⟨a9, ha9⟩ : ∃ a, a = r2.asOf q := ⟨_, rfl⟩
          obtain ⟨e9, he9⟩ : ∃ a, a = r2.asNo q := ⟨_, rfl⟩
          obtain ⟨f9, hf9⟩ : ∃ a, a = r2.floor := ⟨_, rfl⟩
          rw [← ha9, ← he9] at P1
          simp only [← ha9, ← he9] at P2
          simp only [← hf9] at P3 P4
          clear t1 t2 t3 ha9 he9 hf9
          go_wp2_with fail
          refine P1.out.mono ?_
          rintro e w4 ⟨rfl, o4⟩
          have O4 := Lib.hid o4
          clear o4
          go_wp2_with fail
          refine (P2.out _ O4.out.swap).mono ?_
          rintro e w5 ⟨rfl, o5⟩
          have O5 := Lib.hid o5.swap
          clear o5
          go_wp2_with fail
          refine (P3.out _ O5.out).mono ?_
          rintro e w6 ⟨rfl, o6⟩
          have O6 := Lib.hid o6
          clear o6
          go_wp2_with fail
          refine (P4.out _ O6.out.swap).mono ?_
          rintro e w7 ⟨rfl, o7⟩
          have B7 := Lib.hid (BB.out _ _ _ o7.swap)
          clear o7
          go_wp2_with fail
          go_ret
          exact ⟨rfl, B7.out⟩
      · skip
        have P1 := Lib.hid (twoAsOf X'.out p HO.out HI.out.p0 (by have := HI.out.px; have := HI.out.xi; omega) (by have := HI.out.len; omega))
        have P2 := Lib.hid (fun W (h : TwoR R w1 (fun k => k < w1.heap.size) W b2 r2 b r) => twoAsOf X'.out q h HI.out.q0 (by have := HI.out.qy; have := HI.out.yi; omega) (by have := HI.out.len2; omega))
        have P3 := Lib.hid (fun W (h : TwoR R w1 (fun k => k < w1.heap.size) W b r b2 r2) => twoFloor X'.out h)
        have P4 := Lib.hid (fun W (h : TwoR R w1 (fun k => k < w1.heap.size) W b2 r2 b r) => twoFloor X'.out h)
        obtain ⟨t1, t2⟩ := HI.out.like.asOf HI.out.up
        have t3 := HI.out.like.floor
        rw [t1, t2] at P1
        simp only [t3] at P3
        obtain ⟨a9, ha9⟩ : ∃ a, a = r2.asOf q := ⟨_, rfl⟩
        obtain ⟨e9, he9⟩ : ∃ a, a = r2.asNo q := ⟨_, rfl⟩
        obtain ⟨f9, hf9⟩ : ∃ a, a = r2.floor := ⟨_, rfl⟩
        rw [← ha9, ← he9] at P1
        simp only [← ha9, ← he9] at P2
        simp only [← hf9] at P3 P4
        clear t1 t2 t3 ha9 he9 hf9
        go_wp2_with fail
        refine P1.out.mono ?_
        rintro e w4 ⟨rfl, o4⟩
        have O4 := Lib.hid o4
        clear o4
        go_wp2_with fail
        refine (P2.out _ O4.out.swap).mono ?_
        rintro e w5 ⟨rfl, o5⟩
        have O5 := Lib.hid o5.swap
        clear o5
        go_wp2_with fail
        refine (P3.out _ O5.out).mono ?_
        rintro e w6 ⟨rfl, o6⟩
        have O6 := Lib.hid o6
        clear o6
        go_wp2_with fail
        refine (P4.out _ O6.out.swap).mono ?_
        rintro e w7 ⟨rfl, o7⟩
        have B7 := Lib.hid (BB.out _ _ _ o7.swap)
        clear o7
        go_wp2_with fail
        go_ret
        exact ⟨rfl, B7.out⟩
    · skip
      have P1 := Lib.hid (twoAsOf X'.out p HO.out HI.out.p0 (by have := HI.out.px; have := HI.out.xi; omega) (by have := HI.out.len; omega))
      have P2 := Lib.hid (fun W (h : TwoR R w1 (fun k => k < w1.heap.size) W b2 r2 b r) => twoAsOf X'.out q h HI.out.q0 (by have := HI.out.qy; have := HI.out.yi; omega) (by have := HI.out.len2; omega))
      have P3 := Lib.hid (fun W (h : TwoR R w1 (fun k => k < w1.heap.size) W b r b2 r2) => twoFloor X'.out h)
      have P4 := Lib.hid (fun W (h : TwoR R w1 (fun k => k < w1.heap.size) W b2 r2 b r) => twoFloor X'.out h)
      obtain ⟨t1, t2⟩ := HI.out.like.asOf HI.out.up
      have t3 := HI.out.like.floor
      rw [t1, t2] at P1
      simp only [t3] at P3
      obtain ⟨a9, ha9⟩ : ∃ a, a = r2.asOf q := ⟨_, rfl⟩
      obtain ⟨e9, he9⟩ : ∃ a, a = r2.asNo q := ⟨_, rfl⟩
      obtain ⟨f9, hf9⟩ : ∃ a, a = r2.floor := ⟨_, rfl⟩
      rw [← ha9, ← he9] at P1
      simp only [← ha9, ← he9] at P2
      simp only [← hf9] at P3 P4
      clear t1 t2 t3 ha9 he9 hf9
      go_wp2_with fail
      refine P1.out.mono ?_
      rintro e w4 ⟨rfl, o4⟩
      have O4 := Lib.hid o4
      clear o4
      go_wp2_with fail
      refine (P2.out _ O4.out.swap).mono ?_
      rintro e w5 ⟨rfl, o5⟩
      have O5 := Lib.hid o5.swap
      clear o5
      go_wp2_with fail
      refine (P3.out _ O5.out).mono ?_
      rintro e w6 ⟨rfl, o6⟩
      have O6 := Lib.hid o6
      clear o6
      go_wp2_with fail
      refine (P4.out _ O6.out.swap).mono ?_
      rintro e w7 ⟨rfl, o7⟩
      have B7 := Lib.hid (BB.out _ _ _ o7.swap)
      clear o7
      go_wp2_with fail
      go_ret
      exact ⟨rfl, B7.out⟩

end Go.Proofs.Ytagodofcjnlnbaa.ringHidden
