/- Proved parts: S7r S7s. Conditions: each theorem's own. -/
import Derived.Test.YtfodclafkdkjbaaDoorM2
import Derived.Test.YtfodclafkdkjbaaDoorM4
import Derived.Test.YtfodclafkdkjbaaDoorM15
import Derived.Deep.QuietTactic
import Derived.BigQuiet
import Derived.Deep.Cut
import Derived.Deep.CutRange
import Derived.Deep.CutBlock
namespace Go.Proofs.YtfodclafkdkjbaaDoor
open Go.RowKit

/-- no sector has too many bytes -/
def Ext.Small (m : Ext) : Prop := ∀ i, (m.secAt i).dry.size ≤ 64 ∧ (m.secAt i).now.size ≤ 64
theorem read_now {m : Ext} {e i : Nat} (hoff : m.off = false) (he : e < m.ext) (hi : i < m.sec) : m.read (e : Int) (i : Int) = (nowC m e i, 0) := by
  unfold Ext.read nowC
  rw [hoff, if_neg (by simp), if_pos (Ext.has_of he hi)]
theorem in64n {n : Nat} (h : n ≤ 1000) : In64 (n : Int) := ⟨by omega, by omega⟩
/-- what Unpack leaves, in two ways -/
theorem unpack_yes {s : ByteArray} (h : isSec s = true) (w : World) (hs : s.size ≤ 1000) : Calls Tryd.prog 63 #[.string s] w fun e w' => e = .returned (.tuple #[.agg #[.int .i64 (stp s).gen, .int .i64 (stp s).index, .int .i64 (stp s).life, .int .i64 (stp s).part, .int .i64 (stp s).parts], .string (dat s), .bool true]) ∧ Below w.heap.size w w' := by
  refine (srUnpack s w hs).mono fun e w' ⟨he, hb⟩ => ⟨?_, hb⟩
  rw [he, h]; rfl
theorem unpack_no {s : ByteArray} (h : isSec s = false) (w : World) (hs : s.size ≤ 1000) : Calls Tryd.prog 63 #[.string s] w fun e w' => e = .returned (.tuple #[.agg #[.int .i64 0, .int .i64 0, .int .i64 0, .int .i64 0, .int .i64 0], .string ⟨#[]⟩, .bool false]) ∧ Below w.heap.size w w' := by
  refine (srUnpack s w hs).mono fun e w' ⟨he, hb⟩ => ⟨?_, hb⟩
  rw [he, h]; rfl

set_option maxRecDepth 100000 in
set_option maxHeartbeats 1000000 in
/-- cloisonneref07.Life -/
theorem rLife (p g : Nat) (m : Ext) (e : Nat) (w : World) (h : RefE w p g m) (hoff : m.off = false) (he : e < m.ext) (hs : m.Small) :
    Calls Tryd.prog 51 #[.pointer (some ⟨p, 0, none⟩), .int .i64 (e : Int)] w fun x w' => x = .returned (.int .i64 (lifeTo (nowC m e) m.sec)) ∧ Below w.heap.size w w' := by
  have HR := Lib.hid h
  obtain ⟨S, hS⟩ : ∃ S, S = m.sec := ⟨_, rfl⟩
  have S128 : S ≤ 128 := by rw [hS]; exact h.ok.2.2.2.1
  have e32 : e ≤ 32 := by have := h.ok.2.1; omega
  have HS := Lib.hid hS
  have RD := Lib.hid (show ∀ i w, i < S → RefE w p g m → Calls Tryd.prog 18 #[.pointer (some ⟨p, 0, none⟩), .int .i64 (e : Int), .int .i64 (i : Int)] w fun x w' => x = .returned (.tuple #[.string (nowC m e i), .int .i64 0]) ∧ w = w' from fun i w hi hr => by
    have k := eRead p g m e i w hr (in64n (by omega)) (in64n (by omega))
    rw [read_now hoff he (by omega)] at k; exact k)
  have SM := Lib.hid (show ∀ i, (nowC m e i).size ≤ 1000 from fun i => by have := (hs (m.pos (e : Int) (i : Int))).2; unfold nowC; omega)
  rw [← hS]
  obtain ⟨c, hc⟩ : ∃ c, c = nowC m e := ⟨_, rfl⟩
  rw [← hc] at RD SM ⊢
  have B0 := Lib.hid (Below.refl w.heap.size w)
  clear h hS hs hc hoff he
  go_enter Tryd.func51, Tryd.ntmps51
  go_wp2_with fail
  go_loopw [5, 6] (fun vm vi wr => ∃ k : Nat, k ≤ S ∧ vi = .int .i64 k ∧ vm = .int .i64 (lifeTo c k) ∧ Hid (RefE wr p g m) ∧ Hid (Below w.heap.size w wr)) (fun _ vi _ => S - (intOf vi).toNat)
  case atStart => exact ⟨0, Nat.zero_le _, rfl, rfl, HR, B0⟩
  case round =>
    obtain ⟨k, hk, rfl, rfl, HW, HB⟩ := hrel
    have c2 := HW.out.p2
    rw [← HS.out] at c2
    by_cases kk : k < S
    · obtain ⟨L, hL⟩ : ∃ L, L = lifeTo c k := ⟨_, rfl⟩
      have RK := Lib.hid (RD.out k wr kk HW.out)
      cases hsec : isSec (c k) with
      | false =>
        have NX := Lib.hid (show lifeTo c (k + 1) = lifeTo c k by show (if _ then _ else _) = _; rw [hsec]; rfl)
        have UN := Lib.hid (fun w => unpack_no hsec w (SM.out k))
        rw [← hL] at NX ⊢
        clear hsec hL
        go_wp2_with fail
        refine RK.out.mono ?_
        rintro e1 w1 ⟨rfl, rfl⟩
        go_wp2_with fail
        refine (UN.out _).mono ?_
        rintro e2 w2 ⟨rfl, hb2⟩
        have R2 := Lib.hid (HW.out.below hb2)
        have B2 := Lib.hid (below_then HB.out hb2)
        clear hb2
        go_wp2_with fail
        go_roundw
        case rel => exact ⟨k + 1, by omega, by go_num, by rw [NX.out], Lib.hid (R2.out.below ((Below.refl _ _).alloc (Nat.le_refl _) _)), Lib.hid (B2.out.alloc B2.out.size _)⟩
        case measure => simp [intOf]; omega
      | true =>
        have UN := Lib.hid (fun w => unpack_yes hsec w (SM.out k))
        obtain ⟨y, hy⟩ : ∃ y, y = (stp (c k)).life := ⟨_, rfl⟩
        have NX := Lib.hid (show lifeTo c (k + 1) = if L < y then y else L by
          show (if _ then _ else _) = _
          rw [hsec, hy, hL]
          by_cases q : lifeTo c k < (stp (c k)).life
          · rw [decide_eq_true q, if_pos (show (true && true) = true from rfl), if_pos q]
          · rw [decide_eq_false q, if_neg q]; rfl)
        rw [← hy] at UN
        rw [← hL]
        clear hsec hL hy
        by_cases q : L < y
        · rw [if_pos q] at NX
          have t1 : decide (L < y) = true := decide_eq_true q
          go_wp2_with fail
          refine RK.out.mono ?_
          rintro e1 w1 ⟨rfl, rfl⟩
          go_wp2_with fail
          refine (UN.out _).mono ?_
          rintro e2 w2 ⟨rfl, hb2⟩
          have R2 := Lib.hid (HW.out.below hb2)
          have B2 := Lib.hid (below_then HB.out hb2)
          clear hb2
          go_wp2_with fail
          go_roundw
          case rel => exact ⟨k + 1, by omega, by go_num, by rw [NX.out], Lib.hid (R2.out.below ((Below.refl _ _).alloc (Nat.le_refl _) _)), Lib.hid (B2.out.alloc B2.out.size _)⟩
          case measure => simp [intOf]; omega
        · rw [if_neg q] at NX
          have t1 : decide (L < y) = false := decide_eq_false q
          go_wp2_with fail
          refine RK.out.mono ?_
          rintro e1 w1 ⟨rfl, rfl⟩
          go_wp2_with fail
          refine (UN.out _).mono ?_
          rintro e2 w2 ⟨rfl, hb2⟩
          have R2 := Lib.hid (HW.out.below hb2)
          have B2 := Lib.hid (below_then HB.out hb2)
          clear hb2
          go_wp2_with fail
          go_roundw
          case rel => exact ⟨k + 1, by omega, by go_num, by rw [NX.out], Lib.hid (R2.out.below ((Below.refl _ _).alloc (Nat.le_refl _) _)), Lib.hid (B2.out.alloc B2.out.size _)⟩
          case measure => simp [intOf]; omega
    · obtain rfl : k = S := by omega
      go_wp2_with fail
      go_ret
      exact ⟨rfl, HB.out⟩

end Go.Proofs.YtfodclafkdkjbaaDoor

namespace Go.Proofs.YtfodclafkdkjbaaDoor
open Go.RowKit

theorem recN_no {c : Cont} {S : Nat} {G : Int} {a : Nat} (h : begins c S G a = false) : recN c S G a = 0 := by
  unfold recN; rw [h]; rfl
theorem recN_stop {c : Cont} {S : Nat} {G : Int} {a k : Nat} (hk : k < (stp (c a)).parts.toNat) (h : isAt (c (a + k)) G (a + k) k (stp (c a)).parts (stp (c a)).life = false) : recN c S G a = 0 := by
  unfold recN
  have : goes c G a (stp (c a)).parts (stp (c a)).life (stp (c a)).parts.toNat = false := by
    cases q : goes c G a (stp (c a)).parts (stp (c a)).life (stp (c a)).parts.toNat with
    | false => rfl
    | true => rw [(goes_iff _ _ _ _ _ _).1 q k hk] at h; exact h
  rw [this, Bool.and_false]; rfl
theorem recN_all {c : Cont} {S : Nat} {G : Int} {a : Nat} (hb : begins c S G a = true) (h : ∀ k, k < (stp (c a)).parts.toNat → isAt (c (a + k)) G (a + k) k (stp (c a)).parts (stp (c a)).life = true) : recN c S G a = (stp (c a)).parts.toNat := by
  unfold recN
  rw [hb, (goes_iff _ _ _ _ _ _).2 h]; rfl
/-- what it answers -/
def RcPost (c : Cont) (S : Nat) (G : Int) (a : Nat) (w : World) (x : Ending) (w' : World) : Prop :=
  x = .returned (.tuple #[.string (recB c a (recN c S G a)), .int .i64 (recN c S G a : Nat)]) ∧ Below w.heap.size w w'
theorem RcPost.no {c : Cont} {S : Nat} {G : Int} {a : Nat} {w w' : World} (h : recN c S G a = 0) (hb : Below w.heap.size w w') : RcPost c S G a w (.returned (.tuple #[.string ⟨#[]⟩, .int .i64 0])) w' := by
  refine ⟨?_, hb⟩; rw [h]; rfl

/-- what a call of Record is handed -/
structure RcIn (p g : Nat) (m : Ext) (e a : Nat) (G : Int) (S : Nat) (c : Cont) : Prop where
  s128 : S ≤ 128
  e32 : e ≤ 32
  g0 : -9223372036854775808 ≤ G
  g1 : G ≤ 9223372036854775807
  sec : S = m.sec
  read : ∀ i w, i < S → RefE w p g m → Calls Tryd.prog 18 #[.pointer (some ⟨p, 0, none⟩), .int .i64 (e : Int), .int .i64 (i : Int)] w fun x w' => x = .returned (.tuple #[.string (c i), .int .i64 0]) ∧ w = w'
  small : ∀ i, (c i).size ≤ 1000
theorem RcIn.of {p g : Nat} {m : Ext} {e a : Nat} {G : Int} (ho : m.Ok) (hoff : m.off = false) (he : e < m.ext) (hs : m.Small) (g0 : -9223372036854775808 ≤ G) (g1 : G ≤ 9223372036854775807) : RcIn p g m e a G m.sec (nowC m e) where
  s128 := ho.2.2.2.1
  e32 := by have := ho.2.1; omega
  g0 := g0
  g1 := g1
  sec := rfl
  read := fun i w hi hr => by
    have := ho.2.1; have := ho.2.2.2.1
    have k := eRead p g m e i w hr (in64n (by omega)) (in64n (by omega))
    rw [read_now hoff he hi] at k; exact k
  small := fun i => by have := (hs (m.pos (e : Int) (i : Int))).2; unfold nowC; omega

set_option maxRecDepth 100000 in
set_option maxHeartbeats 2000000 in
theorem rRecord_no {p g : Nat} {m : Ext} {e a : Nat} {G : Int} {S : Nat} {c : Cont} (H : RcIn p g m e a G S c) (w : World) (h : RefE w p g m) (ha : a ≤ 1000) (hb : begins c S G a = false) :
    Calls Tryd.prog 64 #[.pointer (some ⟨p, 0, none⟩), .int .i64 (e : Int), .int .i64 G, .int .i64 (a : Int)] w (RcPost c S G a w) := by
  have NO := Lib.hid (recN_no hb)
  have HR := Lib.hid h
  have S128 := H.s128
  have e32 := H.e32
  have c2 := h.p2
  rw [← H.sec] at c2
  have H' := Lib.hid H
  by_cases hlt : a < S
  case neg =>
    clear h H hb
    go_enter Tryd.func64, Tryd.ntmps64
    go_wp2_with fail
    go_ret2
    exact RcPost.no NO.out (Below.refl _ _)
  have RK := Lib.hid (H.read a w hlt h)
  clear H h
  cases hsec : isSec (c a) with
  | false =>
    have UN := Lib.hid (fun w => unpack_no hsec w (H'.out.small a))
    clear hsec hb
    go_enter Tryd.func64, Tryd.ntmps64
    go_wp2_with fail
    refine RK.out.mono ?_
    rintro e1 w1 ⟨rfl, rfl⟩
    go_wp2_with fail
    refine (UN.out _).mono ?_
    rintro e2 w2 ⟨rfl, hb2⟩
    have B2 := Lib.hid hb2
    clear hb2
    go_wp2_with fail
    go_quiet (fail)
    go_wp2_with fail
    go_ret2
    exact RcPost.no NO.out (below_drewN (B2.out.alloc B2.out.size _) _)
  | true =>
    have UN := Lib.hid (fun w => unpack_yes hsec w (H'.out.small a))
    have PP := parts_pos hsec
    obtain ⟨xg, hg⟩ : ∃ x, x = (stp (c a)).gen := ⟨_, rfl⟩
    obtain ⟨xi, hi⟩ : ∃ x, x = (stp (c a)).index := ⟨_, rfl⟩
    obtain ⟨xl, hl⟩ : ∃ x, x = (stp (c a)).life := ⟨_, rfl⟩
    obtain ⟨xp, hp⟩ : ∃ x, x = (stp (c a)).part := ⟨_, rfl⟩
    obtain ⟨xn, hn⟩ : ∃ x, x = (stp (c a)).parts := ⟨_, rfl⟩
    have W : (xg ≠ G) ∨ (xg = G ∧ xi ≠ (a : Int)) ∨ (xg = G ∧ xi = (a : Int) ∧ xp ≠ 0) ∨ (xg = G ∧ xi = (a : Int) ∧ xp = 0 ∧ (S : Int) < a + xn) := by
      have hnb : ¬ (begins c S G a = true) := by rw [hb]; exact Bool.false_ne_true
      rw [begins_iff, ← hg, ← hi, ← hp, ← hn] at hnb
      by_cases q1 : xg = G
      · by_cases q2 : xi = (a : Int)
        · by_cases q3 : xp = 0
          · exact .inr (.inr (.inr ⟨q1, q2, q3, by
              rcases Int.lt_or_le (S : Int) (a + xn) with q | q
              · exact q
              · exact absurd ⟨hlt, hsec, q1, q2, q3, q⟩ hnb⟩))
          · exact .inr (.inr (.inl ⟨q1, q2, q3⟩))
        · exact .inr (.inl ⟨q1, q2⟩)
      · exact .inl q1
    rw [← hn] at PP
    rw [← hg, ← hi, ← hl, ← hp, ← hn] at UN
    obtain ⟨n0, n1, _⟩ := PP
    have WR : IntKind.i64.wrap ((a : Int) + xn) = (a : Int) + xn := by rw [IntKind.wrap_i64]; omega
    clear hsec hb hg hi hl hp hn
    rcases W with W | ⟨W1, W2⟩ | ⟨W1, W2, W3⟩ | ⟨W1, W2, W3, W4⟩
    · have T0 : (xg != G) = true := by rw [bne_iff_ne]; exact W
      clear W
      go_enter Tryd.func64, Tryd.ntmps64
      go_wp2_with fail
      refine RK.out.mono ?_
      rintro e1 w1 ⟨rfl, rfl⟩
      go_wp2_with fail
      refine (UN.out _).mono ?_
      rintro e2 w2 ⟨rfl, hb2⟩
      have R2 := (HR.out.below hb2).below (w' := w2.alloc (.cells #[.int .i64 xg, .int .i64 xi, .int .i64 xl, .int .i64 xp, .int .i64 xn] 110)) ((Below.refl _ _).alloc (Nat.le_refl _) _)
      have B2 := Lib.hid (hb2.alloc hb2.size (.cells #[.int .i64 xg, .int .i64 xi, .int .i64 xl, .int .i64 xp, .int .i64 xn] 110))
      have X2 := RowAt.new w2 [.int .i64 xg, .int .i64 xi, .int .i64 xl, .int .i64 xp, .int .i64 xn] 110
      change RowAt (w2.alloc (.cells #[.int .i64 xg, .int .i64 xi, .int .i64 xl, .int .i64 xp, .int .i64 xn] 110)) _ _ _ at X2
      go_wp2_with fail
      clear hb2 c2
      generalize w2.alloc (.cells #[.int .i64 xg, .int .i64 xi, .int .i64 xl, .int .i64 xp, .int .i64 xn] 110) = w3 at R2 B2 X2 ⊢
      generalize w2.heap.size = q at X2 ⊢
      have c2 := R2.p2
      rw [← H'.out.sec] at c2
      obtain ⟨d0, d1, d2, d3, d4⟩ := BoxS.of_row X2
      go_quiet (fail)
      go_wp2_with fail
      go_ret2
      exact RcPost.no NO.out (below_drewN B2.out _)
    · subst W1
      have T1 : (xi != (a : Int)) = true := by rw [bne_iff_ne]; exact W2
      clear W2
      go_enter Tryd.func64, Tryd.ntmps64
      go_wp2_with fail
      refine RK.out.mono ?_
      rintro e1 w1 ⟨rfl, rfl⟩
      go_wp2_with fail
      refine (UN.out _).mono ?_
      rintro e2 w2 ⟨rfl, hb2⟩
      have R2 := (HR.out.below hb2).below (w' := w2.alloc (.cells #[.int .i64 xg, .int .i64 xi, .int .i64 xl, .int .i64 xp, .int .i64 xn] 110)) ((Below.refl _ _).alloc (Nat.le_refl _) _)
      have B2 := Lib.hid (hb2.alloc hb2.size (.cells #[.int .i64 xg, .int .i64 xi, .int .i64 xl, .int .i64 xp, .int .i64 xn] 110))
      have X2 := RowAt.new w2 [.int .i64 xg, .int .i64 xi, .int .i64 xl, .int .i64 xp, .int .i64 xn] 110
      change RowAt (w2.alloc (.cells #[.int .i64 xg, .int .i64 xi, .int .i64 xl, .int .i64 xp, .int .i64 xn] 110)) _ _ _ at X2
      go_wp2_with fail
      clear hb2 c2
      generalize w2.alloc (.cells #[.int .i64 xg, .int .i64 xi, .int .i64 xl, .int .i64 xp, .int .i64 xn] 110) = w3 at R2 B2 X2 ⊢
      generalize w2.heap.size = q at X2 ⊢
      have c2 := R2.p2
      rw [← H'.out.sec] at c2
      obtain ⟨d0, d1, d2, d3, d4⟩ := BoxS.of_row X2
      go_quiet (fail)
      go_wp2_with fail
      go_ret2
      exact RcPost.no NO.out (below_drewN B2.out _)
    · subst W1
      subst W2
      have T2 : (xp != 0) = true := by rw [bne_iff_ne]; exact W3
      clear W3
      go_enter Tryd.func64, Tryd.ntmps64
      go_wp2_with fail
      refine RK.out.mono ?_
      rintro e1 w1 ⟨rfl, rfl⟩
      go_wp2_with fail
      refine (UN.out _).mono ?_
      rintro e2 w2 ⟨rfl, hb2⟩
      have R2 := (HR.out.below hb2).below (w' := w2.alloc (.cells #[.int .i64 xg, .int .i64 (a : Int), .int .i64 xl, .int .i64 xp, .int .i64 xn] 110)) ((Below.refl _ _).alloc (Nat.le_refl _) _)
      have B2 := Lib.hid (hb2.alloc hb2.size (.cells #[.int .i64 xg, .int .i64 (a : Int), .int .i64 xl, .int .i64 xp, .int .i64 xn] 110))
      have X2 := RowAt.new w2 [.int .i64 xg, .int .i64 (a : Int), .int .i64 xl, .int .i64 xp, .int .i64 xn] 110
      change RowAt (w2.alloc (.cells #[.int .i64 xg, .int .i64 (a : Int), .int .i64 xl, .int .i64 xp, .int .i64 xn] 110)) _ _ _ at X2
      go_wp2_with fail
      clear hb2 c2
      generalize w2.alloc (.cells #[.int .i64 xg, .int .i64 (a : Int), .int .i64 xl, .int .i64 xp, .int .i64 xn] 110) = w3 at R2 B2 X2 ⊢
      generalize w2.heap.size = q at X2 ⊢
      have c2 := R2.p2
      rw [← H'.out.sec] at c2
      obtain ⟨d0, d1, d2, d3, d4⟩ := BoxS.of_row X2
      go_quiet (fail)
      go_wp2_with fail
      go_ret2
      exact RcPost.no NO.out (below_drewN B2.out _)
    · subst W1
      subst W2
      subst W3
      have T3 : decide ((S : Int) < (a : Int) + xn) = true := decide_eq_true W4
      clear W4
      go_enter Tryd.func64, Tryd.ntmps64
      go_wp2_with fail
      refine RK.out.mono ?_
      rintro e1 w1 ⟨rfl, rfl⟩
      go_wp2_with fail
      refine (UN.out _).mono ?_
      rintro e2 w2 ⟨rfl, hb2⟩
      have R2 := (HR.out.below hb2).below (w' := w2.alloc (.cells #[.int .i64 xg, .int .i64 (a : Int), .int .i64 xl, .int .i64 0, .int .i64 xn] 110)) ((Below.refl _ _).alloc (Nat.le_refl _) _)
      have B2 := Lib.hid (hb2.alloc hb2.size (.cells #[.int .i64 xg, .int .i64 (a : Int), .int .i64 xl, .int .i64 0, .int .i64 xn] 110))
      have X2 := RowAt.new w2 [.int .i64 xg, .int .i64 (a : Int), .int .i64 xl, .int .i64 0, .int .i64 xn] 110
      change RowAt (w2.alloc (.cells #[.int .i64 xg, .int .i64 (a : Int), .int .i64 xl, .int .i64 0, .int .i64 xn] 110)) _ _ _ at X2
      go_wp2_with fail
      clear hb2 c2
      generalize w2.alloc (.cells #[.int .i64 xg, .int .i64 (a : Int), .int .i64 xl, .int .i64 0, .int .i64 xn] 110) = w3 at R2 B2 X2 ⊢
      generalize w2.heap.size = q at X2 ⊢
      have c2 := R2.p2
      rw [← H'.out.sec] at c2
      obtain ⟨d0, d1, d2, d3, d4⟩ := BoxS.of_row X2
      go_quiet (fail)
      go_wp2_with fail
      go_ret2
      exact RcPost.no NO.out (below_drewN B2.out _)

end Go.Proofs.YtfodclafkdkjbaaDoor
