/- cloisonnelaw05.play: walked, given what the program's extent does. -/
import Derived.Test.YtjghpacpeojejaaE5d
namespace Go.Proofs.Ytjghpacpeojejaa
open Go.RowKit

/-- the world behind a call -/
def Ext.play (m : Ext) (x : Act5) : Ext := if x.k = 1 then (m.write x.e x.a x.s).1 else if x.k = 2 then (m.flush x.e).1 else if x.k = 3 then (if x.ps.length ≤ 100 then (m.crash x.ps).1 else m) else if x.k = 4 then m.start.1 else if x.k = 5 then (m.lay x.e x.a x.s).1 else m
theorem play_ok {m : Ext} (h : m.Ok) (x : Act5) : (m.play x).Ok := by
  unfold Ext.play
  repeat' split
  · exact Ext.write_ok h _ _ _
  · exact Ext.flush_ok h _
  · exact Ext.crash_ok h _
  · exact h
  · exact Ext.start_ok h
  · exact Ext.lay_ok h _ _ _
  · exact h

theorem LeftE.pre {R : RelE} {b : Nat} {F : Nat → Prop} {w w1 w2 : World} {m : Ext} (hc : Chg F w w1) (h : LeftE R b F w1 m w2) : LeftE R b F w m w2 := by
  obtain ⟨h1, F', h2, h3⟩ := h
  exact ⟨hc.then h1, F', h2, fun k hk => by rcases h3 k hk with q | q; exact .inl q; exact .inr (Nat.le_trans hc.size q)⟩
theorem LeftE.refl {R : RelE} {b : Nat} {F : Nat → Prop} {w : World} {m : Ext} (h : R w b F m) : LeftE R b F w m w := ⟨Chg.refl _ _, F, h, fun _ hk => .inl hk⟩

section
variable {R : RelE} {B b : Nat} {F : Nat → Prop} {m : Ext} {w : World}
set_option maxRecDepth 100000 in
set_option maxHeartbeats 2000000 in
theorem play5_1 (X : ExtAt R) (x : Act5) (A : Option Addr) (c : Nat) (w : World) (h : R w b F m) (hF : ∀ k, F k → B ≤ k) (hw : B ≤ w.heap.size) (ho : x.Ok) (hs : SlPk w A x.ps) (hA : 0 < x.ps.length → ∀ q o, A = some ⟨q, o, none⟩ → q < B) (hN : A = none → x.ps = [] ∧ c = 0) (hk : x.k = 1) :
    Calls Try.prog 18 #[.pointer (some ⟨b, 0, none⟩), x.v A c] w fun r w' => r = .returned (.tuple #[]) ∧ LeftE R b F w (m.play x) w' := by
  have RS := Lib.hid (show m.play x = (m.write x.e x.a x.s).1 by unfold Ext.play; rw [if_pos hk])
  have X' := Lib.hid X
  have C0 := Lib.hid (show Chg F w (w.alloc (.cells #[.int .i64 x.k, .int .i64 x.e, .int .i64 x.a, .string x.s, .slice A x.ps.length c] 33)) from (Chg.refl F w).alloc _)
  have B0 := Lib.hid (show Below B w (w.alloc (.cells #[.int .i64 x.k, .int .i64 x.e, .int .i64 x.a, .string x.s, .slice A x.ps.length c] 33)) from ((Below.refl B w).alloc hw _))
  have A0 := Lib.hid (show R (w.alloc (.cells #[.int .i64 x.k, .int .i64 x.e, .int .i64 x.a, .string x.s, .slice A x.ps.length c] 33)) b F m from X.keep h (fun k hk => Below.heap_alloc _ _ _ (X.lt h hk)) (by simp))
  have FF := Lib.hid hF
  obtain ⟨oe, oa, os, op⟩ := ho
  have OE := Lib.hid oe
  have OA := Lib.hid oa
  have OS := Lib.hid os
  have OP := Lib.hid op
  have SP := Lib.hid hs
  have HA := Lib.hid hA
  have HN := Lib.hid hN
  obtain ⟨k, e, a, s, ps⟩ := x
  simp only at hk
  subst hk
  show Calls Try.prog 18 #[.pointer (some ⟨b, 0, none⟩), .agg #[.int .i64 1, .int .i64 e, .int .i64 a, .string s, .slice A ps.length c]] w _
  obtain ⟨PL, hPL⟩ : ∃ PL, PL = ps.length := ⟨_, rfl⟩
  simp only [← hPL] at B0 A0 C0
  rw [← hPL]
  have HPL := Lib.hid hPL
  clear hPL h hF X oe oa os op hs hA hN
  go_enter Try.func18, Try.ntmps18
  go_wp2_with fail
  have r1 := A0.out
  refine (X'.out.write b F m e a s _ r1 OE.out OA.out OS.out).mono ?_
  rintro r w2 ⟨rfl, hl⟩
  have A2 := Lib.hid (hl.pre C0.out)
  clear hl
  go_wp2_with fail
  go_end0
  exact ⟨rfl, by rw [RS.out]; exact A2.out⟩

set_option maxRecDepth 100000 in
set_option maxHeartbeats 2000000 in
theorem play5_2 (X : ExtAt R) (x : Act5) (A : Option Addr) (c : Nat) (w : World) (h : R w b F m) (hF : ∀ k, F k → B ≤ k) (hw : B ≤ w.heap.size) (ho : x.Ok) (hs : SlPk w A x.ps) (hA : 0 < x.ps.length → ∀ q o, A = some ⟨q, o, none⟩ → q < B) (hN : A = none → x.ps = [] ∧ c = 0) (hk : x.k = 2) :
    Calls Try.prog 18 #[.pointer (some ⟨b, 0, none⟩), x.v A c] w fun r w' => r = .returned (.tuple #[]) ∧ LeftE R b F w (m.play x) w' := by
  have RS := Lib.hid (show m.play x = (m.flush x.e).1 by unfold Ext.play; rw [if_neg (by omega), if_pos hk])
  have X' := Lib.hid X
  have C0 := Lib.hid (show Chg F w (w.alloc (.cells #[.int .i64 x.k, .int .i64 x.e, .int .i64 x.a, .string x.s, .slice A x.ps.length c] 33)) from (Chg.refl F w).alloc _)
  have B0 := Lib.hid (show Below B w (w.alloc (.cells #[.int .i64 x.k, .int .i64 x.e, .int .i64 x.a, .string x.s, .slice A x.ps.length c] 33)) from ((Below.refl B w).alloc hw _))
  have A0 := Lib.hid (show R (w.alloc (.cells #[.int .i64 x.k, .int .i64 x.e, .int .i64 x.a, .string x.s, .slice A x.ps.length c] 33)) b F m from X.keep h (fun k hk => Below.heap_alloc _ _ _ (X.lt h hk)) (by simp))
  have FF := Lib.hid hF
  obtain ⟨oe, oa, os, op⟩ := ho
  have OE := Lib.hid oe
  have OA := Lib.hid oa
  have OS := Lib.hid os
  have OP := Lib.hid op
  have SP := Lib.hid hs
  have HA := Lib.hid hA
  have HN := Lib.hid hN
  obtain ⟨k, e, a, s, ps⟩ := x
  simp only at hk
  subst hk
  show Calls Try.prog 18 #[.pointer (some ⟨b, 0, none⟩), .agg #[.int .i64 2, .int .i64 e, .int .i64 a, .string s, .slice A ps.length c]] w _
  obtain ⟨PL, hPL⟩ : ∃ PL, PL = ps.length := ⟨_, rfl⟩
  simp only [← hPL] at B0 A0 C0
  rw [← hPL]
  have HPL := Lib.hid hPL
  clear hPL h hF X oe oa os op hs hA hN
  go_enter Try.func18, Try.ntmps18
  go_wp2_with fail
  have r1 := A0.out
  refine (X'.out.flush b F m e _ r1 OE.out).mono ?_
  rintro r w2 ⟨rfl, hl⟩
  have A2 := Lib.hid (hl.pre C0.out)
  clear hl
  go_wp2_with fail
  go_end0
  exact ⟨rfl, by rw [RS.out]; exact A2.out⟩

set_option maxRecDepth 100000 in
set_option maxHeartbeats 2000000 in
theorem play5_4 (X : ExtAt R) (x : Act5) (A : Option Addr) (c : Nat) (w : World) (h : R w b F m) (hF : ∀ k, F k → B ≤ k) (hw : B ≤ w.heap.size) (ho : x.Ok) (hs : SlPk w A x.ps) (hA : 0 < x.ps.length → ∀ q o, A = some ⟨q, o, none⟩ → q < B) (hN : A = none → x.ps = [] ∧ c = 0) (hk : x.k = 4) :
    Calls Try.prog 18 #[.pointer (some ⟨b, 0, none⟩), x.v A c] w fun r w' => r = .returned (.tuple #[]) ∧ LeftE R b F w (m.play x) w' := by
  have RS := Lib.hid (show m.play x = m.start.1 by unfold Ext.play; rw [if_neg (by omega), if_neg (by omega), if_neg (by omega), if_pos hk])
  have X' := Lib.hid X
  have C0 := Lib.hid (show Chg F w (w.alloc (.cells #[.int .i64 x.k, .int .i64 x.e, .int .i64 x.a, .string x.s, .slice A x.ps.length c] 33)) from (Chg.refl F w).alloc _)
  have B0 := Lib.hid (show Below B w (w.alloc (.cells #[.int .i64 x.k, .int .i64 x.e, .int .i64 x.a, .string x.s, .slice A x.ps.length c] 33)) from ((Below.refl B w).alloc hw _))
  have A0 := Lib.hid (show R (w.alloc (.cells #[.int .i64 x.k, .int .i64 x.e, .int .i64 x.a, .string x.s, .slice A x.ps.length c] 33)) b F m from X.keep h (fun k hk => Below.heap_alloc _ _ _ (X.lt h hk)) (by simp))
  have FF := Lib.hid hF
  obtain ⟨oe, oa, os, op⟩ := ho
  have OE := Lib.hid oe
  have OA := Lib.hid oa
  have OS := Lib.hid os
  have OP := Lib.hid op
  have SP := Lib.hid hs
  have HA := Lib.hid hA
  have HN := Lib.hid hN
  obtain ⟨k, e, a, s, ps⟩ := x
  simp only at hk
  subst hk
  show Calls Try.prog 18 #[.pointer (some ⟨b, 0, none⟩), .agg #[.int .i64 4, .int .i64 e, .int .i64 a, .string s, .slice A ps.length c]] w _
  obtain ⟨PL, hPL⟩ : ∃ PL, PL = ps.length := ⟨_, rfl⟩
  simp only [← hPL] at B0 A0 C0
  rw [← hPL]
  have HPL := Lib.hid hPL
  clear hPL h hF X oe oa os op hs hA hN
  go_enter Try.func18, Try.ntmps18
  go_wp2_with fail
  have r1 := A0.out
  refine (X'.out.start b F m _ r1).mono ?_
  rintro r w2 ⟨rfl, hl⟩
  have A2 := Lib.hid (hl.pre C0.out)
  clear hl
  go_wp2_with fail
  go_end0
  exact ⟨rfl, by rw [RS.out]; exact A2.out⟩

set_option maxRecDepth 100000 in
set_option maxHeartbeats 2000000 in
theorem play5_5 (X : ExtAt R) (x : Act5) (A : Option Addr) (c : Nat) (w : World) (h : R w b F m) (hF : ∀ k, F k → B ≤ k) (hw : B ≤ w.heap.size) (ho : x.Ok) (hs : SlPk w A x.ps) (hA : 0 < x.ps.length → ∀ q o, A = some ⟨q, o, none⟩ → q < B) (hN : A = none → x.ps = [] ∧ c = 0) (hk : x.k = 5) :
    Calls Try.prog 18 #[.pointer (some ⟨b, 0, none⟩), x.v A c] w fun r w' => r = .returned (.tuple #[]) ∧ LeftE R b F w (m.play x) w' := by
  have RS := Lib.hid (show m.play x = (m.lay x.e x.a x.s).1 by unfold Ext.play; rw [if_neg (by omega), if_neg (by omega), if_neg (by omega), if_neg (by omega), if_pos hk])
  have X' := Lib.hid X
  have C0 := Lib.hid (show Chg F w (w.alloc (.cells #[.int .i64 x.k, .int .i64 x.e, .int .i64 x.a, .string x.s, .slice A x.ps.length c] 33)) from (Chg.refl F w).alloc _)
  have B0 := Lib.hid (show Below B w (w.alloc (.cells #[.int .i64 x.k, .int .i64 x.e, .int .i64 x.a, .string x.s, .slice A x.ps.length c] 33)) from ((Below.refl B w).alloc hw _))
  have A0 := Lib.hid (show R (w.alloc (.cells #[.int .i64 x.k, .int .i64 x.e, .int .i64 x.a, .string x.s, .slice A x.ps.length c] 33)) b F m from X.keep h (fun k hk => Below.heap_alloc _ _ _ (X.lt h hk)) (by simp))
  have FF := Lib.hid hF
  obtain ⟨oe, oa, os, op⟩ := ho
  have OE := Lib.hid oe
  have OA := Lib.hid oa
  have OS := Lib.hid os
  have OP := Lib.hid op
  have SP := Lib.hid hs
  have HA := Lib.hid hA
  have HN := Lib.hid hN
  obtain ⟨k, e, a, s, ps⟩ := x
  simp only at hk
  subst hk
  show Calls Try.prog 18 #[.pointer (some ⟨b, 0, none⟩), .agg #[.int .i64 5, .int .i64 e, .int .i64 a, .string s, .slice A ps.length c]] w _
  obtain ⟨PL, hPL⟩ : ∃ PL, PL = ps.length := ⟨_, rfl⟩
  simp only [← hPL] at B0 A0 C0
  rw [← hPL]
  have HPL := Lib.hid hPL
  clear hPL h hF X oe oa os op hs hA hN
  go_enter Try.func18, Try.ntmps18
  go_wp2_with fail
  have r1 := A0.out
  refine (X'.out.lay b F m e a s _ r1 OE.out OA.out OS.out).mono ?_
  rintro r w2 ⟨rfl, hl⟩
  have A2 := Lib.hid (hl.pre C0.out)
  clear hl
  go_wp2_with fail
  go_end0
  exact ⟨rfl, by rw [RS.out]; exact A2.out⟩

set_option maxRecDepth 100000 in
set_option maxHeartbeats 2000000 in
theorem play5_3 (X : ExtAt R) (x : Act5) (A : Option Addr) (c : Nat) (w : World) (h : R w b F m) (hF : ∀ k, F k → B ≤ k) (hw : B ≤ w.heap.size) (ho : x.Ok) (hs : SlPk w A x.ps) (hA : 0 < x.ps.length → ∀ q o, A = some ⟨q, o, none⟩ → q < B) (hN : A = none → x.ps = [] ∧ c = 0) (hk : x.k = 3) :
    Calls Try.prog 18 #[.pointer (some ⟨b, 0, none⟩), x.v A c] w fun r w' => r = .returned (.tuple #[]) ∧ LeftE R b F w (m.play x) w' := by
  have RS := Lib.hid (show m.play x = (if x.ps.length ≤ 100 then (m.crash x.ps).1 else m) by unfold Ext.play; rw [if_neg (by omega), if_neg (by omega), if_pos hk])
  have X' := Lib.hid X
  have C0 := Lib.hid (show Chg F w (w.alloc (.cells #[.int .i64 x.k, .int .i64 x.e, .int .i64 x.a, .string x.s, .slice A x.ps.length c] 33)) from (Chg.refl F w).alloc _)
  have B0 := Lib.hid (show Below B w (w.alloc (.cells #[.int .i64 x.k, .int .i64 x.e, .int .i64 x.a, .string x.s, .slice A x.ps.length c] 33)) from ((Below.refl B w).alloc hw _))
  have A0 := Lib.hid (show R (w.alloc (.cells #[.int .i64 x.k, .int .i64 x.e, .int .i64 x.a, .string x.s, .slice A x.ps.length c] 33)) b F m from X.keep h (fun k hk => Below.heap_alloc _ _ _ (X.lt h hk)) (by simp))
  have FF := Lib.hid hF
  obtain ⟨oe, oa, os, op⟩ := ho
  have OE := Lib.hid oe
  have OA := Lib.hid oa
  have OS := Lib.hid os
  have OP := Lib.hid op
  have SP := Lib.hid hs
  have HA := Lib.hid hA
  have HN := Lib.hid hN
  obtain ⟨k, e, a, s, ps⟩ := x
  simp only at hk RS
  subst hk
  show Calls Try.prog 18 #[.pointer (some ⟨b, 0, none⟩), .agg #[.int .i64 3, .int .i64 e, .int .i64 a, .string s, .slice A ps.length c]] w _
  obtain ⟨PL, hPL⟩ : ∃ PL, PL = ps.length := ⟨_, rfl⟩
  simp only [← hPL] at B0 A0 C0
  rw [← hPL]
  have HPL := Lib.hid hPL
  have PC := Lib.hid (show ∀ v, R v b F m → SlPk v A ps → Calls Try.prog 22 #[.pointer (some ⟨b, 0, none⟩), .slice A PL c] v fun x w' => x = .returned (.int .i64 (m.crash ps).2) ∧ LeftE R b F v (m.crash ps).1 w' by
    rw [hPL]; exact fun v hr hs' => X'.out.crash b F m A c ps v hr hs' (fun hp q o e h => by have := HA.out hp q o e; have := FF.out q h; omega) OP.out HN.out)
  by_cases h100 : PL ≤ 100
  · have RS2 := Lib.hid (show m.play ⟨3, e, a, s, ps⟩ = (m.crash ps).1 by rw [RS.out, if_pos (by rw [← hPL]; exact h100)])
    clear hPL h hF X oe oa os op hs hA hN
    go_enter Try.func18, Try.ntmps18
    go_wp2_with fail
    refine (PC.out _ A0.out (SP.out.belowB B0.out HA.out)).mono ?_
    rintro r w2 ⟨rfl, hl⟩
    have A2 := Lib.hid (hl.pre C0.out)
    clear hl
    go_wp2_with fail
    go_end0
    exact ⟨rfl, by rw [RS2.out]; exact A2.out⟩
  · have RS2 := Lib.hid (show m.play ⟨3, e, a, s, ps⟩ = m by rw [RS.out, if_neg (by rw [← hPL]; exact h100)])
    clear hPL h hF X oe oa os op hs hA hN
    go_enter Try.func18, Try.ntmps18
    go_wp2_with fail
    go_end0
    exact ⟨rfl, by rw [RS2.out]; exact (LeftE.refl A0.out).pre C0.out⟩

set_option maxRecDepth 100000 in
set_option maxHeartbeats 2000000 in
theorem play5_0 (X : ExtAt R) (x : Act5) (A : Option Addr) (c : Nat) (w : World) (h : R w b F m) (hF : ∀ k, F k → B ≤ k) (hw : B ≤ w.heap.size) (ho : x.Ok) (hs : SlPk w A x.ps) (hA : 0 < x.ps.length → ∀ q o, A = some ⟨q, o, none⟩ → q < B) (hN : A = none → x.ps = [] ∧ c = 0) (hk : x.k ≠ 1 ∧ x.k ≠ 2 ∧ x.k ≠ 3 ∧ x.k ≠ 4 ∧ x.k ≠ 5) :
    Calls Try.prog 18 #[.pointer (some ⟨b, 0, none⟩), x.v A c] w fun r w' => r = .returned (.tuple #[]) ∧ LeftE R b F w (m.play x) w' := by
  have RS := Lib.hid (show m.play x = m by unfold Ext.play; rw [if_neg hk.1, if_neg hk.2.1, if_neg hk.2.2.1, if_neg hk.2.2.2.1, if_neg hk.2.2.2.2])
  have X' := Lib.hid X
  have C0 := Lib.hid (show Chg F w (w.alloc (.cells #[.int .i64 x.k, .int .i64 x.e, .int .i64 x.a, .string x.s, .slice A x.ps.length c] 33)) from (Chg.refl F w).alloc _)
  have B0 := Lib.hid (show Below B w (w.alloc (.cells #[.int .i64 x.k, .int .i64 x.e, .int .i64 x.a, .string x.s, .slice A x.ps.length c] 33)) from ((Below.refl B w).alloc hw _))
  have A0 := Lib.hid (show R (w.alloc (.cells #[.int .i64 x.k, .int .i64 x.e, .int .i64 x.a, .string x.s, .slice A x.ps.length c] 33)) b F m from X.keep h (fun k hk => Below.heap_alloc _ _ _ (X.lt h hk)) (by simp))
  have FF := Lib.hid hF
  obtain ⟨oe, oa, os, op⟩ := ho
  have OE := Lib.hid oe
  have OA := Lib.hid oa
  have OS := Lib.hid os
  have OP := Lib.hid op
  have SP := Lib.hid hs
  have HA := Lib.hid hA
  have HN := Lib.hid hN
  obtain ⟨k, e, a, s, ps⟩ := x
  simp only at hk
  obtain ⟨k1, k2, k3, k4, k5⟩ := hk
  have t1 : (k == 1) = false := by simp [k1]
  have t2 : (k == 2) = false := by simp [k2]
  have t3 : (k == 3) = false := by simp [k3]
  have t4 : (k == 4) = false := by simp [k4]
  have t5 : (k == 5) = false := by simp [k5]
  show Calls Try.prog 18 #[.pointer (some ⟨b, 0, none⟩), .agg #[.int .i64 k, .int .i64 e, .int .i64 a, .string s, .slice A ps.length c]] w _
  obtain ⟨PL, hPL⟩ : ∃ PL, PL = ps.length := ⟨_, rfl⟩
  simp only [← hPL] at B0 A0 C0
  rw [← hPL]
  have HPL := Lib.hid hPL
  clear hPL h hF X oe oa os op hs hA hN k1 k2 k3 k4 k5
  go_enter Try.func18, Try.ntmps18
  go_wp2_with fail
  go_end0
  exact ⟨rfl, by rw [RS.out]; exact (LeftE.refl A0.out).pre C0.out⟩

/-- cloisonnelaw05.play -/
theorem play5 (X : ExtAt R) (x : Act5) (A : Option Addr) (c : Nat) (w : World) (h : R w b F m) (hF : ∀ k, F k → B ≤ k) (hw : B ≤ w.heap.size) (ho : x.Ok) (hs : SlPk w A x.ps) (hA : 0 < x.ps.length → ∀ q o, A = some ⟨q, o, none⟩ → q < B) (hN : A = none → x.ps = [] ∧ c = 0) :
    Calls Try.prog 18 #[.pointer (some ⟨b, 0, none⟩), x.v A c] w fun r w' => r = .returned (.tuple #[]) ∧ LeftE R b F w (m.play x) w' := by
  by_cases k1 : x.k = 1
  · exact play5_1 X x A c w h hF hw ho hs hA hN k1
  by_cases k2 : x.k = 2
  · exact play5_2 X x A c w h hF hw ho hs hA hN k2
  by_cases k3 : x.k = 3
  · exact play5_3 X x A c w h hF hw ho hs hA hN k3
  by_cases k4 : x.k = 4
  · exact play5_4 X x A c w h hF hw ho hs hA hN k4
  by_cases k5 : x.k = 5
  · exact play5_5 X x A c w h hF hw ho hs hA hN k5
  · exact play5_0 X x A c w h hF hw ho hs hA hN ⟨k1, k2, k3, k4, k5⟩
end

end Go.Proofs.Ytjghpacpeojejaa
