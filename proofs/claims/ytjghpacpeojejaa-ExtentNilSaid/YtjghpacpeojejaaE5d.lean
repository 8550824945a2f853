/- cloisonnelaw05.does: walked, given what the program's extent does. -/
import Derived.Test.YtjghpacpeojejaaE5a
import Derived.Deep.RegionHeld3
namespace Go.Proofs.Ytjghpacpeojejaa
open Go.RowKit

/-- an act -/
structure Act5 where
  k : Int
  e : Int
  a : Int
  s : ByteArray
  ps : List (Int × Int)
def Act5.Ok (x : Act5) : Prop := In64 x.e ∧ In64 x.a ∧ x.s.size ≤ 9223372036854775807 ∧ PkOk x.ps
/-- the world behind an act -/
def Ext.act (m : Ext) (x : Act5) : Ext := if x.k = 1 then (m.write x.e x.a x.s).1 else if x.k = 2 then (m.flush x.e).1 else if x.k = 3 then (m.crash x.ps).1 else if x.k = 4 then m.start.1 else if x.k = 5 then (m.lay x.e x.a x.s).1 else m
/-- an act as a value, its picks at A -/
def Act5.v (x : Act5) (A : Option Addr) (c : Nat) : Value := .agg #[.int .i64 x.k, .int .i64 x.e, .int .i64 x.a, .string x.s, .slice A x.ps.length c]
/-- in a box at q -/
structure BoxA (w : World) (q : Nat) (x : Act5) (A : Option Addr) (c : Nat) : Prop where
  c0 : w.cell? ⟨q, 0, none⟩ = some (.int .i64 x.k)
  c1 : w.cell? ⟨q, 1, none⟩ = some (.int .i64 x.e)
  c2 : w.cell? ⟨q, 2, none⟩ = some (.int .i64 x.a)
  c3 : w.cell? ⟨q, 3, none⟩ = some (.string x.s)
  c4 : w.cell? ⟨q, 4, none⟩ = some (.slice A x.ps.length c)
theorem BoxA.new (w : World) (x : Act5) (A : Option Addr) (c : Nat) (t : TypeId) : BoxA (w.alloc (.cells #[.int .i64 x.k, .int .i64 x.e, .int .i64 x.a, .string x.s, .slice A x.ps.length c] t)) w.heap.size x A c := by
  refine ⟨?_, ?_, ?_, ?_, ?_⟩ <;> (rw [World.cell?_alloc_at _ _ _ _ rfl]; rfl)
theorem BoxA.keep {w w' : World} {q : Nat} {x : Act5} {A : Option Addr} {c : Nat} {F : Nat → Prop} (h : BoxA w q x A c) (hc : Chg F w w') (hq : ¬ F q) : BoxA w' q x A c :=
  ⟨hc.cell h.c0 hq, hc.cell h.c1 hq, hc.cell h.c2 hq, hc.cell h.c3 hq, hc.cell h.c4 hq⟩
theorem BoxA.drew {w : World} {q : Nat} {x : Act5} {A : Option Addr} {c : Nat} (h : BoxA w q x A c) : BoxA w.drew q x A c := ⟨h.c0, h.c1, h.c2, h.c3, h.c4⟩
theorem SlPk.belowB {B : Nat} {w w' : World} {A : Option Addr} {ps : List (Int × Int)} (h : SlPk w A ps) (hb : Below B w w') (hA : 0 < ps.length → ∀ q o, A = some ⟨q, o, none⟩ → q < B) : SlPk w' A ps := fun hp => by
  obtain ⟨b, o, e, hl, hj⟩ := h hp
  have hB := hA hp b o e
  exact ⟨b, o, e, Nat.lt_of_lt_of_le hl hb.size, fun j h => ⟨(hb.cell (p := ⟨b, o + j * 2, none⟩) hB).trans (hj j h).1, (hb.cell (p := ⟨b, o + j * 2 + 1, none⟩) hB).trans (hj j h).2⟩⟩
section
variable {R : RelE} {B b p g : Nat} {m m' m2 : Ext} {F : Nat → Prop} {w w' : World}
theorem TwoF.alloc (X : ExtOps R) (h : TwoF R B w b p g m m2 F) (o : Obj) : TwoF R B (w.alloc o) b p g m m2 F :=
  ⟨X.keep h.r (fun k hk => Below.heap_alloc _ _ _ (X.lt h.r hk)) (by simp), h.f, h.e.below ((Below.refl _ _).alloc (Nat.le_refl _) o), h.p, h.g, by have := h.s; simp; omega⟩
theorem TwoF.drew (X : ExtOps R) (h : TwoF R B w b p g m m2 F) : TwoF R B w.drew b p g m m2 F :=
  ⟨X.keep h.r (fun _ _ => rfl) (Nat.le_refl _), h.f, h.e.drew, h.p, h.g, h.s⟩

set_option maxRecDepth 100000 in
set_option maxHeartbeats 2000000 in
/-- cloisonnelaw05.does: Write -/
theorem does5_1 (X : ExtOps R) (x : Act5) (A : Option Addr) (c : Nat) (w : World) (h : Two R B w b p g m m) (ho : x.Ok) (hs : SlPk w A x.ps) (hA : 0 < x.ps.length → ∀ q o, A = some ⟨q, o, none⟩ → q < B) (hN : A = none → x.ps = [] ∧ c = 0) (hk : x.k = 1) :
    Calls Try.prog 10 #[.pointer (some ⟨b, 0, none⟩), .pointer (some ⟨p, 0, none⟩), x.v A c] w fun r w' => r = .returned (.bool true) ∧ Two R B w' b p g (m.act x) (m.act x) ∧ Below B w w' := by
  obtain ⟨F, hF⟩ := h
  have RS := Lib.hid (show m.act x = (m.write x.e x.a x.s).1 by unfold Ext.act; rw [if_pos hk])
  have X' := Lib.hid X
  have T0 := Lib.hid (hF.alloc X (.cells #[.int .i64 x.k, .int .i64 x.e, .int .i64 x.a, .string x.s, .slice A x.ps.length c] 33))
  have B0 := Lib.hid (show Below B w (w.alloc (.cells #[.int .i64 x.k, .int .i64 x.e, .int .i64 x.a, .string x.s, .slice A x.ps.length c] 33)) from ((Below.refl B w).alloc hF.s _))
  have X0 := Lib.hid (BoxA.new w x A c 33)
  have NF := Lib.hid (show ¬ F w.heap.size from fun q => by have := X.lt hF.r q; omega)
  have NP := Lib.hid (show ¬ (w.heap.size = p ∨ w.heap.size = g) from fun q => by have := hF.e.a.lt; have := hF.e.b.lt; omega)
  obtain ⟨oe, oa, os, op⟩ := ho
  have OE := Lib.hid oe
  have OA := Lib.hid oa
  have OS := Lib.hid os
  have OP := Lib.hid op
  have SP := Lib.hid hs
  have HA := Lib.hid hA
  have HN := Lib.hid hN
  obtain ⟨k, e, a, s, ps⟩ := x
  simp only at hk
  subst hk
  show Calls Try.prog 10 #[.pointer (some ⟨b, 0, none⟩), .pointer (some ⟨p, 0, none⟩), .agg #[.int .i64 1, .int .i64 e, .int .i64 a, .string s, .slice A ps.length c]] w _
  obtain ⟨PL, hPL⟩ : ∃ PL, PL = ps.length := ⟨_, rfl⟩
  simp only [← hPL] at T0 B0 X0
  rw [← hPL]
  have HPL := Lib.hid hPL
  obtain ⟨C, hC⟩ : ∃ C, C = (m.write e a s).2 := ⟨_, rfl⟩
  have HC := Lib.hid hC
  clear hPL hF X oe oa os op hC hs hA hN
  go_enter Try.func10, Try.ntmps10
  go_wp2_with fail
  go_region_held3 (fun w' => w'.cell? ⟨w.heap.size, 1, none⟩ = some (.int .i64 e) ∧ w'.cell? ⟨w.heap.size, 2, none⟩ = some (.int .i64 a) ∧ w'.cell? ⟨w.heap.size, 3, none⟩ = some (.string s))
    (first
      | go_keep
      | exact HC3.out
      | exact HC2.out)
    (first
      | (go_at_call 24; (with_reducible refine (X'.out.write b F m e a s _ (T0.out.drew X'.out).r OE.out OA.out OS.out).mono ?_); rintro r w2 ⟨rfl, hl⟩; have A2 := Lib.hid ((T0.out.drew X'.out).left hl); have X2 := Lib.hid (X0.out.drew.keep hl.1 NF.out); have HC2 := Lib.hid (show w2.cell? ⟨w.heap.size, 1, none⟩ = some (.int .i64 e) ∧ w2.cell? ⟨w.heap.size, 2, none⟩ = some (.int .i64 a) ∧ w2.cell? ⟨w.heap.size, 3, none⟩ = some (.string s) from ⟨X2.out.c1, X2.out.c2, X2.out.c3⟩); clear hl)
      | (go_at_call 26; obtain ⟨F2, t2⟩ := A2.out.1; have T2 := Lib.hid t2; clear t2; (with_reducible refine (eWrite p g m e a s _ T2.out.e OE.out OA.out OS.out).mono ?_); rintro r w3 ⟨rfl, he, hc⟩; have A3 := Lib.hid (T2.out.right X'.out he hc); have X3 := Lib.hid (X2.out.keep hc NP.out); have HC3 := Lib.hid (show w3.cell? ⟨w.heap.size, 1, none⟩ = some (.int .i64 e) ∧ w3.cell? ⟨w.heap.size, 2, none⟩ = some (.int .i64 a) ∧ w3.cell? ⟨w.heap.size, 3, none⟩ = some (.string s) from ⟨X3.out.c1, X3.out.c2, X3.out.c3⟩); clear he hc))
  rw [← HC.out]
  go_wp2_with fail
  go_ret
  exact ⟨by first | rfl | simp, by rw [RS.out]; exact A3.out.1, (B0.out.drew.trans A2.out.2).trans A3.out.2⟩

set_option maxRecDepth 100000 in
set_option maxHeartbeats 2000000 in
/-- cloisonnelaw05.does: Flush -/
theorem does5_2 (X : ExtOps R) (x : Act5) (A : Option Addr) (c : Nat) (w : World) (h : Two R B w b p g m m) (ho : x.Ok) (hs : SlPk w A x.ps) (hA : 0 < x.ps.length → ∀ q o, A = some ⟨q, o, none⟩ → q < B) (hN : A = none → x.ps = [] ∧ c = 0) (hk : x.k = 2) :
    Calls Try.prog 10 #[.pointer (some ⟨b, 0, none⟩), .pointer (some ⟨p, 0, none⟩), x.v A c] w fun r w' => r = .returned (.bool true) ∧ Two R B w' b p g (m.act x) (m.act x) ∧ Below B w w' := by
  obtain ⟨F, hF⟩ := h
  have RS := Lib.hid (show m.act x = (m.flush x.e).1 by unfold Ext.act; rw [if_neg (by omega), if_pos hk])
  have X' := Lib.hid X
  have T0 := Lib.hid (hF.alloc X (.cells #[.int .i64 x.k, .int .i64 x.e, .int .i64 x.a, .string x.s, .slice A x.ps.length c] 33))
  have B0 := Lib.hid (show Below B w (w.alloc (.cells #[.int .i64 x.k, .int .i64 x.e, .int .i64 x.a, .string x.s, .slice A x.ps.length c] 33)) from ((Below.refl B w).alloc hF.s _))
  have X0 := Lib.hid (BoxA.new w x A c 33)
  have NF := Lib.hid (show ¬ F w.heap.size from fun q => by have := X.lt hF.r q; omega)
  have NP := Lib.hid (show ¬ (w.heap.size = p ∨ w.heap.size = g) from fun q => by have := hF.e.a.lt; have := hF.e.b.lt; omega)
  obtain ⟨oe, oa, os, op⟩ := ho
  have OE := Lib.hid oe
  have OA := Lib.hid oa
  have OS := Lib.hid os
  have OP := Lib.hid op
  have SP := Lib.hid hs
  have HA := Lib.hid hA
  have HN := Lib.hid hN
  obtain ⟨k, e, a, s, ps⟩ := x
  simp only at hk
  subst hk
  show Calls Try.prog 10 #[.pointer (some ⟨b, 0, none⟩), .pointer (some ⟨p, 0, none⟩), .agg #[.int .i64 2, .int .i64 e, .int .i64 a, .string s, .slice A ps.length c]] w _
  obtain ⟨PL, hPL⟩ : ∃ PL, PL = ps.length := ⟨_, rfl⟩
  simp only [← hPL] at T0 B0 X0
  rw [← hPL]
  have HPL := Lib.hid hPL
  obtain ⟨C, hC⟩ : ∃ C, C = (m.flush e).2 := ⟨_, rfl⟩
  have HC := Lib.hid hC
  clear hPL hF X oe oa os op hC hs hA hN
  go_enter Try.func10, Try.ntmps10
  go_wp2_with fail
  go_region_held3 (fun w' => w'.cell? ⟨w.heap.size, 1, none⟩ = some (.int .i64 e))
    (first
      | go_keep
      | exact HC3.out
      | exact HC2.out)
    (first
      | (go_at_call 20; (with_reducible refine (X'.out.flush b F m e _ (T0.out.drew X'.out).r OE.out).mono ?_); rintro r w2 ⟨rfl, hl⟩; have A2 := Lib.hid ((T0.out.drew X'.out).left hl); have X2 := Lib.hid (X0.out.drew.keep hl.1 NF.out); have HC2 := Lib.hid (show w2.cell? ⟨w.heap.size, 1, none⟩ = some (.int .i64 e) from X2.out.c1); clear hl)
      | (go_at_call 27; obtain ⟨F2, t2⟩ := A2.out.1; have T2 := Lib.hid t2; clear t2; (with_reducible refine (eFlush p g m e _ T2.out.e OE.out).mono ?_); rintro r w3 ⟨rfl, he, hc⟩; have A3 := Lib.hid (T2.out.right X'.out he hc); have X3 := Lib.hid (X2.out.keep hc NP.out); have HC3 := Lib.hid (show w3.cell? ⟨w.heap.size, 1, none⟩ = some (.int .i64 e) from X3.out.c1); clear he hc))
  rw [← HC.out]
  go_wp2_with fail
  go_ret
  exact ⟨by first | rfl | simp, by rw [RS.out]; exact A3.out.1, (B0.out.drew.trans A2.out.2).trans A3.out.2⟩

set_option maxRecDepth 100000 in
set_option maxHeartbeats 2000000 in
/-- cloisonnelaw05.does: Crash -/
theorem does5_3 (X : ExtOps R) (x : Act5) (A : Option Addr) (c : Nat) (w : World) (h : Two R B w b p g m m) (ho : x.Ok) (hs : SlPk w A x.ps) (hA : 0 < x.ps.length → ∀ q o, A = some ⟨q, o, none⟩ → q < B) (hN : A = none → x.ps = [] ∧ c = 0) (hk : x.k = 3) :
    Calls Try.prog 10 #[.pointer (some ⟨b, 0, none⟩), .pointer (some ⟨p, 0, none⟩), x.v A c] w fun r w' => r = .returned (.bool true) ∧ Two R B w' b p g (m.act x) (m.act x) ∧ Below B w w' := by
  obtain ⟨F, hF⟩ := h
  have RS := Lib.hid (show m.act x = (m.crash x.ps).1 by unfold Ext.act; rw [if_neg (by omega), if_neg (by omega), if_pos hk])
  have X' := Lib.hid X
  have T0 := Lib.hid (hF.alloc X (.cells #[.int .i64 x.k, .int .i64 x.e, .int .i64 x.a, .string x.s, .slice A x.ps.length c] 33))
  have B0 := Lib.hid (show Below B w (w.alloc (.cells #[.int .i64 x.k, .int .i64 x.e, .int .i64 x.a, .string x.s, .slice A x.ps.length c] 33)) from ((Below.refl B w).alloc hF.s _))
  have X0 := Lib.hid (BoxA.new w x A c 33)
  have NF := Lib.hid (show ¬ F w.heap.size from fun q => by have := X.lt hF.r q; omega)
  have NP := Lib.hid (show ¬ (w.heap.size = p ∨ w.heap.size = g) from fun q => by have := hF.e.a.lt; have := hF.e.b.lt; omega)
  obtain ⟨oe, oa, os, op⟩ := ho
  have OE := Lib.hid oe
  have OA := Lib.hid oa
  have OS := Lib.hid os
  have OP := Lib.hid op
  have SP := Lib.hid hs
  have HA := Lib.hid hA
  have HN := Lib.hid hN
  obtain ⟨k, e, a, s, ps⟩ := x
  simp only at hk
  subst hk
  show Calls Try.prog 10 #[.pointer (some ⟨b, 0, none⟩), .pointer (some ⟨p, 0, none⟩), .agg #[.int .i64 3, .int .i64 e, .int .i64 a, .string s, .slice A ps.length c]] w _
  obtain ⟨PL, hPL⟩ : ∃ PL, PL = ps.length := ⟨_, rfl⟩
  simp only [← hPL] at T0 B0 X0
  rw [← hPL]
  have HPL := Lib.hid hPL
  have PC := Lib.hid (show ∀ v, R v b F m → SlPk v A ps → Calls Try.prog 22 #[.pointer (some ⟨b, 0, none⟩), .slice A PL c] v fun x w' => x = .returned (.int .i64 (m.crash ps).2) ∧ LeftE R b F v (m.crash ps).1 w' by
    rw [hPL]; exact fun v hr hs' => X'.out.crash b F m A c ps v hr hs' (fun hp q o e h => by have := HA.out hp q o e; have := (T0.out.f q h).1; omega) OP.out HN.out)
  have PR := Lib.hid (show ∀ v, RefE v p g m → SlPk v A ps → Calls Try.prog 28 #[.pointer (some ⟨p, 0, none⟩), .slice A PL c] v (RefPost p g v (m.crash ps)) by
    rw [hPL]; exact fun v hr hs' => eCrash p g m A c ps v hr hs' (fun hp q o e => by have := HA.out hp q o e; have := T0.out.p; have := T0.out.g; omega) OP.out)
  obtain ⟨C, hC⟩ : ∃ C, C = (m.crash ps).2 := ⟨_, rfl⟩
  have HC := Lib.hid hC
  clear hPL hF X oe oa os op hC hs hA hN
  go_enter Try.func10, Try.ntmps10
  go_wp2_with fail
  go_region_held3 (fun w' => w'.cell? ⟨w.heap.size, 4, none⟩ = some (.slice A PL c))
    (first
      | go_keep
      | exact HC3.out
      | exact HC2.out)
    (first
      | (go_at_call 22; (with_reducible refine (PC.out _ (T0.out.drew X'.out).r (SP.out.belowB B0.out.drew HA.out)).mono ?_); rintro r w2 ⟨rfl, hl⟩; have A2 := Lib.hid ((T0.out.drew X'.out).left hl); have X2 := Lib.hid (X0.out.drew.keep hl.1 NF.out); have HC2 := Lib.hid (show w2.cell? ⟨w.heap.size, 4, none⟩ = some (.slice A PL c) from (by rw [HPL.out]; exact X2.out.c4)); clear hl)
      | (go_at_call 28; obtain ⟨F2, t2⟩ := A2.out.1; have T2 := Lib.hid t2; clear t2; (with_reducible refine (PR.out _ T2.out.e ((SP.out.belowB B0.out.drew HA.out).belowB A2.out.2 HA.out)).mono ?_); rintro r w3 ⟨rfl, he, hc⟩; have A3 := Lib.hid (T2.out.right X'.out he hc); have X3 := Lib.hid (X2.out.keep hc NP.out); have HC3 := Lib.hid (show w3.cell? ⟨w.heap.size, 4, none⟩ = some (.slice A PL c) from (by rw [HPL.out]; exact X3.out.c4)); clear he hc))
  rw [← HC.out]
  go_wp2_with fail
  go_ret
  exact ⟨by first | rfl | simp, by rw [RS.out]; exact A3.out.1, (B0.out.drew.trans A2.out.2).trans A3.out.2⟩

set_option maxRecDepth 100000 in
set_option maxHeartbeats 2000000 in
/-- cloisonnelaw05.does: Lay -/
theorem does5_5 (X : ExtOps R) (x : Act5) (A : Option Addr) (c : Nat) (w : World) (h : Two R B w b p g m m) (ho : x.Ok) (hs : SlPk w A x.ps) (hA : 0 < x.ps.length → ∀ q o, A = some ⟨q, o, none⟩ → q < B) (hN : A = none → x.ps = [] ∧ c = 0) (hk : x.k = 5) :
    Calls Try.prog 10 #[.pointer (some ⟨b, 0, none⟩), .pointer (some ⟨p, 0, none⟩), x.v A c] w fun r w' => r = .returned (.bool true) ∧ Two R B w' b p g (m.act x) (m.act x) ∧ Below B w w' := by
  obtain ⟨F, hF⟩ := h
  have RS := Lib.hid (show m.act x = (m.lay x.e x.a x.s).1 by unfold Ext.act; rw [if_neg (by omega), if_neg (by omega), if_neg (by omega), if_neg (by omega), if_pos hk])
  have X' := Lib.hid X
  have T0 := Lib.hid (hF.alloc X (.cells #[.int .i64 x.k, .int .i64 x.e, .int .i64 x.a, .string x.s, .slice A x.ps.length c] 33))
  have B0 := Lib.hid (show Below B w (w.alloc (.cells #[.int .i64 x.k, .int .i64 x.e, .int .i64 x.a, .string x.s, .slice A x.ps.length c] 33)) from ((Below.refl B w).alloc hF.s _))
  have X0 := Lib.hid (BoxA.new w x A c 33)
  have NF := Lib.hid (show ¬ F w.heap.size from fun q => by have := X.lt hF.r q; omega)
  have NP := Lib.hid (show ¬ (w.heap.size = p ∨ w.heap.size = g) from fun q => by have := hF.e.a.lt; have := hF.e.b.lt; omega)
  obtain ⟨oe, oa, os, op⟩ := ho
  have OE := Lib.hid oe
  have OA := Lib.hid oa
  have OS := Lib.hid os
  have OP := Lib.hid op
  have SP := Lib.hid hs
  have HA := Lib.hid hA
  have HN := Lib.hid hN
  obtain ⟨k, e, a, s, ps⟩ := x
  simp only at hk
  subst hk
  show Calls Try.prog 10 #[.pointer (some ⟨b, 0, none⟩), .pointer (some ⟨p, 0, none⟩), .agg #[.int .i64 5, .int .i64 e, .int .i64 a, .string s, .slice A ps.length c]] w _
  obtain ⟨PL, hPL⟩ : ∃ PL, PL = ps.length := ⟨_, rfl⟩
  simp only [← hPL] at T0 B0 X0
  rw [← hPL]
  have HPL := Lib.hid hPL
  obtain ⟨C, hC⟩ : ∃ C, C = (m.lay e a s).2 := ⟨_, rfl⟩
  have HC := Lib.hid hC
  clear hPL hF X oe oa os op hC hs hA hN
  go_enter Try.func10, Try.ntmps10
  go_wp2_with fail
  go_region_held3 (fun w' => w'.cell? ⟨w.heap.size, 1, none⟩ = some (.int .i64 e) ∧ w'.cell? ⟨w.heap.size, 2, none⟩ = some (.int .i64 a) ∧ w'.cell? ⟨w.heap.size, 3, none⟩ = some (.string s))
    (first
      | go_keep
      | exact HC3.out
      | exact HC2.out)
    (first
      | (go_at_call 25; (with_reducible refine (X'.out.lay b F m e a s _ (T0.out.drew X'.out).r OE.out OA.out OS.out).mono ?_); rintro r w2 ⟨rfl, hl⟩; have A2 := Lib.hid ((T0.out.drew X'.out).left hl); have X2 := Lib.hid (X0.out.drew.keep hl.1 NF.out); have HC2 := Lib.hid (show w2.cell? ⟨w.heap.size, 1, none⟩ = some (.int .i64 e) ∧ w2.cell? ⟨w.heap.size, 2, none⟩ = some (.int .i64 a) ∧ w2.cell? ⟨w.heap.size, 3, none⟩ = some (.string s) from ⟨X2.out.c1, X2.out.c2, X2.out.c3⟩); clear hl)
      | (go_at_call 30; obtain ⟨F2, t2⟩ := A2.out.1; have T2 := Lib.hid t2; clear t2; (with_reducible refine (eLay p g m e a s _ T2.out.e OE.out OA.out OS.out).mono ?_); rintro r w3 ⟨rfl, he, hc⟩; have A3 := Lib.hid (T2.out.right X'.out he hc); have X3 := Lib.hid (X2.out.keep hc NP.out); have HC3 := Lib.hid (show w3.cell? ⟨w.heap.size, 1, none⟩ = some (.int .i64 e) ∧ w3.cell? ⟨w.heap.size, 2, none⟩ = some (.int .i64 a) ∧ w3.cell? ⟨w.heap.size, 3, none⟩ = some (.string s) from ⟨X3.out.c1, X3.out.c2, X3.out.c3⟩); clear he hc))
  rw [← HC.out]
  go_wp2_with fail
  go_ret
  exact ⟨by first | rfl | simp, by rw [RS.out]; exact A3.out.1, (B0.out.drew.trans A2.out.2).trans A3.out.2⟩

set_option maxRecDepth 100000 in
set_option maxHeartbeats 2000000 in
/-- cloisonnelaw05.does: Start -/
theorem does5_4 (X : ExtOps R) (x : Act5) (A : Option Addr) (c : Nat) (w : World) (h : Two R B w b p g m m) (ho : x.Ok) (hs : SlPk w A x.ps) (hA : 0 < x.ps.length → ∀ q o, A = some ⟨q, o, none⟩ → q < B) (hN : A = none → x.ps = [] ∧ c = 0) (hk : x.k = 4) :
    Calls Try.prog 10 #[.pointer (some ⟨b, 0, none⟩), .pointer (some ⟨p, 0, none⟩), x.v A c] w fun r w' => r = .returned (.bool true) ∧ Two R B w' b p g (m.act x) (m.act x) ∧ Below B w w' := by
  obtain ⟨F, hF⟩ := h
  have RS := Lib.hid (show m.act x = m.start.1 by unfold Ext.act; rw [if_neg (by omega), if_neg (by omega), if_neg (by omega), if_pos hk])
  have X' := Lib.hid X
  have T0 := Lib.hid (hF.alloc X (.cells #[.int .i64 x.k, .int .i64 x.e, .int .i64 x.a, .string x.s, .slice A x.ps.length c] 33))
  have B0 := Lib.hid (show Below B w (w.alloc (.cells #[.int .i64 x.k, .int .i64 x.e, .int .i64 x.a, .string x.s, .slice A x.ps.length c] 33)) from ((Below.refl B w).alloc hF.s _))
  have X0 := Lib.hid (BoxA.new w x A c 33)
  have NF := Lib.hid (show ¬ F w.heap.size from fun q => by have := X.lt hF.r q; omega)
  have NP := Lib.hid (show ¬ (w.heap.size = p ∨ w.heap.size = g) from fun q => by have := hF.e.a.lt; have := hF.e.b.lt; omega)
  obtain ⟨oe, oa, os, op⟩ := ho
  have OE := Lib.hid oe
  have OA := Lib.hid oa
  have OS := Lib.hid os
  have OP := Lib.hid op
  have SP := Lib.hid hs
  have HA := Lib.hid hA
  have HN := Lib.hid hN
  obtain ⟨k, e, a, s, ps⟩ := x
  simp only at hk
  subst hk
  show Calls Try.prog 10 #[.pointer (some ⟨b, 0, none⟩), .pointer (some ⟨p, 0, none⟩), .agg #[.int .i64 4, .int .i64 e, .int .i64 a, .string s, .slice A ps.length c]] w _
  obtain ⟨PL, hPL⟩ : ∃ PL, PL = ps.length := ⟨_, rfl⟩
  simp only [← hPL] at T0 B0 X0
  rw [← hPL]
  obtain ⟨C, hC⟩ : ∃ C, C = m.start.2 := ⟨_, rfl⟩
  have HC := Lib.hid hC
  clear hPL hF X oe oa os op hC hs hA hN
  go_enter Try.func10, Try.ntmps10
  go_wp2_with fail
  refine (X'.out.start b F m _ T0.out.r).mono ?_
  rintro r w2 ⟨rfl, hl⟩
  rw [← HC.out]
  have A2 := Lib.hid (T0.out.left hl)
  obtain ⟨F2, t2⟩ := A2.out.1
  have T2 := Lib.hid t2
  clear hl t2
  go_wp2_with fail
  refine (eStart p g m _ T2.out.e).mono ?_
  rintro r w3 ⟨rfl, he, hc⟩
  rw [← HC.out]
  have A3 := Lib.hid (T2.out.right X'.out he hc)
  clear he hc
  go_wp2_with fail
  go_ret
  exact ⟨by first | rfl | simp, by rw [RS.out]; exact A3.out.1, (B0.out.trans A2.out.2).trans A3.out.2⟩

set_option maxRecDepth 100000 in
set_option maxHeartbeats 2000000 in
/-- cloisonnelaw05.does: nothing -/
theorem does5_0 (X : ExtOps R) (x : Act5) (A : Option Addr) (c : Nat) (w : World) (h : Two R B w b p g m m) (ho : x.Ok) (hs : SlPk w A x.ps) (hA : 0 < x.ps.length → ∀ q o, A = some ⟨q, o, none⟩ → q < B) (hN : A = none → x.ps = [] ∧ c = 0) (hk : x.k ≠ 1 ∧ x.k ≠ 2 ∧ x.k ≠ 3 ∧ x.k ≠ 4 ∧ x.k ≠ 5) :
    Calls Try.prog 10 #[.pointer (some ⟨b, 0, none⟩), .pointer (some ⟨p, 0, none⟩), x.v A c] w fun r w' => r = .returned (.bool true) ∧ Two R B w' b p g (m.act x) (m.act x) ∧ Below B w w' := by
  obtain ⟨F, hF⟩ := h
  have RS := Lib.hid (show m.act x = m by unfold Ext.act; rw [if_neg hk.1, if_neg hk.2.1, if_neg hk.2.2.1, if_neg hk.2.2.2.1, if_neg hk.2.2.2.2])
  have X' := Lib.hid X
  have T0 := Lib.hid (hF.alloc X (.cells #[.int .i64 x.k, .int .i64 x.e, .int .i64 x.a, .string x.s, .slice A x.ps.length c] 33))
  have B0 := Lib.hid (show Below B w (w.alloc (.cells #[.int .i64 x.k, .int .i64 x.e, .int .i64 x.a, .string x.s, .slice A x.ps.length c] 33)) from ((Below.refl B w).alloc hF.s _))
  have X0 := Lib.hid (BoxA.new w x A c 33)
  have NF := Lib.hid (show ¬ F w.heap.size from fun q => by have := X.lt hF.r q; omega)
  have NP := Lib.hid (show ¬ (w.heap.size = p ∨ w.heap.size = g) from fun q => by have := hF.e.a.lt; have := hF.e.b.lt; omega)
  obtain ⟨oe, oa, os, op⟩ := ho
  have OE := Lib.hid oe
  have OA := Lib.hid oa
  have OS := Lib.hid os
  have OP := Lib.hid op
  have SP := Lib.hid hs
  have HA := Lib.hid hA
  have HN := Lib.hid hN
  obtain ⟨k, e, a, s, ps⟩ := x
  simp only at hk
  obtain ⟨k1, k2, k3, k4, k5⟩ := hk
  have t1 : (k == 1) = false := by simp [k1]
  have t2 : (k == 2) = false := by simp [k2]
  have t3 : (k == 3) = false := by simp [k3]
  have t4 : (k == 4) = false := by simp [k4]
  have t5 : (k == 5) = false := by simp [k5]
  show Calls Try.prog 10 #[.pointer (some ⟨b, 0, none⟩), .pointer (some ⟨p, 0, none⟩), .agg #[.int .i64 k, .int .i64 e, .int .i64 a, .string s, .slice A ps.length c]] w _
  obtain ⟨PL, hPL⟩ : ∃ PL, PL = ps.length := ⟨_, rfl⟩
  simp only [← hPL] at T0 B0 X0
  rw [← hPL]
  clear hPL hF X oe oa os op hs hA hN k1 k2 k3 k4 k5
  go_enter Try.func10, Try.ntmps10
  go_wp2_with fail
  go_ret
  exact ⟨rfl, by rw [RS.out]; exact ⟨F, T0.out⟩, B0.out⟩

/-- cloisonnelaw05.does -/
theorem does5 (X : ExtOps R) (x : Act5) (A : Option Addr) (c : Nat) (w : World) (h : Two R B w b p g m m) (ho : x.Ok) (hs : SlPk w A x.ps) (hA : 0 < x.ps.length → ∀ q o, A = some ⟨q, o, none⟩ → q < B) (hN : A = none → x.ps = [] ∧ c = 0) :
    Calls Try.prog 10 #[.pointer (some ⟨b, 0, none⟩), .pointer (some ⟨p, 0, none⟩), x.v A c] w fun r w' => r = .returned (.bool true) ∧ Two R B w' b p g (m.act x) (m.act x) ∧ Below B w w' := by
  by_cases k1 : x.k = 1
  · exact does5_1 X x A c w h ho hs hA hN k1
  by_cases k2 : x.k = 2
  · exact does5_2 X x A c w h ho hs hA hN k2
  by_cases k3 : x.k = 3
  · exact does5_3 X x A c w h ho hs hA hN k3
  by_cases k4 : x.k = 4
  · exact does5_4 X x A c w h ho hs hA hN k4
  by_cases k5 : x.k = 5
  · exact does5_5 X x A c w h ho hs hA hN k5
  · exact does5_0 X x A c w h ho hs hA hN ⟨k1, k2, k3, k4, k5⟩
end

end Go.Proofs.Ytjghpacpeojejaa
