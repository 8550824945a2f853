/- Both worlds side by side; cloisonnelaw05.alike: walked, given what the program's extent does. -/
import Derived.Test.YtjghpacpeojejaaE5o
namespace Go.Proofs.Ytjghpacpeojejaa
open Go.RowKit

/-- the program's world m at b, the reference's m2 at p and g, from block B on, apart from each other -/
structure TwoF (R : RelE) (B : Nat) (w : World) (b p g : Nat) (m m2 : Ext) (F : Nat → Prop) : Prop where
  r : R w b F m
  f : ∀ k, F k → B ≤ k ∧ k ≠ p ∧ k ≠ g
  e : RefE w p g m2
  p : B ≤ p
  g : B ≤ g
  s : B ≤ w.heap.size
def Two (R : RelE) (B : Nat) (w : World) (b p g : Nat) (m m2 : Ext) : Prop := ∃ F, TwoF R B w b p g m m2 F
section
variable {R : RelE} {B b p g : Nat} {m m' m2 : Ext} {F : Nat → Prop} {w w' : World}
/-- behind a call of the program -/
theorem TwoF.left (h : TwoF R B w b p g m m2 F) (hl : LeftE R b F w m' w') : Two R B w' b p g m' m2 ∧ Below B w w' := by
  obtain ⟨hc, F', hr', hf⟩ := hl
  have hp := h.e.a.lt
  have hg := h.e.b.lt
  refine ⟨⟨F', hr', fun k hk => ?_, h.e.keep hc (fun q => (h.f p q).2.1 rfl) (fun q => (h.f g q).2.2 rfl), h.p, h.g, Nat.le_trans h.s hc.size⟩, hc.below (fun k hk => (h.f k hk).1) h.s⟩
  rcases hf k hk with q | q
  · exact h.f k q
  · exact ⟨Nat.le_trans h.s q, by omega, by omega⟩
/-- behind a call of the reference -/
theorem TwoF.right (X : ExtOps R) (h : TwoF R B w b p g m m2 F) {m3 : Ext} (hr : RefE w' p g m3) (hc : Chg (fun k => k = p ∨ k = g) w w') : Two R B w' b p g m m3 ∧ Below B w w' :=
  ⟨⟨F, X.keep h.r (fun k hk => hc.block k (X.lt h.r hk) (fun q => by rcases q with q | q; exact (h.f k hk).2.1 q; exact (h.f k hk).2.2 q)) hc.size, h.f, hr, h.p, h.g, Nat.le_trans h.s hc.size⟩,
    hc.below (fun k hk => by rcases hk with q | q; rw [q]; exact h.p; rw [q]; exact h.g) h.s⟩
/-- behind whatever else -/
theorem TwoF.new (X : ExtOps R) (h : TwoF R B w b p g m m2 F) (hb : Below w.heap.size w w') : Two R B w' b p g m m2 :=
  ⟨F, X.keep h.r (fun k hk => hb.block k (X.lt h.r hk)) hb.size, h.f, h.e.below hb, h.p, h.g, Nat.le_trans h.s hb.size⟩
theorem TwoF.drewN (X : ExtOps R) (h : TwoF R B w b p g m m2 F) (n : Nat) : TwoF R B (w.drewN n) b p g m m2 F :=
  ⟨X.keep h.r (fun _ _ => rfl) (Nat.le_refl _), h.f, h.e.drewN n, h.p, h.g, h.s⟩

set_option maxRecDepth 100000 in
set_option maxHeartbeats 1000000 in
/-- cloisonnelaw05.alike -/
theorem alike5 (X : ExtOps R) (e a : Int) (w : World) (h : Two R B w b p g m m) (he : In64 e) (ha : In64 a) :
    Calls Try.prog 11 #[.pointer (some ⟨b, 0, none⟩), .pointer (some ⟨p, 0, none⟩), .int .i64 e, .int .i64 a] w fun x w' => x = .returned (.bool true) ∧ Two R B w' b p g m m ∧ Below B w w' := by
  have X' := Lib.hid X
  have H := Lib.hid h
  have HE := Lib.hid he
  have HA := Lib.hid ha
  obtain ⟨s, hs⟩ : ∃ s, s = (m.read e a).1 := ⟨_, rfl⟩
  obtain ⟨c, hc⟩ : ∃ c, c = (m.read e a).2 := ⟨_, rfl⟩
  obtain ⟨d, hd⟩ : ∃ d, d = (m.dryOf e a).1 := ⟨_, rfl⟩
  obtain ⟨k, hk⟩ : ∃ k, k = (m.dryOf e a).2 := ⟨_, rfl⟩
  have E1 := Lib.hid (And.intro hs hc)
  have E2 := Lib.hid (And.intro hd hk)
  have SS := str_eq (rfl : s = s)
  have CC : (c != c) = false := by simp
  have DD := str_eq (rfl : d = d)
  clear h he ha hs hc hd hk X
  go_enter Try.func11, Try.ntmps11
  go_wp2_with fail
  obtain ⟨F1, t1⟩ := H.out
  have T1 := Lib.hid t1
  clear t1
  refine (X'.out.read b F1 m e a _ T1.out.r HE.out HA.out).mono ?_
  rintro x w2 ⟨rfl, hl⟩
  rw [← E1.out.1, ← E1.out.2]
  have A2 := Lib.hid (T1.out.left hl)
  clear hl
  go_wp2_with fail
  obtain ⟨F2, t2⟩ := A2.out.1
  have T2 := Lib.hid t2
  clear t2
  refine (eRead p g m e a _ T2.out.e HE.out HA.out).mono ?_
  rintro x w3 ⟨rfl, rfl⟩
  rw [← E1.out.1, ← E1.out.2]
  go_wp2_with fail
  refine (X'.out.dry b F2 m e a _ T2.out.r HE.out HA.out).mono ?_
  rintro x w4 ⟨rfl, hl⟩
  rw [← E2.out.1, ← E2.out.2]
  have A4 := Lib.hid (T2.out.left hl)
  have B4 := Lib.hid (A2.out.2.trans A4.out.2)
  clear hl
  go_wp2_with fail
  obtain ⟨F4, t4⟩ := A4.out.1
  have T4 := Lib.hid t4
  clear t4
  refine (eAt p g m e a _ T4.out.e HE.out HA.out).mono ?_
  rintro x w5 ⟨rfl, rfl⟩
  by_cases hh : m.has e a
  · rw [atI_has hh]
    have hi := Ext.pos_lt T4.out.e.ok hh
    have D2 : m.dryOf e a = ((m.secAt (m.pos e a)).dry, 0) := by unfold Ext.dryOf; rw [if_pos hh]
    obtain ⟨rfl, rfl⟩ : d = (m.secAt (m.pos e a)).dry ∧ k = 0 := ⟨by rw [E2.out.1, D2], by rw [E2.out.2, D2]⟩
    obtain ⟨i, hi2⟩ : ∃ i, i = m.pos e a := ⟨_, rfl⟩
    rw [← hi2] at hi DD
    rw [← hi2]
    have c3 := T4.out.e.p3
    have s0 := T4.out.e.s0 hi
    obtain ⟨LL, hLL⟩ : ∃ LL, LL = m.l.length := ⟨_, rfl⟩
    have ll := Ext.len_le T4.out.e.ok
    rw [← hLL] at c3 hi ll
    have i0 : (0 : Int) ≤ (i : Int) := by omega
    have i1 : (i : Int) < (LL : Int) := by omega
    clear hi2 hLL hh D2 E2
    go_wp2_with fail
    go_ret
    exact ⟨by first | rfl | simp, ⟨F4, T4.out⟩, B4.out⟩
  · rw [atI_no hh]
    have D2 : m.dryOf e a = (⟨#[]⟩, 1) := by unfold Ext.dryOf; rw [if_neg hh]
    obtain ⟨rfl, rfl⟩ : d = ⟨#[]⟩ ∧ k = 1 := ⟨by rw [E2.out.1, D2], by rw [E2.out.2, D2]⟩
    clear hh D2 E2
    go_wp2_with fail
    go_ret
    exact ⟨by first | rfl | simp, ⟨F4, T4.out⟩, B4.out⟩
end

end Go.Proofs.Ytjghpacpeojejaa
