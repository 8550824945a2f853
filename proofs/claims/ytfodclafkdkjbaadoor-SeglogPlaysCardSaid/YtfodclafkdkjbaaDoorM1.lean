/- Proved parts: E5r La. Conditions: each theorem's own. -/
import Derived.Test.YtfodclafkdkjbaaDoorM0
import Derived.Test.YtfodclafkdkjbaaDoorProg
import Derived.KernelRfl
namespace Go.Proofs.YtfodclafkdkjbaaDoor
open Go.RowKit

def secCells (s : Sec) : List Value := [.string s.dry, .string s.now, .bool s.wet]
theorem secCells_len (s : Sec) : (secCells s).length = 3 := rfl
def extCells (g : Nat) (m : Ext) : List Value := [.bool m.off, .int .i64 (m.ext : Int), .int .i64 (m.sec : Int), .slice (some ⟨g, 0, none⟩) m.l.length m.l.length]
/-- the reference's world m lies at p, its sectors at g -/
structure RefE (w : World) (p g : Nat) (m : Ext) : Prop where
  ne : p ≠ g
  a : RowAt w p (extCells g m) 73
  b : RowAt w g (m.l.flatMap secCells) 90
  ok : m.Ok
section
variable {w w' : World} {p g : Nat} {m : Ext} {F : Nat → Prop}
theorem RefE.keep (h : RefE w p g m) (hc : Chg F w w') (hp : ¬ F p) (hg : ¬ F g) : RefE w' p g m := ⟨h.ne, h.a.keep hc hp, h.b.keep hc hg, h.ok⟩
theorem RefE.below (h : RefE w p g m) (hb : Below w.heap.size w w') : RefE w' p g m := ⟨h.ne, h.a.below hb, h.b.below hb, h.ok⟩
theorem RefE.p0 (h : RefE w p g m) : w.cell? ⟨p, 0, none⟩ = some (.bool m.off) := h.a.cell 0
theorem RefE.p1 (h : RefE w p g m) : w.cell? ⟨p, 1, none⟩ = some (.int .i64 (m.ext : Int)) := h.a.cell 1
theorem RefE.p2 (h : RefE w p g m) : w.cell? ⟨p, 2, none⟩ = some (.int .i64 (m.sec : Int)) := h.a.cell 2
theorem RefE.p3 (h : RefE w p g m) : w.cell? ⟨p, 3, none⟩ = some (.slice (some ⟨g, 0, none⟩) m.l.length m.l.length) := h.a.cell 3
theorem secAt_eq (m : Ext) {i : Nat} (hi : i < m.l.length) : m.secAt i = m.l[i] := by
  unfold Ext.secAt; rw [List.getD_eq_getElem?_getD, List.getElem?_eq_getElem hi]; rfl
theorem RefE.s0 (h : RefE w p g m) {i : Nat} (hi : i < m.l.length) : w.cell? ⟨g, i * 3, none⟩ = some (.string (m.secAt i).dry) := by
  rw [h.b.cell, ← Nat.add_zero (i * 3), flat_at secCells_len m.l i 0 hi (by omega), secAt_eq m hi]; rfl
theorem RefE.s1 (h : RefE w p g m) {i : Nat} (hi : i < m.l.length) : w.cell? ⟨g, i * 3 + 1, none⟩ = some (.string (m.secAt i).now) := by
  rw [h.b.cell, flat_at secCells_len m.l i 1 hi (by omega), secAt_eq m hi]; rfl
theorem RefE.s2 (h : RefE w p g m) {i : Nat} (hi : i < m.l.length) : w.cell? ⟨g, i * 3 + 2, none⟩ = some (.bool (m.secAt i).wet) := by
  rw [h.b.cell, flat_at secCells_len m.l i 2 hi (by omega), secAt_eq m hi]; rfl
end

set_option maxRecDepth 100000 in
/-- cloisonneref05.World.At -/
theorem eAt (p g : Nat) (m : Ext) (e a : Int) (w : World) (h : RefE w p g m) (he : -9223372036854775808 ≤ e ∧ e ≤ 9223372036854775807) (ha : -9223372036854775808 ≤ a ∧ a ≤ 9223372036854775807) :
    Calls Tryd.prog 39 #[.pointer (some ⟨p, 0, none⟩), .int .i64 e, .int .i64 a] w fun x w' => x = .returned (.int .i64 (m.atI e a)) ∧ w = w' := by
  have c1 := h.p1
  have c2 := h.p2
  obtain ⟨o1, o2, o3, o4, o5⟩ := h.ok
  obtain ⟨E, hE⟩ : ∃ E, E = m.ext := ⟨_, rfl⟩
  obtain ⟨S, hS⟩ : ∃ S, S = m.sec := ⟨_, rfl⟩
  rw [← hE] at c1 o1 o2
  rw [← hS] at c2 o3 o4
  have HE := Lib.hid hE
  have HS := Lib.hid hS
  clear hE hS o5 h
  by_cases hh : m.has e a
  · have R := Lib.hid (show m.atI e a = (m.pos e a : Int) by unfold Ext.atI; rw [if_pos hh])
    obtain ⟨h0, h1, h2, h3⟩ := hh
    rw [← HE.out] at h1
    rw [← HS.out] at h3
    obtain ⟨X, hX⟩ : ∃ X : Nat, e.toNat * S = X := ⟨_, rfl⟩
    have X4 : X ≤ 4096 := by rw [← hX]; exact Nat.mul_le_mul (show e.toNat ≤ 32 by omega) o4
    have hw : IntKind.i64.wrap (e * (S : Int)) = (X : Int) := by
      have e1 : e * (S : Int) = (X : Int) := by
        rw [← hX, Int.natCast_mul, Int.toNat_of_nonneg h0]
      rw [e1, IntKind.wrap_i64]; omega
    have RX := Lib.hid (show (m.pos e a : Int) = (X : Int) + a by unfold Ext.pos; rw [← HS.out, hX]; omega)
    clear hX
    go_enter Tryd.func39, Tryd.ntmps39
    go_wp2_with fail
    go_ret
    exact ⟨ret_int (by rw [R.out, RX.out]), rfl⟩
  · have R := Lib.hid (show m.atI e a = -1 by unfold Ext.atI; rw [if_neg hh])
    have C : e < 0 ∨ (0 ≤ e ∧ (E : Int) ≤ e) ∨ (0 ≤ e ∧ e < E ∧ a < 0) ∨ (0 ≤ e ∧ e < E ∧ 0 ≤ a ∧ (S : Int) ≤ a) := by
      unfold Ext.has at hh
      rw [← HE.out, ← HS.out] at hh
      omega
    clear hh
    rcases C with C | ⟨C0, C⟩ | ⟨C0, C1, C⟩ | ⟨C0, C1, C2, C⟩
    all_goals
      go_enter Tryd.func39, Tryd.ntmps39
      go_wp2_with fail
      go_ret
      exact ⟨ret_int R.out.symm, rfl⟩

theorem atI_has {m : Ext} {e a : Int} (h : m.has e a) : m.atI e a = ((m.pos e a : Nat) : Int) := by unfold Ext.atI; rw [if_pos h]
theorem atI_no {m : Ext} {e a : Int} (h : ¬ m.has e a) : m.atI e a = -1 := by unfold Ext.atI; rw [if_neg h]
def In64 (e : Int) : Prop := -9223372036854775808 ≤ e ∧ e ≤ 9223372036854775807

set_option maxRecDepth 100000 in
/-- cloisonneref05.World.Read -/
theorem eRead (p g : Nat) (m : Ext) (e a : Int) (w : World) (h : RefE w p g m) (he : In64 e) (ha : In64 a) :
    Calls Tryd.prog 18 #[.pointer (some ⟨p, 0, none⟩), .int .i64 e, .int .i64 a] w fun x w' => x = .returned (.tuple #[.string (m.read e a).1, .int .i64 (m.read e a).2]) ∧ w = w' := by
  have c0 := h.p0
  have c3 := h.p3
  have AT := Lib.hid (eAt p g m e a w h he ha)
  have H := Lib.hid h
  have ll := Ext.len_le h.ok
  clear h he ha
  cases hoff : m.off with
  | true =>
    have R := Lib.hid (show m.read e a = (⟨#[]⟩, 6) by unfold Ext.read; rw [hoff]; rfl)
    rw [hoff] at c0
    go_enter Tryd.func18, Tryd.ntmps18
    go_wp2_with fail
    go_ret2
    exact ⟨by rw [R.out]; rfl, rfl⟩
  | false =>
    rw [hoff] at c0
    by_cases hh : m.has e a
    · have R := Lib.hid (show m.read e a = ((m.secAt (m.pos e a)).now, 0) by unfold Ext.read; rw [hoff, if_pos hh]; rfl)
      have hi := Ext.pos_lt H.out.ok hh
      have AV := Lib.hid (atI_has hh)
      obtain ⟨i, hi2⟩ : ∃ i, i = m.pos e a := ⟨_, rfl⟩
      rw [← hi2] at R AV hi
      have s1 := H.out.s1 hi
      obtain ⟨LL, hLL⟩ : ∃ LL, LL = m.l.length := ⟨_, rfl⟩
      rw [← hLL] at c3 hi ll
      have i0 : (0 : Int) ≤ (i : Int) := by omega
      have i1 : (i : Int) < (LL : Int) := by omega
      clear hi2 hoff hh hLL
      go_enter Tryd.func18, Tryd.ntmps18
      go_wp2_with fail
      refine AT.out.mono ?_
      rintro x w' ⟨rfl, rfl⟩
      rw [AV.out]
      go_wp2_with fail
      go_ret2
      exact ⟨by rw [R.out]; rfl, rfl⟩
    · have R := Lib.hid (show m.read e a = (⟨#[]⟩, 1) by unfold Ext.read; rw [hoff, if_neg hh]; rfl)
      have AV := Lib.hid (atI_no hh)
      clear hoff hh
      go_enter Tryd.func18, Tryd.ntmps18
      go_wp2_with fail
      refine AT.out.mono ?_
      rintro x w' ⟨rfl, rfl⟩
      rw [AV.out]
      go_wp2_with fail
      go_ret2
      exact ⟨by rw [R.out]; rfl, rfl⟩

/-- what a call leaves that may turn the reference's world -/
def RefPost (p g : Nat) (w : World) (o : Ext × Int) (x : Ending) (w' : World) : Prop := x = .returned (.int .i64 o.2) ∧ RefE w' p g o.1 ∧ Chg (fun k => k = p ∨ k = g) w w'
theorem RefPost.same {p g : Nat} {w : World} {m : Ext} (h : RefE w p g m) {o : Ext × Int} {c : Int} (ho : o = (m, c)) : RefPost p g w o (.returned (.int .i64 c)) w := by
  subst ho; exact ⟨rfl, h, Chg.refl _ _⟩

/-- a sector is put -/
theorem RefE.put {w : World} {p g : Nat} {m : Ext} (h : RefE w p g m) {i j : Nat} (hi : i < m.l.length) (hj : j < 3) (v : Value) (y : Sec) (hy : (secCells (m.secAt i)).set j v = secCells y) :
    RefE (w.setCell ⟨g, i * 3 + j, none⟩ v) p g (m.put i y) := by
  refine ⟨h.ne, ?_, ?_, Ext.put_ok h.ok _ _⟩
  · have := h.a.other (p := ⟨g, i * 3 + j, none⟩) (Ne.symm h.ne) v
    unfold extCells Ext.put
    rw [List.length_set]; exact this
  · have h1 := h.b.set (i * 3 + j) v
    rw [flat_set secCells_len m.l i j v y hi hj (by rw [← secAt_eq m hi]; exact hy)] at h1
    exact h1
theorem put_put (m : Ext) (i : Nat) (x y : Sec) : (m.put i x).put i y = m.put i y := by unfold Ext.put; simp
theorem put_at (m : Ext) {i : Nat} (hi : i < m.l.length) (x : Sec) : (m.put i x).secAt i = x := by
  unfold Ext.secAt Ext.put; simp [List.getD_eq_getElem?_getD, hi]
theorem put_len (m : Ext) (i : Nat) (x : Sec) : (m.put i x).l.length = m.l.length := by unfold Ext.put; simp

set_option maxRecDepth 100000 in
/-- cloisonneref05.World.Write -/
theorem eWrite (p g : Nat) (m : Ext) (e a : Int) (s : ByteArray) (w : World) (h : RefE w p g m) (he : In64 e) (ha : In64 a) (hs : s.size ≤ 9223372036854775807) :
    Calls Tryd.prog 53 #[.pointer (some ⟨p, 0, none⟩), .int .i64 e, .int .i64 a, .string s] w (RefPost p g w (m.write e a s)) := by
  have c0 := h.p0
  have c3 := h.p3
  have AT := Lib.hid (eAt p g m e a w h he ha)
  have H := Lib.hid h
  have ll := Ext.len_le h.ok
  clear h he ha
  cases hoff : m.off with
  | true =>
    have R := Lib.hid (show m.write e a s = (m, 6) by unfold Ext.write; rw [hoff]; rfl)
    rw [hoff] at c0
    go_enter Tryd.func53, Tryd.ntmps53
    go_wp2_with fail
    go_ret
    exact RefPost.same H.out R.out
  | false =>
    rw [hoff] at c0
    by_cases hh : m.has e a
    case neg =>
      have R := Lib.hid (show m.write e a s = (m, 1) by unfold Ext.write; rw [hoff, if_neg hh]; rfl)
      have AV := Lib.hid (atI_no hh)
      clear hoff hh
      go_enter Tryd.func53, Tryd.ntmps53
      go_wp2_with fail
      refine AT.out.mono ?_
      rintro x w' ⟨rfl, rfl⟩
      rw [AV.out]
      go_wp2_with fail
      go_ret
      exact RefPost.same H.out R.out
    have AV := Lib.hid (atI_has hh)
    have hi := Ext.pos_lt H.out.ok hh
    by_cases h64 : 64 < s.size
    · have R := Lib.hid (show m.write e a s = (m, 5) by unfold Ext.write; rw [hoff, if_pos hh, if_pos h64]; rfl)
      obtain ⟨i, hi2⟩ : ∃ i, i = m.pos e a := ⟨_, rfl⟩
      rw [← hi2] at AV
      clear hoff hh hi hi2
      go_enter Tryd.func53, Tryd.ntmps53
      go_wp2_with fail
      refine AT.out.mono ?_
      rintro x w' ⟨rfl, rfl⟩
      rw [AV.out]
      go_wp2_with fail
      go_ret
      exact RefPost.same H.out R.out
    have R := Lib.hid (show m.write e a s = (m.put (m.pos e a) ⟨(m.secAt (m.pos e a)).dry, s, true⟩, 0) by unfold Ext.write; rw [hoff, if_pos hh, if_neg h64]; rfl)
    obtain ⟨i, hi2⟩ : ∃ i, i = m.pos e a := ⟨_, rfl⟩
    rw [← hi2] at R AV hi
    have s1 := H.out.s1 hi
    have f1 := H.out.b.frozen (i * 3 + 1)
    have H1 := Lib.hid (H.out.put hi (j := 1) (by omega) (.string s) ⟨(m.secAt i).dry, s, (m.secAt i).wet⟩ rfl)
    have d3 := H1.out.p3
    rw [put_len] at d3
    have s2 := H1.out.s2 (i := i) (by rw [put_len]; exact hi)
    have f2 := H1.out.b.frozen (i * 3 + 2)
    have H2 := Lib.hid (H1.out.put (i := i) (by rw [put_len]; exact hi) (j := 2) (by omega) (.bool true) ⟨(m.secAt i).dry, s, true⟩ (by rw [put_at m hi]; rfl))
    rw [put_put] at H2
    have HC := Lib.hid (((Chg.refl (fun k => k = p ∨ k = g) w).setCell (p := ⟨g, i * 3 + 1, none⟩) (.inl (.inr rfl)) (.string s)).setCell (p := ⟨g, i * 3 + 2, none⟩) (.inl (.inr rfl)) (.bool true))
    obtain ⟨LL, hLL⟩ : ∃ LL, LL = m.l.length := ⟨_, rfl⟩
    rw [← hLL] at c3 d3 hi ll
    have i0 : (0 : Int) ≤ (i : Int) := by omega
    have i1 : (i : Int) < (LL : Int) := by omega
    clear hi2 hoff hh hLL
    go_enter Tryd.func53, Tryd.ntmps53
    go_wp2_with fail
    refine AT.out.mono ?_
    rintro x w' ⟨rfl, rfl⟩
    rw [AV.out]
    go_wp2_with fail
    go_ret
    exact ⟨by rw [R.out]; rfl, by rw [R.out]; exact H2.out, HC.out⟩

set_option maxRecDepth 100000 in
/-- cloisonneref05.World.Start -/
theorem eStart (p g : Nat) (m : Ext) (w : World) (h : RefE w p g m) :
    Calls Tryd.prog 32 #[.pointer (some ⟨p, 0, none⟩)] w (RefPost p g w m.start) := by
  have c0 := h.p0
  have f0 := h.a.frozen 0
  have H := Lib.hid h
  clear h
  cases hoff : m.off with
  | false =>
    have R := Lib.hid (show m.start = (m, 8) by unfold Ext.start; rw [hoff]; rfl)
    rw [hoff] at c0
    go_enter Tryd.func32, Tryd.ntmps32
    go_wp2_with fail
    go_ret
    exact RefPost.same H.out R.out
  | true =>
    have R := Lib.hid (show m.start = ({ m with off := false }, 0) by unfold Ext.start; rw [hoff]; rfl)
    rw [hoff] at c0
    have H1 := Lib.hid (show RefE (w.setCell ⟨p, 0, none⟩ (.bool false)) p g { m with off := false } from ⟨H.out.ne, H.out.a.set 0 (.bool false), H.out.b.other H.out.ne _, H.out.ok⟩)
    have HC := Lib.hid ((Chg.refl (fun k => k = p ∨ k = g) w).setCell (p := ⟨p, 0, none⟩) (.inl (.inl rfl)) (.bool false))
    clear hoff
    go_enter Tryd.func32, Tryd.ntmps32
    go_wp2_with fail
    go_ret
    exact ⟨by rw [R.out]; rfl, by rw [R.out]; exact H1.out, HC.out⟩

set_option maxRecDepth 100000 in
/-- cloisonneref05.World.Lay -/
theorem eLay (p g : Nat) (m : Ext) (e a : Int) (s : ByteArray) (w : World) (h : RefE w p g m) (he : In64 e) (ha : In64 a) (hs : s.size ≤ 9223372036854775807) :
    Calls Tryd.prog 27 #[.pointer (some ⟨p, 0, none⟩), .int .i64 e, .int .i64 a, .string s] w (RefPost p g w (m.lay e a s)) := by
  have c3 := h.p3
  have AT := Lib.hid (eAt p g m e a w h he ha)
  have H := Lib.hid h
  have ll := Ext.len_le h.ok
  clear h he ha
  by_cases hh : m.has e a
  case neg =>
    have R := Lib.hid (show m.lay e a s = (m, 1) by unfold Ext.lay; rw [if_neg hh])
    have AV := Lib.hid (atI_no hh)
    clear hh
    go_enter Tryd.func27, Tryd.ntmps27
    go_wp2_with fail
    refine AT.out.mono ?_
    rintro x w' ⟨rfl, rfl⟩
    rw [AV.out]
    go_wp2_with fail
    go_ret
    exact RefPost.same H.out R.out
  have AV := Lib.hid (atI_has hh)
  have hi := Ext.pos_lt H.out.ok hh
  by_cases h64 : 64 < s.size
  · have R := Lib.hid (show m.lay e a s = (m, 5) by unfold Ext.lay; rw [if_pos hh, if_pos h64])
    obtain ⟨i, hi2⟩ : ∃ i, i = m.pos e a := ⟨_, rfl⟩
    rw [← hi2] at AV
    clear hh hi hi2
    go_enter Tryd.func27, Tryd.ntmps27
    go_wp2_with fail
    refine AT.out.mono ?_
    rintro x w' ⟨rfl, rfl⟩
    rw [AV.out]
    go_wp2_with fail
    go_ret
    exact RefPost.same H.out R.out
  have R := Lib.hid (show m.lay e a s = (m.put (m.pos e a) ⟨s, s, false⟩, 0) by unfold Ext.lay; rw [if_pos hh, if_neg h64])
  obtain ⟨i, hi2⟩ : ∃ i, i = m.pos e a := ⟨_, rfl⟩
  rw [← hi2] at R AV hi
  have s0 := H.out.s0 hi
  have s1 := H.out.s1 hi
  have s2 := H.out.s2 hi
  have f0 := H.out.b.frozen (i * 3)
  have f1 := H.out.b.frozen (i * 3 + 1)
  have f2 := H.out.b.frozen (i * 3 + 2)
  have H1 := Lib.hid (H.out.put hi (j := 0) (by omega) (.string s) ⟨s, (m.secAt i).now, (m.secAt i).wet⟩ rfl)
  have H2 := Lib.hid (H1.out.put (i := i) (by rw [put_len]; exact hi) (j := 1) (by omega) (.string s) ⟨s, s, (m.secAt i).wet⟩ (by rw [put_at m hi]; rfl))
  have H3 := Lib.hid (H2.out.put (i := i) (by rw [put_len, put_len]; exact hi) (j := 2) (by omega) (.bool false) ⟨s, s, false⟩ (by rw [put_put, put_at m hi]; rfl))
  rw [put_put, put_put] at H3
  have HC := Lib.hid ((((Chg.refl (fun k => k = p ∨ k = g) w).setCell (p := ⟨g, i * 3, none⟩) (.inl (.inr rfl)) (.string s)).setCell (p := ⟨g, i * 3 + 1, none⟩) (.inl (.inr rfl)) (.string s)).setCell (p := ⟨g, i * 3 + 2, none⟩) (.inl (.inr rfl)) (.bool false))
  obtain ⟨LL, hLL⟩ : ∃ LL, LL = m.l.length := ⟨_, rfl⟩
  rw [← hLL] at c3 hi ll
  have i0 : (0 : Int) ≤ (i : Int) := by omega
  have i1 : (i : Int) < (LL : Int) := by omega
  clear hi2 hh hLL
  go_enter Tryd.func27, Tryd.ntmps27
  go_wp2_with fail
  refine AT.out.mono ?_
  rintro x w' ⟨rfl, rfl⟩
  rw [AV.out]
  go_wp2_with fail
  go_ret
  exact ⟨by rw [R.out]; rfl, by rw [R.out]; exact H3.out, HC.out⟩

end Go.Proofs.YtfodclafkdkjbaaDoor

namespace Go.Proofs.YtfodclafkdkjbaaDoor
namespace La

/-- is x among zs? -/
def has (zs : List Int) (x : Int) : Bool := decide (x ∈ zs)
/-- are all of a among b? -/
def inn (a b : List Int) : Bool := decide (∀ x ∈ a, x ∈ b)
/-- do they rise, from above p? -/
def risesB : Int → List Int → Bool
  | _, [] => true
  | p, x :: r => decide (p < x) && risesB x r
/-- is it a label? -/
def right (zs : List Int) : Bool := decide (zs.length ≤ 6) && risesB 0 zs

theorem has_iff (zs : List Int) (x : Int) : has zs x = true ↔ x ∈ zs := by simp [has]
theorem inn_iff (a b : List Int) : inn a b = true ↔ ∀ x ∈ a, x ∈ b := by simp [inn]

theorem take_succ (zs : List Int) (k : Nat) (h : k < zs.length) : zs.take (k + 1) = zs.take k ++ [zs.getD k 0] := by
  rw [List.take_succ_eq_append_getElem h, List.getD, List.getElem?_eq_getElem h]; rfl
theorem mem_take_succ (zs : List Int) (k : Nat) (h : k < zs.length) (x : Int) : x ∈ zs.take (k + 1) ↔ x ∈ zs.take k ∨ x = zs.getD k 0 := by
  rw [take_succ zs k h]; simp
theorem getD_mem (zs : List Int) (k : Nat) (h : k < zs.length) : zs.getD k 0 ∈ zs := by
  rw [List.getD, List.getElem?_eq_getElem h]; exact List.getElem_mem h
theorem mem_iff_getD (zs : List Int) (x : Int) : x ∈ zs ↔ ∃ k, k < zs.length ∧ zs.getD k 0 = x := by
  constructor
  · intro h
    obtain ⟨k, hk, e⟩ := List.getElem_of_mem h
    exact ⟨k, hk, by rw [List.getD, List.getElem?_eq_getElem hk]; exact e⟩
  · rintro ⟨k, hk, rfl⟩; exact getD_mem zs k hk

/-- the one behind the last of l, or p -/
def lastOr (p : Int) (l : List Int) : Int := l.getLastD p

theorem rises_snoc : ∀ (l : List Int) (p x : Int), risesB p (l ++ [x]) = (risesB p l && decide (l.getLastD p < x))
  | [], p, x => by simp [risesB]
  | a :: l, p, x => by
    have ih := rises_snoc l a x
    have e : (a :: l).getLastD p = l.getLastD a := by cases l <;> simp [List.getLastD]
    rw [List.cons_append, risesB, ih, risesB, e, Bool.and_assoc]

theorem rises_take_false (p : Int) (zs : List Int) (k : Nat) (h : risesB p (zs.take k) = false) : risesB p zs = false := by
  have key : ∀ (l m : List Int) (p : Int), risesB p l = false → risesB p (l ++ m) = false := by
    intro l
    induction l with
    | nil => intro m p h; simp [risesB] at h
    | cons a l ih =>
      intro m p h
      rw [List.cons_append, risesB]
      rw [risesB] at h
      cases hd : decide (p < a)
      · rfl
      · rw [hd, Bool.true_and] at h
        rw [Bool.true_and]; exact ih m a h
  rw [← List.take_append_drop k zs]; exact key _ _ _ h

theorem rises_take_true (p : Int) (zs : List Int) (k : Nat) (h : risesB p zs = true) : risesB p (zs.take k) = true := by
  cases hb : risesB p (zs.take k)
  · rw [rises_take_false p zs k hb] at h; exact h
  · rfl

/-- the one before place k, or p -/
theorem lastD_take (p : Int) (zs : List Int) (k : Nat) (h : k < zs.length) : (zs.take (k + 1)).getLastD p = zs.getD k 0 := by
  rw [take_succ zs k h]; simp [List.getLastD_eq_getLast?]

/-- one more place: it rises on -/
theorem rises_step (zs : List Int) (k : Nat) (h : k < zs.length) (p : Int) : risesB p (zs.take (k + 1)) = (risesB p (zs.take k) && decide ((zs.take k).getLastD p < zs.getD k 0)) := by
  rw [take_succ zs k h, rises_snoc]
theorem right_false_at (zs : List Int) (k : Nat) (h : risesB 0 (zs.take k) = false) : right zs = false := by
  unfold right; rw [rises_take_false 0 zs k h, Bool.and_false]
theorem right_all (zs : List Int) (h : risesB 0 zs = true) : right zs = decide (zs.length ≤ 6) := by
  unfold right; rw [h, Bool.and_true]
theorem right_long (zs : List Int) (h : 6 < zs.length) : right zs = false := by
  unfold right; rw [decide_eq_false (by omega), Bool.false_and]

/-- words of 64 bits, all of them -/
def U64 (zs : List Int) : Prop := ∀ x ∈ zs, 0 ≤ x ∧ x < 18446744073709551616
theorem U64.get {zs : List Int} (h : U64 zs) (k : Nat) (hk : k < zs.length) : 0 ≤ zs.getD k 0 ∧ zs.getD k 0 < 18446744073709551616 := h _ (getD_mem zs k hk)
theorem U64.nil : U64 [] := by intro x h; simp at h
theorem U64.cons {x : Int} {l : List Int} (h : 0 ≤ x ∧ x < 18446744073709551616) (k : U64 l) : U64 (x :: l) := by
  intro y hy
  rcases List.mem_cons.1 hy with e | e
  · rw [e]; exact h
  · exact k y e
theorem U64.append {a b : List Int} (h : U64 a) (k : U64 b) : U64 (a ++ b) := by
  intro y hy
  rcases List.mem_append.1 hy with e | e
  · exact h y e
  · exact k y e

/-- the order of labels: which one stands ahead -/
def lex : List Int → List Int → Int
  | [], [] => 0
  | [], _ :: _ => -1
  | _ :: _, [] => 1
  | x :: a, y :: b => if x < y then -1 else if y < x then 1 else lex a b
def cmpI (x y : Int) : Int := if x < y then -1 else if y < x then 1 else 0
def cmp (a b : List Int) : Int := if a.length < b.length then -1 else if b.length < a.length then 1 else lex a b

theorem lex_drop (a b : List Int) (k : Nat) (ha : k < a.length) (hb : k < b.length) : lex (a.drop k) (b.drop k) = if a.getD k 0 < b.getD k 0 then -1 else if b.getD k 0 < a.getD k 0 then 1 else lex (a.drop (k + 1)) (b.drop (k + 1)) := by
  rw [List.drop_eq_getElem_cons ha, List.drop_eq_getElem_cons hb, lex, List.getD, List.getD, List.getElem?_eq_getElem ha, List.getElem?_eq_getElem hb]; rfl
theorem lex_drop_lt (a b : List Int) (k : Nat) (ha : k < a.length) (hb : k < b.length) (h : a.getD k 0 < b.getD k 0) : lex (a.drop k) (b.drop k) = -1 := by
  rw [lex_drop a b k ha hb, if_pos h]
theorem lex_drop_gt (a b : List Int) (k : Nat) (ha : k < a.length) (hb : k < b.length) (h : b.getD k 0 < a.getD k 0) : lex (a.drop k) (b.drop k) = 1 := by
  rw [lex_drop a b k ha hb, if_neg (by omega), if_pos h]
theorem lex_drop_eq (a b : List Int) (k : Nat) (ha : k < a.length) (hb : k < b.length) (h : a.getD k 0 = b.getD k 0) : lex (a.drop k) (b.drop k) = lex (a.drop (k + 1)) (b.drop (k + 1)) := by
  rw [lex_drop a b k ha hb, if_neg (by omega), if_neg (by omega)]

/-- do they not fall? -/
def ascB : List Int → Bool
  | x :: y :: r => decide (x ≤ y) && ascB (y :: r)
  | _ => true
theorem ascB_iff : ∀ zs : List Int, ascB zs = true ↔ ∀ t, t + 1 < zs.length → zs.getD t 0 ≤ zs.getD (t + 1) 0
  | [] => by simp [ascB]
  | [x] => by simp [ascB]
  | x :: y :: r => by
    rw [ascB, Bool.and_eq_true, ascB_iff (y :: r), decide_eq_true_eq]
    constructor
    · rintro ⟨h1, h2⟩ t ht
      cases t with
      | zero => simpa using h1
      | succ t => exact h2 t (by simpa using ht)
    · intro h
      exact ⟨by simpa using h 0 (by simp), fun t ht => h (t + 1) (by simpa using ht)⟩
def Asc (zs : List Int) : Prop := ∀ i j, i < j → j < zs.length → zs.getD i 0 ≤ zs.getD j 0
theorem Asc.of_ascB {zs : List Int} (h : ascB zs = true) : Asc zs := by
  rw [ascB_iff] at h
  intro i j hij
  induction j with
  | zero => omega
  | succ j ih =>
    intro hj
    rcases Nat.lt_or_ge i j with c | c
    · exact Int.le_trans (ih c (by omega)) (h j hj)
    · have : i = j := by omega
      subst this; exact h i hj

/-- place i is where x stands, or would stand -/
def LB (zs : List Int) (x : Int) (i : Nat) : Prop := i ≤ zs.length ∧ (∀ t, t < i → zs.getD t 0 < x) ∧ (∀ t, i ≤ t → t < zs.length → x ≤ zs.getD t 0)
theorem LB.has_of_eq {zs : List Int} {x : Int} {i : Nat} (hi : i < zs.length) (h : zs.getD i 0 = x) : has zs x = true := by
  rw [has_iff, ← h]; exact getD_mem zs i hi
theorem LB.has_of_ne {zs : List Int} {x : Int} {i : Nat} (ha : Asc zs) (hl : LB zs x i) (h : i < zs.length → zs.getD i 0 ≠ x) : has zs x = false := by
  cases hb : has zs x
  · rfl
  · rw [has_iff, mem_iff_getD] at hb
    obtain ⟨k, hk, e⟩ := hb
    obtain ⟨h1, h2, h3⟩ := hl
    rcases Nat.lt_or_ge k i with c | c
    · have := h2 k c; omega
    · have hi : i < zs.length := by omega
      have h5 := h3 i (Nat.le_refl _) hi
      have h6 := h hi
      rcases Nat.lt_or_ge i k with d | d
      · have := ha i k d hk; omega
      · have : i = k := by omega
        subst this; exact absurd e h6

end La
end Go.Proofs.YtfodclafkdkjbaaDoor
