/- cloisonneref05: how its world lies in memory; At, Read, Write, Start, Lay: walked. -/
import Derived.Test.YtjghpacpeojejaaE5m
import Derived.Test.YtjghpacpeojejaaProg
import Derived.KernelRfl
namespace Go.Proofs.Ytjghpacpeojejaa
open Go.RowKit

def secCells (s : Sec) : List Value := [.string s.dry, .string s.now, .bool s.wet]
theorem secCells_len (s : Sec) : (secCells s).length = 3 := rfl
def extCells (g : Nat) (m : Ext) : List Value := [.bool m.off, .int .i64 (m.ext : Int), .int .i64 (m.sec : Int), .slice (some ⟨g, 0, none⟩) m.l.length m.l.length]
/-- the reference's world m lies at p, its sectors at g -/
structure RefE (w : World) (p g : Nat) (m : Ext) : Prop where
  ne : p ≠ g
  a : RowAt w p (extCells g m) 38
  b : RowAt w g (m.l.flatMap secCells) 66
  ok : m.Ok
section
variable {w w' : World} {p g : Nat} {m : Ext} {F : Nat → Prop}
theorem RefE.keep (h : RefE w p g m) (hc : Chg F w w') (hp : ¬ F p) (hg : ¬ F g) : RefE w' p g m := ⟨h.ne, h.a.keep hc hp, h.b.keep hc hg, h.ok⟩
theorem RefE.below (h : RefE w p g m) (hb : Below w.heap.size w w') : RefE w' p g m := ⟨h.ne, h.a.below hb, h.b.below hb, h.ok⟩
theorem RefE.p0 (h : RefE w p g m) : w.cell? ⟨p, 0, none⟩ = some (.bool m.off) := h.a.cell 0
theorem RefE.p1 (h : RefE w p g m) : w.cell? ⟨p, 1, none⟩ = some (.int .i64 (m.ext : Int)) := h.a.cell 1
theorem RefE.p2 (h : RefE w p g m) : w.cell? ⟨p, 2, none⟩ = some (.int .i64 (m.sec : Int)) := h.a.cell 2
theorem RefE.p3 (h : RefE w p g m) : w.cell? ⟨p, 3, none⟩ = some (.slice (some ⟨g, 0, none⟩) m.l.length m.l.length) := h.a.cell 3
theorem secAt_eq (m : Ext) {i : Nat} (hi : i < m.l.length) : m.secAt i = m.l[i] := by
  unfold Ext.secAt; rw [List.getD_eq_getElem?_getD, List.getElem?_eq_getElem hi]; rfl
theorem RefE.s0 (h : RefE w p g m) {i : Nat} (hi : i < m.l.length) : w.cell? ⟨g, i * 3, none⟩ = some (.string (m.secAt i).dry) := by
  rw [h.b.cell, ← Nat.add_zero (i * 3), flat_at secCells_len m.l i 0 hi (by omega), secAt_eq m hi]; rfl
theorem RefE.s1 (h : RefE w p g m) {i : Nat} (hi : i < m.l.length) : w.cell? ⟨g, i * 3 + 1, none⟩ = some (.string (m.secAt i).now) := by
  rw [h.b.cell, flat_at secCells_len m.l i 1 hi (by omega), secAt_eq m hi]; rfl
theorem RefE.s2 (h : RefE w p g m) {i : Nat} (hi : i < m.l.length) : w.cell? ⟨g, i * 3 + 2, none⟩ = some (.bool (m.secAt i).wet) := by
  rw [h.b.cell, flat_at secCells_len m.l i 2 hi (by omega), secAt_eq m hi]; rfl
end

set_option maxRecDepth 100000 in
/-- cloisonneref05.World.At -/
theorem eAt (p g : Nat) (m : Ext) (e a : Int) (w : World) (h : RefE w p g m) (he : -9223372036854775808 ≤ e ∧ e ≤ 9223372036854775807) (ha : -9223372036854775808 ≤ a ∧ a ≤ 9223372036854775807) :
    Calls Try.prog 32 #[.pointer (some ⟨p, 0, none⟩), .int .i64 e, .int .i64 a] w fun x w' => x = .returned (.int .i64 (m.atI e a)) ∧ w = w' := by
  have c1 := h.p1
  have c2 := h.p2
  obtain ⟨o1, o2, o3, o4, o5⟩ := h.ok
  obtain ⟨E, hE⟩ : ∃ E, E = m.ext := ⟨_, rfl⟩
  obtain ⟨S, hS⟩ : ∃ S, S = m.sec := ⟨_, rfl⟩
  rw [← hE] at c1 o1 o2
  rw [← hS] at c2 o3 o4
  have HE := Lib.hid hE
  have HS := Lib.hid hS
  clear hE hS o5 h
  by_cases hh : m.has e a
  · have R := Lib.hid (show m.atI e a = (m.pos e a : Int) by unfold Ext.atI; rw [if_pos hh])
    obtain ⟨h0, h1, h2, h3⟩ := hh
    rw [← HE.out] at h1
    rw [← HS.out] at h3
    obtain ⟨X, hX⟩ : ∃ X : Nat, e.toNat * S = X := ⟨_, rfl⟩
    have X4 : X ≤ 4096 := by rw [← hX]; exact Nat.mul_le_mul (show e.toNat ≤ 32 by omega) o4
    have hw : IntKind.i64.wrap (e * (S : Int)) = (X : Int) := by
      have e1 : e * (S : Int) = (X : Int) := by
        rw [← hX, Int.natCast_mul, Int.toNat_of_nonneg h0]
      rw [e1, IntKind.wrap_i64]; omega
    have RX := Lib.hid (show (m.pos e a : Int) = (X : Int) + a by unfold Ext.pos; rw [← HS.out, hX]; omega)
    clear hX
    go_enter Try.func32, Try.ntmps32
    go_wp2_with fail
    go_ret
    exact ⟨ret_int (by rw [R.out, RX.out]), rfl⟩
  · have R := Lib.hid (show m.atI e a = -1 by unfold Ext.atI; rw [if_neg hh])
    have C : e < 0 ∨ (0 ≤ e ∧ (E : Int) ≤ e) ∨ (0 ≤ e ∧ e < E ∧ a < 0) ∨ (0 ≤ e ∧ e < E ∧ 0 ≤ a ∧ (S : Int) ≤ a) := by
      unfold Ext.has at hh
      rw [← HE.out, ← HS.out] at hh
      omega
    clear hh
    rcases C with C | ⟨C0, C⟩ | ⟨C0, C1, C⟩ | ⟨C0, C1, C2, C⟩
    all_goals
      go_enter Try.func32, Try.ntmps32
      go_wp2_with fail
      go_ret
      exact ⟨ret_int R.out.symm, rfl⟩

theorem atI_has {m : Ext} {e a : Int} (h : m.has e a) : m.atI e a = ((m.pos e a : Nat) : Int) := by unfold Ext.atI; rw [if_pos h]
theorem atI_no {m : Ext} {e a : Int} (h : ¬ m.has e a) : m.atI e a = -1 := by unfold Ext.atI; rw [if_neg h]
def In64 (e : Int) : Prop := -9223372036854775808 ≤ e ∧ e ≤ 9223372036854775807

set_option maxRecDepth 100000 in
/-- cloisonneref05.World.Read -/
theorem eRead (p g : Nat) (m : Ext) (e a : Int) (w : World) (h : RefE w p g m) (he : In64 e) (ha : In64 a) :
    Calls Try.prog 31 #[.pointer (some ⟨p, 0, none⟩), .int .i64 e, .int .i64 a] w fun x w' => x = .returned (.tuple #[.string (m.read e a).1, .int .i64 (m.read e a).2]) ∧ w = w' := by
  have c0 := h.p0
  have c3 := h.p3
  have AT := Lib.hid (eAt p g m e a w h he ha)
  have H := Lib.hid h
  have ll := Ext.len_le h.ok
  clear h he ha
  cases hoff : m.off with
  | true =>
    have R := Lib.hid (show m.read e a = (⟨#[]⟩, 6) by unfold Ext.read; rw [hoff]; rfl)
    rw [hoff] at c0
    go_enter Try.func31, Try.ntmps31
    go_wp2_with fail
    go_ret2
    exact ⟨by rw [R.out]; rfl, rfl⟩
  | false =>
    rw [hoff] at c0
    by_cases hh : m.has e a
    · have R := Lib.hid (show m.read e a = ((m.secAt (m.pos e a)).now, 0) by unfold Ext.read; rw [hoff, if_pos hh]; rfl)
      have hi := Ext.pos_lt H.out.ok hh
      have AV := Lib.hid (atI_has hh)
      obtain ⟨i, hi2⟩ : ∃ i, i = m.pos e a := ⟨_, rfl⟩
      rw [← hi2] at R AV hi
      have s1 := H.out.s1 hi
      obtain ⟨LL, hLL⟩ : ∃ LL, LL = m.l.length := ⟨_, rfl⟩
      rw [← hLL] at c3 hi ll
      have i0 : (0 : Int) ≤ (i : Int) := by omega
      have i1 : (i : Int) < (LL : Int) := by omega
      clear hi2 hoff hh hLL
      go_enter Try.func31, Try.ntmps31
      go_wp2_with fail
      refine AT.out.mono ?_
      rintro x w' ⟨rfl, rfl⟩
      rw [AV.out]
      go_wp2_with fail
      go_ret2
      exact ⟨by rw [R.out]; rfl, rfl⟩
    · have R := Lib.hid (show m.read e a = (⟨#[]⟩, 1) by unfold Ext.read; rw [hoff, if_neg hh]; rfl)
      have AV := Lib.hid (atI_no hh)
      clear hoff hh
      go_enter Try.func31, Try.ntmps31
      go_wp2_with fail
      refine AT.out.mono ?_
      rintro x w' ⟨rfl, rfl⟩
      rw [AV.out]
      go_wp2_with fail
      go_ret2
      exact ⟨by rw [R.out]; rfl, rfl⟩

/-- what a call leaves that may turn the reference's world -/
def RefPost (p g : Nat) (w : World) (o : Ext × Int) (x : Ending) (w' : World) : Prop := x = .returned (.int .i64 o.2) ∧ RefE w' p g o.1 ∧ Chg (fun k => k = p ∨ k = g) w w'
theorem RefPost.same {p g : Nat} {w : World} {m : Ext} (h : RefE w p g m) {o : Ext × Int} {c : Int} (ho : o = (m, c)) : RefPost p g w o (.returned (.int .i64 c)) w := by
  subst ho; exact ⟨rfl, h, Chg.refl _ _⟩

/-- a sector is put -/
theorem RefE.put {w : World} {p g : Nat} {m : Ext} (h : RefE w p g m) {i j : Nat} (hi : i < m.l.length) (hj : j < 3) (v : Value) (y : Sec) (hy : (secCells (m.secAt i)).set j v = secCells y) :
    RefE (w.setCell ⟨g, i * 3 + j, none⟩ v) p g (m.put i y) := by
  refine ⟨h.ne, ?_, ?_, Ext.put_ok h.ok _ _⟩
  · have := h.a.other (p := ⟨g, i * 3 + j, none⟩) (Ne.symm h.ne) v
    unfold extCells Ext.put
    rw [List.length_set]; exact this
  · have h1 := h.b.set (i * 3 + j) v
    rw [flat_set secCells_len m.l i j v y hi hj (by rw [← secAt_eq m hi]; exact hy)] at h1
    exact h1
theorem put_put (m : Ext) (i : Nat) (x y : Sec) : (m.put i x).put i y = m.put i y := by unfold Ext.put; simp
theorem put_at (m : Ext) {i : Nat} (hi : i < m.l.length) (x : Sec) : (m.put i x).secAt i = x := by
  unfold Ext.secAt Ext.put; simp [List.getD_eq_getElem?_getD, hi]
theorem put_len (m : Ext) (i : Nat) (x : Sec) : (m.put i x).l.length = m.l.length := by unfold Ext.put; simp

set_option maxRecDepth 100000 in
/-- cloisonneref05.World.Write -/
theorem eWrite (p g : Nat) (m : Ext) (e a : Int) (s : ByteArray) (w : World) (h : RefE w p g m) (he : In64 e) (ha : In64 a) (hs : s.size ≤ 9223372036854775807) :
    Calls Try.prog 26 #[.pointer (some ⟨p, 0, none⟩), .int .i64 e, .int .i64 a, .string s] w (RefPost p g w (m.write e a s)) := by
  have c0 := h.p0
  have c3 := h.p3
  have AT := Lib.hid (eAt p g m e a w h he ha)
  have H := Lib.hid h
  have ll := Ext.len_le h.ok
  clear h he ha
  cases hoff : m.off with
  | true =>
    have R := Lib.hid (show m.write e a s = (m, 6) by unfold Ext.write; rw [hoff]; rfl)
    rw [hoff] at c0
    go_enter Try.func26, Try.ntmps26
    go_wp2_with fail
    go_ret
    exact RefPost.same H.out R.out
  | false =>
    rw [hoff] at c0
    by_cases hh : m.has e a
    case neg =>
      have R := Lib.hid (show m.write e a s = (m, 1) by unfold Ext.write; rw [hoff, if_neg hh]; rfl)
      have AV := Lib.hid (atI_no hh)
      clear hoff hh
      go_enter Try.func26, Try.ntmps26
      go_wp2_with fail
      refine AT.out.mono ?_
      rintro x w' ⟨rfl, rfl⟩
      rw [AV.out]
      go_wp2_with fail
      go_ret
      exact RefPost.same H.out R.out
    have AV := Lib.hid (atI_has hh)
    have hi := Ext.pos_lt H.out.ok hh
    by_cases h64 : 64 < s.size
    · have R := Lib.hid (show m.write e a s = (m, 5) by unfold Ext.write; rw [hoff, if_pos hh, if_pos h64]; rfl)
      obtain ⟨i, hi2⟩ : ∃ i, i = m.pos e a := ⟨_, rfl⟩
      rw [← hi2] at AV
      clear hoff hh hi hi2
      go_enter Try.func26, Try.ntmps26
      go_wp2_with fail
      refine AT.out.mono ?_
      rintro x w' ⟨rfl, rfl⟩
      rw [AV.out]
      go_wp2_with fail
      go_ret
      exact RefPost.same H.out R.out
    have R := Lib.hid (show m.write e a s = (m.put (m.pos e a) ⟨(m.secAt (m.pos e a)).dry, s, true⟩, 0) by unfold Ext.write; rw [hoff, if_pos hh, if_neg h64]; rfl)
    obtain ⟨i, hi2⟩ : ∃ i, i = m.pos e a := ⟨_, rfl⟩
    rw [← hi2] at R AV hi
    have s1 := H.out.s1 hi
    have f1 := H.out.b.frozen (i * 3 + 1)
    have H1 := Lib.hid (H.out.put hi (j := 1) (by omega) (.string s) ⟨(m.secAt i).dry, s, (m.secAt i).wet⟩ rfl)
    have d3 := H1.out.p3
    rw [put_len] at d3
    have s2 := H1.out.s2 (i := i) (by rw [put_len]; exact hi)
    have f2 := H1.out.b.frozen (i * 3 + 2)
    have H2 := Lib.hid (H1.out.put (i := i) (by rw [put_len]; exact hi) (j := 2) (by omega) (.bool true) ⟨(m.secAt i).dry, s, true⟩ (by rw [put_at m hi]; rfl))
    rw [put_put] at H2
    have HC := Lib.hid (((Chg.refl (fun k => k = p ∨ k = g) w).setCell (p := ⟨g, i * 3 + 1, none⟩) (.inl (.inr rfl)) (.string s)).setCell (p := ⟨g, i * 3 + 2, none⟩) (.inl (.inr rfl)) (.bool true))
    obtain ⟨LL, hLL⟩ : ∃ LL, LL = m.l.length := ⟨_, rfl⟩
    rw [← hLL] at c3 d3 hi ll
    have i0 : (0 : Int) ≤ (i : Int) := by omega
    have i1 : (i : Int) < (LL : Int) := by omega
    clear hi2 hoff hh hLL
    go_enter Try.func26, Try.ntmps26
    go_wp2_with fail
    refine AT.out.mono ?_
    rintro x w' ⟨rfl, rfl⟩
    rw [AV.out]
    go_wp2_with fail
    go_ret
    exact ⟨by rw [R.out]; rfl, by rw [R.out]; exact H2.out, HC.out⟩

set_option maxRecDepth 100000 in
/-- cloisonneref05.World.Start -/
theorem eStart (p g : Nat) (m : Ext) (w : World) (h : RefE w p g m) :
    Calls Try.prog 29 #[.pointer (some ⟨p, 0, none⟩)] w (RefPost p g w m.start) := by
  have c0 := h.p0
  have f0 := h.a.frozen 0
  have H := Lib.hid h
  clear h
  cases hoff : m.off with
  | false =>
    have R := Lib.hid (show m.start = (m, 8) by unfold Ext.start; rw [hoff]; rfl)
    rw [hoff] at c0
    go_enter Try.func29, Try.ntmps29
    go_wp2_with fail
    go_ret
    exact RefPost.same H.out R.out
  | true =>
    have R := Lib.hid (show m.start = ({ m with off := false }, 0) by unfold Ext.start; rw [hoff]; rfl)
    rw [hoff] at c0
    have H1 := Lib.hid (show RefE (w.setCell ⟨p, 0, none⟩ (.bool false)) p g { m with off := false } from ⟨H.out.ne, H.out.a.set 0 (.bool false), H.out.b.other H.out.ne _, H.out.ok⟩)
    have HC := Lib.hid ((Chg.refl (fun k => k = p ∨ k = g) w).setCell (p := ⟨p, 0, none⟩) (.inl (.inl rfl)) (.bool false))
    clear hoff
    go_enter Try.func29, Try.ntmps29
    go_wp2_with fail
    go_ret
    exact ⟨by rw [R.out]; rfl, by rw [R.out]; exact H1.out, HC.out⟩

set_option maxRecDepth 100000 in
/-- cloisonneref05.World.Lay -/
theorem eLay (p g : Nat) (m : Ext) (e a : Int) (s : ByteArray) (w : World) (h : RefE w p g m) (he : In64 e) (ha : In64 a) (hs : s.size ≤ 9223372036854775807) :
    Calls Try.prog 30 #[.pointer (some ⟨p, 0, none⟩), .int .i64 e, .int .i64 a, .string s] w (RefPost p g w (m.lay e a s)) := by
  have c3 := h.p3
  have AT := Lib.hid (eAt p g m e a w h he ha)
  have H := Lib.hid h
  have ll := Ext.len_le h.ok
  clear h he ha
  by_cases hh : m.has e a
  case neg =>
    have R := Lib.hid (show m.lay e a s = (m, 1) by unfold Ext.lay; rw [if_neg hh])
    have AV := Lib.hid (atI_no hh)
    clear hh
    go_enter Try.func30, Try.ntmps30
    go_wp2_with fail
    refine AT.out.mono ?_
    rintro x w' ⟨rfl, rfl⟩
    rw [AV.out]
    go_wp2_with fail
    go_ret
    exact RefPost.same H.out R.out
  have AV := Lib.hid (atI_has hh)
  have hi := Ext.pos_lt H.out.ok hh
  by_cases h64 : 64 < s.size
  · have R := Lib.hid (show m.lay e a s = (m, 5) by unfold Ext.lay; rw [if_pos hh, if_pos h64])
    obtain ⟨i, hi2⟩ : ∃ i, i = m.pos e a := ⟨_, rfl⟩
    rw [← hi2] at AV
    clear hh hi hi2
    go_enter Try.func30, Try.ntmps30
    go_wp2_with fail
    refine AT.out.mono ?_
    rintro x w' ⟨rfl, rfl⟩
    rw [AV.out]
    go_wp2_with fail
    go_ret
    exact RefPost.same H.out R.out
  have R := Lib.hid (show m.lay e a s = (m.put (m.pos e a) ⟨s, s, false⟩, 0) by unfold Ext.lay; rw [if_pos hh, if_neg h64])
  obtain ⟨i, hi2⟩ : ∃ i, i = m.pos e a := ⟨_, rfl⟩
  rw [← hi2] at R AV hi
  have s0 := H.out.s0 hi
  have s1 := H.out.s1 hi
  have s2 := H.out.s2 hi
  have f0 := H.out.b.frozen (i * 3)
  have f1 := H.out.b.frozen (i * 3 + 1)
  have f2 := H.out.b.frozen (i * 3 + 2)
  have H1 := Lib.hid (H.out.put hi (j := 0) (by omega) (.string s) ⟨s, (m.secAt i).now, (m.secAt i).wet⟩ rfl)
  have H2 := Lib.hid (H1.out.put (i := i) (by rw [put_len]; exact hi) (j := 1) (by omega) (.string s) ⟨s, s, (m.secAt i).wet⟩ (by rw [put_at m hi]; rfl))
  have H3 := Lib.hid (H2.out.put (i := i) (by rw [put_len, put_len]; exact hi) (j := 2) (by omega) (.bool false) ⟨s, s, false⟩ (by rw [put_put, put_at m hi]; rfl))
  rw [put_put, put_put] at H3
  have HC := Lib.hid ((((Chg.refl (fun k => k = p ∨ k = g) w).setCell (p := ⟨g, i * 3, none⟩) (.inl (.inr rfl)) (.string s)).setCell (p := ⟨g, i * 3 + 1, none⟩) (.inl (.inr rfl)) (.string s)).setCell (p := ⟨g, i * 3 + 2, none⟩) (.inl (.inr rfl)) (.bool false))
  obtain ⟨LL, hLL⟩ : ∃ LL, LL = m.l.length := ⟨_, rfl⟩
  rw [← hLL] at c3 hi ll
  have i0 : (0 : Int) ≤ (i : Int) := by omega
  have i1 : (i : Int) < (LL : Int) := by omega
  clear hi2 hh hLL
  go_enter Try.func30, Try.ntmps30
  go_wp2_with fail
  refine AT.out.mono ?_
  rintro x w' ⟨rfl, rfl⟩
  rw [AV.out]
  go_wp2_with fail
  go_ret
  exact ⟨by rw [R.out]; rfl, by rw [R.out]; exact H3.out, HC.out⟩

end Go.Proofs.Ytjghpacpeojejaa
