/- The program's World: Dry, Read. -/
import Derived.Test.YtjghpacpeojejaaE5b
namespace Go.Proofs.Ytjghpacpeojejaa
open Go.RowKit Go.Maps

section
variable {w w' : World} {b g cap : Nat} {ds ms : Nat → Nat} {Ds : Nat → DataW Unit} {m m' : Ext}
theorem RepE.drySec (h : RepE w b g cap ds ms Ds m) {e a : Nat} (he : e < m.ext) (ha : a < m.sec) : w.rangeAt (ds e) (a * 65) (secL (m.secAt (e * m.sec + a)).dry) := by
  refine RowAt.mid (h.row e he) fun j v hj => ?_
  have hl : j < (secL (m.secAt (e * m.sec + a)).dry).length := (List.getElem?_eq_some_iff.1 hj).1
  rw [secL_len] at hl
  rw [flat_at secL_len (drys m e) a j (by rw [drys_len]; exact ha) hl, drys_get m e a ha]
  exact hj
end
theorem pos_nat (m : Ext) (e a : Nat) : m.pos (e : Int) (a : Int) = e * m.sec + a := by unfold Ext.pos; simp
theorem has_nat {m : Ext} {e a : Int} (h : m.has e a) : ∃ e' a' : Nat, e = e' ∧ a = a' ∧ e' < m.ext ∧ a' < m.sec := by
  obtain ⟨h0, h1, h2, h3⟩ := h
  exact ⟨e.toNat, a.toNat, by omega, by omega, by omega, by omega⟩
theorem has_of {m : Ext} {e a : Nat} (he : e < m.ext) (ha : a < m.sec) : m.has (e : Int) (a : Int) := ⟨by omega, by omega, by omega, by omega⟩

set_option maxRecDepth 100000 in
set_option maxHeartbeats 1000000 in
/-- Dry -/
theorem xDry (b : Nat) (F : Nat → Prop) (m : Ext) (e a : Int) (w : World) (h : RelX w b F m) (_ : In64 e) (_ : In64 a) :
    Calls Try.prog 23 #[.pointer (some ⟨b, 0, none⟩), .int .i64 e, .int .i64 a] w fun x w' => x = .returned (.tuple #[.string (m.dryOf e a).1, .int .i64 (m.dryOf e a).2]) ∧ LeftE RelX b F w m w' := by
  refine Calls.mono (R := fun x w' => x = .returned (.tuple #[.string (m.dryOf e a).1, .int .i64 (m.dryOf e a).2]) ∧ Below w.heap.size w w') ?_ fun x w' hq => ⟨hq.1, h.left_below hq.2⟩
  obtain ⟨g, cap, ds, ms, Ds, hr, hb', hg, hd, hF⟩ := id h
  by_cases hh : m.has e a
  · have hd' : m.dryOf e a = ((m.secAt (m.pos e a)).dry, 0) := by unfold Ext.dryOf; rw [if_pos hh]
    rw [hd']
    obtain ⟨en, an, rfl, rfl, hen, han⟩ := has_nat hh
    rw [pos_nat]
    have hs : (m.secAt (en * m.sec + an)).dry.size ≤ 64 := (hr.fine _).1
    have R := Lib.hid (hr.drySec hen han)
    obtain ⟨s, hsd⟩ : ∃ s, s = (m.secAt (en * m.sec + an)).dry := ⟨_, rfl⟩
    rw [← hsd] at hs R ⊢
    have c1 := hr.sec
    have c2 := hr.ext
    have c3 := hr.dc en hen
    have HH := Lib.hid hh
    have i0 : (0 : Int) ≤ (en : Int) := by omega
    have i1 : (en : Int) < (m.ext : Int) := by omega
    have j0 : (0 : Int) ≤ (an : Int) := by omega
    have j1 : (an : Int) < (m.sec : Int) := by omega
    clear hsd hd' hr hF hd hg hb' h hh
    go_enter Try.func23, Try.ntmps23
    go_wp2_with fail
    refine (xHasYes b m _ _ cap _ w HH.out c1 c2).mono ?_
    rintro x w' ⟨rfl, rfl⟩
    go_wp2_with (
      ((with_reducible refine wp_loadS (op := ⟨some 26, _, _, _, _, _⟩) rfl (.tmp 25) rfl (ds en) (an * 65) ?c1 (secL s) ?c2 ?c3 ?_); (case c1 => rfl); (case c2 => exact R.out); (case c3 => exact secL_len _)))
    refine (xText s _ hs).mono ?_
    rintro x w2 ⟨rfl, hb⟩
    go_wp2_with fail
    go_ret2
    exact ⟨rfl, hb⟩
  · have hd' : m.dryOf e a = (⟨#[]⟩, 1) := by unfold Ext.dryOf; rw [if_neg hh]
    rw [hd']
    have c1 := hr.sec
    have c2 := hr.ext
    have HH := Lib.hid hh
    clear hd' hr hF hd hg hb' h hh
    go_enter Try.func23, Try.ntmps23
    go_wp2_with fail
    refine (xHasNo b m _ _ cap _ w HH.out c1 c2).mono ?_
    rintro x w' ⟨rfl, rfl⟩
    go_wp2_with fail
    go_ret2
    exact ⟨rfl, Below.refl _ _⟩

theorem rangeAt_below {w W : World} {k o : Nat} {vs : List Value} (h : w.rangeAt k o vs) (hb : Below w.heap.size w W) : W.rangeAt k o vs := fun j v hj => (Chg.of_below (F := fun _ => False) hb).cell (h j v hj) id
/-- a look-up -/
theorem look_run {W : World} {c n : Nat} {D : DataW Unit} {m : Ext} {e a : Nat} (hw : W.ownsMap Try.prog 3 secElem c n D) (hs : Says D m e) (ha : a < m.sec) (h64 : m.sec ≤ 128) :
    (Instr.lookup 61 (.map (some c)) (.int .i64 a) true).run Try.prog W = .ok (.tuple #[.agg (secL (if (m.secAt (e * m.sec + a)).wet then (m.secAt (e * m.sec + a)).now else ⟨#[]⟩)).toArray, .bool (m.secAt (e * m.sec + a)).wet]) W := by
  obtain ⟨v, ps, hrun, hv⟩ := hw.look_ok keyI Try.underlying61 (zeroS74 W) (zd := .lit (.string [])) (zp := []) (by
    rw [← secL_nil]; exact secElem_mk ⟨#[]⟩ (by decide)) (keyOfI (a : Int) ⟨by omega, by omega⟩)
  rw [hs.wet a ha] at hrun
  rw [hrun]
  obtain ⟨s, hsz, rfl, he⟩ := secElem_inv hv
  simp only [Prod.mk.injEq] at he
  have hx := he.1
  cases hwet : (m.secAt (e * m.sec + a)).wet with
  | true =>
    rw [hs.now a ha hwet] at hx
    simp only [DataW.lit.injEq, Lit.string.injEq] at hx
    rw [str_inj hx, if_pos rfl]
  | false =>
    rw [Go.Maps.atKey_of_not_has (by rw [hs.wet a ha]; exact hwet)] at hx
    simp only [DataW.lit.injEq, Lit.string.injEq] at hx
    rw [← str_inj (s := ⟨#[]⟩) (t := s) hx]
    rfl

end Go.Proofs.Ytjghpacpeojejaa
