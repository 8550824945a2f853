/- The program's World: what only reads. -/
import Derived.Test.YtjghpacpeojejaaE5g
namespace Go.Proofs.Ytjghpacpeojejaa
open Go.RowKit Go.Maps

set_option maxRecDepth 100000 in
theorem xOr2 (x y r : Int) (hr : (if x = 0 then y else x) = r) (g c : Nat) (w : World) (h0 : w.cell? ⟨g, 0, none⟩ = some (.int .i64 x)) (h1 : w.cell? ⟨g, 1, none⟩ = some (.int .i64 y)) :
    Calls Try.prog 36 #[.slice (some ⟨g, 0, none⟩) 2 c] w fun v w' => v = .returned (.int .i64 r) ∧ w' = w := by
  refine (xOr g c [x, y] w (by simp) (fun j hj => ?_)).mono fun v w' h => ⟨h.1.trans ?_, h.2⟩
  · rcases j with _ | _ | j
    · exact h0
    · exact h1
    · simp at hj; omega
  · rw [← hr]
    congr 2
    unfold orL; split
    · unfold orL; split
      · rename_i h; rw [h]; rfl
      · rfl
    · rfl
set_option maxRecDepth 100000 in
theorem xOr3 (x y z r : Int) (hr : (if x = 0 then if y = 0 then z else y else x) = r) (g c : Nat) (w : World) (h0 : w.cell? ⟨g, 0, none⟩ = some (.int .i64 x)) (h1 : w.cell? ⟨g, 1, none⟩ = some (.int .i64 y)) (h2 : w.cell? ⟨g, 2, none⟩ = some (.int .i64 z)) :
    Calls Try.prog 36 #[.slice (some ⟨g, 0, none⟩) 3 c] w fun v w' => v = .returned (.int .i64 r) ∧ w' = w := by
  refine (xOr g c [x, y, z] w (by simp) (fun j hj => ?_)).mono fun v w' h => ⟨h.1.trans ?_, h.2⟩
  · rcases j with _ | _ | _ | j
    · exact h0
    · exact h1
    · exact h2
    · simp at hj; omega
  · rw [← hr]
    congr 2
    unfold orL; split
    · unfold orL; split
      · unfold orL; split
        · rename_i h; rw [h]; rfl
        · rfl
      · rfl
    · rfl
theorem xHasYes (b : Nat) (m : Ext) (e a : Int) (c : Nat) (g : Option Addr) (w : World) (h : m.has e a) (h1 : w.cell? ⟨b, 1, none⟩ = some (.int .i64 m.sec)) (h2 : w.cell? ⟨b, 2, none⟩ = some (.slice g m.ext c)) :
    Calls Try.prog 33 #[.pointer (some ⟨b, 0, none⟩), .int .i64 e, .int .i64 a] w fun x w' => x = .returned (.int .i64 0) ∧ w' = w :=
  (xHas b e a m.ext m.sec c g w h1 h2).mono fun x w' k => ⟨k.1.trans (by unfold Ext.has at h; rw [if_pos h]), k.2⟩
theorem xHasNo (b : Nat) (m : Ext) (e a : Int) (c : Nat) (g : Option Addr) (w : World) (h : ¬ m.has e a) (h1 : w.cell? ⟨b, 1, none⟩ = some (.int .i64 m.sec)) (h2 : w.cell? ⟨b, 2, none⟩ = some (.slice g m.ext c)) :
    Calls Try.prog 33 #[.pointer (some ⟨b, 0, none⟩), .int .i64 e, .int .i64 a] w fun x w' => x = .returned (.int .i64 1) ∧ w' = w :=
  (xHas b e a m.ext m.sec c g w h1 h2).mono fun x w' k => ⟨k.1.trans (by unfold Ext.has at h; rw [if_neg h]), k.2⟩
theorem RelX.left_below {w w' : World} {b : Nat} {F : Nat → Prop} {m : Ext} (h : RelX w b F m) (hb : Below w.heap.size w w') : LeftE RelX b F w m w' := by
  obtain ⟨g, cap, ds, ms, Ds, hr, hb', hg, hd, hF⟩ := h
  exact RelX.left (G := fun _ => False) (Chg.of_below hb) (fun _ e => e.elim) (hr.below hb) hb' hg hd hF

set_option maxRecDepth 100000 in
/-- On -/
theorem xOn (b : Nat) (F : Nat → Prop) (m : Ext) (w : World) (h : RelX w b F m) : Calls Try.prog 12 #[.pointer (some ⟨b, 0, none⟩)] w fun x w' => x = .returned (.bool (!m.off)) ∧ LeftE RelX b F w m w' := by
  obtain ⟨g, cap, ds, ms, Ds, hr, hb', hg, hd, hF⟩ := id h
  have c := hr.on
  obtain ⟨o, ho⟩ : ∃ o, o = !m.off := ⟨_, rfl⟩
  rw [← ho] at c ⊢
  have L := Lib.hid (RelX.left_below (w' := w) h (Below.refl _ _))
  clear ho hr h hb' hg hd hF
  go_enter Try.func12, Try.ntmps12
  go_wp2_with fail
  go_ret
  exact ⟨rfl, L.out⟩
set_option maxRecDepth 100000 in
theorem xExtents (b : Nat) (F : Nat → Prop) (m : Ext) (w : World) (h : RelX w b F m) : Calls Try.prog 16 #[.pointer (some ⟨b, 0, none⟩)] w fun x w' => x = .returned (.int .i64 (m.ext : Int)) ∧ LeftE RelX b F w m w' := by
  obtain ⟨g, cap, ds, ms, Ds, hr, hb', hg, hd, hF⟩ := id h
  have c := hr.ext
  have L := Lib.hid (RelX.left_below (w' := w) h (Below.refl _ _))
  clear hr h hb' hg hd hF
  go_enter Try.func16, Try.ntmps16
  go_wp2_with fail
  go_ret
  exact ⟨rfl, L.out⟩
set_option maxRecDepth 100000 in
theorem xSectors (b : Nat) (F : Nat → Prop) (m : Ext) (w : World) (h : RelX w b F m) : Calls Try.prog 17 #[.pointer (some ⟨b, 0, none⟩)] w fun x w' => x = .returned (.int .i64 (m.sec : Int)) ∧ LeftE RelX b F w m w' := by
  obtain ⟨g, cap, ds, ms, Ds, hr, hb', hg, hd, hF⟩ := id h
  have c := hr.sec
  have L := Lib.hid (RelX.left_below (w' := w) h (Below.refl _ _))
  clear hr h hb' hg hd hF
  go_enter Try.func17, Try.ntmps17
  go_wp2_with fail
  go_ret
  exact ⟨rfl, L.out⟩
set_option maxRecDepth 100000 in
/-- Start -/
theorem xStart (b : Nat) (F : Nat → Prop) (m : Ext) (w : World) (h : RelX w b F m) : Calls Try.prog 19 #[.pointer (some ⟨b, 0, none⟩)] w fun x w' => x = .returned (.int .i64 m.start.2) ∧ LeftE RelX b F w m.start.1 w' := by
  obtain ⟨g, cap, ds, ms, Ds, hr, hb', hg, hd, hF⟩ := id h
  have c := hr.on
  have cf := hr.fz
  cases ho : m.off with
  | false =>
    rw [ho] at c
    have e : m.start = (m, 8) := by unfold Ext.start; rw [ho]; rfl
    rw [e]
    have L := Lib.hid (RelX.left_below (w' := w) h (Below.refl _ _))
    clear ho hr h hb' hg hd hF e
    go_enter Try.func19, Try.ntmps19
    go_wp2_with fail
    go_ret
    exact ⟨rfl, L.out⟩
  | true =>
    rw [ho] at c
    have e : m.start = ({ m with off := false }, 0) := by unfold Ext.start; rw [ho]; rfl
    rw [e]
    have k := hr.turned false
    have L := Lib.hid (RelX.left (F := F) (w := w) (G := fun k => k = b) ((Chg.refl (fun k => k = b) w).setCell (p := ⟨b, 0, none⟩) (.inl rfl) _) (fun k hk => .inl (by rw [hk]; exact hb')) k hb' hg hd hF)
    clear ho hr h hb' hg hd hF e k
    go_enter Try.func19, Try.ntmps19
    go_wp2_with fail
    go_ret
    exact ⟨rfl, L.out⟩

end Go.Proofs.Ytjghpacpeojejaa
