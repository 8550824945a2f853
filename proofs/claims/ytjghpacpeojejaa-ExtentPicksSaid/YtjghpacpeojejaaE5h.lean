/- The program's World: Read. -/
import Derived.Test.YtjghpacpeojejaaE5e
namespace Go.Proofs.Ytjghpacpeojejaa
open Go.RowKit Go.Maps

set_option maxRecDepth 100000 in
set_option maxHeartbeats 1000000 in
/-- Read -/
theorem xRead (b : Nat) (F : Nat → Prop) (m : Ext) (e a : Int) (w : World) (h : RelX w b F m) (_ : In64 e) (_ : In64 a) :
    Calls Try.prog 21 #[.pointer (some ⟨b, 0, none⟩), .int .i64 e, .int .i64 a] w fun x w' => x = .returned (.tuple #[.string (m.read e a).1, .int .i64 (m.read e a).2]) ∧ LeftE RelX b F w m w' := by
  refine Calls.mono (R := fun x w' => x = .returned (.tuple #[.string (m.read e a).1, .int .i64 (m.read e a).2]) ∧ Below w.heap.size w w') ?_ fun x w' hq => ⟨hq.1, h.left_below hq.2⟩
  obtain ⟨g, cap, ds, ms, Ds, hr, hb', hg, hd, hF⟩ := h
  clear hb' hg hd hF
  have c0 := hr.on
  have c1 := hr.sec
  have c2 := hr.ext
  by_cases ho : m.off = true
  · have hd' : m.read e a = (⟨#[]⟩, 6) := by unfold Ext.read; rw [if_pos ho]
    rw [hd']
    rw [ho] at c0
    have HR := Lib.hid hr
    have HB := Lib.hid (Below.refl w.heap.size w)
    clear hd' hr ho
    go_enter Try.func21, Try.ntmps21
    go_wp2_with fail
    refine (xPow b _ w c0).mono ?_
    rintro x w' ⟨rfl, rfl⟩
    go_wp2_with fail
    refine (xHas b e a m.ext m.sec cap _ w' c1 c2).mono ?_
    rintro x w2 ⟨rfl, rfl⟩
    generalize (if 0 ≤ e ∧ e < (m.ext : Int) ∧ 0 ≤ a ∧ a < (m.sec : Int) then (0 : Int) else 1) = z
    go_wp2_with fail
    refine (xOr2 6 z 6 rfl _ _ _ (World.cell?_alloc_at _ _ _ _ rfl) (World.cell?_alloc_at _ _ _ _ rfl)).mono ?_
    rintro x w3 ⟨rfl, rfl⟩
    go_wp2_with fail
    go_ret2
    exact ⟨rfl, HB.out.alloc (Nat.le_refl _) _⟩
  have ho' : m.off = false := by simpa using ho
  rw [ho'] at c0
  by_cases hh : m.has e a
  · have hs : (m.secAt (m.pos e a)).dry.size ≤ 64 ∧ (m.secAt (m.pos e a)).now.size ≤ 64 := ⟨(hr.fine _).1, (hr.fine _).2.1⟩
    obtain ⟨en, an, rfl, rfl, hen, han⟩ := has_nat hh
    have hd' : m.read en an = ((m.secAt (en * m.sec + an)).now, 0) := by unfold Ext.read; rw [if_neg ho, if_pos hh, pos_nat]
    rw [hd']
    rw [pos_nat] at hs
    have R := Lib.hid (hr.drySec hen han)
    have c3 := hr.dc en hen
    have c4 := hr.mc en hen
    have HH := Lib.hid hh
    have HR := Lib.hid hr
    have i0 : (0 : Int) ≤ (en : Int) := by omega
    have i1 : (en : Int) < (m.ext : Int) := by omega
    have j0 : (0 : Int) ≤ (an : Int) := by omega
    have j1 : (an : Int) < (m.sec : Int) := by omega
    clear hd' ho ho' hh hr
    go_enter Try.func21, Try.ntmps21
    go_wp2_with fail
    refine (xPow b _ w c0).mono ?_
    rintro x w' ⟨rfl, rfl⟩
    go_wp2_with fail
    refine (xHasYes b m _ _ cap _ w' HH.out c1 c2).mono ?_
    rintro x w2 ⟨rfl, rfl⟩
    go_wp2_with fail
    refine (xOr2 0 0 0 rfl _ _ _ (World.cell?_alloc_at _ _ _ _ rfl) (World.cell?_alloc_at _ _ _ _ rfl)).mono ?_
    rintro x w3 ⟨rfl, rfl⟩
    clear R c0 c1 c2 c3 c4
    obtain ⟨W, hW⟩ : ∃ W, W = w2.alloc (.cells #[.int .i64 0, .int .i64 0] 25) := ⟨_, rfl⟩
    rw [← hW]
    have B := Lib.hid (show Below w2.heap.size w2 W by rw [hW]; exact (Below.refl _ _).alloc (Nat.le_refl _) _)
    have HS := Lib.hid (show w2.heap.size ≤ W.heap.size by rw [hW]; simp)
    have hr := HR.out.below B.out
    have c2 := hr.ext
    have c3 := hr.dc en hen
    have c4 := hr.mc en hen
    have l2 := hr.lt_b
    have l3 := hr.lt_g
    clear hW HR
    obtain ⟨W2, hW2⟩ : ∃ W2, W2 = W.alloc (.cells #[.slice (some ⟨ds en, 0, none⟩) m.sec m.sec, .map (some (ms en))] 63) := ⟨_, rfl⟩
    have B2 := Lib.hid (show Below W.heap.size W W2 by rw [hW2]; exact (Below.refl _ _).alloc (Nat.le_refl _) _)
    have hr2 := hr.below B2.out
    have LK := look_run (hr2.map en hen) (hr2.says en hen) han hr2.ok.2.2.2.1
    have R := Lib.hid (hr2.drySec hen han)
    have FI := Lib.hid (hr2.fine (en * m.sec + an)).2.2
    rw [hW2] at LK
    have g2 := Lib.hid (show W2.heap.size = W.heap.size + 1 by rw [hW2]; simp)
    have HW2 := Lib.hid hW2
    obtain ⟨Z, hZ⟩ : ∃ Z, Z = (rawL 0).toArray := ⟨_, rfl⟩
    have z74 : ∀ W, (zeroValue 74).run Try.prog W = .ok (.agg Z) W := fun W => by rw [hZ]; exact zeroS74 W
    have HZ := Lib.hid hZ
    clear hr hr2 hW2 hZ
    generalize hx : m.secAt (en * m.sec + an) = x at *
    obtain ⟨xd, xn, xw⟩ := x
    have HX := Lib.hid hx
    clear hx
    obtain ⟨hs1, hs2⟩ := hs
    cases xw with
    | true =>
      simp only [if_true] at LK
      have RN := Lib.hid (RowAt.new W2 (secL xn) 74)
      go_wp2_with (first
        | ((with_reducible refine wp_storeN (op := ⟨none, _, _, _, _, _⟩) rfl (.tmp 10) (.tmp 35) rfl W2 (rawL 0) (secL xn) ?c1 ?c2 ?c3 ?c4 ?c5 ?c6 ?_); (case c1 => (rw [← HZ.out, HW2.out])); (case c2 => (rw [g2.out]; rfl)); (case c3 => rfl); (case c4 => exact rawL_len _); (case c5 => exact secL_len _); (case c6 => exact secL_one _))
        | ((with_reducible refine wp_loadS (op := ⟨some 38, _, _, _, _, _⟩) rfl (.tmp 10) rfl (W.heap.size + 1) 0 ?d1 (secL xn) ?d2 ?d3 ?_); (case d1 => rfl); (case d2 => (rw [← g2.out]; exact RN.out.mid (fun j v hv => by rw [Nat.zero_add]; exact hv))); (case d3 => exact secL_len _)))
      refine (xText xn _ hs2).mono ?_
      rintro x w9 ⟨rfl, hb⟩
      go_wp2_with fail
      go_ret2
      exact ⟨by rw [HX.out]; rfl, below_then (below_then (below_then B.out B2.out) ((Below.refl _ _).alloc (Nat.le_refl _) _)) hb⟩
    | false =>
      obtain rfl : xn = xd := FI.out rfl
      have cA : W2.cell? ⟨W.heap.size, 0, none⟩ = some (.slice (some ⟨ds en, 0, none⟩) m.sec m.sec) := by rw [HW2.out, World.cell?_alloc_at _ _ _ _ rfl]; rfl
      have lA : W.heap.size < W2.heap.size := by rw [g2.out]; omega
      have R2 := Lib.hid (rangeAt_below R.out ((Below.refl _ _).alloc (Nat.le_refl _) (.cells (secL ⟨#[]⟩).toArray 74)))
      simp only [if_false, Bool.false_eq_true] at LK
      obtain ⟨E, hE⟩ : ∃ E : ByteArray, E = ⟨#[]⟩ := ⟨_, rfl⟩
      rw [← hE] at LK R2
      clear hE
      have RN := Lib.hid (RowAt.new W2 (secL E) 74)
      go_wp2_with (first
        | ((with_reducible refine wp_storeN (op := ⟨none, _, _, _, _, _⟩) rfl (.tmp 10) (.tmp 35) rfl W2 (rawL 0) (secL E) ?c1 ?c2 ?c3 ?c4 ?c5 ?c6 ?_); (case c1 => (rw [← HZ.out, HW2.out])); (case c2 => (rw [g2.out]; rfl)); (case c3 => rfl); (case c4 => exact rawL_len _); (case c5 => exact secL_len _); (case c6 => exact secL_one _))
        | ((with_reducible refine wp_loadS (op := ⟨some 44, _, _, _, _, _⟩) rfl (.tmp 43) rfl (ds en) (an * 65) ?d1 (secL xn) ?d2 ?d3 ?_); (case d1 => rfl); (case d2 => exact R2.out); (case d3 => exact secL_len _)))
      refine (xText xn _ hs2).mono ?_
      rintro x w9 ⟨rfl, hb⟩
      go_wp2_with fail
      go_ret2
      exact ⟨by rw [HX.out]; rfl, below_then (below_then (below_then B.out B2.out) ((Below.refl _ _).alloc (Nat.le_refl _) _)) hb⟩
  · have hd' : m.read e a = (⟨#[]⟩, 1) := by unfold Ext.read; rw [if_neg ho, if_neg hh]
    rw [hd']
    have HH := Lib.hid hh
    have HB := Lib.hid (Below.refl w.heap.size w)
    clear hd' hr ho hh ho'
    go_enter Try.func21, Try.ntmps21
    go_wp2_with fail
    refine (xPow b _ w c0).mono ?_
    rintro x w' ⟨rfl, rfl⟩
    go_wp2_with fail
    refine (xHasNo b m e a cap _ w' HH.out c1 c2).mono ?_
    rintro x w2 ⟨rfl, rfl⟩
    go_wp2_with fail
    refine (xOr2 0 1 1 rfl _ _ _ (World.cell?_alloc_at _ _ _ _ rfl) (World.cell?_alloc_at _ _ _ _ rfl)).mono ?_
    rintro x w3 ⟨rfl, rfl⟩
    go_wp2_with fail
    go_ret2
    exact ⟨rfl, HB.out.alloc (Nat.le_refl _) _⟩

end Go.Proofs.Ytjghpacpeojejaa
