/- Proved parts: S7ge. Conditions: each theorem's own. -/
import Derived.Test.YtfodclafkdkjbaaDoorM37
import Derived.Test.YtfodclafkdkjbaaDoorM32
import Derived.Test.YtfodclafkdkjbaaDoorM42
import Derived.BigRegion
namespace Go.Proofs.YtfodclafkdkjbaaDoor
open Go.RowKit

theorem LeftE.after {b : Nat} {F : Nat → Prop} {m : Ext} {w w1 w2 : World} (hb : Below w.heap.size w w1) (h : LeftE RelX b F w1 m w2) : LeftE RelX b F w m w2 := by
  obtain ⟨hc, F', hx, hF⟩ := h
  exact ⟨(Chg.of_below hb).then hc, F', hx, fun k hk => (hF k hk).imp id fun q => Nat.le_trans hb.size q⟩

theorem RowAt.drew {w : World} {g : Nat} {cs : List Value} {t : TypeId} (h : RowAt w g cs t) : RowAt w.drew g cs t := h
set_option maxRecDepth 100000 in
set_option maxHeartbeats 1000000 in
/-- end -/
theorem qEnd (b bl px e : Nat) (l : Lg) (i1 i2 i3 i4 i6 : Int) (v5 : Value) (w : World) (hr : RowAt w bl (logL b e l) 79) (hne : px ≠ bl)
    (hx : RowAt w px [.pointer (some ⟨bl, 0, none⟩), .int .i64 i1, .int .i64 i2, .int .i64 i3, .int .i64 i4, v5, .int .i64 i6] 98) :
    Calls Tryd.prog 47 #[.pointer (some ⟨px, 0, none⟩)] w fun x w' => x = .returned (.tuple #[]) ∧ RowAt w' bl [.pointer (some ⟨b, 0, none⟩), .int .i64 (l.first : Int), .int .i64 (l.life - 1), .bool false, .int .i64 i1, .int .i64 i2, .int .i64 i3] 79 ∧ RowAt w' px wrZ 98 ∧ Chg (fun k => k = bl ∨ k = px) w w' := by
  have c0 := hx.cell 0
  have c1 := hx.cell 1
  have c2 := hx.cell 2
  have c3 := hx.cell 3
  have c4 := hx.cell 4
  have c5 := hx.cell 5
  have c6 := hx.cell 6
  simp only [List.getElem?_cons_succ, List.getElem?_cons_zero] at c0 c1 c2 c3 c4 c5 c6
  have f0 := hx.frozen 0
  have f1 := hx.frozen 1
  have f2 := hx.frozen 2
  have f3 := hx.frozen 3
  have f4 := hx.frozen 4
  have f5 := hx.frozen 5
  have f6 := hx.frozen 6
  have d3 := hr.cell 3
  have d4 := hr.cell 4
  have d5 := hr.cell 5
  have d6 := hr.cell 6
  simp only [logL, List.getElem?_cons_succ, List.getElem?_cons_zero] at d3 d4 d5 d6
  have e3 := hr.frozen 3
  have e4 := hr.frozen 4
  have e5 := hr.frozen 5
  have e6 := hr.frozen 6
  have HR := Lib.hid hr
  have HX := Lib.hid hx
  have hne2 : bl ≠ px := Ne.symm hne
  clear hr hx
  go_enter Tryd.func47, Tryd.ntmps47
  go_wp2_with fail
  go_region
  go_wp2_with fail
  refine bodyPost_end (results_none rfl _ _ _) rfl ?_
  have a1 := HR.out.set 4 (.int .i64 i1)
  have a2 := a1.set 5 (.int .i64 i2)
  have a3 := a2.set 6 (.int .i64 i3)
  have a4 := a3.set 3 (.bool false)
  have b1 := HX.out.other (p := ⟨bl, 4, none⟩) hne2 (.int .i64 i1)
  have b2 := b1.other (p := ⟨bl, 5, none⟩) hne2 (.int .i64 i2)
  have b3 := b2.other (p := ⟨bl, 6, none⟩) hne2 (.int .i64 i3)
  have b4 := b3.other (p := ⟨bl, 3, none⟩) hne2 (.bool false)
  have g0 := Chg.refl (fun k => k = bl ∨ k = px) w
  have g1 := g0.setCell (p := ⟨bl, 4, none⟩) (.inl (.inl rfl)) (.int .i64 i1)
  have g2 := g1.setCell (p := ⟨bl, 5, none⟩) (.inl (.inl rfl)) (.int .i64 i2)
  have g3 := g2.setCell (p := ⟨bl, 6, none⟩) (.inl (.inl rfl)) (.int .i64 i3)
  have g4 := g3.setCell (p := ⟨bl, 3, none⟩) (.inl (.inl rfl)) (.bool false)
  have a5 := a4.other (p := ⟨px, 0, none⟩) hne (.pointer none)
  have b5 := b4.set 0 (.pointer none)
  have g5 := g4.setCell (p := ⟨px, 0, none⟩) (.inl (.inr rfl)) (.pointer none)
  have a6 := a5.other (p := ⟨px, 1, none⟩) hne (.int .i64 0)
  have b6 := b5.set 1 (.int .i64 0)
  have g6 := g5.setCell (p := ⟨px, 1, none⟩) (.inl (.inr rfl)) (.int .i64 0)
  have a7 := a6.other (p := ⟨px, 2, none⟩) hne (.int .i64 0)
  have b7 := b6.set 2 (.int .i64 0)
  have g7 := g6.setCell (p := ⟨px, 2, none⟩) (.inl (.inr rfl)) (.int .i64 0)
  have a8 := a7.other (p := ⟨px, 3, none⟩) hne (.int .i64 0)
  have b8 := b7.set 3 (.int .i64 0)
  have g8 := g7.setCell (p := ⟨px, 3, none⟩) (.inl (.inr rfl)) (.int .i64 0)
  have a9 := a8.other (p := ⟨px, 4, none⟩) hne (.int .i64 0)
  have b9 := b8.set 4 (.int .i64 0)
  have g9 := g8.setCell (p := ⟨px, 4, none⟩) (.inl (.inr rfl)) (.int .i64 0)
  have a10 := a9.other (p := ⟨px, 5, none⟩) hne (.slice none 0 0)
  have b10 := b9.set 5 (.slice none 0 0)
  have g10 := g9.setCell (p := ⟨px, 5, none⟩) (.inl (.inr rfl)) (.slice none 0 0)
  have a11 := a10.other (p := ⟨px, 6, none⟩) hne (.int .i64 0)
  have b11 := b10.set 6 (.int .i64 0)
  have g11 := g10.setCell (p := ⟨px, 6, none⟩) (.inl (.inr rfl)) (.int .i64 0)
  have e1 : ((((logL b e l).set 4 (.int .i64 i1)).set 5 (.int .i64 i2)).set 6 (.int .i64 i3)).set 3 (.bool false) = [.pointer (some ⟨b, 0, none⟩), .int .i64 (l.first : Int), .int .i64 (l.life - 1), .bool false, .int .i64 i1, .int .i64 i2, .int .i64 i3] := rfl
  rw [e1] at a11
  exact ⟨rfl, a11.drew, b11.drew, g11.drew⟩

/-- what ask does -/
def askP (m : Ext) (l : Lg) (x : Wr) : Ext × Int :=
  if x.moves < x.parts.length then m.write (l.to x.base : Nat) (l.fr x.base + x.moves : Nat) (x.sector l) else m.flush (l.to x.base : Nat)
set_option maxRecDepth 100000 in
set_option maxHeartbeats 2000000 in
/-- ask -/
theorem qAsk (b bl px gp cp e : Nat) (F : Nat → Prop) (m : Ext) (l : Lg) (x : Wr) (w : World) (hx : RelX w b F m) (nF : ¬ F px) (hl : RowAt w bl (logL b e l) 79) (hw : RowAt w px (wrL bl gp cp l x) 98)
    (ho : OwnS w gp (.slice (some ⟨gp, 0, none⟩) x.parts.length cp) x.parts) (hk : x.moves ≤ x.parts.length) (ok : MvOk m.sec l x) :
    Calls Tryd.prog 48 #[.pointer (some ⟨px, 0, none⟩)] w fun y w' => y = .returned (.int .i64 (askP m l x).2) ∧ LeftE RelX b F w (askP m l x).1 w' := by
  have c0 := hw.cell 0
  have c1 := hw.cell 1
  have c2 := hw.cell 2
  have c4 := hw.cell 4
  have c5 := hw.cell 5
  have c6 := hw.cell 6
  simp only [wrL, List.getElem?_cons_succ, List.getElem?_cons_zero] at c0 c1 c2 c4 c5 c6
  have d0 := hl.cell 0
  have d2 := hl.cell 2
  simp only [logL, List.getElem?_cons_succ, List.getElem?_cons_zero] at d0 d2
  have hn := ok.n
  have ht : l.to x.base ≤ 101 := by
    have := ok.f; have := ok.a
    unfold Lg.to; split
    · split <;> omega
    · omega
  obtain ⟨t, hT⟩ : ∃ t, t = l.to x.base := ⟨_, rfl⟩
  obtain ⟨n, hN⟩ : ∃ n, n = x.parts.length := ⟨_, rfl⟩
  obtain ⟨k, hK⟩ : ∃ k, k = x.moves := ⟨_, rfl⟩
  rw [← hT] at c1 ht
  rw [← hN] at c5 hn hk
  rw [← hK] at c6 hk
  have HX := Lib.hid hx
  by_cases q : k < n
  · have hm := ok.may (by rw [← hK, ← hN]; exact q)
    have st := hm.stamp (j := k) (by rw [← hN]; exact q)
    have hsm := hm.small k (by rw [← hN]; exact q)
    obtain ⟨d, hd⟩ : ∃ d, d = x.parts.getD k ⟨#[]⟩ := ⟨_, rfl⟩
    rw [← hd] at hsm
    have cd := ho.cell (j := k) (by rw [← hN]; exact q)
    rw [← hd] at cd
    obtain ⟨f, hf⟩ : ∃ f, f = l.fr x.base := ⟨_, rfl⟩
    obtain ⟨a, ha⟩ : ∃ a, a = f + k := ⟨_, rfl⟩
    obtain ⟨G, hG⟩ : ∃ G, G = l.gn x.base := ⟨_, rfl⟩
    obtain ⟨Y, hY⟩ : ∃ Y, Y = l.life := ⟨_, rfl⟩
    obtain ⟨V, hV⟩ : ∃ V, V = l.life - 1 := ⟨_, rfl⟩
    have fit := hm.fit
    have s1 := hm.s1
    have y0 := hm.y0
    have y1 := hm.y1
    have g1 := hm.g1
    have g0 := hm.g0
    rw [← hG] at c2 st g0 g1
    rw [← hf] at c4 st fit
    rw [← ha, ← hN] at st
    rw [← hV] at d2
    rw [← hY] at st y0 y1
    have A := Lib.hid (show askP m l x = m.write (t : Nat) (a : Nat) (pack6 ⟨G, (a : Nat), Y, (k : Nat), (n : Nat)⟩ d) by
      unfold askP Wr.sector newS; rw [← hK, ← hN, if_pos q, hT, ← hf, ← ha, ← hG, ← hY, ← hd])
    rw [A.out]
    obtain ⟨z, hz⟩ : ∃ z, z = pack6 ⟨G, (a : Nat), Y, (k : Nat), (n : Nat)⟩ d := ⟨_, rfl⟩
    have z64 : z.size = 64 := by rw [hz, pack6_size]
    have PK := Lib.hid (fun (w : World) => (show Calls Tryd.prog 61 #[.agg #[.int .i64 G, .int .i64 (a : Int), .int .i64 Y, .int .i64 (k : Int), .int .i64 (n : Int)], .string d] w fun e w' => e = .returned (.tuple #[.string z, .int .i64 0]) ∧ Below w.heap.size w w' by
      have h := theX.pack ⟨G, (a : Nat), Y, (k : Nat), (n : Nat)⟩ d w (Stp.fits_ok st) (by omega)
      rw [st, if_pos (by simpa using hsm), if_pos rfl, if_pos hsm, ← hz] at h
      exact h))
    have WR := Lib.hid (fun (w : World) (h : RelX w b F m) => xWrite b F m (t : Int) (a : Int) z w h ⟨by omega, by omega⟩ ⟨by omega, by omega⟩ (by omega))
    rw [← hz]
    have WA2 : IntKind.i64.wrap ((f : Int) + (k : Int)) = (a : Int) := by rw [IntKind.wrap_i64]; omega
    have WY : IntKind.i64.wrap (V + 1) = Y := by rw [IntKind.wrap_i64]; omega
    have HB := Lib.hid hw
    clear hx hl hw ho ok hT hN hK hk hm st hsm hd hf ha hG hY hV hz g0 g1 y0 y1 fit
    go_enter Tryd.func48, Tryd.ntmps48
    go_wp2_with fail
    go_quiet (fail)
    obtain ⟨w1, hw1⟩ : ∃ w1, w1 = w.drewN nq := ⟨_, rfl⟩
    have B1 := Lib.hid (show Below w.heap.size w w1 by rw [hw1]; exact belowDN _ _)
    have X1 := Lib.hid (show RelX w1 b F m by rw [hw1]; exact RelX.keep HX.out (fun _ _ => rfl) (Nat.le_refl _))
    have a0 : w1.cell? ⟨px, 0, none⟩ = some (.pointer (some ⟨bl, 0, none⟩)) := by rw [hw1]; exact c0
    have a1 : w1.cell? ⟨px, 1, none⟩ = some (.int .i64 (t : Int)) := by rw [hw1]; exact c1
    have a2 : w1.cell? ⟨px, 2, none⟩ = some (.int .i64 G) := by rw [hw1]; exact c2
    have a4 : w1.cell? ⟨px, 4, none⟩ = some (.int .i64 (f : Int)) := by rw [hw1]; exact c4
    have a5 : w1.cell? ⟨px, 5, none⟩ = some (.slice (some ⟨gp, 0, none⟩) n cp) := by rw [hw1]; exact c5
    have a6 : w1.cell? ⟨px, 6, none⟩ = some (.int .i64 (k : Int)) := by rw [hw1]; exact c6
    have b2 : w1.cell? ⟨bl, 2, none⟩ = some (.int .i64 V) := by rw [hw1]; exact d2
    have cd1 : w1.cell? ⟨gp, k, none⟩ = some (.string d) := by rw [hw1]; exact cd
    rw [← hw1]
    clear hw1 c0 c1 c2 c4 c5 c6 d0 d2 cd
    go_wp2_with fail
    have lp : px < w1.heap.size := World.block_lt_of_cell? w1 ⟨px, 0, none⟩ a0
    have lb : bl < w1.heap.size := World.block_lt_of_cell? w1 ⟨bl, 2, none⟩ b2
    have HC := Lib.hid (show w1.cell? ⟨px, 0, none⟩ = some (.pointer (some ⟨bl, 0, none⟩)) ∧ w1.cell? ⟨px, 2, none⟩ = some (.int .i64 G) ∧ w1.cell? ⟨px, 4, none⟩ = some (.int .i64 (f : Int)) ∧ w1.cell? ⟨px, 5, none⟩ = some (.slice (some ⟨gp, 0, none⟩) n cp) ∧ w1.cell? ⟨px, 6, none⟩ = some (.int .i64 (k : Int)) ∧ w1.cell? ⟨bl, 2, none⟩ = some (.int .i64 V) from ⟨a0, a2, a4, a5, a6, b2⟩)
    go_region_held3 (fun w' => w'.cell? ⟨px, 0, none⟩ = some (.pointer (some ⟨bl, 0, none⟩)) ∧ w'.cell? ⟨px, 2, none⟩ = some (.int .i64 G) ∧ w'.cell? ⟨px, 4, none⟩ = some (.int .i64 (f : Int)) ∧ w'.cell? ⟨px, 5, none⟩ = some (.slice (some ⟨gp, 0, none⟩) n cp) ∧ w'.cell? ⟨px, 6, none⟩ = some (.int .i64 (k : Int)) ∧ w'.cell? ⟨bl, 2, none⟩ = some (.int .i64 V))
      (first
        | go_keep
        | exact HC.out)
      (fail)
    obtain ⟨w2, hw2⟩ : ∃ w2, w2 = (w1.alloc (.cells #[.int .i64 G, .int .i64 (a : Int), .int .i64 Y, .int .i64 (k : Int), .int .i64 (n : Int)] 110)).drew := ⟨_, rfl⟩
    have lg : gp < w1.heap.size := World.block_lt_of_cell? w1 ⟨gp, k, none⟩ cd1
    have R2 : RowAt w2 w1.heap.size [.int .i64 G, .int .i64 (a : Int), .int .i64 Y, .int .i64 (k : Int), .int .i64 (n : Int)] 110 := by
      rw [hw2]; exact RowAt.drew (RowAt.new w1 _ _)
    have B2 : Below w1.heap.size w1 w2 := by rw [hw2]; exact ((Below.refl _ w1).alloc (Nat.le_refl _) _).drew
    rw [← hw2]
    have e0 := R2.cell 0
    have e1 := R2.cell 1
    have e2 := R2.cell 2
    have e3 := R2.cell 3
    have e4 := R2.cell 4
    simp only [List.getElem?_cons_succ, List.getElem?_cons_zero] at e0 e1 e2 e3 e4
    have b1 : w2.cell? ⟨px, 1, none⟩ = some (.int .i64 (t : Int)) := (B2.cell (p := ⟨px, 1, none⟩) lp).trans a1
    have b5 : w2.cell? ⟨px, 5, none⟩ = some (.slice (some ⟨gp, 0, none⟩) n cp) := (B2.cell (p := ⟨px, 5, none⟩) lp).trans a5
    have b6 : w2.cell? ⟨px, 6, none⟩ = some (.int .i64 (k : Int)) := (B2.cell (p := ⟨px, 6, none⟩) lp).trans a6
    have cd2 : w2.cell? ⟨gp, k, none⟩ = some (.string d) := (B2.cell (p := ⟨gp, k, none⟩) lg).trans cd1
    have lp2 : px < w2.heap.size := Nat.lt_of_lt_of_le lp B2.size
    have BB := Lib.hid (below_then B1.out B2)
    have X2 := Lib.hid (show RelX w2 b F m from RelX.keep X1.out (fun j hj => B2.block j (RelX.lt X1.out hj)) B2.size)
    have lo : w1.heap.size < w2.heap.size := R2.lt
    obtain ⟨r, hr⟩ : ∃ r, r = w1.heap.size := ⟨_, rfl⟩
    have nr := Lib.hid (show ¬ F r from fun hF => by have := RelX.lt X1.out hF; omega)
    have np := Lib.hid nF
    rw [← hr] at e0 e1 e2 e3 e4 lo ⊢
    clear hw2 R2 B2 hr a0 a1 a2 a4 a5 a6 b2 cd1 lp lb lg HC
    go_wp2_with fail
    have HC2 := Lib.hid (show w2.cell? ⟨px, 5, none⟩ = some (.slice (some ⟨gp, 0, none⟩) n cp) ∧ w2.cell? ⟨px, 6, none⟩ = some (.int .i64 (k : Int)) ∧ w2.cell? ⟨gp, k, none⟩ = some (.string d) ∧ w2.cell? ⟨r, 0, none⟩ = some (.int .i64 G) ∧ w2.cell? ⟨r, 1, none⟩ = some (.int .i64 (a : Int)) ∧ w2.cell? ⟨r, 2, none⟩ = some (.int .i64 Y) ∧ w2.cell? ⟨r, 3, none⟩ = some (.int .i64 (k : Int)) ∧ w2.cell? ⟨r, 4, none⟩ = some (.int .i64 (n : Int)) from ⟨b5, b6, cd2, e0, e1, e2, e3, e4⟩)
    have lg2 : gp < w2.heap.size := World.block_lt_of_cell? w2 ⟨gp, k, none⟩ cd2
    go_region_held3 (fun w' => w'.cell? ⟨px, 5, none⟩ = some (.slice (some ⟨gp, 0, none⟩) n cp) ∧ w'.cell? ⟨px, 6, none⟩ = some (.int .i64 (k : Int)) ∧ w'.cell? ⟨gp, k, none⟩ = some (.string d) ∧ w'.cell? ⟨r, 0, none⟩ = some (.int .i64 G) ∧ w'.cell? ⟨r, 1, none⟩ = some (.int .i64 (a : Int)) ∧ w'.cell? ⟨r, 2, none⟩ = some (.int .i64 Y) ∧ w'.cell? ⟨r, 3, none⟩ = some (.int .i64 (k : Int)) ∧ w'.cell? ⟨r, 4, none⟩ = some (.int .i64 (n : Int)))
      (first
        | go_keep
        | exact HC3.out
        | exact HC2.out)
      (first
        | (go_at_call 61; (with_reducible refine (PK.out _).mono ?_); rintro y w3 ⟨rfl, hb3⟩; have HB3 := Lib.hid (Below.trans ((Below.refl w2.heap.size w2).drew) hb3); have HC3 := Lib.hid (show w3.cell? ⟨px, 5, none⟩ = some (.slice (some ⟨gp, 0, none⟩) n cp) ∧ w3.cell? ⟨px, 6, none⟩ = some (.int .i64 (k : Int)) ∧ w3.cell? ⟨gp, k, none⟩ = some (.string d) ∧ w3.cell? ⟨r, 0, none⟩ = some (.int .i64 G) ∧ w3.cell? ⟨r, 1, none⟩ = some (.int .i64 (a : Int)) ∧ w3.cell? ⟨r, 2, none⟩ = some (.int .i64 Y) ∧ w3.cell? ⟨r, 3, none⟩ = some (.int .i64 (k : Int)) ∧ w3.cell? ⟨r, 4, none⟩ = some (.int .i64 (n : Int)) from ⟨(HB3.out.cell (p := ⟨px, 5, none⟩) lp2).trans b5, (HB3.out.cell (p := ⟨px, 6, none⟩) lp2).trans b6, (HB3.out.cell (p := ⟨gp, k, none⟩) lg2).trans cd2, (HB3.out.cell (p := ⟨r, 0, none⟩) lo).trans e0, (HB3.out.cell (p := ⟨r, 1, none⟩) lo).trans e1, (HB3.out.cell (p := ⟨r, 2, none⟩) lo).trans e2, (HB3.out.cell (p := ⟨r, 3, none⟩) lo).trans e3, (HB3.out.cell (p := ⟨r, 4, none⟩) lo).trans e4⟩); clear hb3))
    have b1' : w3.cell? ⟨px, 1, none⟩ = some (.int .i64 (t : Int)) := (HB3.out.cell (p := ⟨px, 1, none⟩) lp2).trans b1
    have e1' : w3.cell? ⟨r, 1, none⟩ = some (.int .i64 (a : Int)) := (HB3.out.cell (p := ⟨r, 1, none⟩) lo).trans e1
    have BB3 := Lib.hid (below_then BB.out HB3.out)
    have X3 := Lib.hid (show RelX w3 b F m from RelX.keep X2.out (fun j hj => HB3.out.block j (RelX.lt X2.out hj)) HB3.out.size)
    have HC4 := Lib.hid (show w3.cell? ⟨px, 1, none⟩ = some (.int .i64 (t : Int)) ∧ w3.cell? ⟨r, 1, none⟩ = some (.int .i64 (a : Int)) from ⟨b1', e1'⟩)
    clear e0 e1 e2 e3 e4 b1 b5 b6 cd2 lg2 HC2 HC3
    have lp3 : px < w3.heap.size := World.block_lt_of_cell? w3 ⟨px, 1, none⟩ b1'
    have lo3 : r < w3.heap.size := World.block_lt_of_cell? w3 ⟨r, 1, none⟩ e1'
    clear lp2 lo HB3
    go_wp2_with fail
    have X4 := Lib.hid (show RelX w3.drew b F m from RelX.keep X3.out (fun _ _ => rfl) (Nat.le_refl _))
    have B4 := Lib.hid (below_drew BB3.out)
    go_region_held3 (fun w' => w'.cell? ⟨px, 1, none⟩ = some (.int .i64 (t : Int)) ∧ w'.cell? ⟨r, 1, none⟩ = some (.int .i64 (a : Int)))
      (first
        | go_keep
        | exact HC5.out
        | exact HC4.out)
      (first
        | (go_at_call 62; (with_reducible refine (WR.out _ X4.out).mono ?_); rintro y w5 ⟨rfl, hL⟩; have L5 := Lib.hid (LeftE.after B4.out hL); have HC5 := Lib.hid (show w5.cell? ⟨px, 1, none⟩ = some (.int .i64 (t : Int)) ∧ w5.cell? ⟨r, 1, none⟩ = some (.int .i64 (a : Int)) from ⟨hL.1.cell (p := ⟨px, 1, none⟩) b1' np.out, hL.1.cell (p := ⟨r, 1, none⟩) e1' nr.out⟩); clear hL))
    go_wp2_with fail
    go_ret
    exact ⟨rfl, L5.out⟩
  · have hkn : k = n := by omega
    have A := Lib.hid (show askP m l x = m.flush (t : Nat) by unfold askP; rw [← hK, ← hN, if_neg q, hT])
    have FL := Lib.hid (fun (w : World) (h : RelX w b F m) => xFlush b F m (t : Int) w h ⟨by omega, by omega⟩)
    rw [A.out]
    subst hkn
    clear hx hl hw ho ok hT hN hK q hk
    go_enter Tryd.func48, Tryd.ntmps48
    go_wp2_with fail
    go_quiet (fail)
    obtain ⟨w1, hw1⟩ : ∃ w1, w1 = w.drewN nq := ⟨_, rfl⟩
    have B1 := Lib.hid (show Below w.heap.size w w1 by rw [hw1]; exact belowDN _ _)
    have X1 := Lib.hid (show RelX w1 b F m by rw [hw1]; exact RelX.keep HX.out (fun _ _ => rfl) (Nat.le_refl _))
    have c1' : w1.cell? ⟨px, 1, none⟩ = some (.int .i64 (t : Int)) := by rw [hw1]; exact c1
    rw [← hw1]
    clear hw1 c0 c1 c2 c4 c5 c6 d0 d2
    go_wp2_with fail
    refine (FL.out _ X1.out).mono ?_
    rintro y w2 ⟨rfl, hL⟩
    have L2 := Lib.hid (LeftE.after B1.out hL)
    clear hL
    go_wp2_with fail
    go_ret
    exact ⟨rfl, L2.out⟩

end Go.Proofs.YtfodclafkdkjbaaDoor
