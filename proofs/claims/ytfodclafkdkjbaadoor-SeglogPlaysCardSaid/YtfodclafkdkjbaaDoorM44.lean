/- Proved parts: S7gf. Conditions: each theorem's own. -/
import Derived.Test.YtfodclafkdkjbaaDoorM43
namespace Go.Proofs.YtfodclafkdkjbaaDoor
open Go.RowKit

theorem askP_err {m : Ext} {l : Lg} {x : Wr} (h : (askP m l x).2 ≠ 0) : (askP m l x).1 = m := by
  revert h
  unfold askP Ext.write Ext.flush
  split
  · split
    · intro _; rfl
    · split
      · split
        · intro _; rfl
        · intro h; exact absurd rfl h
      · intro _; rfl
  · split
    · intro _; rfl
    · split
      · intro h; exact absurd rfl h
      · intro _; rfl
theorem move_ask {m : Ext} {l : Lg} {x : Wr} (h : x.moves ≤ x.parts.length) : Go.Proofs.YtfodclafkdkjbaaDoor.move m l x = if (askP m l x).2 = 0 then ((askP m l x).1, l, { x with moves := x.moves + 1 }, 1, 0) else (m, l, x, 0, (askP m l x).2) := by
  unfold Go.Proofs.YtfodclafkdkjbaaDoor.move askP
  rw [if_neg (by omega)]
  by_cases q : x.moves < x.parts.length
  · rw [if_pos q, if_pos q]
  · rw [if_neg q, if_pos (by omega), if_neg q]
theorem move_last {m : Ext} {l : Lg} {x : Wr} (h : x.moves = x.parts.length + 1) : Go.Proofs.YtfodclafkdkjbaaDoor.move m l x = (m, { l with at_ := l.to x.base, gen := l.gn x.base, used := l.fr x.base + x.parts.length, busy := false }, { x with moves := x.moves + 1 }, 2, 0) := by
  unfold Go.Proofs.YtfodclafkdkjbaaDoor.move
  rw [if_neg (by omega), if_neg (by omega), if_neg (by omega)]
theorem move_done {m : Ext} {l : Lg} {x : Wr} (h : x.moves = x.parts.length + 2) : Go.Proofs.YtfodclafkdkjbaaDoor.move m l x = (m, l, x, 2, 0) := by
  unfold Go.Proofs.YtfodclafkdkjbaaDoor.move
  rw [if_pos h]
/-- the log behind a writer that is done -/
theorem LogAt.next {w w' : World} {b bl : Nat} {l : Lg} {x : Wr} (h : LogAt w b bl l) (h1 : l.fr x.base + x.parts.length ≤ 1000) (h2 : l.gn x.base ≤ 2147483647)
    (hr : RowAt w' bl [.pointer (some ⟨b, 0, none⟩), .int .i64 (l.first : Int), .int .i64 (l.life - 1), .bool false, .int .i64 (l.to x.base : Nat), .int .i64 (l.gn x.base), .int .i64 (l.fr x.base + x.parts.length : Nat)] 79) :
    LogAt w' b bl { l with at_ := l.to x.base, gen := l.gn x.base, used := l.fr x.base + x.parts.length, busy := false } := by
  have hf := h.f
  have ha := h.a
  have hz := h.z
  have g0 := h.g0
  refine ⟨⟨l.to x.base, hr, fun _ => rfl, ?_⟩, h.f, ?_, ?_, ?_, h2, h.y0, h.y1, h1⟩
  · unfold Lg.to; split
    · split <;> omega
    · omega
  · show l.to x.base = l.first ∨ l.to x.base = l.first + 1
    unfold Lg.to; split
    · split
      · exact .inr rfl
      · exact .inl rfl
    · exact ha
  · show l.gn x.base = 0 → l.to x.base = l.first + 1
    unfold Lg.gn Lg.to; split
    · intro q; omega
    · exact hz
  · show 0 ≤ l.gn x.base
    unfold Lg.gn; split <;> omega

set_option maxRecDepth 100000 in
set_option maxHeartbeats 2000000 in
/-- Move -/
theorem qMove (N : Nat → Prop) (b bl px : Nat) (m : Ext) (l : Lg) (y : Wr) (w : World) (hq : theQ w N b bl (some px) m l (some y)) (ok : MvOk m.sec l y) :
    Calls Tryd.prog 22 #[.pointer (some ⟨px, 0, none⟩)] w fun x w' =>
      x = .returned (.tuple #[.int .i64 (Go.Proofs.YtfodclafkdkjbaaDoor.move m l y).2.2.2.1, .int .i64 (Go.Proofs.YtfodclafkdkjbaaDoor.move m l y).2.2.2.2]) ∧ theQ w' N b bl (some px) (Go.Proofs.YtfodclafkdkjbaaDoor.move m l y).1 (Go.Proofs.YtfodclafkdkjbaaDoor.move m l y).2.1 (some (Go.Proofs.YtfodclafkdkjbaaDoor.move m l y).2.2.1) ∧ Kept N w w' := by
  have HQ := Lib.hid hq
  obtain ⟨F, h⟩ := hq
  obtain ⟨px', e, n1, n2, n3, hw⟩ := h.wr
  injection e with e
  subst e
  rcases hw with ⟨k1, hr⟩ | ⟨k1, k2, k3, gp, cp, g1, g2, g3, g4, hr, ho⟩
  · rw [move_done k1]
    have c0 := hr.cell 0
    simp only [wrZ, List.getElem?_cons_zero] at c0
    have KP := Lib.hid (Kept.refl N w)
    clear ok h hr k1 n1 n2 n3
    go_enter Tryd.func22, Tryd.ntmps22
    go_wp2_with fail
    go_ret2
    exact ⟨rfl, HQ.out, KP.out⟩
  have c0 := hr.cell 0
  have c5 := hr.cell 5
  have c6 := hr.cell 6
  simp only [wrL, List.getElem?_cons_succ, List.getElem?_cons_zero] at c0 c5 c6
  have hn := ok.n
  by_cases hl : y.moves = y.parts.length + 1
  · rw [move_last hl]
    obtain ⟨e, lr, _, _⟩ := h.log.row
    obtain ⟨n, hN⟩ : ∃ n, n = y.parts.length := ⟨_, rfl⟩
    rw [← hN] at c5 hn
    rw [hl, ← hN] at c6
    have dg : decide (((n : Nat) : Int) < ((n + 1 : Nat) : Int)) = true := decide_eq_true (by omega)
    obtain ⟨k, hk⟩ : ∃ k, k = n + 1 := ⟨_, rfl⟩
    rw [← hk] at c6
    have EN := Lib.hid (fun (w : World) (h1 : RowAt w bl (logL b e l) 79) (h2 : RowAt w px (wrL bl gp cp l y) 98) => qEnd b bl px e l _ _ _ _ _ _ w h1 n1 h2)
    have LR := Lib.hid lr
    have WR := Lib.hid hr
    have H := Lib.hid h
    have K2 := Lib.hid k2
    have K3 := Lib.hid k3
    have HL := Lib.hid hl
    have N1 := Lib.hid n1
    have N2 := Lib.hid n2
    have N3 := Lib.hid n3
    clear ok h hr lr k1 k2 k3 hl hN ho n1 n2 n3 dg g1 g2 g3 g4
    go_enter Tryd.func22, Tryd.ntmps22
    go_wp2_with fail
    go_quiet (fail)
    obtain ⟨w1, hw1⟩ : ∃ w1, w1 = w.drewN nq := ⟨_, rfl⟩
    have B1 := Lib.hid (show Below w.heap.size w w1 by rw [hw1]; exact belowDN _ _)
    rw [← hw1]
    clear hw1 c0 c5 c6
    go_wp2_with fail
    refine (EN.out _ (LR.out.below B1.out) (WR.out.below B1.out)).mono ?_
    rintro r w2 ⟨rfl, r1, r2, r3⟩
    have R1 := Lib.hid r1
    have R2 := Lib.hid r2
    have C2 := Lib.hid (show Chg (fun k => k = bl ∨ k = px) w w2 from (Chg.of_below B1.out).then r3)
    clear r1 r2 r3
    go_wp2_with fail
    go_ret2
    have hh := H.out
    have c2 := C2.out
    have np := N1.out
    have nf := N2.out
    have nn := N3.out
    refine ⟨rfl, ⟨F, RelX.keep hh.x (fun k hk => c2.block k (hh.x.lt hk) (by rintro (q | q); exact hh.bF (q ▸ hk); exact nf (q ▸ hk))) c2.size, hh.fn, fun k hk => Nat.lt_of_lt_of_le (hh.nl k hk) c2.size, hh.bF, hh.bN, hh.log.next K2.out K3.out R1.out, ⟨px, rfl, np, nf, nn, .inl ⟨?_, R2.out⟩⟩⟩, c2.mono ?_⟩
    · show y.moves + 1 = y.parts.length + 2
      rw [HL.out]
    · rintro k (q | q)
      · rw [q]; exact hh.bN
      · rw [q]; exact nn
  · have hk : y.moves ≤ y.parts.length := by omega
    rw [move_ask hk]
    obtain ⟨e, lr, _, _⟩ := h.log.row
    obtain ⟨n, hN⟩ : ∃ n, n = y.parts.length := ⟨_, rfl⟩
    obtain ⟨k, hK⟩ : ∃ k, k = y.moves := ⟨_, rfl⟩
    rw [← hN] at c5 hn
    rw [← hK] at c6
    have kn : k ≤ n := by omega
    have AK := Lib.hid (fun (w : World) (h0 : RelX w b F m) (h1 : RowAt w bl (logL b e l) 79) (h2 : RowAt w px (wrL bl gp cp l y) 98) (h3 : OwnS w gp (.slice (some ⟨gp, 0, none⟩) y.parts.length cp) y.parts) => qAsk b bl px gp cp e F m l y w h0 n2 h1 h2 h3 hk ok)
    have LR := Lib.hid lr
    have WR := Lib.hid hr
    have OW := Lib.hid ho
    have H := Lib.hid h
    have G := Lib.hid (show px ≠ bl ∧ ¬ F px ∧ ¬ N px ∧ gp ≠ bl ∧ gp ≠ px ∧ ¬ F gp ∧ ¬ N gp from ⟨n1, n2, n3, g1, g2, g3, g4⟩)
    have K := Lib.hid (show y.moves ≤ y.parts.length ∧ l.fr y.base + y.parts.length ≤ 1000 ∧ l.gn y.base ≤ 2147483647 from ⟨hk, k2, k3⟩)
    have HK := Lib.hid hK
    have AE := Lib.hid (fun h => askP_err (m := m) (l := l) (x := y) h)
    obtain ⟨m', hm'⟩ : ∃ m', m' = (askP m l y).1 := ⟨_, rfl⟩
    obtain ⟨r, hr'⟩ : ∃ r, r = (askP m l y).2 := ⟨_, rfl⟩
    rw [← hm', ← hr'] at AK AE
    rw [← hm', ← hr']
    -- what a world that asked leaves
    have FIN := Lib.hid (show ∀ w2, LeftE RelX b F w m' w2 → theQ w2 N b bl (some px) m' l (some y) ∧ Kept N w w2 from fun w2 ⟨hc, F', hx, hF⟩ => ⟨⟨F', h.world hc hx hF⟩, h.kept hc⟩)
    have FIN2 := Lib.hid (show ∀ w2, LeftE RelX b F w m' w2 → theQ (w2.setCell ⟨px, 6, none⟩ (.int .i64 (k + 1 : Nat))) N b bl (some px) m' l (some { y with moves := y.moves + 1 }) ∧ Kept N w (w2.setCell ⟨px, 6, none⟩ (.int .i64 (k + 1 : Nat))) from by
      rintro w2 ⟨hc, F', hx, hF⟩
      have q := h.world hc hx hF
      have hpx : ¬ F' px := fun hh => (hF px hh).elim n2 (fun hh => by have := hr.lt; omega)
      have hgp : ¬ F' gp := fun hh => (hF gp hh).elim g3 (fun hh => by have := ho.lt0; omega)
      have sz : (w2.setCell ⟨px, 6, none⟩ (.int .i64 (k + 1 : Nat))).heap.size = w2.heap.size := World.size_setCell _ _ _
      have bk : ∀ j, j ≠ px → (w2.setCell ⟨px, 6, none⟩ (.int .i64 (k + 1 : Nat))).heap[j]? = w2.heap[j]? := fun j hj => Below.heap_setCell _ _ _ _ hj
      refine ⟨⟨F', RelX.keep hx (fun j hj => bk j (fun q => hpx (q ▸ hj))) (by rw [sz]; exact Nat.le_refl _), q.fn, fun j hj => by rw [sz]; exact q.nl j hj, q.bF, q.bN, q.log.keep (bk bl (Ne.symm n1)), ⟨px, rfl, n1, hpx, n3, .inr ⟨?_, k2, k3, gp, cp, g1, g2, hgp, g4, ?_, ?_⟩⟩⟩, ?_⟩
      · show y.moves + 1 < y.parts.length + 2
        omega
      · have := (hr.keep hc n2).set 6 (.int .i64 (k + 1 : Nat))
        rw [hK] at this ⊢
        exact this
      · exact (ho.keepB (hc.block gp ho.lt0 g3)).keepB (bk gp g2)
      · exact (h.kept hc).then ((Chg.refl _ w2).setCell (.inl n3) _))
    have CE := Lib.hid (show ∀ w2, LeftE RelX b F w m' w2 → w2.cell? ⟨px, 6, none⟩ = some (.int .i64 (k : Int)) ∧ w2.frozen? ⟨px, 6, none⟩ = false from fun w2 ⟨hc, _⟩ => by
      have r2 := hr.keep hc n2
      refine ⟨?_, r2.frozen 6⟩
      rw [hK]; exact r2.cell 6)
    clear ok h hr lr k1 k2 k3 hl hN ho n1 n2 n3 g1 g2 g3 g4 hk hm' hr' hK
    by_cases z : r = 0
    · subst z
      rw [if_pos rfl]
      clear AE FIN
      go_enter Tryd.func22, Tryd.ntmps22
      go_wp2_with fail
      go_quiet (fail)
      obtain ⟨w1, hw1⟩ : ∃ w1, w1 = w.drewN nq := ⟨_, rfl⟩
      have B1 := Lib.hid (show Below w.heap.size w w1 by rw [hw1]; exact belowDN _ _)
      rw [← hw1]
      clear hw1 c0 c5 c6
      go_wp2_with fail
      refine (AK.out _ (RelX.keep H.out.x (fun j hj => B1.out.block j (H.out.x.lt hj)) B1.out.size) (LR.out.below B1.out) (WR.out.below B1.out) (OW.out.below B1.out)).mono ?_
      rintro y2 w2 ⟨rfl, hL⟩
      have L2 := LeftE.after B1.out hL
      obtain ⟨d6, f6⟩ := CE.out w2 L2
      have F2 := Lib.hid (FIN2.out w2 L2)
      clear hL L2
      go_wp2_with fail
      go_ret2
      have f := F2.out
      rw [show ((k + 1 : Nat) : Int) = (k : Int) + 1 by omega] at f
      exact ⟨rfl, f.1, f.2⟩
    · rw [if_neg z]
      have em : m' = m := AE.out z
      have z1 : (r != 0) = true := by simp [z]
      subst em
      clear AE FIN2 CE z
      go_enter Tryd.func22, Tryd.ntmps22
      go_wp2_with fail
      go_quiet (fail)
      obtain ⟨w1, hw1⟩ : ∃ w1, w1 = w.drewN nq := ⟨_, rfl⟩
      have B1 := Lib.hid (show Below w.heap.size w w1 by rw [hw1]; exact belowDN _ _)
      rw [← hw1]
      clear hw1 c0 c5 c6
      go_wp2_with fail
      refine (AK.out _ (RelX.keep H.out.x (fun j hj => B1.out.block j (H.out.x.lt hj)) B1.out.size) (LR.out.below B1.out) (WR.out.below B1.out) (OW.out.below B1.out)).mono ?_
      rintro y2 w2 ⟨rfl, hL⟩
      have L2 := LeftE.after B1.out hL
      have F2 := Lib.hid (FIN.out w2 L2)
      clear hL L2
      go_wp2_with fail
      go_ret2
      exact ⟨rfl, F2.out.1, F2.out.2⟩

end Go.Proofs.YtfodclafkdkjbaaDoor
