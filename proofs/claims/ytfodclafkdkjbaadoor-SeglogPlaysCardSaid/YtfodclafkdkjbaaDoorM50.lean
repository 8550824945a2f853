/- Proved parts: S7pd S7pe S7pf S7ps. Conditions: each theorem's own. -/
import Derived.Test.YtfodclafkdkjbaaDoorM49
namespace Go.Proofs.YtfodclafkdkjbaaDoor
open Go.RowKit

theorem write_none (l : Lg) (S : Nat) (s : ByteArray) (b : Bool) (h : (l.write S s b).2.1 = none) : (l.write S s b).1 = l ∧ (l.write S s b).2.2 ≠ 0 := by
  unfold Lg.write at h ⊢
  repeat' split
  all_goals first | exact ⟨rfl, by simp⟩ | (simp_all; done)

set_option maxRecDepth 100000 in
set_option maxHeartbeats 4000000 in
/-- cloisonnelaw07.pair.does: kind 1 -/
theorem pDoes_1 {P : RelP} {Q : RelQ} (X : SegOps P Q) (B S pp b p g : Nat) (s : ByteArray) (e a : Int) (vp : Value) (w : World) (h : Pl7 Q B S pp b p g w) (hs5 : s.size ≤ 5000) (hS : S ≤ 128) :
    Calls Tryd.prog 11 #[.pointer (some ⟨pp, 0, none⟩), .agg #[.int .i64 1, .string s, .int .i64 e, .int .i64 a, vp]] w fun r w' => r = .returned (.bool true) ∧ Pl7 Q B S pp b p g w' ∧ Below B w w' := by
  obtain ⟨N, bl, bx, m, l, ox, pl, ry, hq, hs, hx, hg, h1, h2, h3⟩ := h
  have AB : Below w.heap.size w (w.alloc (.cells #[.int .i64 1, .string s, .int .i64 e, .int .i64 a, vp] 40)) := (Below.refl _ _).alloc (Nat.le_refl _) _
  have Q1 := Lib.hid (X.qKeep (M := fun k => N k ∨ k = w.heap.size) hq (fun k hk _ => AB.block k hk) AB.size (fun k q => q.elim .inl (fun q => .inr (by omega))) (fun k q => by
    have : (w.alloc (.cells #[.int .i64 1, .string s, .int .i64 e, .int .i64 a, vp] 40)).heap.size = w.heap.size + 1 := by simp
    rcases q with q | q
    · have := X.qLt hq k q; omega
    · omega))
  have S1 := Lib.hid ((hs.keep (Kept.of_below AB)).more (M := fun k => N k ∨ k = w.heap.size) (fun _ q => .inl q))
  have RB := Lib.hid (RowAt.new w [.int .i64 1, .string s, .int .i64 e, .int .i64 a, vp] 40)
  have BW := Lib.hid ((Below.refl B w).alloc hs.size (.cells #[.int .i64 1, .string s, .int .i64 e, .int .i64 a, vp] 40))
  have HG := Lib.hid hg
  have HXX := Lib.hid hx
  have D := Lib.hid (And.intro h1 (And.intro h2 h3))
  have X' := Lib.hid X
  have S5 := Lib.hid hs5
  have QP := Lib.hid (show w.heap.size ≠ pl from by have := RowAt.lt hs.l; omega)
  obtain ⟨w1, hw1⟩ : ∃ w1, w1 = w.alloc (.cells #[.int .i64 1, .string s, .int .i64 e, .int .i64 a, vp] 40) := ⟨_, rfl⟩
  obtain ⟨q, hq0⟩ : ∃ q, q = w.heap.size := ⟨_, rfl⟩
  have HC1 := Lib.hid (show w1.cell? ⟨pp, 1, none⟩ = some (.pointer (some ⟨bl, 0, none⟩)) ∧ w1.cell? ⟨q, 1, none⟩ = some (.string s) from by rw [hw1, hq0]; exact ⟨RowAt.cell S1.out.c 1, RB.out.cell 1⟩)
  clear hq hs hx hg h1 h2 h3 AB X hs5
  go_enter Tryd.func11, Tryd.ntmps11
  go_upto_region 8 with fail
  rw [← hw1, ← hq0]
  rw [← hw1, ← hq0] at Q1 S1 RB
  rw [← hw1] at BW
  rw [← hq0] at QP
  clear hw1 hq0
  have c0 := HC1.out.1
  have c4 := HC1.out.2
  have Q1d := Lib.hid (show Q w1.drew (fun k => N k ∨ k = q) b bl bx m l ox from X'.out.qKeep Q1.out (fun _ _ _ => rfl) (Nat.le_refl _) (fun _ q => .inl q) (fun k q => X'.out.qLt Q1.out k q))
  obtain ⟨o, ho⟩ : ∃ o, o = l.write m.sec s false := ⟨_, rfl⟩
  have GW := Lib.hid (show ∀ y, o.2.1 = some y → GOk S o.1 (some y) ∧ o.2.2 = 0 from fun y hy => by
    have g := HG.out
    rw [← D.out.1] at g ⊢
    rw [ho] at hy ⊢
    exact g.write s false hy)
  have RC := Lib.hid (X'.out.record _ b bl bx m l ox s _ Q1d.out S5.out)
  have RW := Lib.hid (fun (wx : World) (hr : RefE wx p g m) (hl : RefL wx pl p l) => rWrite p g pl m l s false wx hr hl S5.out (by have := HG.out.u; omega))
  rw [← ho] at RC RW
  have HO := Lib.hid (show o.2.1 = none → o.1 = l ∧ o.2.2 ≠ 0 from fun h => by rw [ho] at h ⊢; exact write_none l m.sec s false h)
  clear ho
  cases hw : o.2.1 with
  | none =>
    obtain ⟨hol, hoc⟩ := HO.out hw
    go_region_held3 (fun w' => w'.cell? ⟨pp, 1, none⟩ = some (.pointer (some ⟨bl, 0, none⟩)) ∧ w'.cell? ⟨q, 1, none⟩ = some (.string s))
      (first
        | go_keep
        | exact HC2.out
        | exact HC1.out)
      (first
        | (go_at_call 20; (with_reducible refine RC.out.mono ?_); rintro r w2 ⟨hr2, hk2⟩; rw [hw] at hr2; obtain ⟨rfl, hq2⟩ := hr2; have Q2 := Lib.hid hq2; have K2 := Lib.hid (show Kept (fun k => N k ∨ k = q) w1 w2 from (Chg.refl _ w1).drew.then hk2); have RB2 := Lib.hid (K2.out.row RB.out (.inr rfl)); have S2 := Lib.hid (S1.out.keep K2.out); have HC2 := Lib.hid (show w2.cell? ⟨pp, 1, none⟩ = some (.pointer (some ⟨bl, 0, none⟩)) ∧ w2.cell? ⟨q, 1, none⟩ = some (.string s) from ⟨RowAt.cell S2.out.c 1, RB2.out.cell 1⟩); clear hq2 hk2))
    have HC3 := Lib.hid (show w2.cell? ⟨pp, 4, none⟩ = some (.pointer (some ⟨pl, 0, none⟩)) ∧ w2.cell? ⟨q, 1, none⟩ = some (.string s) ∧ w2.cell? ⟨q, 0, none⟩ = some (.int .i64 1) from ⟨RowAt.cell S2.out.c 4, RB2.out.cell 1, RB2.out.cell 0⟩)
    have g4 := HC3.out.1
    have g1 := HC3.out.2.1
    have g0 := HC3.out.2.2
    have R2d := Lib.hid (show RefE w2.drew p g m from ⟨S2.out.r.ne, S2.out.r.a, S2.out.r.b, S2.out.r.ok⟩)
    have L2d := Lib.hid (show RefL w2.drew pl p l from S2.out.l)
    have B2 := Lib.hid (BW.out.trans (K2.out.below (B := B) S1.out.all S1.out.size))
    obtain ⟨oc, hoc'⟩ : ∃ oc, oc = o.2.2 := ⟨_, rfl⟩
    have HOC := Lib.hid hoc'
    rw [← hoc'] at hoc ⊢
    clear c0 c4 hoc'
    go_wp2_with fail
    go_region_held3 (fun w' => w'.cell? ⟨pp, 4, none⟩ = some (.pointer (some ⟨pl, 0, none⟩)) ∧ w'.cell? ⟨q, 1, none⟩ = some (.string s) ∧ w'.cell? ⟨q, 0, none⟩ = some (.int .i64 1))
      (first
        | go_keep
        | exact HC4.out
        | exact HC3.out)
      (first
        | (go_at_call 29; (with_reducible refine (RW.out _ R2d.out L2d.out).mono ?_); rintro r w3 ⟨hr3, hl3, hc3⟩; rw [hw] at hr3; obtain rfl := hr3; rw [← HOC.out]; have K3 := Lib.hid (show Chg (fun k => k = pl) w2 w3 from (Chg.refl _ w2).drew.then hc3); have L3 := Lib.hid hl3; have D1 := Lib.hid S2.out.d; have C3 := Lib.hid (show PairAt w3 pp b p _ _ _ _ from RowAt.keep S2.out.c K3.out D1.out.2.2.1); have RB3 := Lib.hid (RowAt.keep RB2.out K3.out QP.out); have HC4 := Lib.hid (show w3.cell? ⟨pp, 4, none⟩ = some (.pointer (some ⟨pl, 0, none⟩)) ∧ w3.cell? ⟨q, 1, none⟩ = some (.string s) ∧ w3.cell? ⟨q, 0, none⟩ = some (.int .i64 1) from ⟨RowAt.cell C3.out 4, RB3.out.cell 1, RB3.out.cell 0⟩); clear hl3 hc3))
    have t0 : (oc == 0) = false := by rw [beq_eq_false_iff_ne]; exact hoc
    clear g4 g1 g0
    go_wp2_with fail
    go_ret
    have N0 := S2.out.n
    have dd := D1.out
    have lo := S2.out.lo
    refine ⟨by first | rfl | simp, ⟨_, bl, bx, m, l, ox, pl, ry, X'.out.qKeep Q2.out (fun k hk hn => K3.out.block k hk (fun h => hn (by subst h; exact N0.2.2.2))) K3.out.size (fun _ q => .inl q) (fun k q => Nat.lt_of_lt_of_le (X'.out.qLt Q2.out k q) K3.out.size),
      ⟨S2.out.r.keep K3.out (fun h => dd.2.2.2.1 h.symm) (fun h => dd.2.2.2.2 h.symm), by rw [← hol]; exact L3.out, C3.out, fun x ex => by
        obtain ⟨px, gp, e1, e2, e3, e4, e5, e6, e7, e8⟩ := S2.out.y x ex
        exact ⟨px, gp, e1, e2.keep K3.out e3.a5 e3.a8, e3, e4, e5, e6, e7, e8⟩, S2.out.z, N0, dd, lo, S2.out.all⟩, HXX.out, HG.out, D.out.1, D.out.2.1, D.out.2.2⟩, B2.out.trans (K3.out.below (B := B) (fun k h => by omega) S2.out.size)⟩
  | some y =>
    obtain ⟨gy, z0⟩ := GW.out y hw
    have GY := Lib.hid gy
    have Z0 := Lib.hid z0
    clear gy z0 HO
    go_region_held3 (fun w' => w'.cell? ⟨pp, 1, none⟩ = some (.pointer (some ⟨bl, 0, none⟩)) ∧ w'.cell? ⟨q, 1, none⟩ = some (.string s))
      (first
        | go_keep
        | exact HC2.out
        | exact HC1.out)
      (first
        | (go_at_call 20; (with_reducible refine RC.out.mono ?_); rintro r w2 ⟨hr2, hk2⟩; rw [hw] at hr2; obtain ⟨qx, rfl, hq2⟩ := hr2; have Q2 := Lib.hid hq2; have K2 := Lib.hid (show Kept (fun k => N k ∨ k = q) w1 w2 from (Chg.refl _ w1).drew.then hk2); have RB2 := Lib.hid (K2.out.row RB.out (.inr rfl)); have S2 := Lib.hid (S1.out.keep K2.out); have HC2 := Lib.hid (show w2.cell? ⟨pp, 1, none⟩ = some (.pointer (some ⟨bl, 0, none⟩)) ∧ w2.cell? ⟨q, 1, none⟩ = some (.string s) from ⟨RowAt.cell S2.out.c 1, RB2.out.cell 1⟩); clear hq2 hk2))
    have HC3 := Lib.hid (show w2.cell? ⟨pp, 4, none⟩ = some (.pointer (some ⟨pl, 0, none⟩)) ∧ w2.cell? ⟨q, 1, none⟩ = some (.string s) ∧ w2.cell? ⟨q, 0, none⟩ = some (.int .i64 1) from ⟨RowAt.cell S2.out.c 4, RB2.out.cell 1, RB2.out.cell 0⟩)
    have g4 := HC3.out.1
    have g1 := HC3.out.2.1
    have g0 := HC3.out.2.2
    have R2d := Lib.hid (show RefE w2.drew p g m from ⟨S2.out.r.ne, S2.out.r.a, S2.out.r.b, S2.out.r.ok⟩)
    have L2d := Lib.hid (show RefL w2.drew pl p l from S2.out.l)
    have B2 := Lib.hid (BW.out.trans (K2.out.below (B := B) S1.out.all S1.out.size))
    clear c0 c4
    go_wp2_with fail
    go_region_held3 (fun w' => w'.cell? ⟨pp, 4, none⟩ = some (.pointer (some ⟨pl, 0, none⟩)) ∧ w'.cell? ⟨q, 1, none⟩ = some (.string s) ∧ w'.cell? ⟨q, 0, none⟩ = some (.int .i64 1))
      (first
        | go_keep
        | exact HC4.out
        | exact HC3.out)
      (first
        | (go_at_call 29; (with_reducible refine (RW.out _ R2d.out L2d.out).mono ?_); rintro r w3 ⟨hr3, hl3, hc3⟩; rw [hw] at hr3; obtain ⟨px, gp, rfl, hx3, hpx, hgp⟩ := hr3; rw [Z0.out]; have K3 := Lib.hid (show Chg (fun k => k = pl) w2 w3 from (Chg.refl _ w2).drew.then hc3); have L3 := Lib.hid hl3; have X3 := Lib.hid hx3; have GE := Lib.hid (show w2.heap.size ≤ px ∧ w2.heap.size ≤ gp from ⟨hpx, hgp⟩); have D1 := Lib.hid S2.out.d; have C3 := Lib.hid (show PairAt w3 pp b p _ _ _ _ from RowAt.keep S2.out.c K3.out D1.out.2.2.1); have RB3 := Lib.hid (RowAt.keep RB2.out K3.out QP.out); have HC4 := Lib.hid (show w3.cell? ⟨pp, 4, none⟩ = some (.pointer (some ⟨pl, 0, none⟩)) ∧ w3.cell? ⟨q, 1, none⟩ = some (.string s) ∧ w3.cell? ⟨q, 0, none⟩ = some (.int .i64 1) from ⟨RowAt.cell C3.out 4, RB3.out.cell 1, RB3.out.cell 0⟩); clear hl3 hc3 hx3 hpx hgp))
    have e2 : w3.cell? ⟨pp, 2, none⟩ = some (ptrOf bx) := RowAt.cell C3.out 2
    have e5 : w3.cell? ⟨pp, 5, none⟩ = some (ptrOf (ry.map Prod.fst)) := RowAt.cell C3.out 5
    have f2 := RowAt.frozen C3.out 2
    have f5 := RowAt.frozen C3.out 5
    clear g4 g1 g0
    go_wp2_with fail
    go_ret
    have CH : Chg (fun k => k = pp) w3 ((w3.setCell ⟨pp, 2, none⟩ (.pointer (some ⟨qx, 0, none⟩))).setCell ⟨pp, 5, none⟩ (.pointer (some ⟨px, 0, none⟩))) := ((Chg.refl (fun k => k = pp) w3).setCell (p := ⟨pp, 2, none⟩) (.inl rfl) _).setCell (p := ⟨pp, 5, none⟩) (.inl rfl) _
    have C4 := (RowAt.set C3.out 2 (.pointer (some ⟨qx, 0, none⟩))).set 5 (.pointer (some ⟨px, 0, none⟩))
    have N0 := S2.out.n
    have dd := D1.out
    have lo := S2.out.lo
    have ge := GE.out
    have l1 := RowAt.lt S2.out.c
    have l2 := S2.out.r.a.lt
    have l3 := S2.out.r.b.lt
    have l4 := RowAt.lt S2.out.l
    have hB := S2.out.size
    obtain ⟨cp, hrow, hown⟩ := X3.out.row
    have lx := RowAt.lt hrow
    have lg := (OwnS.lt hown gp rfl).2
    refine ⟨by first | rfl | simp, ⟨fun k => (N k ∨ k = q) ∨ (k = px ∨ k = gp), bl, some qx, m, o.1, some y, pl, some (px, gp), X'.out.qKeep Q2.out (fun k hk hn => (CH.block k (Nat.lt_of_lt_of_le hk K3.out.size) (fun h => hn (by subst h; exact N0.1))).trans (K3.out.block k hk (fun h => hn (by subst h; exact N0.2.2.2)))) (Nat.le_trans K3.out.size CH.size) (fun k h => h.elim .inl (fun h => .inr (by omega)))
        (fun k h => Nat.lt_of_lt_of_le (h.elim (fun h => Nat.lt_of_lt_of_le (X'.out.qLt Q2.out k h) K3.out.size) (fun h => by omega)) CH.size),
      ⟨(S2.out.r.keep K3.out (fun h => dd.2.2.2.1 h.symm) (fun h => dd.2.2.2.2 h.symm)).keep CH (fun h => dd.1 h.symm) (fun h => dd.2.1 h.symm), RowAt.keep L3.out CH (fun h => dd.2.2.1 h.symm), C4, fun x ex => by
        injection ex with ex
        subst ex
        exact ⟨px, gp, rfl, X3.out.keep CH (by omega) (by omega), ⟨dd.2.2.2.1, dd.2.2.2.2, by omega, by omega, by omega, by omega, by omega, by omega, X3.out.ne⟩, by omega, by omega, .inr (.inl rfl), .inr (.inr rfl), by omega, by omega⟩, fun h => (by cases h), ⟨.inl N0.1, .inl N0.2.1, .inl N0.2.2.1, .inl N0.2.2.2⟩, dd, lo, fun k hk => .inl (S2.out.all k hk)⟩,
      ⟨(fun h => by cases h), (fun h => by cases h)⟩, GY.out, D.out.1, D.out.2.1, D.out.2.2⟩, (B2.out.trans (K3.out.below (B := B) (fun k h => by omega) hB)).trans (CH.below (B := B) (fun k h => by omega) (Nat.le_trans hB K3.out.size))⟩

set_option maxRecDepth 100000 in
set_option maxHeartbeats 4000000 in
/-- cloisonnelaw07.pair.does: kind 2 -/
theorem pDoes_2 {P : RelP} {Q : RelQ} (X : SegOps P Q) (B S pp b p g : Nat) (s : ByteArray) (e a : Int) (vp : Value) (w : World) (h : Pl7 Q B S pp b p g w) (hs5 : s.size ≤ 5000) (hS : S ≤ 128) :
    Calls Tryd.prog 11 #[.pointer (some ⟨pp, 0, none⟩), .agg #[.int .i64 2, .string s, .int .i64 e, .int .i64 a, vp]] w fun r w' => r = .returned (.bool true) ∧ Pl7 Q B S pp b p g w' ∧ Below B w w' := by
  obtain ⟨N, bl, bx, m, l, ox, pl, ry, hq, hs, hx, hg, h1, h2, h3⟩ := h
  have AB : Below w.heap.size w (w.alloc (.cells #[.int .i64 2, .string s, .int .i64 e, .int .i64 a, vp] 40)) := (Below.refl _ _).alloc (Nat.le_refl _) _
  have Q1 := Lib.hid (X.qKeep (M := fun k => N k ∨ k = w.heap.size) hq (fun k hk _ => AB.block k hk) AB.size (fun k q => q.elim .inl (fun q => .inr (by omega))) (fun k q => by
    have : (w.alloc (.cells #[.int .i64 2, .string s, .int .i64 e, .int .i64 a, vp] 40)).heap.size = w.heap.size + 1 := by simp
    rcases q with q | q
    · have := X.qLt hq k q; omega
    · omega))
  have S1 := Lib.hid ((hs.keep (Kept.of_below AB)).more (M := fun k => N k ∨ k = w.heap.size) (fun _ q => .inl q))
  have RB := Lib.hid (RowAt.new w [.int .i64 2, .string s, .int .i64 e, .int .i64 a, vp] 40)
  have BW := Lib.hid ((Below.refl B w).alloc hs.size (.cells #[.int .i64 2, .string s, .int .i64 e, .int .i64 a, vp] 40))
  have HG := Lib.hid hg
  have HXX := Lib.hid hx
  have D := Lib.hid (And.intro h1 (And.intro h2 h3))
  have X' := Lib.hid X
  have S5 := Lib.hid hs5
  have QP := Lib.hid (show w.heap.size ≠ pl from by have := RowAt.lt hs.l; omega)
  obtain ⟨w1, hw1⟩ : ∃ w1, w1 = w.alloc (.cells #[.int .i64 2, .string s, .int .i64 e, .int .i64 a, vp] 40) := ⟨_, rfl⟩
  obtain ⟨q, hq0⟩ : ∃ q, q = w.heap.size := ⟨_, rfl⟩
  have HC1 := Lib.hid (show w1.cell? ⟨pp, 1, none⟩ = some (.pointer (some ⟨bl, 0, none⟩)) ∧ w1.cell? ⟨q, 1, none⟩ = some (.string s) from by rw [hw1, hq0]; exact ⟨RowAt.cell S1.out.c 1, RB.out.cell 1⟩)
  clear hq hs hx hg h1 h2 h3 AB X hs5
  go_enter Tryd.func11, Tryd.ntmps11
  go_upto_region 7 with fail
  rw [← hw1, ← hq0]
  rw [← hw1, ← hq0] at Q1 S1 RB
  rw [← hw1] at BW
  rw [← hq0] at QP
  clear hw1 hq0
  have c0 := HC1.out.1
  have c4 := HC1.out.2
  have Q1d := Lib.hid (show Q w1.drew (fun k => N k ∨ k = q) b bl bx m l ox from X'.out.qKeep Q1.out (fun _ _ _ => rfl) (Nat.le_refl _) (fun _ q => .inl q) (fun k q => X'.out.qLt Q1.out k q))
  obtain ⟨o, ho⟩ : ∃ o, o = l.write m.sec s true := ⟨_, rfl⟩
  have GW := Lib.hid (show ∀ y, o.2.1 = some y → GOk S o.1 (some y) ∧ o.2.2 = 0 from fun y hy => by
    have g := HG.out
    rw [← D.out.1] at g ⊢
    rw [ho] at hy ⊢
    exact g.write s true hy)
  have RC := Lib.hid (X'.out.base _ b bl bx m l ox s _ Q1d.out S5.out)
  have RW := Lib.hid (fun (wx : World) (hr : RefE wx p g m) (hl : RefL wx pl p l) => rWrite p g pl m l s true wx hr hl S5.out (by have := HG.out.u; omega))
  rw [← ho] at RC RW
  have HO := Lib.hid (show o.2.1 = none → o.1 = l ∧ o.2.2 ≠ 0 from fun h => by rw [ho] at h ⊢; exact write_none l m.sec s true h)
  clear ho
  cases hw : o.2.1 with
  | none =>
    obtain ⟨hol, hoc⟩ := HO.out hw
    go_region_held3 (fun w' => w'.cell? ⟨pp, 1, none⟩ = some (.pointer (some ⟨bl, 0, none⟩)) ∧ w'.cell? ⟨q, 1, none⟩ = some (.string s))
      (first
        | go_keep
        | exact HC2.out
        | exact HC1.out)
      (first
        | (go_at_call 21; (with_reducible refine RC.out.mono ?_); rintro r w2 ⟨hr2, hk2⟩; rw [hw] at hr2; obtain ⟨rfl, hq2⟩ := hr2; have Q2 := Lib.hid hq2; have K2 := Lib.hid (show Kept (fun k => N k ∨ k = q) w1 w2 from (Chg.refl _ w1).drew.then hk2); have RB2 := Lib.hid (K2.out.row RB.out (.inr rfl)); have S2 := Lib.hid (S1.out.keep K2.out); have HC2 := Lib.hid (show w2.cell? ⟨pp, 1, none⟩ = some (.pointer (some ⟨bl, 0, none⟩)) ∧ w2.cell? ⟨q, 1, none⟩ = some (.string s) from ⟨RowAt.cell S2.out.c 1, RB2.out.cell 1⟩); clear hq2 hk2))
    have HC3 := Lib.hid (show w2.cell? ⟨pp, 4, none⟩ = some (.pointer (some ⟨pl, 0, none⟩)) ∧ w2.cell? ⟨q, 1, none⟩ = some (.string s) ∧ w2.cell? ⟨q, 0, none⟩ = some (.int .i64 2) from ⟨RowAt.cell S2.out.c 4, RB2.out.cell 1, RB2.out.cell 0⟩)
    have g4 := HC3.out.1
    have g1 := HC3.out.2.1
    have g0 := HC3.out.2.2
    have R2d := Lib.hid (show RefE w2.drew p g m from ⟨S2.out.r.ne, S2.out.r.a, S2.out.r.b, S2.out.r.ok⟩)
    have L2d := Lib.hid (show RefL w2.drew pl p l from S2.out.l)
    have B2 := Lib.hid (BW.out.trans (K2.out.below (B := B) S1.out.all S1.out.size))
    obtain ⟨oc, hoc'⟩ : ∃ oc, oc = o.2.2 := ⟨_, rfl⟩
    have HOC := Lib.hid hoc'
    rw [← hoc'] at hoc ⊢
    clear c0 c4 hoc'
    go_wp2_with fail
    go_region_held3 (fun w' => w'.cell? ⟨pp, 4, none⟩ = some (.pointer (some ⟨pl, 0, none⟩)) ∧ w'.cell? ⟨q, 1, none⟩ = some (.string s) ∧ w'.cell? ⟨q, 0, none⟩ = some (.int .i64 2))
      (first
        | go_keep
        | exact HC4.out
        | exact HC3.out)
      (first
        | (go_at_call 29; (with_reducible refine (RW.out _ R2d.out L2d.out).mono ?_); rintro r w3 ⟨hr3, hl3, hc3⟩; rw [hw] at hr3; obtain rfl := hr3; rw [← HOC.out]; have K3 := Lib.hid (show Chg (fun k => k = pl) w2 w3 from (Chg.refl _ w2).drew.then hc3); have L3 := Lib.hid hl3; have D1 := Lib.hid S2.out.d; have C3 := Lib.hid (show PairAt w3 pp b p _ _ _ _ from RowAt.keep S2.out.c K3.out D1.out.2.2.1); have RB3 := Lib.hid (RowAt.keep RB2.out K3.out QP.out); have HC4 := Lib.hid (show w3.cell? ⟨pp, 4, none⟩ = some (.pointer (some ⟨pl, 0, none⟩)) ∧ w3.cell? ⟨q, 1, none⟩ = some (.string s) ∧ w3.cell? ⟨q, 0, none⟩ = some (.int .i64 2) from ⟨RowAt.cell C3.out 4, RB3.out.cell 1, RB3.out.cell 0⟩); clear hl3 hc3))
    have t0 : (oc == 0) = false := by rw [beq_eq_false_iff_ne]; exact hoc
    clear g4 g1 g0
    go_wp2_with fail
    go_ret
    have N0 := S2.out.n
    have dd := D1.out
    have lo := S2.out.lo
    refine ⟨by first | rfl | simp, ⟨_, bl, bx, m, l, ox, pl, ry, X'.out.qKeep Q2.out (fun k hk hn => K3.out.block k hk (fun h => hn (by subst h; exact N0.2.2.2))) K3.out.size (fun _ q => .inl q) (fun k q => Nat.lt_of_lt_of_le (X'.out.qLt Q2.out k q) K3.out.size),
      ⟨S2.out.r.keep K3.out (fun h => dd.2.2.2.1 h.symm) (fun h => dd.2.2.2.2 h.symm), by rw [← hol]; exact L3.out, C3.out, fun x ex => by
        obtain ⟨px, gp, e1, e2, e3, e4, e5, e6, e7, e8⟩ := S2.out.y x ex
        exact ⟨px, gp, e1, e2.keep K3.out e3.a5 e3.a8, e3, e4, e5, e6, e7, e8⟩, S2.out.z, N0, dd, lo, S2.out.all⟩, HXX.out, HG.out, D.out.1, D.out.2.1, D.out.2.2⟩, B2.out.trans (K3.out.below (B := B) (fun k h => by omega) S2.out.size)⟩
  | some y =>
    obtain ⟨gy, z0⟩ := GW.out y hw
    have GY := Lib.hid gy
    have Z0 := Lib.hid z0
    clear gy z0 HO
    go_region_held3 (fun w' => w'.cell? ⟨pp, 1, none⟩ = some (.pointer (some ⟨bl, 0, none⟩)) ∧ w'.cell? ⟨q, 1, none⟩ = some (.string s))
      (first
        | go_keep
        | exact HC2.out
        | exact HC1.out)
      (first
        | (go_at_call 21; (with_reducible refine RC.out.mono ?_); rintro r w2 ⟨hr2, hk2⟩; rw [hw] at hr2; obtain ⟨qx, rfl, hq2⟩ := hr2; have Q2 := Lib.hid hq2; have K2 := Lib.hid (show Kept (fun k => N k ∨ k = q) w1 w2 from (Chg.refl _ w1).drew.then hk2); have RB2 := Lib.hid (K2.out.row RB.out (.inr rfl)); have S2 := Lib.hid (S1.out.keep K2.out); have HC2 := Lib.hid (show w2.cell? ⟨pp, 1, none⟩ = some (.pointer (some ⟨bl, 0, none⟩)) ∧ w2.cell? ⟨q, 1, none⟩ = some (.string s) from ⟨RowAt.cell S2.out.c 1, RB2.out.cell 1⟩); clear hq2 hk2))
    have HC3 := Lib.hid (show w2.cell? ⟨pp, 4, none⟩ = some (.pointer (some ⟨pl, 0, none⟩)) ∧ w2.cell? ⟨q, 1, none⟩ = some (.string s) ∧ w2.cell? ⟨q, 0, none⟩ = some (.int .i64 2) from ⟨RowAt.cell S2.out.c 4, RB2.out.cell 1, RB2.out.cell 0⟩)
    have g4 := HC3.out.1
    have g1 := HC3.out.2.1
    have g0 := HC3.out.2.2
    have R2d := Lib.hid (show RefE w2.drew p g m from ⟨S2.out.r.ne, S2.out.r.a, S2.out.r.b, S2.out.r.ok⟩)
    have L2d := Lib.hid (show RefL w2.drew pl p l from S2.out.l)
    have B2 := Lib.hid (BW.out.trans (K2.out.below (B := B) S1.out.all S1.out.size))
    clear c0 c4
    go_wp2_with fail
    go_region_held3 (fun w' => w'.cell? ⟨pp, 4, none⟩ = some (.pointer (some ⟨pl, 0, none⟩)) ∧ w'.cell? ⟨q, 1, none⟩ = some (.string s) ∧ w'.cell? ⟨q, 0, none⟩ = some (.int .i64 2))
      (first
        | go_keep
        | exact HC4.out
        | exact HC3.out)
      (first
        | (go_at_call 29; (with_reducible refine (RW.out _ R2d.out L2d.out).mono ?_); rintro r w3 ⟨hr3, hl3, hc3⟩; rw [hw] at hr3; obtain ⟨px, gp, rfl, hx3, hpx, hgp⟩ := hr3; rw [Z0.out]; have K3 := Lib.hid (show Chg (fun k => k = pl) w2 w3 from (Chg.refl _ w2).drew.then hc3); have L3 := Lib.hid hl3; have X3 := Lib.hid hx3; have GE := Lib.hid (show w2.heap.size ≤ px ∧ w2.heap.size ≤ gp from ⟨hpx, hgp⟩); have D1 := Lib.hid S2.out.d; have C3 := Lib.hid (show PairAt w3 pp b p _ _ _ _ from RowAt.keep S2.out.c K3.out D1.out.2.2.1); have RB3 := Lib.hid (RowAt.keep RB2.out K3.out QP.out); have HC4 := Lib.hid (show w3.cell? ⟨pp, 4, none⟩ = some (.pointer (some ⟨pl, 0, none⟩)) ∧ w3.cell? ⟨q, 1, none⟩ = some (.string s) ∧ w3.cell? ⟨q, 0, none⟩ = some (.int .i64 2) from ⟨RowAt.cell C3.out 4, RB3.out.cell 1, RB3.out.cell 0⟩); clear hl3 hc3 hx3 hpx hgp))
    have e2 : w3.cell? ⟨pp, 2, none⟩ = some (ptrOf bx) := RowAt.cell C3.out 2
    have e5 : w3.cell? ⟨pp, 5, none⟩ = some (ptrOf (ry.map Prod.fst)) := RowAt.cell C3.out 5
    have f2 := RowAt.frozen C3.out 2
    have f5 := RowAt.frozen C3.out 5
    clear g4 g1 g0
    go_wp2_with fail
    go_ret
    have CH : Chg (fun k => k = pp) w3 ((w3.setCell ⟨pp, 2, none⟩ (.pointer (some ⟨qx, 0, none⟩))).setCell ⟨pp, 5, none⟩ (.pointer (some ⟨px, 0, none⟩))) := ((Chg.refl (fun k => k = pp) w3).setCell (p := ⟨pp, 2, none⟩) (.inl rfl) _).setCell (p := ⟨pp, 5, none⟩) (.inl rfl) _
    have C4 := (RowAt.set C3.out 2 (.pointer (some ⟨qx, 0, none⟩))).set 5 (.pointer (some ⟨px, 0, none⟩))
    have N0 := S2.out.n
    have dd := D1.out
    have lo := S2.out.lo
    have ge := GE.out
    have l1 := RowAt.lt S2.out.c
    have l2 := S2.out.r.a.lt
    have l3 := S2.out.r.b.lt
    have l4 := RowAt.lt S2.out.l
    have hB := S2.out.size
    obtain ⟨cp, hrow, hown⟩ := X3.out.row
    have lx := RowAt.lt hrow
    have lg := (OwnS.lt hown gp rfl).2
    refine ⟨by first | rfl | simp, ⟨fun k => (N k ∨ k = q) ∨ (k = px ∨ k = gp), bl, some qx, m, o.1, some y, pl, some (px, gp), X'.out.qKeep Q2.out (fun k hk hn => (CH.block k (Nat.lt_of_lt_of_le hk K3.out.size) (fun h => hn (by subst h; exact N0.1))).trans (K3.out.block k hk (fun h => hn (by subst h; exact N0.2.2.2)))) (Nat.le_trans K3.out.size CH.size) (fun k h => h.elim .inl (fun h => .inr (by omega)))
        (fun k h => Nat.lt_of_lt_of_le (h.elim (fun h => Nat.lt_of_lt_of_le (X'.out.qLt Q2.out k h) K3.out.size) (fun h => by omega)) CH.size),
      ⟨(S2.out.r.keep K3.out (fun h => dd.2.2.2.1 h.symm) (fun h => dd.2.2.2.2 h.symm)).keep CH (fun h => dd.1 h.symm) (fun h => dd.2.1 h.symm), RowAt.keep L3.out CH (fun h => dd.2.2.1 h.symm), C4, fun x ex => by
        injection ex with ex
        subst ex
        exact ⟨px, gp, rfl, X3.out.keep CH (by omega) (by omega), ⟨dd.2.2.2.1, dd.2.2.2.2, by omega, by omega, by omega, by omega, by omega, by omega, X3.out.ne⟩, by omega, by omega, .inr (.inl rfl), .inr (.inr rfl), by omega, by omega⟩, fun h => (by cases h), ⟨.inl N0.1, .inl N0.2.1, .inl N0.2.2.1, .inl N0.2.2.2⟩, dd, lo, fun k hk => .inl (S2.out.all k hk)⟩,
      ⟨(fun h => by cases h), (fun h => by cases h)⟩, GY.out, D.out.1, D.out.2.1, D.out.2.2⟩, (B2.out.trans (K3.out.below (B := B) (fun k h => by omega) hB)).trans (CH.below (B := B) (fun k h => by omega) (Nat.le_trans hB K3.out.size))⟩

end Go.Proofs.YtfodclafkdkjbaaDoor

namespace Go.Proofs.YtfodclafkdkjbaaDoor
open Go.RowKit

set_option maxRecDepth 100000 in
set_option maxHeartbeats 4000000 in
/-- cloisonnelaw07.pair.does: what others lay -/
theorem pDoes_6 {P : RelP} {Q : RelQ} (X : SegOps P Q) (B S pp b p g : Nat) (s : ByteArray) (e a : Int) (vp : Value) (w : World) (h : Pl7 Q B S pp b p g w) (hs5 : s.size ≤ 5000) (he : In64 e) (ha : In64 a) :
    Calls Tryd.prog 11 #[.pointer (some ⟨pp, 0, none⟩), .agg #[.int .i64 6, .string s, .int .i64 e, .int .i64 a, vp]] w fun r w' => r = .returned (.bool true) ∧ Pl7 Q B S pp b p g w' ∧ Below B w w' := by
  obtain ⟨N, bl, bx, m, l, ox, pl, ry, hq, hs, hx, hg, h1, h2, h3⟩ := h
  have AB : Below w.heap.size w (w.alloc (.cells #[.int .i64 6, .string s, .int .i64 e, .int .i64 a, vp] 40)) := (Below.refl _ _).alloc (Nat.le_refl _) _
  have Q1 := Lib.hid (X.qKeep (M := fun k => N k ∨ k = w.heap.size) hq (fun k hk _ => AB.block k hk) AB.size (fun k q => q.elim .inl (fun q => .inr (by omega))) (fun k q => by
    have : (w.alloc (.cells #[.int .i64 6, .string s, .int .i64 e, .int .i64 a, vp] 40)).heap.size = w.heap.size + 1 := by simp
    rcases q with q | q
    · have := X.qLt hq k q; omega
    · omega))
  have S1 := Lib.hid ((hs.keep (Kept.of_below AB)).more (M := fun k => N k ∨ k = w.heap.size) (fun _ q => .inl q))
  have RB := Lib.hid (RowAt.new w [.int .i64 6, .string s, .int .i64 e, .int .i64 a, vp] 40)
  have BW := Lib.hid ((Below.refl B w).alloc hs.size (.cells #[.int .i64 6, .string s, .int .i64 e, .int .i64 a, vp] 40))
  have HG := Lib.hid hg
  have HXX := Lib.hid hx
  have D := Lib.hid (And.intro h1 (And.intro h2 h3))
  have X' := Lib.hid X
  have IE := Lib.hid he
  have IA := Lib.hid ha
  have S5 := Lib.hid (show s.size ≤ 9223372036854775807 by omega)
  have QP := Lib.hid (show w.heap.size ≠ p ∧ w.heap.size ≠ g from by have := hs.r.a.lt; have := hs.r.b.lt; omega)
  obtain ⟨w1, hw1⟩ : ∃ w1, w1 = w.alloc (.cells #[.int .i64 6, .string s, .int .i64 e, .int .i64 a, vp] 40) := ⟨_, rfl⟩
  obtain ⟨q, hq0⟩ : ∃ q, q = w.heap.size := ⟨_, rfl⟩
  have HC1 := Lib.hid (show w1.cell? ⟨pp, 0, none⟩ = some (.pointer (some ⟨b, 0, none⟩)) ∧ w1.cell? ⟨pp, 3, none⟩ = some (.pointer (some ⟨p, 0, none⟩)) ∧ w1.cell? ⟨q, 1, none⟩ = some (.string s) ∧ w1.cell? ⟨q, 2, none⟩ = some (.int .i64 e) ∧ w1.cell? ⟨q, 3, none⟩ = some (.int .i64 a) from by rw [hw1, hq0]; exact ⟨RowAt.cell S1.out.c 0, RowAt.cell S1.out.c 3, RB.out.cell 1, RB.out.cell 2, RB.out.cell 3⟩)
  clear hq hs hx hg h1 h2 h3 AB X hs5 he ha
  go_enter Tryd.func11, Tryd.ntmps11
  go_upto_region 28 with fail
  rw [← hw1, ← hq0]
  rw [← hw1, ← hq0] at Q1 S1 RB
  rw [← hw1] at BW
  rw [← hq0] at QP
  clear hw1 hq0
  obtain ⟨c0, c1, c2, c3, c4⟩ := HC1.out
  have Q1d : Q w1.drew (fun k => N k ∨ k = q) b bl bx m l ox := X'.out.qKeep Q1.out (fun _ _ _ => rfl) (Nat.le_refl _) (fun _ q => .inl q) (fun k q => X'.out.qLt Q1.out k q)
  obtain ⟨N2, hp2, hsub, hback⟩ := X'.out.qWorld Q1d
  have P1d := Lib.hid hp2
  have HSB := Lib.hid hsub
  have HBK := Lib.hid hback
  obtain ⟨C, hC⟩ : ∃ C, C = (m.lay e a s).2 := ⟨_, rfl⟩
  have HC := Lib.hid hC
  have LS := Lib.hid (lay_same m e a s)
  clear Q1d hp2 hsub hback hC
  go_region_held3 (fun w' => w'.cell? ⟨pp, 0, none⟩ = some (.pointer (some ⟨b, 0, none⟩)) ∧ w'.cell? ⟨pp, 3, none⟩ = some (.pointer (some ⟨p, 0, none⟩)) ∧ w'.cell? ⟨q, 1, none⟩ = some (.string s) ∧ w'.cell? ⟨q, 2, none⟩ = some (.int .i64 e) ∧ w'.cell? ⟨q, 3, none⟩ = some (.int .i64 a))
    (first
      | go_keep
      | exact HC3.out
      | exact HC2.out
      | exact HC1.out)
    (first
      | (go_at_call 26; (with_reducible refine (X'.out.lay N2 b m e a s _ P1d.out IE.out IA.out S5.out).mono ?_); rintro r w2 ⟨rfl, hp2, hk2⟩; rw [← HC.out]; have K2 := Lib.hid (show Kept (fun k => N k ∨ k = q) w1 w2 from (Chg.refl _ w1).drew.then (hk2.mono (fun i h h' => h (HSB.out i h')))); have Q2 := Lib.hid (HBK.out w2 _ hk2 hp2 LS.out.2.2); have RB2 := Lib.hid (K2.out.row RB.out (.inr rfl)); have S2 := Lib.hid (S1.out.keep K2.out); have HC2 := Lib.hid (show w2.cell? ⟨pp, 0, none⟩ = some (.pointer (some ⟨b, 0, none⟩)) ∧ w2.cell? ⟨pp, 3, none⟩ = some (.pointer (some ⟨p, 0, none⟩)) ∧ w2.cell? ⟨q, 1, none⟩ = some (.string s) ∧ w2.cell? ⟨q, 2, none⟩ = some (.int .i64 e) ∧ w2.cell? ⟨q, 3, none⟩ = some (.int .i64 a) from ⟨RowAt.cell S2.out.c 0, RowAt.cell S2.out.c 3, RB2.out.cell 1, RB2.out.cell 2, RB2.out.cell 3⟩); clear hp2 hk2)
      | (go_at_call 27; (with_reducible refine (eLay p g m e a s _ S2.out.r IE.out IA.out S5.out).mono ?_); rintro r w3 ⟨rfl, hr3, hc3⟩; rw [← HC.out]; have R3 := Lib.hid hr3; have K3 := Lib.hid hc3; have D1 := Lib.hid S2.out.d; have C3 := Lib.hid (show PairAt w3 pp b p _ _ _ _ from RowAt.keep S2.out.c K3.out (fun h => h.elim D1.out.1 D1.out.2.1)); have RB3 := Lib.hid (RowAt.keep RB2.out K3.out (fun h => h.elim QP.out.1 QP.out.2)); have HC3 := Lib.hid (show w3.cell? ⟨pp, 0, none⟩ = some (.pointer (some ⟨b, 0, none⟩)) ∧ w3.cell? ⟨pp, 3, none⟩ = some (.pointer (some ⟨p, 0, none⟩)) ∧ w3.cell? ⟨q, 1, none⟩ = some (.string s) ∧ w3.cell? ⟨q, 2, none⟩ = some (.int .i64 e) ∧ w3.cell? ⟨q, 3, none⟩ = some (.int .i64 a) from ⟨RowAt.cell C3.out 0, RowAt.cell C3.out 3, RB3.out.cell 1, RB3.out.cell 2, RB3.out.cell 3⟩); clear hr3 hc3))
  clear c0 c1 c2 c3 c4
  go_wp2_with fail
  go_ret
  have N0 := S2.out.n
  have dd := D1.out
  have lo := S2.out.lo
  refine ⟨by first | rfl | simp, ⟨_, bl, bx, (m.lay e a s).1, l, ox, pl, ry, X'.out.qKeep Q2.out (fun k hk hn => K3.out.block k hk (fun h => hn (h.elim (fun h => by subst h; exact N0.2.1) (fun h => by subst h; exact N0.2.2.1)))) K3.out.size (fun _ q => .inl q) (fun k q => Nat.lt_of_lt_of_le (X'.out.qLt Q2.out k q) K3.out.size),
    ⟨R3.out, RowAt.keep S2.out.l K3.out (fun h => h.elim dd.2.2.2.1 dd.2.2.2.2), C3.out, fun x ex => by
      obtain ⟨px, gp, e1, e2, e3, e4, e5, e6, e7, e8⟩ := S2.out.y x ex
      exact ⟨px, gp, e1, e2.keep K3.out (fun h => h.elim e3.a3 e3.a4) (fun h => h.elim e3.a6 e3.a7), e3, e4, e5, e6, e7, e8⟩, S2.out.z, N0, dd, lo, S2.out.all⟩, HXX.out, HG.out, LS.out.2.2.trans D.out.1, LS.out.2.1.trans D.out.2.1, LS.out.1.trans D.out.2.2⟩,
    (BW.out.trans (K2.out.below (B := B) S1.out.all S1.out.size)).trans (K3.out.below (B := B) (fun k h => by rcases h with h | h <;> omega) S2.out.size)⟩

end Go.Proofs.YtfodclafkdkjbaaDoor

namespace Go.Proofs.YtfodclafkdkjbaaDoor
open Go.RowKit

set_option maxRecDepth 100000 in
set_option maxHeartbeats 4000000 in
/-- cloisonnelaw07.pair.does: no kind -/
theorem pDoes_0 {P : RelP} {Q : RelQ} (X : SegOps P Q) (B S pp b p g : Nat) (k : Int) (s : ByteArray) (e a : Int) (vp : Value) (w : World) (h : Pl7 Q B S pp b p g w) (k1 : k ≠ 1) (k2 : k ≠ 2) (k3 : k ≠ 3) (k5 : k ≠ 5) (k6 : k ≠ 6) :
    Calls Tryd.prog 11 #[.pointer (some ⟨pp, 0, none⟩), .agg #[.int .i64 k, .string s, .int .i64 e, .int .i64 a, vp]] w fun r w' => r = .returned (.bool true) ∧ Pl7 Q B S pp b p g w' ∧ Below B w w' := by
  obtain ⟨N, bl, bx, m, l, ox, pl, ry, hq, hs, hx, hg, h1, h2, h3⟩ := h
  have AB : Below w.heap.size w (w.alloc (.cells #[.int .i64 k, .string s, .int .i64 e, .int .i64 a, vp] 40)) := (Below.refl _ _).alloc (Nat.le_refl _) _
  have R := Lib.hid (show Pl7 Q B S pp b p g (w.alloc (.cells #[.int .i64 k, .string s, .int .i64 e, .int .i64 a, vp] 40)) from
    ⟨N, bl, bx, m, l, ox, pl, ry, X.qKeep hq (fun k hk _ => AB.block k hk) AB.size (fun _ q => .inl q) (fun k q => Nat.lt_of_lt_of_le (X.qLt hq k q) AB.size), hs.keep (Kept.of_below AB), hx, hg, h1, h2, h3⟩)
  have BW := Lib.hid ((Below.refl B w).alloc hs.size (.cells #[.int .i64 k, .string s, .int .i64 e, .int .i64 a, vp] 40))
  have t1 : (k == 1) = false := by rw [beq_eq_false_iff_ne]; exact k1
  have t2 : (k == 2) = false := by rw [beq_eq_false_iff_ne]; exact k2
  have t3 : (k == 3) = false := by rw [beq_eq_false_iff_ne]; exact k3
  have t5 : (k == 5) = false := by rw [beq_eq_false_iff_ne]; exact k5
  have t6 : (k == 6) = false := by rw [beq_eq_false_iff_ne]; exact k6
  clear hq hs hx hg h1 h2 h3 AB X
  go_enter Tryd.func11, Tryd.ntmps11
  go_wp2_with fail
  go_ret
  exact ⟨rfl, R.out, BW.out⟩

/-- cloisonnelaw07.pair.does -/
theorem pDoes {P : RelP} {Q : RelQ} (X : SegOps P Q) (B S pp b p g : Nat) (k : Int) (s : ByteArray) (e a : Int) (AP : Option Addr) (cP PL : Nat) (ps : List (Int × Int)) (w : World) (h : Pl7 Q B S pp b p g w) (hS : 1 ≤ S ∧ S ≤ 128) (hs5 : s.size ≤ 5000) (he : In64 e) (ha : In64 a)
    (hsp : SlPk w AP ps) (hpk : PkOk ps) (hN : AP = none → ps = [] ∧ cP = 0) (hA : 0 < ps.length → ∀ q o, AP = some ⟨q, o, none⟩ → q < B) (hPL : PL = ps.length) :
    Calls Tryd.prog 11 #[.pointer (some ⟨pp, 0, none⟩), .agg #[.int .i64 k, .string s, .int .i64 e, .int .i64 a, .slice AP PL cP]] w fun r w' => r = .returned (.bool true) ∧ Pl7 Q B S pp b p g w' ∧ Below B w w' := by
  by_cases k1 : k = 1
  · subst k1; exact pDoes_1 X B S pp b p g s e a _ w h hs5 hS.2
  by_cases k2 : k = 2
  · subst k2; exact pDoes_2 X B S pp b p g s e a _ w h hs5 hS.2
  by_cases k3 : k = 3
  · subst k3; exact pDoes_3 X B S pp b p g s e a _ w h
  by_cases k5 : k = 5
  · subst k5; exact pDoes_5 X B S pp b p g s e a AP cP PL ps w h hS hsp hpk hN hA hPL
  by_cases k6 : k = 6
  · subst k6; exact pDoes_6 X B S pp b p g s e a _ w h hs5 he ha
  exact pDoes_0 X B S pp b p g k s e a _ w h k1 k2 k3 k5 k6

end Go.Proofs.YtfodclafkdkjbaaDoor

namespace Go.Proofs.YtfodclafkdkjbaaDoor
open Go.RowKit

/-- all of it, by name -/
structure At7 (Q : RelQ) (B S pp b p g : Nat) (N : Nat → Prop) (bl : Nat) (bx : Option Nat) (m : Ext) (l : Lg) (ox : Option Wr) (pl : Nat) (ry : Option (Nat × Nat)) (w : World) : Prop where
  q : Q w N b bl bx m l ox
  s : RefS B N pp b p g pl ry (.pointer (some ⟨bl, 0, none⟩)) (ptrOf bx) m l ox w
  x : bx = none ↔ ox = none
  k : GOk S l ox
  m1 : m.sec = S
  m2 : m.ext = 4
  m3 : m.off = false
section
variable {P : RelP} {Q : RelQ} {B S pp b p g : Nat} {N : Nat → Prop} {bl : Nat} {bx : Option Nat} {m : Ext} {l : Lg} {ox : Option Wr} {pl : Nat} {ry : Option (Nat × Nat)} {w w' : World}
theorem At7.pl7 (h : At7 Q B S pp b p g N bl bx m l ox pl ry w) : Pl7 Q B S pp b p g w := ⟨N, bl, bx, m, l, ox, pl, ry, h.q, h.s, h.x, h.k, h.m1, h.m2, h.m3⟩
theorem Pl7.at7 (h : Pl7 Q B S pp b p g w) : ∃ N bl bx m l ox pl ry, At7 Q B S pp b p g N bl bx m l ox pl ry w := by
  obtain ⟨N, bl, bx, m, l, ox, pl, ry, h1, h2, h3, h4, h5, h6, h7⟩ := h
  exact ⟨N, bl, bx, m, l, ox, pl, ry, h1, h2, h3, h4, h5, h6, h7⟩
theorem At7.call (h : At7 Q B S pp b p g N bl bx m l ox pl ry w) (hq : Q w' N b bl bx m l ox) (hk : Kept N w w') : At7 Q B S pp b p g N bl bx m l ox pl ry w' ∧ Below B w w' :=
  ⟨⟨hq, h.s.keep hk, h.x, h.k, h.m1, h.m2, h.m3⟩, hk.below h.s.all h.s.size⟩
theorem At7.below (X : SegOps P Q) (h : At7 Q B S pp b p g N bl bx m l ox pl ry w) (hb : Below w.heap.size w w') : At7 Q B S pp b p g N bl bx m l ox pl ry w' ∧ Below B w w' :=
  h.call (X.qKeep h.q (fun k hk _ => hb.block k hk) hb.size (fun _ q => .inl q) (fun k q => Nat.lt_of_lt_of_le (X.qLt h.q k q) hb.size)) (Kept.of_below hb)
theorem At7.drewN (X : SegOps P Q) (h : At7 Q B S pp b p g N bl bx m l ox pl ry w) (n : Nat) : At7 Q B S pp b p g N bl bx m l ox pl ry (w.drewN n) :=
  (h.below X (w' := w.drewN n) ⟨rfl, rfl, rfl, Nat.le_refl _, fun _ _ => rfl⟩).1
theorem At7.drew (X : SegOps P Q) (h : At7 Q B S pp b p g N bl bx m l ox pl ry w) : At7 Q B S pp b p g N bl bx m l ox pl ry w.drew :=
  (h.below X (w' := w.drew) ⟨rfl, rfl, rfl, Nat.le_refl _, fun _ _ => rfl⟩).1
theorem At7.cells (h : At7 Q B S pp b p g N bl bx m l ox pl ry w) : w.cell? ⟨pp, 1, none⟩ = some (.pointer (some ⟨bl, 0, none⟩)) ∧ w.cell? ⟨pp, 4, none⟩ = some (.pointer (some ⟨pl, 0, none⟩)) ∧
    w.cell? ⟨pl, 3, none⟩ = some (.int .i64 l.gen) ∧ w.cell? ⟨pl, 4, none⟩ = some (.int .i64 (l.used : Int)) ∧ w.cell? ⟨pl, 6, none⟩ = some (.bool l.busy) :=
  ⟨RowAt.cell h.s.c 1, RowAt.cell h.s.c 4, RowAt.cell h.s.l 3, RowAt.cell h.s.l 4, RowAt.cell h.s.l 6⟩
/-- a new block beside it, that no call turns -/
theorem Pl7.beside (X : SegOps P Q) (h : Pl7 Q B S pp b p g w) (o : Obj) : Pl7 (QQ Q w.heap.size o) B S pp b p g (w.alloc o) ∧ Below B w (w.alloc o) := by
  obtain ⟨N, bl, bx, m, l, ox, pl, ry, h⟩ := h.at7
  have AB : Below w.heap.size w (w.alloc o) := (Below.refl _ _).alloc (Nat.le_refl _) _
  refine ⟨(At7.pl7 (N := N) (bl := bl) (bx := bx) (m := m) (l := l) (ox := ox) (pl := pl) (ry := ry) ⟨⟨fun e => by have := X.qLt h.q _ e; omega, heap_alloc_new w o, X.qKeep h.q (fun k hk _ => AB.block k hk) AB.size (fun k q => q.imp id (fun q => by omega)) (fun k q => ?_)⟩, h.s.keep (Kept.of_below AB), h.x, h.k, h.m1, h.m2, h.m3⟩), (Below.refl B w).alloc h.s.size o⟩
  rw [World.size_alloc]
  rcases q with q | q
  · have := X.qLt h.q k q; omega
  · omega
theorem At7.alone {q : Nat} {o : Obj} (h : At7 (QQ Q q o) B S pp b p g N bl bx m l ox pl ry w) : Pl7 Q B S pp b p g w ∧ w.heap[q]? = some o := by
  obtain ⟨h1, h2, h3⟩ := h.q
  exact ⟨⟨_, bl, bx, m, l, ox, pl, ry, h3, h.s.more (fun _ e => .inl e), h.x, h.k, h.m1, h.m2, h.m3⟩, h2⟩
theorem At7.row {q : Nat} {cs : List Value} {t : TypeId} (h : At7 (QQ Q q (.cells cs.toArray t)) B S pp b p g N bl bx m l ox pl ry w) : RowAt w q cs t := h.q.2.1
/-- a read of the program's world -/
theorem At7.read (X : SegOps P Q) (h : At7 Q B S pp b p g N bl bx m l ox pl ry w) (e a : Int) (he : In64 e) (ha : In64 a) :
    Calls Tryd.prog 17 #[.pointer (some ⟨b, 0, none⟩), .int .i64 e, .int .i64 a] w fun x w' => x = .returned (.tuple #[.string (m.read e a).1, .int .i64 (m.read e a).2]) ∧ At7 Q B S pp b p g N bl bx m l ox pl ry w' ∧ Below B w w' := by
  obtain ⟨N2, hp, hs, hb⟩ := X.qWorld h.q
  refine (X.read N2 b m e a w hp he ha).mono ?_
  rintro x w' ⟨k1, k2, k3⟩
  have k4 : Kept N w w' := k3.mono fun i h1 h2 => h1 (hs i h2)
  exact ⟨k1, h.call (hb w' m k3 k2 rfl) k4⟩
end
/-- .. and what was there before is as it was -/
def Ps7 (Q : RelQ) (B S pp b p g : Nat) (N : Nat → Prop) (bl : Nat) (bx : Option Nat) (m : Ext) (l : Lg) (ox : Option Wr) (pl : Nat) (ry : Option (Nat × Nat)) (w0 w : World) : Prop := At7 Q B S pp b p g N bl bx m l ox pl ry w ∧ Below B w0 w
section
variable {P : RelP} {Q : RelQ} {B S pp b p g : Nat} {N : Nat → Prop} {bl : Nat} {bx : Option Nat} {m : Ext} {l : Lg} {ox : Option Wr} {pl : Nat} {ry : Option (Nat × Nat)} {w0 w w' : World}
theorem Ps7.call (h : Ps7 Q B S pp b p g N bl bx m l ox pl ry w0 w) (hq : Q w' N b bl bx m l ox) (hk : Kept N w w') : Ps7 Q B S pp b p g N bl bx m l ox pl ry w0 w' := ⟨(h.1.call hq hk).1, h.2.trans (h.1.call hq hk).2⟩
theorem Ps7.below (X : SegOps P Q) (h : Ps7 Q B S pp b p g N bl bx m l ox pl ry w0 w) (hb : Below w.heap.size w w') : Ps7 Q B S pp b p g N bl bx m l ox pl ry w0 w' := ⟨(h.1.below X hb).1, h.2.trans (h.1.below X hb).2⟩
theorem Ps7.drewN (X : SegOps P Q) (h : Ps7 Q B S pp b p g N bl bx m l ox pl ry w0 w) (n : Nat) : Ps7 Q B S pp b p g N bl bx m l ox pl ry w0 (w.drewN n) := h.below X ⟨rfl, rfl, rfl, Nat.le_refl _, fun _ _ => rfl⟩
theorem Ps7.drew (X : SegOps P Q) (h : Ps7 Q B S pp b p g N bl bx m l ox pl ry w0 w) : Ps7 Q B S pp b p g N bl bx m l ox pl ry w0 w.drew := h.below X ⟨rfl, rfl, rfl, Nat.le_refl _, fun _ _ => rfl⟩
theorem Ps7.used (X : SegOps P Q) (w : World) (h : Ps7 Q B S pp b p g N bl bx m l ox pl ry w0 w) : Calls Tryd.prog 12 #[.pointer (some ⟨bl, 0, none⟩)] w fun x w' => x = .returned (.int .i64 (l.used : Int)) ∧ Ps7 Q B S pp b p g N bl bx m l ox pl ry w0 w' :=
  (X.used N b bl bx m l ox w h.1.q).mono fun _ _ k => ⟨k.1, h.call k.2.1 k.2.2⟩
theorem Ps7.gen (X : SegOps P Q) (w : World) (h : Ps7 Q B S pp b p g N bl bx m l ox pl ry w0 w) : Calls Tryd.prog 13 #[.pointer (some ⟨bl, 0, none⟩)] w fun x w' => x = .returned (.int .i64 l.gen) ∧ Ps7 Q B S pp b p g N bl bx m l ox pl ry w0 w' :=
  (X.gen N b bl bx m l ox w h.1.q).mono fun _ _ k => ⟨k.1, h.call k.2.1 k.2.2⟩
theorem Ps7.busy (X : SegOps P Q) (w : World) (h : Ps7 Q B S pp b p g N bl bx m l ox pl ry w0 w) : Calls Tryd.prog 14 #[.pointer (some ⟨bl, 0, none⟩)] w fun x w' => x = .returned (.bool l.busy) ∧ Ps7 Q B S pp b p g N bl bx m l ox pl ry w0 w' :=
  (X.busy N b bl bx m l ox w h.1.q).mono fun _ _ k => ⟨k.1, h.call k.2.1 k.2.2⟩
theorem Ps7.room (X : SegOps P Q) (n : Int) (hn : In64 n) (w : World) (h : Ps7 Q B S pp b p g N bl bx m l ox pl ry w0 w) : Calls Tryd.prog 16 #[.pointer (some ⟨bl, 0, none⟩), .int .i64 n] w fun x w' => x = .returned (.bool (decide (0 < l.gen) && decide (0 ≤ n) && decide ((l.used : Int) + cnt n ≤ S))) ∧ Ps7 Q B S pp b p g N bl bx m l ox pl ry w0 w' := by
  have k := X.room N b bl bx m l ox n w h.1.q hn
  rw [h.1.m1] at k
  exact k.mono fun _ _ k => ⟨k.1, h.call k.2.1 k.2.2⟩
theorem Ps7.parts (X : SegOps P Q) (s : ByteArray) (hs : s.size ≤ 5000) (w : World) (h : Ps7 Q B S pp b p g N bl bx m l ox pl ry w0 w) : Calls Tryd.prog 15 #[.string s] w fun x w' => (∃ A c, x = .returned (.slice A (partsOf s).length c)) ∧ Ps7 Q B S pp b p g N bl bx m l ox pl ry w0 w' :=
  (srParts s w hs).mono fun _ _ k => by
    obtain ⟨v, k1, k2, k3⟩ := k
    obtain ⟨A, c, e, _⟩ := k2.form
    exact ⟨⟨A, c, by rw [k1, e]⟩, h.below X k3⟩
theorem Ps7.read (X : SegOps P Q) (e a : Int) (he : In64 e) (ha : In64 a) (w : World) (h : Ps7 Q B S pp b p g N bl bx m l ox pl ry w0 w) : Calls Tryd.prog 17 #[.pointer (some ⟨b, 0, none⟩), .int .i64 e, .int .i64 a] w fun x w' => x = .returned (.tuple #[.string (m.read e a).1, .int .i64 (m.read e a).2]) ∧ Ps7 Q B S pp b p g N bl bx m l ox pl ry w0 w' :=
  (h.1.read X e a he ha).mono fun _ _ k => ⟨k.1, k.2.1, h.2.trans k.2.2⟩
theorem Ps7.rread (e a : Int) (he : In64 e) (ha : In64 a) (w : World) (h : Ps7 Q B S pp b p g N bl bx m l ox pl ry w0 w) : Calls Tryd.prog 18 #[.pointer (some ⟨p, 0, none⟩), .int .i64 e, .int .i64 a] w fun x w' => x = .returned (.tuple #[.string (m.read e a).1, .int .i64 (m.read e a).2]) ∧ Ps7 Q B S pp b p g N bl bx m l ox pl ry w0 w' :=
  (eRead p g m e a w h.1.s.r he ha).mono fun _ _ k => ⟨k.1, by rw [← k.2]; exact h⟩
end
/-- has it room, in the document's way -/
theorem room_eq (l : Lg) (S : Nat) (s : ByteArray) : (decide (0 < l.gen) && decide (0 ≤ (s.size : Int)) && decide ((l.used : Int) + cnt (s.size : Int) ≤ S)) = (decide (0 < l.gen) && decide (l.used + (partsOf s).length ≤ S)) := by
  rw [cnt_nat, partsOf_len, decide_eq_true (show 0 ≤ (s.size : Int) by omega), Bool.and_true]
  congr 1
  by_cases h : l.used + cntN s.size ≤ S
  · rw [decide_eq_true h, decide_eq_true (by omega)]
  · rw [decide_eq_false h, decide_eq_false (by omega)]

end Go.Proofs.YtfodclafkdkjbaaDoor
