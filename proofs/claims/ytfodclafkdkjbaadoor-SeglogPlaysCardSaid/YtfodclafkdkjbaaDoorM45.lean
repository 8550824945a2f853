/- Proved parts: S7gk. Conditions: each theorem's own. -/
import Derived.Test.YtfodclafkdkjbaaDoorM39
import Derived.Test.YtfodclafkdkjbaaDoorM44
namespace Go.Proofs.YtfodclafkdkjbaaDoor
open Go.RowKit

theorem stands_zero (c : Cont) (S : Nat) (h : (stands c S).1 = 0) : (stands c S).2 = ([], 0) := by
  unfold stands at h ⊢
  cases hs : isSec (c 0) with
  | false => rfl
  | true =>
    rw [hs, if_pos rfl] at h
    rw [if_pos rfl]
    split at h
    · rename_i q; rw [if_pos q]
    · have := parts_pos hs
      simp only at h
      omega
/-- the log that stands, by its row -/
theorem log_stands {w : World} {b bl f : Nat} {S e : Nat} {G : Int} {u : Nat} {Y : Int} {l : Lg} (hr : RowAt w bl [.pointer (some ⟨b, 0, none⟩), .int .i64 (f : Int), .int .i64 Y, .bool false, .int .i64 (e : Int), .int .i64 G, .int .i64 (u : Int)] 79)
    (h1 : l.first = f) (h2 : l.gen = G) (h3 : l.used = u) (h4 : l.life = 1 + Y) (h5 : l.busy = false) (h6 : G ≠ 0 → e = l.at_) (h7 : e ≤ f + 1) (hf : f ≤ 900) (h8 : l.at_ = f ∨ l.at_ = f + 1) (h9 : G = 0 → l.at_ = f + 1) (g0 : 0 ≤ G) (g1 : G ≤ 2147483647) (y0 : 0 ≤ Y) (y1 : Y ≤ 2147483647) (hu : u ≤ S) (hS : S ≤ 128) : LogAt w b bl l := by
  obtain ⟨first, at_, gen, used, life, busy⟩ := l
  simp only at h1 h2 h3 h4 h5 h6 h8 h9
  subst h1; subst h2; subst h3; subst h4; subst h5
  refine ⟨⟨e, ?_, h6, by omega⟩, hf, h8, h9, g0, g1, by show 1 ≤ 1 + Y; omega, by show 1 + Y ≤ _; omega, by show used ≤ _; omega⟩
  unfold logL
  simp only
  rw [show 1 + Y - 1 = Y by omega]
  exact hr

set_option maxRecDepth 100000 in
/-- Open of no world -/
theorem qOpenNil (f : Int) (w : World) : Calls Tryd.prog 19 #[.pointer none, .int .i64 f] w fun x w' => (∃ v, x = .returned (.tuple #[.pointer none, v, .int .i64 2]) ∧ OwnS w' w.heap.size v []) ∧ Below w.heap.size w w' := by
  go_enter Tryd.func19, Tryd.ntmps19
  go_wp2_with fail
  go_ret3
  exact ⟨⟨_, rfl, ownS_nil _ _⟩, Below.refl _ _⟩
set_option maxRecDepth 100000 in
set_option maxHeartbeats 1000000 in
/-- .. of one that is off, or without these extents -/
theorem qOpenNo (b : Nat) (F : Nat → Prop) (m : Ext) (f : Int) (w : World) (h : RelX w b F m) (hn : m.off = true ∨ ¬ (0 ≤ f ∧ f + 1 < m.ext)) : Calls Tryd.prog 19 #[.pointer (some ⟨b, 0, none⟩), .int .i64 f] w fun x w' =>
    (∃ v, x = .returned (.tuple #[.pointer none, v, .int .i64 (if m.off then 6 else 1)]) ∧ OwnS w' w.heap.size v []) ∧ Below w.heap.size w w' := by
  have c0 := RelX.cOn h
  obtain ⟨g, c, c2⟩ := RelX.cExt h
  obtain ⟨_, ok2, _⟩ := RelX.ok h
  obtain ⟨E, hE⟩ : ∃ E, E = m.ext := ⟨_, rfl⟩
  rw [← hE] at c2 ok2 hn
  have EX := Lib.hid (fun w (h : w.cell? ⟨b, 2, none⟩ = some (.slice g E c)) => qExtents b E c g w h)
  have ON := Lib.hid (fun w (h : w.cell? ⟨b, 0, none⟩ = some (.bool (!m.off))) => qOn b (!m.off) w h)
  clear h hE
  cases ho : m.off with
  | true =>
    rw [ho] at c0 ON
    clear hn ho
    go_enter Tryd.func19, Tryd.ntmps19
    go_wp2_with fail
    refine (ON.out _ c0).mono ?_
    rintro x w1 ⟨rfl, rfl⟩
    go_wp2_with fail
    go_ret3
    exact ⟨⟨_, rfl, ownS_nil _ _⟩, Below.refl _ _⟩
  | false =>
    rw [ho] at c0 ON
    have hn' : ¬ (0 ≤ f ∧ f + 1 < E) := hn.resolve_left (by rw [ho]; decide)
    clear hn ho
    have WE : IntKind.i64.wrap ((E : Int) - 1) = (E : Int) - 1 := by rw [IntKind.wrap_i64]; omega
    by_cases hz : f < 0
    · go_enter Tryd.func19, Tryd.ntmps19
      go_wp2_with fail
      refine (ON.out _ c0).mono ?_
      rintro x w1 ⟨rfl, rfl⟩
      go_wp2_with fail
      go_ret3
      exact ⟨⟨_, rfl, ownS_nil _ _⟩, Below.refl _ _⟩
    · have t1 : decide ((E : Int) - 1 ≤ f) = true := decide_eq_true (by omega)
      go_enter Tryd.func19, Tryd.ntmps19
      go_wp2_with fail
      refine (ON.out _ c0).mono ?_
      rintro x w1 ⟨rfl, rfl⟩
      go_wp2_with fail
      refine (EX.out _ c2).mono ?_
      rintro x w2 ⟨rfl, rfl⟩
      go_wp2_with fail
      go_ret3
      exact ⟨⟨_, rfl, ownS_nil _ _⟩, Below.refl _ _⟩

set_option maxRecDepth 100000 in
set_option maxHeartbeats 2000000 in
/-- .. of a world that is on -/
theorem qOpenYes (N : Nat → Prop) (b : Nat) (m : Ext) (f : Nat) (w : World) (hP : theP w N b m) (hoff : m.off = false) (hf : f + 1 < m.ext) : Calls Tryd.prog 19 #[.pointer (some ⟨b, 0, none⟩), .int .i64 (f : Int)] w fun x w' =>
    (∃ bl v, x = .returned (.tuple #[.pointer (some ⟨bl, 0, none⟩), v, .int .i64 0]) ∧ OwnS w' w.heap.size v (openP (nowC m f) (nowC m (f + 1)) m.sec f).2 ∧
      theQ w' (fun k => N k ∨ v.ownBlock = some k) b bl none m (openP (nowC m f) (nowC m (f + 1)) m.sec f).1 none) ∧ Kept N w w' := by
  obtain ⟨F, hx, hfn, hnl⟩ := hP
  have ok := RelX.ok hx
  have c0 := RelX.cOn hx
  rw [hoff] at c0
  obtain ⟨gx, cx, c2⟩ := RelX.cExt hx
  obtain ⟨o1, o2, o3, o4, _⟩ := ok
  obtain ⟨E, hE⟩ : ∃ E, E = m.ext := ⟨_, rfl⟩
  obtain ⟨S, hS⟩ : ∃ S, S = m.sec := ⟨_, rfl⟩
  have EX := Lib.hid (fun w (h : w.cell? ⟨b, 2, none⟩ = some (.slice gx m.ext cx)) => qExtents b m.ext cx gx w h)
  have ON := Lib.hid (fun w (h : w.cell? ⟨b, 0, none⟩ = some (.bool true)) => qOn b true w h)
  have PF := Lib.hid (fun w (h : RelX w b F m) => qPieces b f F m w h hoff (by omega))
  have PB := Lib.hid (fun w (h : RelX w b F m) => (show Calls Tryd.prog 42 #[.pointer (some ⟨b, 0, none⟩), .int .i64 ((f : Int) + 1)] w _ from qPieces b (f + 1) F m w h hoff hf))
  obtain ⟨C, hC⟩ : ∃ C, C = nowC m f := ⟨_, rfl⟩
  obtain ⟨D, hD⟩ : ∃ D, D = nowC m (f + 1) := ⟨_, rfl⟩
  rw [← hC, ← hS] at PF
  rw [← hD, ← hS] at PB
  rw [← hE] at c2 EX
  rw [← hC, ← hD, ← hS]
  rw [← hS] at o3 o4
  rw [← hE] at o2 hf
  have SF := Lib.hid (fun g w (h : PcRow w g (pcs C S)) => qStanding g S f C w h o4 o3)
  have SB := Lib.hid (fun g w (h : PcRow w g (pcs D S)) => (show Calls Tryd.prog 43 #[.slice (some ⟨g, 0, none⟩) S S, .int .i64 ((f : Int) + 1)] w fun x w' => ∃ v, x = .returned (.tuple #[.agg #[.int .i64 ((f : Int) + 1), .int .i64 (stands D S).1, .int .i64 ((stands D S).2.2 : Nat)], v]) ∧ OwnS w' w.heap.size v (stands D S).2.1 ∧ Below w.heap.size w w' from qStanding g S (f + 1) D w h o4 o3))
  have LF := Lib.hid (fun g w (h : PcRow w g (pcs C S)) => qLife g S C w h o4)
  have LB := Lib.hid (fun g w (h : PcRow w g (pcs D S)) => qLife g S D w h o4)
  obtain ⟨a1, a2, a3⟩ := stands_ok C S
  obtain ⟨b1, b2, b3⟩ := stands_ok D S
  have l1 := lifeTo_nonneg C S
  have l2 := lifeTo_max C S
  have l3 := lifeTo_nonneg D S
  have l4 := lifeTo_max D S
  have z1 := stands_zero C S
  obtain ⟨Y, hY⟩ : ∃ Y, Y = max (lifeTo C S) (lifeTo D S) := ⟨_, rfl⟩
  have y0 : 0 ≤ Y := by omega
  have y1 : Y ≤ 2147483647 := by omega
  -- what the rows tell in the end
  have FIN : ∀ (w' : World) (bl : Nat) (v : Value), Below w.heap.size w w' → (if (stands C S).1 < (stands D S).1 then
        RowAt w' bl [.pointer (some ⟨b, 0, none⟩), .int .i64 (f : Int), .int .i64 Y, .bool false, .int .i64 ((f : Int) + 1), .int .i64 (stands D S).1, .int .i64 ((stands D S).2.2 : Nat)] 79 ∧ OwnS w' w.heap.size v (stands D S).2.1
      else RowAt w' bl [.pointer (some ⟨b, 0, none⟩), .int .i64 (f : Int), .int .i64 Y, .bool false, .int .i64 (f : Int), .int .i64 (stands C S).1, .int .i64 ((stands C S).2.2 : Nat)] 79 ∧ OwnS w' w.heap.size v (stands C S).2.1) →
      w.heap.size ≤ bl → v.ownBlock ≠ some bl → (OwnS w' w.heap.size v (openP C D S f).2 ∧ theQ w' (fun k => N k ∨ v.ownBlock = some k) b bl none m (openP C D S f).1 none) ∧ Kept N w w' := by
    intro w' bl v hb hr hbl hv
    have key : OwnS w' w.heap.size v (openP C D S f).2 ∧ LogAt w' b bl (openP C D S f).1 := by
      by_cases q : (stands C S).1 < (stands D S).1
      · rw [if_pos q] at hr
        have e : openP C D S f = (⟨f, f + 1, (stands D S).1, (stands D S).2.2, 1 + max (lifeTo C S) (lifeTo D S), false⟩, (stands D S).2.1) := by
          unfold openP
          rw [if_neg (by omega), if_pos (by omega)]
        rw [e]
        refine ⟨hr.2, log_stands (S := S) (e := f + 1) (Y := Y) hr.1 rfl rfl rfl (by rw [hY]) rfl (fun _ => rfl) (Nat.le_refl _) (by omega) (.inr rfl) (fun _ => rfl) b1 b2 y0 y1 b3 o4⟩
      · rw [if_neg q] at hr
        by_cases z : (stands C S).1 = 0
        · have zz := z1 z
          have e : openP C D S f = (⟨f, f + 1, 0, 0, 1 + max (lifeTo C S) (lifeTo D S), false⟩, []) := by
            unfold openP
            rw [if_neg (by omega), if_neg (by omega)]
          rw [e]
          rw [z, zz] at hr
          refine ⟨hr.2, log_stands (S := S) (e := f) (Y := Y) hr.1 rfl rfl rfl (by rw [hY]) rfl (fun h => absurd rfl h) (by omega) (by omega) (.inr rfl) (fun _ => rfl) (Int.le_refl _) (by omega) y0 y1 (Nat.zero_le _) o4⟩
        · have e : openP C D S f = (⟨f, f, (stands C S).1, (stands C S).2.2, 1 + max (lifeTo C S) (lifeTo D S), false⟩, (stands C S).2.1) := by
            unfold openP
            rw [if_pos (by omega)]
          rw [e]
          refine ⟨hr.2, log_stands (S := S) (e := f) (Y := Y) hr.1 rfl rfl rfl (by rw [hY]) rfl (fun _ => rfl) (by omega) (by omega) (.inl rfl) (fun h => absurd h z) a1 a2 y0 y1 a3 o4⟩
    refine ⟨⟨key.1, ⟨F, RelX.keep hx (fun j hj => hb.block j (RelX.lt hx hj)) hb.size, ?_, ?_, ?_, ?_, key.2, trivial⟩⟩, Kept.of_below hb⟩
    · rintro k hk (hN | hN)
      · exact hfn k hk hN
      · have := key.1.lt k hN
        have := RelX.lt hx hk
        omega
    · rintro k (hN | hN)
      · exact Nat.lt_of_lt_of_le (hnl k hN) hb.size
      · exact (key.1.lt k hN).2
    · intro hk
      have := RelX.lt hx hk
      omega
    · rintro (hN | hN)
      · have := hnl bl hN
        omega
      · exact hv hN
  have FIN' := Lib.hid FIN
  have HX := Lib.hid hx
  have XB := Lib.hid (show ∀ w', Below w.heap.size w w' → RelX w' b F m from fun w' hb => RelX.keep hx (fun j hj => hb.block j (RelX.lt hx hj)) hb.size)
  have HY := Lib.hid hY
  obtain ⟨A, hA⟩ : ∃ A, A = stands C S := ⟨_, rfl⟩
  obtain ⟨B, hB⟩ : ∃ B, B = stands D S := ⟨_, rfl⟩
  obtain ⟨L1, hL1⟩ : ∃ L1, L1 = lifeTo C S := ⟨_, rfl⟩
  obtain ⟨L2, hL2⟩ : ∃ L2, L2 = lifeTo D S := ⟨_, rfl⟩
  rw [← hA] at SF FIN' a1 a2 a3
  rw [← hB] at SB FIN' b1 b2 b3
  rw [← hL1] at LF HY
  rw [← hL2] at LB HY
  clear hx hfn hnl hoff o1 o3 FIN z1 l1 l2 l3 l4 hE hS hC hD hY hA hB hL1 hL2
  have WE : IntKind.i64.wrap ((E : Int) - 1) = (E : Int) - 1 := by rw [IntKind.wrap_i64]; omega
  have WF : IntKind.i64.wrap ((f : Int) + 1) = (f : Int) + 1 := by rw [IntKind.wrap_i64]; omega
  go_enter Tryd.func19, Tryd.ntmps19
  go_wp2_with fail
  refine (ON.out _ c0).mono ?_
  rintro x w0 ⟨rfl, e0⟩
  rw [e0]
  clear e0
  go_wp2_with fail
  refine (EX.out _ c2).mono ?_
  rintro x w0' ⟨rfl, e0⟩
  rw [e0]
  clear e0
  go_wp2_with fail
  refine (PF.out _ HX.out).mono ?_
  rintro x w1 ⟨g1, rfl, hr1, hg1, hb1⟩
  have R1 := Lib.hid hr1
  have B1 := Lib.hid hb1
  have G1 := Lib.hid hg1
  clear hr1 hb1 hg1
  go_wp2_with fail
  refine (PB.out _ (XB.out _ B1.out)).mono ?_
  rintro x w2 ⟨g2, rfl, hr2, hg2, hb2⟩
  have R2 := Lib.hid hr2
  have R1' := Lib.hid (R1.out.below hb2)
  have B2 := Lib.hid (below_then B1.out hb2)
  clear hr2 hb2 hg2
  go_wp2_with fail
  refine (SF.out g1 _ R1'.out).mono ?_
  rintro x w3 ⟨v1, rfl, ho1, hb3⟩
  have O1 := Lib.hid (ho1.mono B2.out.size)
  have R13 := Lib.hid (R1'.out.below hb3)
  have R23 := Lib.hid (R2.out.below hb3)
  have B3 := Lib.hid (below_then B2.out hb3)
  clear ho1 hb3
  have N3 := Lib.hid (RowAt.new w3 [.int .i64 (f : Int), .int .i64 A.1, .int .i64 (A.2.2 : Nat)] 77)
  have D3 := Lib.hid ((Below.refl w3.heap.size w3).alloc (Nat.le_refl _) (.cells #[.int .i64 (f : Int), .int .i64 A.1, .int .i64 (A.2.2 : Nat)] 77))
  go_wp2_with fail
  refine (SB.out g2 _ (R23.out.below D3.out)).mono ?_
  rintro x w4 ⟨v2, rfl, ho2, hb4⟩
  have dd := below_then D3.out hb4
  have O1' := Lib.hid (O1.out.below dd)
  have P9 := Lib.hid (N3.out.below hb4)
  have R14 := Lib.hid (R13.out.below dd)
  have R24 := Lib.hid (R23.out.below dd)
  have B4 := Lib.hid (below_then B3.out dd)
  have O2 := Lib.hid ho2
  have WB3 := Lib.hid (Nat.le_trans B3.out.size D3.out.size)
  clear ho2 hb4 dd
  have LG := Lib.hid (show g1 ≠ w3.heap.size ∧ g2 ≠ w3.heap.size from ⟨Nat.ne_of_lt R13.out.lt, Nat.ne_of_lt R23.out.lt⟩)
  have N4 := RowAt.new w4 [.int .i64 ((f : Int) + 1), .int .i64 B.1, .int .i64 (B.2.2 : Nat)] 77
  have D4 := (Below.refl w4.heap.size w4).alloc (Nat.le_refl _) (.cells #[.int .i64 ((f : Int) + 1), .int .i64 B.1, .int .i64 (B.2.2 : Nat)] 77)
  have P9' := Lib.hid (P9.out.below D4)
  have P11 := Lib.hid N4
  have O15 := Lib.hid (O1'.out.below D4)
  have O25 := Lib.hid (O2.out.below D4)
  have R15 := Lib.hid (R14.out.below D4)
  have R25 := Lib.hid (R24.out.below D4)
  have B5 := Lib.hid (below_then B4.out D4)
  have LT9 := Lib.hid (show w3.heap.size < w4.heap.size from P9.out.lt)
  have SW3 := Lib.hid (show w.heap.size ≤ w3.heap.size from B3.out.size)
  clear N4 D4
  have j0 := P9'.out.cell 0
  have j1 := P9'.out.cell 1
  have j2 := P9'.out.cell 2
  have k0 := P11.out.cell 0
  have k1 := P11.out.cell 1
  have k2 := P11.out.cell 2
  simp only [List.getElem?_cons_succ, List.getElem?_cons_zero] at j0 j1 j2 k0 k1 k2
  have f0 := P9'.out.frozen 0
  have f1 := P9'.out.frozen 1
  have f2 := P9'.out.frozen 2
  have ne9 : w3.heap.size ≠ w4.heap.size := Nat.ne_of_lt LT9.out
  obtain ⟨p, hp⟩ : ∃ p, p = w3.heap.size := ⟨_, rfl⟩
  rw [← hp] at j0 j1 j2 f0 f1 f2 ne9 P9' SW3 LG ⊢
  have HP := Lib.hid hp
  have BP := Lib.hid (show p < (w3.alloc (.cells #[.int .i64 (f : Int), .int .i64 A.1, .int .i64 (A.2.2 : Nat)] 77)).heap.size by rw [World.size_alloc, hp]; omega)
  clear hp
  by_cases q : A.1 < B.1
  · go_wp2_with fail
    have q0 := P9'.out.set 0 (.int .i64 ((f : Int) + 1))
    have q1 := q0.set 1 (.int .i64 B.1)
    have q2 := q1.set 2 (.int .i64 (B.2.2 : Nat))
    have Q6 := Lib.hid q2
    have R16 := Lib.hid (((RowAt.other R15.out (p := ⟨p, 0, none⟩) (Ne.symm LG.out.1) (.int .i64 ((f : Int) + 1))).other (p := ⟨p, 1, none⟩) (Ne.symm LG.out.1) (.int .i64 B.1)).other (p := ⟨p, 2, none⟩) (Ne.symm LG.out.1) (.int .i64 (B.2.2 : Nat)))
    have R26 := Lib.hid (((RowAt.other R25.out (p := ⟨p, 0, none⟩) (Ne.symm LG.out.2) (.int .i64 ((f : Int) + 1))).other (p := ⟨p, 1, none⟩) (Ne.symm LG.out.2) (.int .i64 B.1)).other (p := ⟨p, 2, none⟩) (Ne.symm LG.out.2) (.int .i64 (B.2.2 : Nat)))
    have O6 := Lib.hid ((((O25.out.other (p := ⟨p, 0, none⟩) BP.out (.int .i64 ((f : Int) + 1))).other (p := ⟨p, 1, none⟩) BP.out (.int .i64 B.1)).other (p := ⟨p, 2, none⟩) BP.out (.int .i64 (B.2.2 : Nat))).mono WB3.out)
    have B6 := Lib.hid (((B5.out.setCell (p := ⟨p, 0, none⟩) SW3.out (.int .i64 ((f : Int) + 1))).setCell (p := ⟨p, 1, none⟩) SW3.out (.int .i64 B.1)).setCell (p := ⟨p, 2, none⟩) SW3.out (.int .i64 (B.2.2 : Nat)))
    simp only [List.set] at Q6
    clear q0 q1 q2 j0 j1 j2 k0 k1 k2 f0 f1 f2
    refine (LF.out g1 _ R16.out).mono ?_
    rintro x w7 ⟨rfl, hb7⟩
    have R27 := Lib.hid (R26.out.below hb7)
    have Q7 := Lib.hid (Q6.out.below hb7)
    have O7 := Lib.hid (O6.out.below hb7)
    have B7 := Lib.hid (below_then B6.out hb7)
    clear hb7
    go_wp2_with fail
    refine (LB.out g2 _ R27.out).mono ?_
    rintro x w8 ⟨rfl, hb8⟩
    have Q8 := Lib.hid (Q7.out.below hb8)
    have O8 := Lib.hid (O7.out.below hb8)
    have B8 := Lib.hid (below_then B7.out hb8)
    clear hb8
    have m0 := Q8.out.cell 0
    have m1 := Q8.out.cell 1
    have m2 := Q8.out.cell 2
    simp only [List.getElem?_cons_succ, List.getElem?_cons_zero] at m0 m1 m2
    go_wp2_with fail
    go_ret3
    have row := RowAt.new w8 [.pointer (some ⟨b, 0, none⟩), .int .i64 (f : Int), .int .i64 (max L1 L2), .bool false, .int .i64 ((f : Int) + 1), .int .i64 B.1, .int .i64 (B.2.2 : Nat)] 79
    have hb9 := (Below.refl w8.heap.size w8).alloc (Nat.le_refl _) (.cells #[.pointer (some ⟨b, 0, none⟩), .int .i64 (f : Int), .int .i64 (max L1 L2), .bool false, .int .i64 ((f : Int) + 1), .int .i64 B.1, .int .i64 (B.2.2 : Nat)] 79)
    have own := O8.out.below hb9
    have fin := FIN'.out _ w8.heap.size _ (below_then B8.out hb9) (by rw [if_pos q, HY.out]; exact ⟨row, own⟩) B8.out.size (fun h => by have := (O8.out.lt _ h).2; omega)
    exact ⟨⟨_, _, rfl, fin.1.1, fin.1.2⟩, fin.2⟩
  · go_wp2_with fail
    have Q6 := P9'
    have R16 := R15
    have R26 := R25
    have O6 := O15
    have B6 := B5
    clear j0 j1 j2 k0 k1 k2 f0 f1 f2
    refine (LF.out g1 _ R16.out).mono ?_
    rintro x w7 ⟨rfl, hb7⟩
    have R27 := Lib.hid (R26.out.below hb7)
    have Q7 := Lib.hid (Q6.out.below hb7)
    have O7 := Lib.hid (O6.out.below hb7)
    have B7 := Lib.hid (below_then B6.out hb7)
    clear hb7
    go_wp2_with fail
    refine (LB.out g2 _ R27.out).mono ?_
    rintro x w8 ⟨rfl, hb8⟩
    have Q8 := Lib.hid (Q7.out.below hb8)
    have O8 := Lib.hid (O7.out.below hb8)
    have B8 := Lib.hid (below_then B7.out hb8)
    clear hb8
    have m0 := Q8.out.cell 0
    have m1 := Q8.out.cell 1
    have m2 := Q8.out.cell 2
    simp only [List.getElem?_cons_succ, List.getElem?_cons_zero] at m0 m1 m2
    go_wp2_with fail
    go_ret3
    have row := RowAt.new w8 [.pointer (some ⟨b, 0, none⟩), .int .i64 (f : Int), .int .i64 (max L1 L2), .bool false, .int .i64 (f : Int), .int .i64 A.1, .int .i64 (A.2.2 : Nat)] 79
    have hb9 := (Below.refl w8.heap.size w8).alloc (Nat.le_refl _) (.cells #[.pointer (some ⟨b, 0, none⟩), .int .i64 (f : Int), .int .i64 (max L1 L2), .bool false, .int .i64 (f : Int), .int .i64 A.1, .int .i64 (A.2.2 : Nat)] 79)
    have own := O8.out.below hb9
    have fin := FIN'.out _ w8.heap.size _ (below_then B8.out hb9) (by rw [if_neg (by omega), HY.out]; exact ⟨row, own⟩) B8.out.size (fun h => by have := (O8.out.lt _ h).2; omega)
    exact ⟨⟨_, _, rfl, fin.1.1, fin.1.2⟩, fin.2⟩

end Go.Proofs.YtfodclafkdkjbaaDoor
