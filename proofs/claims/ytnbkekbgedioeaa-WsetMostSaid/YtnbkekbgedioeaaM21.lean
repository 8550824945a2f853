/- Proved parts: D2q. Conditions: each theorem's own. -/
import Derived.Test.YtnbkekbgedioeaaM18
import Derived.Test.YtnbkekbgedioeaaM19
import Derived.Test.YtnbkekbgedioeaaM6
import Derived.Test.YtnbkekbgedioeaaM20
namespace Go.Proofs.Ytnbkekbgedioeaa
open Go.RowKit

section
variable {w0 w w' : World} {N : Nat → Prop} {b : Nat} {v vm : Value} {vs : List Value} {m : Ws} {os : List Ob}
abbrev TS : TypeId := 56
/-- one of a row's writes is laid anew -/
theorem WinAtW.set {b o c i : Nat} {l : Wl} (h : WinAtW w b o c l) (hi : i < l.length) (x : Wr) : WinAtW (w.setCells b (o + i * 5) x.cs) b o c (l.set i x) := by
  have hf := h.fit
  refine ⟨by rw [List.length_set]; exact hf, h.cap, h.pos, ?_, fun j hj => World.isSome_setCells _ _ _ _ _ (h.there j hj), PlainW.setCells _ _ _ _ h.plain⟩
  have e : l.set i x = l.take i ++ (x :: l.drop (i + 1)) := by rw [List.set_eq_take_append_cons_drop, if_pos hi]
  have e0 : l = l.take i ++ (l[i] :: l.drop (i + 1)) := by rw [List.getElem_cons_drop, List.take_append_drop]
  have r := h.row
  rw [e0, wcs_append, wcs_cons, rangeAt_appendW, rangeAt_appendW, wcs_len, List.length_take, Nat.min_eq_left (by omega)] at r
  obtain ⟨r1, r2, r3⟩ := r
  have r3 : w.rangeAt b (o + i * 5 + 5) (wcs (l.drop (i + 1))) := r3
  rw [e, wcs_append, wcs_cons, rangeAt_appendW, rangeAt_appendW, wcs_len, List.length_take, Nat.min_eq_left (by omega)]
  refine ⟨World.rangeAt_setCells_apart r1 _ _ _ (.inr (.inl (by rw [wcs_len, List.length_take]; omega))), setCells_atW fun j hj => ?_, World.rangeAt_setCells_apart r3 _ _ _ (.inr (.inr (Nat.le_refl _)))⟩
  have hj : j < 5 := hj
  have := h.there (i * 5 + j) (by omega)
  rwa [← Nat.add_assoc] at this
theorem Sets.setAt {g o n c i : Nat} {j : Nat} (h : Side w0 N w os) (hj : os[j]? = some (oWr v m.L)) (hv : v = .slice (some ⟨g, o, none⟩) n c) (hi : i < m.L.length) (x : Wr) : Side w0 N (w.setCells g (o + i * 5) x.cs) (os.set j (oWr v (m.L.set i x))) := by
  obtain ⟨F, p, _, k⟩ := h.left hj
  refine k _ _ F (Chg.setCells (Chg.refl _ _) (.inl ((p.2 g).2 (by rw [hv]; rfl))) _ _) ⟨?_, p.2⟩ fun _ e => .inl e
  rcases p.1 with ⟨e, e2⟩ | ⟨b', o', c', e, q⟩
  · rw [e2] at hi; cases hi
  · rw [hv] at e
    injection e with e1 e2 e3
    injection e1 with e1
    injection e1 with e1 e4 _
    subst e1; subst e4; subst e3
    rw [hv, e2]
    have := (q.set hi x).node
    rwa [List.length_set] at this
/-- a row that was turned by a call -/
theorem Sets.moved {j : Nat} {v' : Value} {l l' : Wl} (h : Side w0 N w os) (hj : os[j]? = some (oWr v l)) (hn : NodeAtW w' v' l') (hc : Chg (fun k => v.ownBlock = some k) w w') (hb : ∀ k, v'.ownBlock = some k → v.ownBlock = some k ∨ w.heap.size ≤ k) : Side w0 N w' (os.set j (oWr v' l')) := by
  obtain ⟨F, p, _, k⟩ := h.left hj
  exact k _ _ (fun k => v'.ownBlock = some k) (hc.mono fun k e => (p.2 k).2 e) ⟨hn, fun _ => Iff.rfl⟩ fun k e => (hb k e).imp (fun e => (p.2 k).2 e) id
/-- one write goes into a row, whether there is one or not -/
theorem xInsertV (i : Nat) (g : Nat) (l : Wl) (x : Wr) (hn : NodeAtW w v l) (hi : i ≤ l.length) (hl : l.length ≤ 1000) (hx : RowAt w g x.cs 42) (hne : ∀ k, v.ownBlock = some k → g ≠ k) :
    Calls Try.prog 40 #[v, .int .i64 (i : Nat), .slice (some ⟨g, 0, none⟩) 1 1] w fun e w' => ∃ v', e = .returned v' ∧ NodeAtW w' v' (insW l i x) ∧ Chg (fun k => v.ownBlock = some k) w w' ∧ ∀ k, v'.ownBlock = some k → v.ownBlock = some k ∨ w.heap.size ≤ k := by
  rcases hn with ⟨rfl, rfl⟩ | ⟨b, o, c, rfl, h⟩
  · obtain rfl : i = 0 := Nat.le_zero.1 hi
    obtain ⟨v', w', hr, k1, k2, k3⟩ := app_row 27 27 Try.underlying27 (w := w) (v := .slice none 0 0) (l := []) (.inl ⟨rfl, rfl⟩) (NodeAtW.one hx) (by simp)
    have HR := Lib.hid hr
    have K := Lib.hid (show NodeAtW w' v' (insW [] 0 x) ∧ Chg (fun k => (Value.slice none 0 0).ownBlock = some k) w w' ∧ ∀ k, v'.ownBlock = some k → (Value.slice none 0 0).ownBlock = some k ∨ w.heap.size ≤ k from ⟨k1, k2, k3⟩)
    clear hr k1 k2 k3 hx hne hi hl
    go_enter Try.func40, Try.ntmps40
    go_wp2_with (at_builtin; refine Lib.wpList_append_run _ rfl (.tmp 23) (.tmp 24) 27 27 rfl _ _ rfl rfl _ _ HR.out ?_)
    go_ret
    exact ⟨_, rfl, K.out⟩
  · exact (xInsertW w b o c g i l x h hi (Nat.le_trans hl (by decide)) hx (hne b rfl)).mono fun e w' ⟨v', he, hm⟩ => ⟨v', he, hm.chg⟩

set_option maxRecDepth 100000 in
set_option maxHeartbeats 4000000 in
/-- write -/
theorem xWriteW (x : Wr) (h : Side w0 N w (sOs TS b v vm vs m)) (ok : m.Ok) (hf : x.val.Fits) :
    Calls Try.prog 32 #[PtrW b, .agg #[.string x.key, .bool x.gone, .bool x.val.num, .string x.val.txt, .int .u64 (x.val.bits : Int)]] w fun e w' =>
      e = .returned (.int .i64 (m.L.wE x)) ∧ (m.wr x).Ok ∧ ∃ v' vm' vs', Side w0 N w' (sOs TS b v' vm' vs' (m.wr x)) := by
  have OKW := Lib.hid (Ws.ok_wr ok (x := x) hf.1)
  have h0 : Side w0 N w (sOs TS b v vm vs m ++ []) := by rw [List.append_nil]; exact h
  obtain ⟨W0, hW0⟩ : ∃ W, W = w.alloc (.cells #[.string x.key, .bool x.gone, .bool x.val.num, .string x.val.txt, .int .u64 (x.val.bits : Int)] 42) := ⟨_, rfl⟩
  obtain ⟨B, hB⟩ : ∃ B, B = w.heap.size := ⟨_, rfl⟩
  have b0 : Below w.heap.size w W0 := by rw [hW0]; exact (Below.refl _ _).alloc (Nat.le_refl _) _
  have R0 : RowAt W0 B x.cs 42 := by rw [hW0, hB]; exact RowAt.new w x.cs 42
  have H0 := Lib.hid (h.below b0)
  have KM := Lib.hid (xMayW x W0 hf)
  have KF := Lib.hid (fun W (hb : Below W0.heap.size W0 W) => show Calls Try.prog 28 #[PtrW b, .string x.key] W _ from
    xFindW m.L b v vm x.key W (Sets.row (os2 := []) (by rw [List.append_nil]; exact H0.out.below hb)) (Sets.node (os2 := []) (by rw [List.append_nil]; exact H0.out.below hb)) ok.l)
  have HI := Lib.hid (Wl.has_iff m.L x.key)
  have PL := Wl.pos_le m.L x.key
  have OL := ok.l.len
  have R0 := Lib.hid R0
  have HW := Lib.hid hW0
  have HB := Lib.hid hB
  have HS := Lib.hid h
  cases q : Wl.may x with
  | false =>
    have EW : m.L.wE x = 1 := by unfold Wl.wE; rw [q]; rfl
    have EM : m.wr x = m := by unfold Ws.wr Wl.wL; rw [EW, if_neg (by decide)]
    rw [EM] at OKW ⊢
    rw [EW]
    rw [q] at KM
    obtain ⟨kk, g, y⟩ := x
    obtain ⟨mm, t, u⟩ := y
    clear h h0 ok hf hW0 hB b0 PL OL KF HI q EW EM
    go_enter Try.func32, Try.ntmps32
    go_wp2_with fail
    rw [← HW.out, ← HB.out]
    obtain ⟨d0, d1, d2, d3, d4⟩ := wrF (x := ⟨kk, g, ⟨mm, t, u⟩⟩) R0.out
    go_wp2_with fail
    refine KM.out.mono ?_
    rintro e w1 ⟨rfl, hb1⟩
    have H1 := Lib.hid (H0.out.below hb1)
    clear hb1 d0 d1 d2 d3 d4
    go_wp2_with fail
    go_ret
    exact ⟨rfl, OKW.out, v, vm, vs, H1.out⟩
  | true =>
    rw [q] at KM
    obtain ⟨k32, t64⟩ := may_parts q
    have KR := Lib.hid (fun W => xFreshW x W (by omega) (by omega))
    obtain ⟨P, hP⟩ : ∃ P, P = m.L.pos x.key := ⟨_, rfl⟩
    obtain ⟨T, hT⟩ : ∃ T, T = m.L.has x.key := ⟨_, rfl⟩
    obtain ⟨n, hn⟩ : ∃ n, n = m.L.length := ⟨_, rfl⟩
    have HP := Lib.hid hP
    have HN := Lib.hid hn
    have HT := Lib.hid hT
    have MX := Lib.hid q
    simp only [← hP, ← hT] at KF
    rw [← hP, ← hT, ← hn] at HI
    rw [← hP, ← hn] at PL
    rw [← hn] at OL
    have EW := Lib.hid (show m.L.wE x = if T = false ∧ 16 ≤ n then 18 else 0 by unfold Wl.wE; rw [q, if_pos rfl, ← hT, ← hn])
    obtain ⟨E, hE⟩ : ∃ E, E = m.L.wE x := ⟨_, rfl⟩
    rw [← hE] at EW ⊢
    have HE := Lib.hid hE
    clear h h0 ok hf hW0 hB b0 q hP hT hn hE k32 t64
    obtain ⟨kk, g, y⟩ := x
    obtain ⟨mm, t, u⟩ := y
    have KM : Hid (Calls Try.prog 39 #[.agg #[.string kk, .bool g, .bool mm, .string t, .int .u64 (u : Int)]] W0 fun e w' => e = .returned (.bool true) ∧ Below W0.heap.size W0 w') := KM
    have KR : Hid (∀ W, Calls Try.prog 27 #[.agg #[.string kk, .bool g, .bool mm, .string t, .int .u64 (u : Int)]] W fun e w' => e = .returned (.agg #[.string kk, .bool g, .bool mm, .string t, .int .u64 (u : Int)]) ∧ Below W.heap.size W w') := KR
    have KF : Hid (∀ W, Below W0.heap.size W0 W → Calls Try.prog 28 #[PtrW b, .string kk] W fun e w' => e = .returned (.tuple #[.int .i64 (P : Int), .bool T]) ∧ Below W.heap.size W w') := KF
    have HW : Hid (W0 = w.alloc (.cells #[.string kk, .bool g, .bool mm, .string t, .int .u64 (u : Int)] 42)) := HW
    show Calls Try.prog 32 #[PtrW b, .agg #[.string kk, .bool g, .bool mm, .string t, .int .u64 (u : Int)]] w _
    go_enter Try.func32, Try.ntmps32
    go_wp2_with fail
    rw [← HW.out, ← HB.out]
    have CF := Lib.hid (fun W (hb : Below W0.heap.size W0 W) => wrF (x := ⟨kk, g, ⟨mm, t, u⟩⟩) (R0.out.below hb))
    have CF : Hid (∀ W, Below W0.heap.size W0 W → W.cell? ⟨B, 0, none⟩ = some (.string kk) ∧ W.cell? ⟨B, 1, none⟩ = some (.bool g) ∧ W.cell? ⟨B, 2, none⟩ = some (.bool mm) ∧ W.cell? ⟨B, 3, none⟩ = some (.string t) ∧ W.cell? ⟨B, 4, none⟩ = some (.int .u64 (u : Int))) := CF
    obtain ⟨d0, d1, d2, d3, d4⟩ := CF.out W0 (Below.refl _ _)
    go_wp2_with fail
    refine KM.out.mono ?_
    rintro e w1 ⟨rfl, hb1⟩
    have B1 := Lib.hid hb1
    clear hb1 d0 d1 d2 d3 d4 KM
    obtain ⟨d0, d1, d2, d3, d4⟩ := CF.out w1 B1.out
    go_wp2_with fail
    refine (KF.out _ B1.out).mono ?_
    rintro e w2 ⟨rfl, hb2⟩
    have B2 := Lib.hid (below_then B1.out hb2)
    clear hb2 d0 d1 d2 d3 d4 KF
    obtain ⟨d0, d1, d2, d3, d4⟩ := CF.out w2 B2.out
    have H2 := Lib.hid (H0.out.below B2.out)
    have RW := Lib.hid (fun W (h : Side w0 N W (sOs TS b v vm vs m)) => Sets.row (os2 := []) (by rw [List.append_nil]; exact h))
    have ND := Lib.hid (Sets.node (os2 := []) (by rw [List.append_nil]; exact H2.out))
    obtain ⟨A, c, rfl, sl, -⟩ := ND.out.sl
    rw [← HN.out] at H2 RW ND H0 HS
    have r0 := (RW.out _ H2.out).cell 0
    simp only [List.getElem?_cons_zero] at r0
    cases T with
    | true =>
      have e0 : E = 0 := by rw [EW.out, if_neg (by simp)]
      subst e0
      have pn : P < n := (HI.out.1 rfl).1
      obtain ⟨bb, o, rfl, hbb, c0, c1, c2, c3, c4⟩ := sl.at (j := P) (by rw [← HN.out]; exact pn)
      have fz := Lib.hid (show ∀ W, Below w2.heap.size w2 W → ∀ j, W.frozen? ⟨bb, j, none⟩ = false from fun W hb j => by
        rcases (ND.out.below hb) with ⟨e, _⟩ | ⟨b', o', c', e, q⟩
        · cases e
        · injection e with e1 _ _
          injection e1 with e1
          injection e1 with e1 _ _
          subst e1
          exact q.plain.frozen j)
      have i0 : (0 : Int) ≤ (P : Int) := by omega
      have i1 : (P : Int) < (n : Int) := by omega
      have CC := Lib.hid (fun W (hb : Below w2.heap.size w2 W) => (show SlWr W (some ⟨bb, o, none⟩) m.L from sl.below hb).at (j := P) (by rw [← HN.out]; exact pn))
      clear sl c0 c1 c2 c3 c4
      have BX := Lib.hid (show Below w2.heap.size w2 w2.drew from (Below.refl _ _).drew)
      have WB := (ND.out.lt (k := bb) rfl)
      have NB := Lib.hid (show bb ≠ B from by
        have : bb < w.heap.size := (Sets.node (os2 := []) (by rw [List.append_nil]; exact HS.out)).lt rfl
        have := HB.out; omega)
      have EQ := Lib.hid (show m.wr ⟨kk, g, ⟨mm, t, u⟩⟩ = ⟨m.L.set P ⟨kk, g, ⟨mm, t, u⟩⟩, m.M⟩ from by
        unfold Ws.wr Wl.wL
        rw [← HE.out, if_pos rfl, Wl.put_set HT.out.symm, ← HP.out])
      clear WB
      go_wp2_with fail
      refine wp_region_held_drew (S := (fun w' => w'.cell? ⟨b, 0, none⟩ = some (.slice (some ⟨bb, o, none⟩) n c) ∧ w'.cell? ⟨B, 0, none⟩ = some (.string kk) ∧ w'.cell? ⟨B, 1, none⟩ = some (.bool g) ∧ w'.cell? ⟨B, 2, none⟩ = some (.bool mm) ∧ w'.cell? ⟨B, 3, none⟩ = some (.string t) ∧ w'.cell? ⟨B, 4, none⟩ = some (.int .u64 (u : Int)))) (by kernel_rfl) (⟨r0, d0, d1, d2, d3, d4⟩) (fun hHeld => ?_)
      refine rgnTake 0 rfl (by kernel_rfl) (by kernel_rfl) (by kernel_rfl) (fun _ _ _ h => h) (by rfl) (v := ?v1) ?hy1 hHeld ?rest1
      case hy1 => (intro v hSw; obtain ⟨y0, y1, y2, y3, y4, y5⟩ := hSw; first | (go_simp; done) | (go_simp; with_reducible rfl))
      try simp only [Act.put, List.setIfInBounds_toArray, List.set_cons_zero, List.set_cons_succ]
      refine rgnTake 1 rfl (by kernel_rfl) (by kernel_rfl) (by kernel_rfl) (fun _ _ _ h => h) (by rfl) (v := ?v2) ?hy2 hHeld ?rest2
      case hy2 => (intro v hSw; obtain ⟨y0, y1, y2, y3, y4, y5⟩ := hSw; first | (go_simp; done) | (go_simp; with_reducible rfl))
      try simp only [Act.put, List.setIfInBounds_toArray, List.set_cons_zero, List.set_cons_succ]
      refine rgnTake 2 rfl (by kernel_rfl) (by kernel_rfl) (by kernel_rfl) (fun _ _ _ h => h) (by rfl) (v := ?v3) ?hy3 hHeld ?rest3
      case hy3 => (intro v hSw; obtain ⟨y0, y1, y2, y3, y4, y5⟩ := hSw; first | (go_simp; done) | (go_simp; with_reducible rfl))
      try simp only [Act.put, List.setIfInBounds_toArray, List.set_cons_zero, List.set_cons_succ]
      refine rgnTake 3 rfl (by kernel_rfl) (by kernel_rfl) (by kernel_rfl) (fun _ _ _ h => h) (by rfl) (v := ?v4) ?hy4 hHeld ?rest4
      case hy4 => (intro v hSw; obtain ⟨y0, y1, y2, y3, y4, y5⟩ := hSw; first | (go_simp; done) | (go_simp; with_reducible rfl))
      try simp only [Act.put, List.setIfInBounds_toArray, List.set_cons_zero, List.set_cons_succ]
      refine rgnTake 4 rfl (by kernel_rfl) (by kernel_rfl) (by kernel_rfl) (fun _ _ _ h => h) (by rfl) (v := ?v5) ?hy5 hHeld ?rest5
      case hy5 => (intro v hSw; obtain ⟨y0, y1, y2, y3, y4, y5⟩ := hSw; first | (go_simp; done) | (go_simp; with_reducible rfl))
      try simp only [Act.put, List.setIfInBounds_toArray, List.set_cons_zero, List.set_cons_succ]
      refine rgnTake 5 rfl (by kernel_rfl) (by kernel_rfl) (by kernel_rfl) (fun _ _ _ h => h) (by rfl) (v := ?v6) ?hy6 hHeld ?rest6
      case hy6 => (intro v hSw; obtain ⟨y0, y1, y2, y3, y4, y5⟩ := hSw; first | (go_simp; done) | (go_simp; with_reducible rfl))
      try simp only [Act.put, List.setIfInBounds_toArray, List.set_cons_zero, List.set_cons_succ]
      refine rgnOne 6 rfl (by kernel_rfl) (fun K hK => ?_)
      go_simp
      refine (KR.out _).mono ?_
      rintro r W3 ⟨rfl, hb3⟩
      have B3 := Lib.hid (below_then BX.out hb3)
      have H3 := Lib.hid (H2.out.below B3.out)
      clear hb3
      refine hK.out _ _ (⟨(by have := (RW.out _ H3.out).cell 0; simpa using this), CF.out _ (below_then B2.out B3.out)⟩) (fun hHeld => ?_)
      clear hK K
      try simp only [Act.put, List.setIfInBounds_toArray, List.set_cons_zero, List.set_cons_succ]
      refine rgnTake 7 rfl (by kernel_rfl) (by kernel_rfl) (by kernel_rfl) (fun _ _ _ h => h) (by rfl) (v := ?v7) ?hy7 hHeld ?rest7
      case hy7 => (intro v hSw; obtain ⟨y0, y1, y2, y3, y4, y5⟩ := hSw; first | (go_simp; done) | (go_simp; with_reducible rfl))
      try simp only [Act.put, List.setIfInBounds_toArray, List.set_cons_zero, List.set_cons_succ]
      obtain ⟨y0, y1, y2, y3, y4, y5⟩ := hHeld
      obtain ⟨b', o', ea, -, c0, c1, c2, c3, c4⟩ := CC.out _ B3.out
      injection ea with ea
      injection ea with ea1 ea2 _
      subst ea1; subst ea2
      have f0 := fz.out _ B3.out (o + P * 5)
      have f1 := fz.out _ B3.out (o + P * 5 + 1)
      have f2 := fz.out _ B3.out (o + P * 5 + 2)
      have f3 := fz.out _ B3.out (o + P * 5 + 3)
      have f4 := fz.out _ B3.out (o + P * 5 + 4)
      have H4 := Lib.hid (Sets.setAt (m := m) H3.out (j := 1) rfl rfl (by rw [← HN.out]; exact pn) (i := P) ⟨kk, g, ⟨mm, t, u⟩⟩)
      have H5 : Hid (Side w0 N (W3.setCells bb (o + P * 5) (Wr.cs ⟨kk, g, ⟨mm, t, u⟩⟩)) (sOs TS b (.slice (some ⟨bb, o, none⟩) n c) vm vs ⟨m.L.set P ⟨kk, g, ⟨mm, t, u⟩⟩, m.M⟩)) := H4
      have X5 := Lib.hid (show RowAt (W3.setCells bb (o + P * 5) (Wr.cs ⟨kk, g, ⟨mm, t, u⟩⟩)) B (Wr.cs ⟨kk, g, ⟨mm, t, u⟩⟩) 42 from
        (setCells_other (fun e => NB.out e.symm) _ _ _).trans (R0.out.below (below_then B2.out B3.out)))
      clear H4
      refine rgnOne 8 rfl (by kernel_rfl) (fun K hK => ?_)
      go_simp
      refine hK.out _ _ (⟨(Sets.row (os2 := []) (by rw [List.append_nil]; exact H5.out)).cell 0, wrF (x := ⟨kk, g, ⟨mm, t, u⟩⟩) X5.out⟩) (fun hHeld => ?_)
      clear hK K
      try simp only [Act.put, List.setIfInBounds_toArray, List.set_cons_zero, List.set_cons_succ]
      refine wpAnyH_done (by kernel_rfl) ?_ _
      clear y0 y1 y2 y3 y4 y5 c0 c1 c2 c3 c4 f0 f1 f2 f3 f4 d0 d1 d2 d3 d4 r0
      go_wp2_with fail
      go_ret
      first | exact ⟨rfl, OKW.out, _, vm, vs, by rw [EQ.out]; exact H5.out⟩ | exact ⟨OKW.out, _, vm, vs, by rw [EQ.out]; exact H5.out⟩
    | false =>
      clear sl
      by_cases z : 16 ≤ n
      · have e0 : E = 18 := by rw [EW.out, if_pos ⟨rfl, z⟩]
        have EM := Lib.hid (show m.wr ⟨kk, g, ⟨mm, t, u⟩⟩ = m from by unfold Ws.wr Wl.wL; rw [← HE.out, e0, if_neg (by decide)])
        subst e0
        have z1 : (16 : Int) ≤ (n : Int) := by omega
        go_wp2_with fail
        go_ret
        first | exact ⟨rfl, OKW.out, _, vm, vs, by rw [EM.out]; exact H2.out⟩ | exact ⟨OKW.out, _, vm, vs, by rw [EM.out]; exact H2.out⟩
      · have e0 : E = 0 := by rw [EW.out, if_neg (fun a => z a.2)]
        have EQ := Lib.hid (show m.wr ⟨kk, g, ⟨mm, t, u⟩⟩ = ⟨insW m.L P ⟨kk, g, ⟨mm, t, u⟩⟩, m.M⟩ from by
          unfold Ws.wr Wl.wL
          rw [← HE.out, e0, if_pos rfl, Wl.put_ins HT.out.symm, ← HP.out]; rfl)
        subst e0
        have z1 : ¬ (16 : Int) ≤ (n : Int) := by omega
        have BX := Lib.hid (show Below w2.heap.size w2 w2.drew from (Below.refl _ _).drew)
        have RB := Lib.hid (fun W (hb : Below w2.heap.size w2 W) => show W.cell? ⟨b, 0, none⟩ = some (.slice A n c) from by
          have := (RW.out _ (H2.out.below hb)).cell 0; simpa using this)
        have KI := Lib.hid (fun W (hb : Below w2.heap.size w2 W) gg (hg : RowAt W gg (Wr.cs ⟨kk, g, ⟨mm, t, u⟩⟩) 42) (hn : w2.heap.size ≤ gg) => show Calls Try.prog 40 #[.slice A n c, .int .i64 (P : Int), .slice (some ⟨gg, 0, none⟩) 1 1] W _ from
          xInsertV P gg m.L ⟨kk, g, ⟨mm, t, u⟩⟩ (ND.out.below hb) (by rw [← HN.out]; exact PL) (by rw [← HN.out]; omega) hg (fun k e => by have := ND.out.lt e; omega))
        have XB := Lib.hid (fun W (hb : Below w2.heap.size w2 W) => show RowAt W B (Wr.cs ⟨kk, g, ⟨mm, t, u⟩⟩) 42 from R0.out.below (below_then B2.out hb))
        have NB := Lib.hid (show ∀ k, (Value.slice A n c).ownBlock = some k → k ≠ B from fun k e => by
          have : k < w.heap.size := (Sets.node (os2 := []) (by rw [List.append_nil]; exact HS.out)).lt e
          have := HB.out; omega)
        have NBB := Lib.hid (show b ≠ B from by
          have : b < w.heap.size := (Sets.row (os2 := []) (by rw [List.append_nil]; exact HS.out)).lt
          have := HB.out; omega)
        have BB2 := Lib.hid (show B < w2.heap.size from by have := (R0.out.below B2.out).lt; exact this)
        go_wp2_with fail
        clear r0
        refine wp_region_held_drew (S := (fun w' => w'.cell? ⟨B, 0, none⟩ = some (.string kk) ∧ w'.cell? ⟨B, 1, none⟩ = some (.bool g) ∧ w'.cell? ⟨B, 2, none⟩ = some (.bool mm) ∧ w'.cell? ⟨B, 3, none⟩ = some (.string t) ∧ w'.cell? ⟨B, 4, none⟩ = some (.int .u64 (u : Int)))) (by kernel_rfl) (⟨d0, d1, d2, d3, d4⟩) (fun hHeld => ?_)
        refine rgnTake 0 rfl (by kernel_rfl) (by kernel_rfl) (by kernel_rfl) (fun _ _ _ h => h) (by rfl) (v := ?v8) ?hy8 hHeld ?rest8
        case hy8 => (intro v hSw; obtain ⟨y0, y1, y2, y3, y4⟩ := hSw; first | (go_simp; done) | (go_simp; with_reducible rfl))
        try simp only [Act.put, List.setIfInBounds_toArray, List.set_cons_zero, List.set_cons_succ]
        refine rgnTake 1 rfl (by kernel_rfl) (by kernel_rfl) (by kernel_rfl) (fun _ _ _ h => h) (by rfl) (v := ?v9) ?hy9 hHeld ?rest9
        case hy9 => (intro v hSw; obtain ⟨y0, y1, y2, y3, y4⟩ := hSw; first | (go_simp; done) | (go_simp; with_reducible rfl))
        try simp only [Act.put, List.setIfInBounds_toArray, List.set_cons_zero, List.set_cons_succ]
        refine rgnTake 2 rfl (by kernel_rfl) (by kernel_rfl) (by kernel_rfl) (fun _ _ _ h => h) (by rfl) (v := ?v10) ?hy10 hHeld ?rest10
        case hy10 => (intro v hSw; obtain ⟨y0, y1, y2, y3, y4⟩ := hSw; first | (go_simp; done) | (go_simp; with_reducible rfl))
        try simp only [Act.put, List.setIfInBounds_toArray, List.set_cons_zero, List.set_cons_succ]
        refine rgnTake 3 rfl (by kernel_rfl) (by kernel_rfl) (by kernel_rfl) (fun _ _ _ h => h) (by rfl) (v := ?v11) ?hy11 hHeld ?rest11
        case hy11 => (intro v hSw; obtain ⟨y0, y1, y2, y3, y4⟩ := hSw; first | (go_simp; done) | (go_simp; with_reducible rfl))
        try simp only [Act.put, List.setIfInBounds_toArray, List.set_cons_zero, List.set_cons_succ]
        refine rgnTake 5 rfl (by kernel_rfl) (by kernel_rfl) (by kernel_rfl) (fun _ _ _ h => h) (by rfl) (v := ?v12) ?hy12 hHeld ?rest12
        case hy12 => (intro v hSw; obtain ⟨y0, y1, y2, y3, y4⟩ := hSw; first | (go_simp; done) | (go_simp; with_reducible rfl))
        try simp only [Act.put, List.setIfInBounds_toArray, List.set_cons_zero, List.set_cons_succ]
        refine rgnTake 6 rfl (by kernel_rfl) (by kernel_rfl) (by kernel_rfl) (fun _ _ _ h => h) (by rfl) (v := ?v13) ?hy13 hHeld ?rest13
        case hy13 => (intro v hSw; obtain ⟨y0, y1, y2, y3, y4⟩ := hSw; first | (go_simp; done) | (go_simp; with_reducible rfl))
        try simp only [Act.put, List.setIfInBounds_toArray, List.set_cons_zero, List.set_cons_succ]
        refine rgnTwo 4 7 rfl rfl (by kernel_rfl) (fun K hK => ?_) (fun K hK => ?_)
        · have r1 := RB.out _ BX.out
          go_simp
          refine hK.out _ _ (⟨d0, d1, d2, d3, d4⟩) (fun hHeld => ?_)
          clear hK K
          try simp only [Act.put, List.setIfInBounds_toArray, List.set_cons_zero, List.set_cons_succ]
          refine rgnOne 7 rfl (by kernel_rfl) (fun K hK => ?_)
          go_simp
          refine (KR.out _).mono ?_
          rintro r W3 ⟨rfl, hb3⟩
          have B3 := Lib.hid (below_then BX.out hb3)
          clear hb3
          refine hK.out _ _ (CF.out _ (below_then B2.out B3.out)) (fun hHeld => ?_)
          clear hK K
          try simp only [Act.put, List.setIfInBounds_toArray, List.set_cons_zero, List.set_cons_succ]
          refine rgnOne 8 rfl (by kernel_rfl) (fun K hK => ?_)
          go_simp
          refine hK.out _ _ (CF.out _ (below_then B2.out (B3.out.alloc B3.out.size _))) (fun hHeld => ?_)
          clear hK K
          try simp only [Act.put, List.setIfInBounds_toArray, List.set_cons_zero, List.set_cons_succ]
          have B4 := Lib.hid (show Below w2.heap.size w2 (W3.alloc (.cells #[.string kk, .bool g, .bool mm, .string t, .int .u64 (u : Int)] 42)) from B3.out.alloc B3.out.size _)
          have X4 := Lib.hid (show RowAt (W3.alloc (.cells #[.string kk, .bool g, .bool mm, .string t, .int .u64 (u : Int)] 42)) W3.heap.size (Wr.cs ⟨kk, g, ⟨mm, t, u⟩⟩) 42 from RowAt.new W3 (Wr.cs ⟨kk, g, ⟨mm, t, u⟩⟩) _)
          have KK := Lib.hid (KI.out _ B4.out _ X4.out B3.out.size)
          clear r1
          refine rgnOne 9 rfl (by kernel_rfl) (fun K hK => ?_)
          go_simp
          refine KK.out.mono ?_
          rintro r W5 ⟨v', rfl, n5, c5, k5⟩
          obtain ⟨A5, c6, e5, -⟩ := n5.sl
          obtain ⟨q5, hq5⟩ : ∃ q, q = (insW m.L P ⟨kk, g, ⟨mm, t, u⟩⟩).length := ⟨_, rfl⟩
          rw [← hq5] at e5
          subst e5
          have H5 := Lib.hid (Sets.moved (H2.out.below B4.out) (j := 1) rfl n5 c5 k5)
          have X5 := Lib.hid (show RowAt W5 B (Wr.cs ⟨kk, g, ⟨mm, t, u⟩⟩) 42 from (c5.block B (Nat.lt_of_lt_of_le BB2.out B4.out.size) (fun e => NB.out _ e rfl)).trans (XB.out _ B4.out))
          clear n5 c5 k5 hq5
          refine hK.out _ _ (wrF (x := ⟨kk, g, ⟨mm, t, u⟩⟩) X5.out) (fun hHeld => ?_)
          clear hK K
          try simp only [Act.put, List.setIfInBounds_toArray, List.set_cons_zero, List.set_cons_succ]
          refine rgnTake 10 rfl (by kernel_rfl) (by kernel_rfl) (by kernel_rfl) (fun _ _ _ h => h) (by rfl) (v := ?v14) ?hy14 hHeld ?rest14
          case hy14 => (intro v hSw; obtain ⟨y0, y1, y2, y3, y4⟩ := hSw; first | (go_simp; done) | (go_simp; with_reducible rfl))
          try simp only [Act.put, List.setIfInBounds_toArray, List.set_cons_zero, List.set_cons_succ]
          refine rgnTake 11 rfl (by kernel_rfl) (by kernel_rfl) (by kernel_rfl) (fun _ _ _ h => h) (by rfl) (v := ?v15) ?hy15 hHeld ?rest15
          case hy15 => (intro v hSw; obtain ⟨y0, y1, y2, y3, y4⟩ := hSw; first | (go_simp; done) | (go_simp; with_reducible rfl))
          try simp only [Act.put, List.setIfInBounds_toArray, List.set_cons_zero, List.set_cons_succ]
          have s0 := (H5.out.rowAt (i := 0) rfl).cell 0
          have z0 := (H5.out.rowAt (i := 0) rfl).frozen 0
          simp only [List.getElem?_cons_zero] at s0
          have H6 := Lib.hid (H5.out.rowSet (i := 0) (g := b) (cs' := [.slice A5 q5 c6, vm]) rfl ((Chg.refl (fun k => k = b) W5).setCell (p := ⟨b, 0, none⟩) (.inl rfl) (.slice A5 q5 c6)) ((H5.out.rowAt (i := 0) rfl).set 0 _))
          have H7 : Hid (Side w0 N (W5.setCell ⟨b, 0, none⟩ (.slice A5 q5 c6)) (sOs TS b (.slice A5 q5 c6) vm vs ⟨insW m.L P ⟨kk, g, ⟨mm, t, u⟩⟩, m.M⟩)) := H6
          have X7 := Lib.hid (X5.out.other (show b ≠ B from NBB.out) (.slice A5 q5 c6) (p := ⟨b, 0, none⟩))
          clear H6
          refine rgnOne 12 rfl (by kernel_rfl) (fun K hK => ?_)
          go_simp
          refine hK.out _ _ (wrF (x := ⟨kk, g, ⟨mm, t, u⟩⟩) X7.out) (fun hHeld => ?_)
          clear hK K
          try simp only [Act.put, List.setIfInBounds_toArray, List.set_cons_zero, List.set_cons_succ]
          refine wpAnyH_done (by kernel_rfl) ?_ _
          clear s0 z0 d0 d1 d2 d3 d4
          go_wp2_with fail
          go_ret
          first | exact ⟨rfl, OKW.out, _, vm, vs, by rw [EQ.out]; exact H7.out⟩ | exact ⟨OKW.out, _, vm, vs, by rw [EQ.out]; exact H7.out⟩
        · go_simp
          refine (KR.out _).mono ?_
          rintro r W3 ⟨rfl, hb3⟩
          have B3 := Lib.hid (below_then BX.out hb3)
          clear hb3
          refine hK.out _ _ (CF.out _ (below_then B2.out B3.out)) (fun hHeld => ?_)
          clear hK K
          try simp only [Act.put, List.setIfInBounds_toArray, List.set_cons_zero, List.set_cons_succ]
          refine rgnTwo 4 8 rfl rfl (by kernel_rfl) (fun K hK => ?_) (fun K hK => ?_)
          · have r1 := RB.out _ B3.out
            go_simp
            refine hK.out _ _ (CF.out _ (below_then B2.out B3.out)) (fun hHeld => ?_)
            clear hK K
            try simp only [Act.put, List.setIfInBounds_toArray, List.set_cons_zero, List.set_cons_succ]
            refine rgnOne 8 rfl (by kernel_rfl) (fun K hK => ?_)
            go_simp
            refine hK.out _ _ (CF.out _ (below_then B2.out (B3.out.alloc B3.out.size _))) (fun hHeld => ?_)
            clear hK K
            try simp only [Act.put, List.setIfInBounds_toArray, List.set_cons_zero, List.set_cons_succ]
            have B4 := Lib.hid (show Below w2.heap.size w2 (W3.alloc (.cells #[.string kk, .bool g, .bool mm, .string t, .int .u64 (u : Int)] 42)) from B3.out.alloc B3.out.size _)
            have X4 := Lib.hid (show RowAt (W3.alloc (.cells #[.string kk, .bool g, .bool mm, .string t, .int .u64 (u : Int)] 42)) W3.heap.size (Wr.cs ⟨kk, g, ⟨mm, t, u⟩⟩) 42 from RowAt.new W3 (Wr.cs ⟨kk, g, ⟨mm, t, u⟩⟩) _)
            have KK := Lib.hid (KI.out _ B4.out _ X4.out B3.out.size)
            clear r1
            refine rgnOne 9 rfl (by kernel_rfl) (fun K hK => ?_)
            go_simp
            refine KK.out.mono ?_
            rintro r W5 ⟨v', rfl, n5, c5, k5⟩
            obtain ⟨A5, c6, e5, -⟩ := n5.sl
            obtain ⟨q5, hq5⟩ : ∃ q, q = (insW m.L P ⟨kk, g, ⟨mm, t, u⟩⟩).length := ⟨_, rfl⟩
            rw [← hq5] at e5
            subst e5
            have H5 := Lib.hid (Sets.moved (H2.out.below B4.out) (j := 1) rfl n5 c5 k5)
            have X5 := Lib.hid (show RowAt W5 B (Wr.cs ⟨kk, g, ⟨mm, t, u⟩⟩) 42 from (c5.block B (Nat.lt_of_lt_of_le BB2.out B4.out.size) (fun e => NB.out _ e rfl)).trans (XB.out _ B4.out))
            clear n5 c5 k5 hq5
            refine hK.out _ _ (wrF (x := ⟨kk, g, ⟨mm, t, u⟩⟩) X5.out) (fun hHeld => ?_)
            clear hK K
            try simp only [Act.put, List.setIfInBounds_toArray, List.set_cons_zero, List.set_cons_succ]
            refine rgnTake 10 rfl (by kernel_rfl) (by kernel_rfl) (by kernel_rfl) (fun _ _ _ h => h) (by rfl) (v := ?v16) ?hy16 hHeld ?rest16
            case hy16 => (intro v hSw; obtain ⟨y0, y1, y2, y3, y4⟩ := hSw; first | (go_simp; done) | (go_simp; with_reducible rfl))
            try simp only [Act.put, List.setIfInBounds_toArray, List.set_cons_zero, List.set_cons_succ]
            refine rgnTake 11 rfl (by kernel_rfl) (by kernel_rfl) (by kernel_rfl) (fun _ _ _ h => h) (by rfl) (v := ?v17) ?hy17 hHeld ?rest17
            case hy17 => (intro v hSw; obtain ⟨y0, y1, y2, y3, y4⟩ := hSw; first | (go_simp; done) | (go_simp; with_reducible rfl))
            try simp only [Act.put, List.setIfInBounds_toArray, List.set_cons_zero, List.set_cons_succ]
            have s0 := (H5.out.rowAt (i := 0) rfl).cell 0
            have z0 := (H5.out.rowAt (i := 0) rfl).frozen 0
            simp only [List.getElem?_cons_zero] at s0
            have H6 := Lib.hid (H5.out.rowSet (i := 0) (g := b) (cs' := [.slice A5 q5 c6, vm]) rfl ((Chg.refl (fun k => k = b) W5).setCell (p := ⟨b, 0, none⟩) (.inl rfl) (.slice A5 q5 c6)) ((H5.out.rowAt (i := 0) rfl).set 0 _))
            have H7 : Hid (Side w0 N (W5.setCell ⟨b, 0, none⟩ (.slice A5 q5 c6)) (sOs TS b (.slice A5 q5 c6) vm vs ⟨insW m.L P ⟨kk, g, ⟨mm, t, u⟩⟩, m.M⟩)) := H6
            have X7 := Lib.hid (X5.out.other (show b ≠ B from NBB.out) (.slice A5 q5 c6) (p := ⟨b, 0, none⟩))
            clear H6
            refine rgnOne 12 rfl (by kernel_rfl) (fun K hK => ?_)
            go_simp
            refine hK.out _ _ (wrF (x := ⟨kk, g, ⟨mm, t, u⟩⟩) X7.out) (fun hHeld => ?_)
            clear hK K
            try simp only [Act.put, List.setIfInBounds_toArray, List.set_cons_zero, List.set_cons_succ]
            refine wpAnyH_done (by kernel_rfl) ?_ _
            clear s0 z0 d0 d1 d2 d3 d4
            go_wp2_with fail
            go_ret
            first | exact ⟨rfl, OKW.out, _, vm, vs, by rw [EQ.out]; exact H7.out⟩ | exact ⟨OKW.out, _, vm, vs, by rw [EQ.out]; exact H7.out⟩
          · go_simp
            refine hK.out _ _ (CF.out _ (below_then B2.out (B3.out.alloc B3.out.size _))) (fun hHeld => ?_)
            clear hK K
            try simp only [Act.put, List.setIfInBounds_toArray, List.set_cons_zero, List.set_cons_succ]
            have r1 := RB.out _ (B3.out.alloc B3.out.size (.cells #[.string kk, .bool g, .bool mm, .string t, .int .u64 (u : Int)] 42))
            refine rgnOne 4 rfl (by kernel_rfl) (fun K hK => ?_)
            go_simp
            refine hK.out _ _ (CF.out _ (below_then B2.out (B3.out.alloc B3.out.size _))) (fun hHeld => ?_)
            clear hK K
            try simp only [Act.put, List.setIfInBounds_toArray, List.set_cons_zero, List.set_cons_succ]
            have B4 := Lib.hid (show Below w2.heap.size w2 (W3.alloc (.cells #[.string kk, .bool g, .bool mm, .string t, .int .u64 (u : Int)] 42)) from B3.out.alloc B3.out.size _)
            have X4 := Lib.hid (show RowAt (W3.alloc (.cells #[.string kk, .bool g, .bool mm, .string t, .int .u64 (u : Int)] 42)) W3.heap.size (Wr.cs ⟨kk, g, ⟨mm, t, u⟩⟩) 42 from RowAt.new W3 (Wr.cs ⟨kk, g, ⟨mm, t, u⟩⟩) _)
            have KK := Lib.hid (KI.out _ B4.out _ X4.out B3.out.size)
            clear r1
            refine rgnOne 9 rfl (by kernel_rfl) (fun K hK => ?_)
            go_simp
            refine KK.out.mono ?_
            rintro r W5 ⟨v', rfl, n5, c5, k5⟩
            obtain ⟨A5, c6, e5, -⟩ := n5.sl
            obtain ⟨q5, hq5⟩ : ∃ q, q = (insW m.L P ⟨kk, g, ⟨mm, t, u⟩⟩).length := ⟨_, rfl⟩
            rw [← hq5] at e5
            subst e5
            have H5 := Lib.hid (Sets.moved (H2.out.below B4.out) (j := 1) rfl n5 c5 k5)
            have X5 := Lib.hid (show RowAt W5 B (Wr.cs ⟨kk, g, ⟨mm, t, u⟩⟩) 42 from (c5.block B (Nat.lt_of_lt_of_le BB2.out B4.out.size) (fun e => NB.out _ e rfl)).trans (XB.out _ B4.out))
            clear n5 c5 k5 hq5
            refine hK.out _ _ (wrF (x := ⟨kk, g, ⟨mm, t, u⟩⟩) X5.out) (fun hHeld => ?_)
            clear hK K
            try simp only [Act.put, List.setIfInBounds_toArray, List.set_cons_zero, List.set_cons_succ]
            refine rgnTake 10 rfl (by kernel_rfl) (by kernel_rfl) (by kernel_rfl) (fun _ _ _ h => h) (by rfl) (v := ?v18) ?hy18 hHeld ?rest18
            case hy18 => (intro v hSw; obtain ⟨y0, y1, y2, y3, y4⟩ := hSw; first | (go_simp; done) | (go_simp; with_reducible rfl))
            try simp only [Act.put, List.setIfInBounds_toArray, List.set_cons_zero, List.set_cons_succ]
            refine rgnTake 11 rfl (by kernel_rfl) (by kernel_rfl) (by kernel_rfl) (fun _ _ _ h => h) (by rfl) (v := ?v19) ?hy19 hHeld ?rest19
            case hy19 => (intro v hSw; obtain ⟨y0, y1, y2, y3, y4⟩ := hSw; first | (go_simp; done) | (go_simp; with_reducible rfl))
            try simp only [Act.put, List.setIfInBounds_toArray, List.set_cons_zero, List.set_cons_succ]
            have s0 := (H5.out.rowAt (i := 0) rfl).cell 0
            have z0 := (H5.out.rowAt (i := 0) rfl).frozen 0
            simp only [List.getElem?_cons_zero] at s0
            have H6 := Lib.hid (H5.out.rowSet (i := 0) (g := b) (cs' := [.slice A5 q5 c6, vm]) rfl ((Chg.refl (fun k => k = b) W5).setCell (p := ⟨b, 0, none⟩) (.inl rfl) (.slice A5 q5 c6)) ((H5.out.rowAt (i := 0) rfl).set 0 _))
            have H7 : Hid (Side w0 N (W5.setCell ⟨b, 0, none⟩ (.slice A5 q5 c6)) (sOs TS b (.slice A5 q5 c6) vm vs ⟨insW m.L P ⟨kk, g, ⟨mm, t, u⟩⟩, m.M⟩)) := H6
            have X7 := Lib.hid (X5.out.other (show b ≠ B from NBB.out) (.slice A5 q5 c6) (p := ⟨b, 0, none⟩))
            clear H6
            refine rgnOne 12 rfl (by kernel_rfl) (fun K hK => ?_)
            go_simp
            refine hK.out _ _ (wrF (x := ⟨kk, g, ⟨mm, t, u⟩⟩) X7.out) (fun hHeld => ?_)
            clear hK K
            try simp only [Act.put, List.setIfInBounds_toArray, List.set_cons_zero, List.set_cons_succ]
            refine wpAnyH_done (by kernel_rfl) ?_ _
            clear s0 z0 d0 d1 d2 d3 d4
            go_wp2_with fail
            go_ret
            first | exact ⟨rfl, OKW.out, _, vm, vs, by rw [EQ.out]; exact H7.out⟩ | exact ⟨OKW.out, _, vm, vs, by rw [EQ.out]; exact H7.out⟩
end

end Go.Proofs.Ytnbkekbgedioeaa
