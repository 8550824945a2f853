/- ExprSame: walked. -/
import Derived.Test.YtjahaegdmfgmgaaDoorG1l
namespace Go.Proofs.YtjahaegdmfgmgaaDoor.exprSame
open Go.Proofs.YtjahaegdmfgmgaaDoor Go.Joins Go.ChangeShapes Go.WideShapes Go.ChangeAt Go.RowKit Ex Fl

theorem infoC : (Tryd.prog.info? 42).map (fun i => (i.zero, i.size, i.bytes)) = some (some (.agg #[.int .i64 0, .int .u64 0]), 2, 16) := by kernel_rfl
theorem ccs_len (l : List Cd) : (ccs l).length = l.length * 2 := flat_len (f := Cd.cs) (n := 2) (fun _ => rfl) l
theorem ccs_at (l : List Cd) (i j : Nat) (hi : i < l.length) (hj : j < 2) : (ccs l)[i * 2 + j]? = (l[i].cs)[j]? := flat_at (f := Cd.cs) (n := 2) (fun _ => rfl) l i j hi hj
/-- a row of steps of the call's own -/
def OwnC (w : World) (B : Nat) (v : Value) (l : List Cd) : Prop := w.ownsRow B 42 2 v l.length (ccs l)
theorem OwnC.made (w : World) (B : Nat) (hB : B ≤ w.heap.size) : OwnC (w.alloc (.cells #[] 42)) B (.slice (some ⟨w.heap.size, 0, none⟩) 0 0) [] :=
  World.ownsRow_made w #[] 0 hB (Nat.zero_le _) (by simp)
theorem OwnC.sl {w : World} {B : Nat} {v : Value} {l : List Cd} (h : OwnC w B v l) : ∃ A c, v = .slice A l.length c ∧ SlC w A l := by
  have h1 := h
  unfold OwnC at h1
  rcases h.2 with ⟨rfl, h0⟩ | ⟨g, cap, cur, rfl, hB, hg, _⟩
  · exact ⟨none, 0, by rw [h0], fun hp => by omega⟩
  · refine ⟨_, cap, rfl, fun hp => ⟨g, 0, rfl, (Array.getElem?_eq_some_iff.1 hg).1, fun j hj => ?_⟩⟩
    have e : l.getD j Cd.Z = l[j] := by rw [List.getD_eq_getElem?_getD, List.getElem?_eq_getElem hj]; rfl
    have at_ : ∀ i, i < 2 → w.cell? ⟨g, j * 2 + i, none⟩ = (l.getD j Cd.Z).cs[i]? := fun i hi => by
      rw [h1.cellAt (j * 2 + i) (by omega), e]
      exact ccs_at l j i hj hi
    rw [Nat.zero_add]
    exact ⟨at_ 0 (by decide), at_ 1 (by decide)⟩
set_option maxRecDepth 100000 in
/-- append(v, xs...) -/
theorem wp_putNC {w : World} {ops : Array Oper} {rest : List Oper} {o : Oper} {a : Act} {Q : Exit → Act → World → Prop} (hgd : o.guard = none) (s x : Operand)
    (ho : o.op = .call { callee := .builtin .append, args := #[s, x], argTypes := #[22, 22] })
    (B : Nat) (v : Value) (hs : a.eval s = v) (hown : OwnC w B v []) (A : Option Addr) (c n : Nat) (ys : List Cd) (hn : ys.length = n) (hx : a.eval x = .slice A n c)
    (hA : SlC w A ys) (hnil : A = none → c = 0) (hl : ys.length ≤ 1000000) (hB : B ≤ w.heap.size)
    (h : ∀ v' w', OwnC w' B v' ys → Below B w w' → wpList Tryd.prog ops Q rest (a.put o.dst v') w') : wpList Tryd.prog ops Q (o :: rest) a w := by
  obtain ⟨i0, hi, hz0, hz1, hz2⟩ := info_parts infoC
  subst hn
  cases ys with
  | nil =>
    cases A with
    | none =>
      obtain rfl := hnil rfl
      exact wpList_append_own_none hgd s x 22 ho B 42 i0 2 Tryd.underlying22 hi v 0 _ hs hown hx (h v w hown (Below.refl _ _))
    | some ad =>
      refine wpList_append_own w hgd s x 22 ho B 42 i0 _ 2 16 Tryd.underlying22 hi hz0 hz1 hz2 rfl (by decide) v 0 _ hs hown ad 0 c [] hx rfl (fun j u hj => by simp at hj) (fun u hu => by cases hu) (by unfold maxLen; omega) (by omega) hB ?_
      intro v' w' h1 h2 _
      exact h v' w' h1 ((Below.refl _ _).grown h2 hB (fun k hk => (World.ownsRow.lt hown k hk).1))
  | cons y l =>
    obtain ⟨b, o', rfl, hlt, hc⟩ := hA (by simp)
    refine wpList_append_own w hgd s x 22 ho B 42 i0 _ 2 16 Tryd.underlying22 hi hz0 hz1 hz2 rfl (by decide) v 0 _ hs hown ⟨b, o', none⟩ (y :: l).length c (ccs (y :: l)) hx (ccs_len _) ?_ ?_ (by unfold maxLen; simp at hl ⊢; omega) (by simp at hl ⊢; omega) hB ?_
    · intro j u hj
      have hjl : j < (y :: l).length * 2 := by rw [← ccs_len]; exact (List.getElem?_eq_some_iff.1 hj).1
      have h2 : j / 2 < (y :: l).length := by omega
      have e : (y :: l).getD (j / 2) Cd.Z = (y :: l)[j / 2] := by rw [List.getD_eq_getElem?_getD, List.getElem?_eq_getElem h2]; rfl
      obtain ⟨q0, q1⟩ := hc (j / 2) h2
      rw [e] at q0 q1
      have hm : j % 2 = 0 ∨ j % 2 = 1 := by omega
      rw [addA14]
      rcases hm with hm | hm
      · have ej : j = j / 2 * 2 + 0 := by omega
        rw [ej, ccs_at _ _ _ h2 (by decide)] at hj
        rw [show o' + j = o' + j / 2 * 2 by omega, q0]
        exact hj
      · have ej : j = j / 2 * 2 + 1 := by omega
        rw [ej, ccs_at _ _ _ h2 (by decide)] at hj
        rw [show o' + j = o' + j / 2 * 2 + 1 by omega, q1]
        exact hj
    · intro u hu
      obtain ⟨z, _, hz⟩ := List.mem_flatMap.1 hu
      unfold Cd.cs at hz
      simp at hz
      rcases hz with rfl | rfl <;> rfl
    · intro v' w' h1 h2 _
      refine h v' w' ?_ ((Below.refl _ _).grown h2 hB (fun k hk => (World.ownsRow.lt hown k hk).1))
      have e0 : ccs ([] : List Cd) ++ ccs (y :: l) = ccs (y :: l) := rfl
      rw [e0] at h1
      unfold OwnC
      simpa using h1
set_option maxRecDepth 100000 in
theorem eqIn_code (d : Nat) (w : World) (b b' : Int) (k k' : Int) :
    (Op.equalIn (d + 2) 42 (.agg #[.int .i64 b, .int .u64 k]) (.agg #[.int .i64 b', .int .u64 k'])).run Tryd.prog w = .ok ((b == b') && (k == k')) w := by
  rw [run_equalIn_struct w (d + 1) 42 _ _ (by kernel_rfl) (by kernel_rfl)]
  simp [go_sem]
  by_cases h1 : b = b' <;> by_cases h2 : k = k' <;> simp [h1, h2]
theorem neq_self14 (op : Int) (b : Int) (w : World) : (binOp .neq 42 (.agg #[.int .i64 op, .int .u64 b]) (.agg #[.int .i64 op, .int .u64 b])).run Tryd.prog w = .ok (.bool false) w := by
  rw [run_neq_struct, eqIn_code 9998]
  simp

theorem runV_same {p : List Cd} {x y : Nat} (h : bitsOf x = bitsOf y) : runV p x = runV p y := by
  unfold runV; rw [go_same h]

set_option maxRecDepth 100000 in
set_option maxHeartbeats 2000000 in
theorem walk (p : List Cd) (x y : Nat) (A : Option Addr) (c : Nat) (w : World) (h : SlC w A p) (hnil : A = none → c = 0) (hf : FitC p) (hl : p.length ≤ maxLen) (hx : Fits x) (hy : Fits y) (ht : TabH w) :
    Calls Tryd.prog 5 #[.slice A p.length c, .int .u64 (x : Int), .int .u64 (y : Int)] w fun e w' => e = .returned (.bool true) ∧ Below w.heap.size w w' := by
  have AW := Lib.hid (awake14 w ht)
  have KX := Lib.hid (fun W (hb : Below w.heap.size w W) => xRun p x A c W (h.below hb) hf hl hx (ht.bel hb))
  have KY := Lib.hid (fun W (hb : Below w.heap.size w W) => xRun p y A c W (h.below hb) hf hl hy (ht.bel hb))
  have BX := Lib.hid (rbits x hx)
  have BY := Lib.hid (rbits y hy)
  have SM := Lib.hid (fun (e : bitsOf x = bitsOf y) => runV_same (p := p) e)
  unfold maxLen at hl
  obtain ⟨n, hn⟩ : ∃ n, n = p.length := ⟨_, rfl⟩
  obtain ⟨⟨Y, E⟩, hR⟩ : ∃ r, r = runV p x := ⟨_, rfl⟩
  obtain ⟨⟨Y2, E2⟩, hR2⟩ : ∃ r, r = runV p y := ⟨_, rfl⟩
  obtain ⟨bx, hbx⟩ : ∃ r, r = bitsOf x := ⟨_, rfl⟩
  obtain ⟨bz, hbz⟩ : ∃ r, r = bitsOf y := ⟨_, rfl⟩
  simp only [← hn, ← hR] at KX
  simp only [← hn, ← hR2] at KY
  simp only [← hbx] at BX
  simp only [← hbz] at BY
  rw [← hbx, ← hbz, ← hR, ← hR2] at SM
  rw [← hn] at hl ⊢
  have HN := Lib.hid hn
  have HS := Lib.hid h
  have HNIL := Lib.hid hnil
  clear h hf hx hy ht hn hR hR2 hbx hbz hnil
  by_cases q1 : 100 < n
  · go_enter Tryd.func5, Tryd.ntmps5
    go_wp2_with fail
    refine AW.out.mono ?_
    rintro e w1 ⟨rfl, hb1⟩
    have B1 := Lib.hid hb1
    clear hb1
    go_wp2_with fail
    go_ret
    exact ⟨rfl, B1.out⟩
  have NE := neq_self14
  by_cases qb : bx = bz
  · have e0 := SM.out qb
    injection e0 with e1 e2
    subst e1; subst e2; subst qb
    have KZ := KY
    have nb : ((bx : Int) != (bx : Int)) = false := by simp
    clear SM KY
    go_enter Tryd.func5, Tryd.ntmps5
    go_wp2_with fail
    refine AW.out.mono ?_
    rintro e w1 ⟨rfl, hb1⟩
    have B1 := Lib.hid hb1
    have S1 := Lib.hid (HS.out.below hb1)
    have OM := Lib.hid (OwnC.made w1 w1.heap.size (Nat.le_refl _))
    have BM := Lib.hid ((Below.refl w1.heap.size w1).alloc (Nat.le_refl _) (.cells #[] 42))
    clear hb1
    go_wp2_with (at_builtin; refine wp_putNC rfl (.tmp 20) (.tmp 21) rfl w1.heap.size _ rfl OM.out A c n p HN.out.symm rfl (S1.out.below BM.out) HNIL.out (by rw [← HN.out]; omega) BM.out.size ?_; intro v2 w2 hown2 hb2; obtain ⟨A2, c2, rfl, hs2⟩ := hown2.sl; rw [← HN.out]; have S2 := Lib.hid hs2; have B2 := Lib.hid (below_then B1.out (BM.out.trans hb2)); clear hown2 hb2 hs2)
    refine (BX.out _).mono ?_
    rintro e w' ⟨rfl, rfl⟩
    go_wp2_with fail
    refine (BY.out _).mono ?_
    rintro e w' ⟨rfl, rfl⟩
    go_wp2_with fail
    refine (KX.out _ B2.out).mono ?_
    rintro e w3 ⟨rfl, hb3⟩
    have B3 := Lib.hid (below_then B2.out hb3)
    have S3 := Lib.hid (S2.out.below hb3)
    clear hb3
    go_wp2_with fail
    refine (KZ.out _ B3.out).mono ?_
    rintro e w4 ⟨rfl, hb4⟩
    have B4 := Lib.hid (below_then B3.out hb4)
    have S4 := Lib.hid (S3.out.below hb4)
    have P4 := Lib.hid (HS.out.below B4.out)
    clear hb4
    go_wp2_with fail
    go_loopw [14] (fun vi wr => ∃ j : Nat, j ≤ n ∧ vi = .int .i64 j ∧ Hid (SlC wr A p) ∧ Hid (SlC wr A2 p) ∧ Hid (Below w.heap.size w wr)) (fun vi _ => n - (intOf vi).toNat)
    case atStart => exact ⟨0, Nat.zero_le _, rfl, P4, S4, B4⟩
    case round =>
      obtain ⟨j, hj, rfl, P5, S5, B5⟩ := hrel
      clear P4 S4 B4
      by_cases q : j < n
      · obtain ⟨b, o, rfl, hb, c0, c1⟩ := P5.out.at_ (k := j) (by rw [← HN.out]; exact q)
        obtain ⟨b2, o2, rfl, hb2, d0, d1⟩ := S5.out.at_ (k := j) (by rw [← HN.out]; exact q)
        obtain ⟨⟨op, bb⟩, hxx⟩ : ∃ x, x = p.getD j Cd.Z := ⟨_, rfl⟩
        rw [← hxx] at c0 c1 d0 d1
        change wr.cell? _ = some (.int .i64 op) at c0
        change wr.cell? _ = some (.int .u64 (bb : Int)) at c1
        change wr.cell? _ = some (.int .i64 op) at d0
        change wr.cell? _ = some (.int .u64 (bb : Int)) at d1
        have i5 : (0 : Int) ≤ (j : Int) := by omega
        have i6 : (j : Int) < (n : Int) := by omega
        clear hxx hb hb2
        go_wp2_with fail
        go_quiet (fail)
        go_wp2_with fail
        go_roundw
        case rel => exact ⟨j + 1, by omega, by go_num, Lib.hid (P5.out.below (below_drewN (Below.refl _ _) _)), Lib.hid (S5.out.below (below_drewN (Below.refl _ _) _)), Lib.hid (below_drewN B5.out _)⟩
        case measure => simp [intOf]; omega
      · obtain rfl : j = n := by omega
        go_wp2_with fail
        go_ret
        exact ⟨rfl, B5.out⟩
  · have KZ := KX
    have nb : ((bx : Int) != (bz : Int)) = true := by simp; omega
    clear SM KY qb
    go_enter Tryd.func5, Tryd.ntmps5
    go_wp2_with fail
    refine AW.out.mono ?_
    rintro e w1 ⟨rfl, hb1⟩
    have B1 := Lib.hid hb1
    have S1 := Lib.hid (HS.out.below hb1)
    have OM := Lib.hid (OwnC.made w1 w1.heap.size (Nat.le_refl _))
    have BM := Lib.hid ((Below.refl w1.heap.size w1).alloc (Nat.le_refl _) (.cells #[] 42))
    clear hb1
    go_wp2_with (at_builtin; refine wp_putNC rfl (.tmp 20) (.tmp 21) rfl w1.heap.size _ rfl OM.out A c n p HN.out.symm rfl (S1.out.below BM.out) HNIL.out (by rw [← HN.out]; omega) BM.out.size ?_; intro v2 w2 hown2 hb2; obtain ⟨A2, c2, rfl, hs2⟩ := hown2.sl; rw [← HN.out]; have S2 := Lib.hid hs2; have B2 := Lib.hid (below_then B1.out (BM.out.trans hb2)); clear hown2 hb2 hs2)
    refine (BX.out _).mono ?_
    rintro e w' ⟨rfl, rfl⟩
    go_wp2_with fail
    refine (BY.out _).mono ?_
    rintro e w' ⟨rfl, rfl⟩
    go_wp2_with fail
    refine (KX.out _ B2.out).mono ?_
    rintro e w3 ⟨rfl, hb3⟩
    have B3 := Lib.hid (below_then B2.out hb3)
    have S3 := Lib.hid (S2.out.below hb3)
    clear hb3
    go_wp2_with fail
    refine (KZ.out _ B3.out).mono ?_
    rintro e w4 ⟨rfl, hb4⟩
    have B4 := Lib.hid (below_then B3.out hb4)
    have S4 := Lib.hid (S3.out.below hb4)
    have P4 := Lib.hid (HS.out.below B4.out)
    clear hb4
    go_wp2_with fail
    go_loopw [14] (fun vi wr => ∃ j : Nat, j ≤ n ∧ vi = .int .i64 j ∧ Hid (SlC wr A p) ∧ Hid (SlC wr A2 p) ∧ Hid (Below w.heap.size w wr)) (fun vi _ => n - (intOf vi).toNat)
    case atStart => exact ⟨0, Nat.zero_le _, rfl, P4, S4, B4⟩
    case round =>
      obtain ⟨j, hj, rfl, P5, S5, B5⟩ := hrel
      clear P4 S4 B4
      by_cases q : j < n
      · obtain ⟨b, o, rfl, hb, c0, c1⟩ := P5.out.at_ (k := j) (by rw [← HN.out]; exact q)
        obtain ⟨b2, o2, rfl, hb2, d0, d1⟩ := S5.out.at_ (k := j) (by rw [← HN.out]; exact q)
        obtain ⟨⟨op, bb⟩, hxx⟩ : ∃ x, x = p.getD j Cd.Z := ⟨_, rfl⟩
        rw [← hxx] at c0 c1 d0 d1
        change wr.cell? _ = some (.int .i64 op) at c0
        change wr.cell? _ = some (.int .u64 (bb : Int)) at c1
        change wr.cell? _ = some (.int .i64 op) at d0
        change wr.cell? _ = some (.int .u64 (bb : Int)) at d1
        have i5 : (0 : Int) ≤ (j : Int) := by omega
        have i6 : (j : Int) < (n : Int) := by omega
        clear hxx hb hb2
        go_wp2_with fail
        go_quiet (fail)
        go_wp2_with fail
        go_roundw
        case rel => exact ⟨j + 1, by omega, by go_num, Lib.hid (P5.out.below (below_drewN (Below.refl _ _) _)), Lib.hid (S5.out.below (below_drewN (Below.refl _ _) _)), Lib.hid (below_drewN B5.out _)⟩
        case measure => simp [intOf]; omega
      · obtain rfl : j = n := by omega
        go_wp2_with fail
        go_ret
        exact ⟨rfl, B5.out⟩

end Go.Proofs.YtjahaegdmfgmgaaDoor.exprSame
