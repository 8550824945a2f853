/- Proved parts: D2s D2t. Conditions: each theorem's own. -/
import Derived.Test.YtnbkekbgedioeaaM22
import Derived.Lib.SliceRun
import Derived.Deep.RegionLaw
namespace Go.Proofs.Ytnbkekbgedioeaa
open Go.RowKit

theorem infoWs : (Try.prog.info? 27).map (fun i => (i.zero, i.size, i.bytes)) = some (some (.slice none 0 0), 1, 24) := by kernel_rfl
section
variable {w0 w w' : World} {N : Nat → Prop} {b : Nat} {v vm : Value} {vs : List Value} {m : Ws} {os : List Ob} {i : Nat}
set_option maxRecDepth 100000 in
/-- append(v, u), of a row beside other things, in a region -/
theorem step_sideV {ops : Array Oper} {o : Oper} {a : Act} {K : Act → World → Prop} {Q : Exit → Act → World → Prop} {E : Prop} (hgd : o.guard = none) (x y : Operand) (t e : TypeId)
    (ho : o.op = .call { callee := .builtin .append, args := #[x, y], argTypes := #[t, t] }) {z : Value} {bytes : Nat} (ht : Try.prog.underlying t = some (.slice e)) (hin : (Try.prog.info? e).map (fun i => (i.zero, i.size, i.bytes)) = some (some z, 1, bytes))
    (hzs : z.cells.size = 1) (hb : bytes ≤ 100) (v : Value) (xs : List Value) (hs : a.eval x = v) (h : Side w0 N w os) (hi : os[i]? = some (oVec e v xs)) (g : Nat) (u : Value)
    (hx : a.eval y = .slice (some ⟨g, 0, none⟩) 1 1) (hc : w.cell? ⟨g, 0, none⟩ = some u) (hu : u.oneCell' = true) (hl : xs.length ≤ 1000000)
    (k : ∀ g' c' n w', n = xs.length + 1 → Side w0 N w' (os.set i (oVec e (.slice (some ⟨g', 0, none⟩) n c') (xs ++ [u]))) → (∀ k, k < w.heap.size → v.ownBlock ≠ some k → w'.heap[k]? = w.heap[k]?) → K (a.put o.dst (.slice (some ⟨g', 0, none⟩) n c')) w') :
    if Region.wanted o (yielded ops a.tmps) = true then Oper.wp Try.prog o a w K Q else E := by
  have hw : Region.wanted o (yielded ops a.tmps) = true := by simp [Region.wanted, hgd]
  rw [if_pos hw]
  obtain ⟨i0, h0, hz0, hz1, hz2⟩ := info_parts hin
  obtain ⟨v', w', hr, h1, h2, _, h4⟩ := run_append_own_at (P := Try.prog) w 0 t o.type e i0 z 1 bytes ht h0 hz0 hz1 hz2 hzs (by decide) v xs.length xs (h.vecAt hi) ⟨g, 0, none⟩ 1 1 [u] rfl (fun j y hj => by
    cases j with
    | zero => simp at hj; subst hj; exact hc
    | succ j => simp at hj) (fun y hy => by simp at hy; subst hy; exact hu) (by unfold maxLen; omega) (by
    have : (xs.length + 1) * bytes ≤ 1000001 * 100 := Nat.mul_le_mul (by omega) hb
    omega) (Nat.zero_le _)
  have h1 : w'.ownsRow 0 e 1 v' (xs ++ [u]).length (xs ++ [u]) := by rw [List.length_append, List.length_singleton]; exact h1
  have hg : ∀ k, k < w.heap.size → v.ownBlock ≠ some k → w'.heap[k]? = w.heap[k]? := fun k hk hn => h2.block k hk fun e => hn e.symm
  have key : ∃ g' c', v' = .slice (some ⟨g', 0, none⟩) (xs.length + 1) c' := by
    rcases vec_form h1 with ⟨_, e2⟩ | ⟨g', c', e2, _⟩
    · exact absurd e2 (by simp)
    · exact ⟨g', c', by rw [e2]; simp⟩
  obtain ⟨g', c', rfl⟩ := key
  have hh := h.vecGrow hi h1 h2 h4
  unfold Oper.wp execOp
  simp only [ho, resolve, invoke, builtin, Sem.run_bind, Sem.run_pure, Result.andThen_ok, List.map_toArray, List.map_cons, List.map_nil, hs, hx, hr]
  exact k g' c' _ w' rfl hh hg
set_option maxRecDepth 100000 in
set_option maxHeartbeats 4000000 in
/-- Mark -/
theorem xMarkW (h : Side w0 N w (sOs TS b v vm vs m)) (ok : m.Ok) :
    Calls Try.prog 20 #[PtrW b] w fun e w' => e = .returned (.tuple #[.int .i64 m.mkN, .int .i64 m.mkE]) ∧ m.mk'.Ok ∧ ∃ v' vm' vs', Side w0 N w' (sOs TS b v' vm' vs' m.mk') := by
  have OKM := Lib.hid (Ws.ok_mk ok)
  have h0 : Side w0 N w (sOs TS b v vm vs m ++ []) := by rw [List.append_nil]; exact h
  obtain ⟨Am, cm, rfl, hmc, hmg⟩ := Sets.form h0
  obtain ⟨A, c, rfl, hs, -⟩ := (Sets.node h0).sl
  have r0 := (Sets.row h0).cell 0
  have r1 := (Sets.row h0).cell 1
  simp only [List.getElem?_cons_succ, List.getElem?_cons_zero] at r0 r1
  have VL := Lib.hid (Sets.marks h0).1
  have CL := Lib.hid (fun W (hb : Below w.heap.size w W) => xCloneW (.slice A m.L.length c) m.L W ((Sets.node h0).below hb) (Nat.le_trans ok.l.len (by decide)))
  obtain ⟨n, hn⟩ : ∃ n, n = m.L.length := ⟨_, rfl⟩
  obtain ⟨M, hM⟩ : ∃ M, M = m.M.length := ⟨_, rfl⟩
  have m4 := ok.len
  have EN : m.mkN = if 4 ≤ M then 0 else (M : Int) + 1 := by unfold Ws.mkN; rw [hM]
  have EE : m.mkE = if 4 ≤ M then 5 else 0 := by unfold Ws.mkE; rw [hM]
  have EM : m.mk' = if 4 ≤ M then m else ⟨m.L, m.M ++ [m.L]⟩ := by unfold Ws.mk'; rw [hM]
  rw [← hM] at m4 VL h r1
  rw [← hn] at r0 h
  simp only [← hn] at CL
  rw [EN, EE]
  rw [EM] at OKM ⊢
  have HN := Lib.hid hn
  by_cases q : 4 ≤ M
  · rw [if_pos q] at OKM
    rw [if_pos q, if_pos q, if_pos q]
    have H := Lib.hid h
    have q4 : (4 : Int) ≤ (M : Int) := by omega
    clear h h0 ok hmg hs hn hM EN EE EM CL HN VL
    go_enter Try.func20, Try.ntmps20
    go_wp2_with fail
    go_ret2
    first | exact ⟨rfl, OKM.out, _, _, _, H.out⟩ | exact ⟨OKM.out, _, _, _, H.out⟩
  · rw [if_neg q] at OKM
    rw [if_neg q, if_neg q, if_neg q]
    have H := Lib.hid h
    have q4 : ¬ (4 : Int) ≤ (M : Int) := by omega
    have RB := Lib.hid (fun W (vm' : Value) (os' : List Ob) (h : Side w0 N W (Ob.row b [.slice A n c, vm'] TS :: os')) => show W.cell? ⟨b, 0, none⟩ = some (.slice A n c) from (h.rowAt (i := 0) rfl).cell 0)
    have RC := Lib.hid (fun W (v' : Value) (os' : List Ob) (h : Side w0 N W (Ob.row b [v', .slice Am M cm] TS :: os')) => show W.cell? ⟨b, 1, none⟩ = some (.slice Am M cm) from (h.rowAt (i := 0) rfl).cell 1)
    have BX := Lib.hid (show Below w.heap.size w w.drew from (Below.refl _ _).drew)
    have MM := Lib.hid hM
    clear h h0 ok hmg hs hn hM EN EE EM
    go_enter Try.func20, Try.ntmps20
    go_wp2_with fail
    clear r1
    refine wp_region_held_drew (S := (fun w' => w'.cell? ⟨b, 0, none⟩ = some (.slice A n c))) (by kernel_rfl) (r0) (fun hHeld => ?_)
    refine rgnTake 0 rfl (by kernel_rfl) (by kernel_rfl) (by kernel_rfl) (fun _ _ _ h => h) (by rfl) (v := ?v1) ?hy1 hHeld ?rest1
    case hy1 => (intro v hSw; have y0 := hSw; first | (go_simp; done) | (go_simp; with_reducible rfl))
    try simp only [Act.put, List.setIfInBounds_toArray, List.set_cons_zero, List.set_cons_succ]
    refine rgnTake 1 rfl (by kernel_rfl) (by kernel_rfl) (by kernel_rfl) (fun _ _ _ h => h) (by rfl) (v := ?v2) ?hy2 hHeld ?rest2
    case hy2 => (intro v hSw; have y0 := hSw; first | (go_simp; done) | (go_simp; with_reducible rfl))
    try simp only [Act.put, List.setIfInBounds_toArray, List.set_cons_zero, List.set_cons_succ]
    refine rgnTake 2 rfl (by kernel_rfl) (by kernel_rfl) (by kernel_rfl) (fun _ _ _ h => h) (by rfl) (v := ?v3) ?hy3 hHeld ?rest3
    case hy3 => (intro v hSw; have y0 := hSw; first | (go_simp; done) | (go_simp; with_reducible rfl))
    try simp only [Act.put, List.setIfInBounds_toArray, List.set_cons_zero, List.set_cons_succ]
    refine rgnTake 3 rfl (by kernel_rfl) (by kernel_rfl) (by kernel_rfl) (fun _ _ _ h => h) (by rfl) (v := ?v4) ?hy4 hHeld ?rest4
    case hy4 => (intro v hSw; have y0 := hSw; first | (go_simp; done) | (go_simp; with_reducible rfl))
    try simp only [Act.put, List.setIfInBounds_toArray, List.set_cons_zero, List.set_cons_succ]
    refine rgnTake 5 rfl (by kernel_rfl) (by kernel_rfl) (by kernel_rfl) (fun _ _ _ h => h) (by rfl) (v := ?v5) ?hy5 hHeld ?rest5
    case hy5 => (intro v hSw; have y0 := hSw; first | (go_simp; done) | (go_simp; with_reducible rfl))
    try simp only [Act.put, List.setIfInBounds_toArray, List.set_cons_zero, List.set_cons_succ]
    refine rgnTake 6 rfl (by kernel_rfl) (by kernel_rfl) (by kernel_rfl) (fun _ _ _ h => h) (by rfl) (v := ?v6) ?hy6 hHeld ?rest6
    case hy6 => (intro v hSw; have y0 := hSw; first | (go_simp; done) | (go_simp; with_reducible rfl))
    try simp only [Act.put, List.setIfInBounds_toArray, List.set_cons_zero, List.set_cons_succ]
    refine rgnTake 7 rfl (by kernel_rfl) (by kernel_rfl) (by kernel_rfl) (fun _ _ _ h => h) (by rfl) (v := ?v7) ?hy7 hHeld ?rest7
    case hy7 => (intro v hSw; have y0 := hSw; first | (go_simp; done) | (go_simp; with_reducible rfl))
    try simp only [Act.put, List.setIfInBounds_toArray, List.set_cons_zero, List.set_cons_succ]
    refine rgnTake 8 rfl (by kernel_rfl) (by kernel_rfl) (by kernel_rfl) (fun _ _ _ h => h) (by rfl) (v := ?v8) ?hy8 hHeld ?rest8
    case hy8 => (intro v hSw; have y0 := hSw; first | (go_simp; done) | (go_simp; with_reducible rfl))
    try simp only [Act.put, List.setIfInBounds_toArray, List.set_cons_zero, List.set_cons_succ]
    refine rgnTwo 4 9 rfl rfl (by kernel_rfl) (fun K hK => ?_) (fun K hK => ?_)
    · have r1 := RC.out _ _ _ (H.out.below BX.out)
      go_simp
      refine hK.out _ _ (r0) (fun hHeld => ?_)
      clear hK K
      try simp only [Act.put, List.setIfInBounds_toArray, List.set_cons_zero, List.set_cons_succ]
      refine rgnOne 9 rfl (by kernel_rfl) (fun K hK => ?_)
      go_simp
      refine (CL.out _ BX.out).mono ?_
      rintro r W3 ⟨v5, rfl, n5, k5, hb3⟩
      obtain ⟨A5, c5, e5, -⟩ := n5.sl
      rw [← HN.out] at e5
      subst e5
      have B3 := Lib.hid (below_then BX.out hb3)
      have H3 := Lib.hid ((H.out.below BX.out).more hb3 (o := oWr (.slice A5 n c5) m.L) ⟨n5, fun k => Iff.rfl⟩ k5)
      clear hb3 n5 k5
      refine hK.out _ _ ((RB.out _ _ _ H3.out)) (fun hHeld => ?_)
      clear hK K
      try simp only [Act.put, List.setIfInBounds_toArray, List.set_cons_zero, List.set_cons_succ]
      refine rgnOne 10 rfl (by kernel_rfl) (fun K hK => ?_)
      go_simp
      refine hK.out _ _ ((RB.out _ _ _ (H3.out.below (w' := W3.alloc (.cells #[.slice A5 n c5] 27)) ((Below.refl _ _).alloc (Nat.le_refl _) _)))) (fun hHeld => ?_)
      clear hK K
      try simp only [Act.put, List.setIfInBounds_toArray, List.set_cons_zero, List.set_cons_succ]
      have B4 := Lib.hid (show Below w.heap.size w (W3.alloc (.cells #[.slice A5 n c5] 27)) from B3.out.alloc B3.out.size _)
      have X4 := Lib.hid (cell_new1 W3 (.slice A5 n c5) 27)
      have H4 := Lib.hid (H3.out.below (w' := W3.alloc (.cells #[.slice A5 n c5] 27)) ((Below.refl _ _).alloc (Nat.le_refl _) _))
      clear r1
      refine rgnOne 11 rfl (by kernel_rfl) (fun K hK => ?_)
      refine step_sideV rfl (.tmp 16) (.tmp 22) 28 27 rfl Try.underlying28 infoWs rfl (by decide) (.slice Am M cm) vs rfl H4.out (i := 2) rfl W3.heap.size (.slice A5 n c5) rfl X4.out rfl (by rw [VL.out]; omega) ?_
      intro g' c' q W5 hq h5 _
      rw [VL.out] at hq
      have H5 := Lib.hid h5
      have HQ := Lib.hid hq
      clear h5 hq
      refine hK.out _ _ (RB.out _ _ _ H5.out) (fun hHeld => ?_)
      clear hK K
      try simp only [Act.put, List.setIfInBounds_toArray, List.set_cons_zero, List.set_cons_succ]
      refine rgnTake 12 rfl (by kernel_rfl) (by kernel_rfl) (by kernel_rfl) (fun _ _ _ h => h) (by rfl) (v := ?v9) ?hy9 hHeld ?rest9
      case hy9 => (intro v hSw; have y0 := hSw; first | (go_simp; done) | (go_simp; with_reducible rfl))
      try simp only [Act.put, List.setIfInBounds_toArray, List.set_cons_zero, List.set_cons_succ]
      refine rgnTake 13 rfl (by kernel_rfl) (by kernel_rfl) (by kernel_rfl) (fun _ _ _ h => h) (by rfl) (v := ?v10) ?hy10 hHeld ?rest10
      case hy10 => (intro v hSw; have y0 := hSw; first | (go_simp; done) | (go_simp; with_reducible rfl))
      try simp only [Act.put, List.setIfInBounds_toArray, List.set_cons_zero, List.set_cons_succ]
      have s1 := (H5.out.rowAt (i := 0) rfl).cell 1
      have z1 := (H5.out.rowAt (i := 0) rfl).frozen 1
      simp only [List.getElem?_cons_succ, List.getElem?_cons_zero] at s1
      have H6 := Lib.hid (H5.out.rowSet (i := 0) (g := b) (cs' := [.slice A n c, .slice (some ⟨g', 0, none⟩) q c']) rfl ((Chg.refl (fun k => k = b) W5).setCell (p := ⟨b, 1, none⟩) (.inl rfl) (.slice (some ⟨g', 0, none⟩) q c')) ((H5.out.rowAt (i := 0) rfl).set 1 _))
      have H7 : Hid (Side w0 N (W5.setCell ⟨b, 1, none⟩ (.slice (some ⟨g', 0, none⟩) q c')) ((sOs TS b (.slice A n c) (.slice (some ⟨g', 0, none⟩) q c') (vs ++ [.slice A5 n c5]) m).set 3 (oMk vs m.M) ++ [oWr (.slice A5 n c5) m.L])) := H6
      have H8 := Lib.hid (H7.out.merge (i := 3) (oi := oMk vs m.M) (o' := oMk (vs ++ [Value.slice A5 n c5]) (m.M ++ [m.L])) rfl (fun F F' p q => MkP.push (v := .slice A5 n c5) p q))
      have H9 : Hid (Side w0 N (W5.setCell ⟨b, 1, none⟩ (.slice (some ⟨g', 0, none⟩) q c')) (sOs TS b (.slice A n c) (.slice (some ⟨g', 0, none⟩) q c') (vs ++ [.slice A5 n c5]) ⟨m.L, m.M ++ [m.L]⟩)) := H8
      have q1 := Lib.hid (show (W5.setCell ⟨b, 1, none⟩ (.slice (some ⟨g', 0, none⟩) q c')).cell? ⟨b, 1, none⟩ = some (.slice (some ⟨g', 0, none⟩) q c') from (H7.out.rowAt (i := 0) rfl).cell 1)
      clear H6 H7 H8
      refine rgnOne 14 rfl (by kernel_rfl) (fun K hK => ?_)
      go_simp
      refine hK.out _ _ ((RB.out _ _ _ H9.out)) (fun hHeld => ?_)
      clear hK K
      try simp only [Act.put, List.setIfInBounds_toArray, List.set_cons_zero, List.set_cons_succ]
      refine wpAnyH_done (by kernel_rfl) ?_ _
      clear s1 z1
      have t1 := q1.out
      go_wp2_with fail
      go_ret2
      first | exact ⟨by rw [HQ.out]; rfl, OKM.out, _, _, _, H9.out⟩ | exact ⟨OKM.out, _, _, _, H9.out⟩
    · go_simp
      refine (CL.out _ BX.out).mono ?_
      rintro r W3 ⟨v5, rfl, n5, k5, hb3⟩
      obtain ⟨A5, c5, e5, -⟩ := n5.sl
      rw [← HN.out] at e5
      subst e5
      have B3 := Lib.hid (below_then BX.out hb3)
      have H3 := Lib.hid ((H.out.below BX.out).more hb3 (o := oWr (.slice A5 n c5) m.L) ⟨n5, fun k => Iff.rfl⟩ k5)
      clear hb3 n5 k5
      refine hK.out _ _ (RB.out _ _ _ H3.out) (fun hHeld => ?_)
      clear hK K
      try simp only [Act.put, List.setIfInBounds_toArray, List.set_cons_zero, List.set_cons_succ]
      refine rgnTwo 4 10 rfl rfl (by kernel_rfl) (fun K hK => ?_) (fun K hK => ?_)
      · have r1 := RC.out _ _ _ H3.out
        go_simp
        refine hK.out _ _ ((RB.out _ _ _ H3.out)) (fun hHeld => ?_)
        clear hK K
        try simp only [Act.put, List.setIfInBounds_toArray, List.set_cons_zero, List.set_cons_succ]
        refine rgnOne 10 rfl (by kernel_rfl) (fun K hK => ?_)
        go_simp
        refine hK.out _ _ ((RB.out _ _ _ (H3.out.below (w' := W3.alloc (.cells #[.slice A5 n c5] 27)) ((Below.refl _ _).alloc (Nat.le_refl _) _)))) (fun hHeld => ?_)
        clear hK K
        try simp only [Act.put, List.setIfInBounds_toArray, List.set_cons_zero, List.set_cons_succ]
        have B4 := Lib.hid (show Below w.heap.size w (W3.alloc (.cells #[.slice A5 n c5] 27)) from B3.out.alloc B3.out.size _)
        have X4 := Lib.hid (cell_new1 W3 (.slice A5 n c5) 27)
        have H4 := Lib.hid (H3.out.below (w' := W3.alloc (.cells #[.slice A5 n c5] 27)) ((Below.refl _ _).alloc (Nat.le_refl _) _))
        clear r1
        refine rgnOne 11 rfl (by kernel_rfl) (fun K hK => ?_)
        refine step_sideV rfl (.tmp 16) (.tmp 22) 28 27 rfl Try.underlying28 infoWs rfl (by decide) (.slice Am M cm) vs rfl H4.out (i := 2) rfl W3.heap.size (.slice A5 n c5) rfl X4.out rfl (by rw [VL.out]; omega) ?_
        intro g' c' q W5 hq h5 _
        rw [VL.out] at hq
        have H5 := Lib.hid h5
        have HQ := Lib.hid hq
        clear h5 hq
        refine hK.out _ _ (RB.out _ _ _ H5.out) (fun hHeld => ?_)
        clear hK K
        try simp only [Act.put, List.setIfInBounds_toArray, List.set_cons_zero, List.set_cons_succ]
        refine rgnTake 12 rfl (by kernel_rfl) (by kernel_rfl) (by kernel_rfl) (fun _ _ _ h => h) (by rfl) (v := ?v11) ?hy11 hHeld ?rest11
        case hy11 => (intro v hSw; have y0 := hSw; first | (go_simp; done) | (go_simp; with_reducible rfl))
        try simp only [Act.put, List.setIfInBounds_toArray, List.set_cons_zero, List.set_cons_succ]
        refine rgnTake 13 rfl (by kernel_rfl) (by kernel_rfl) (by kernel_rfl) (fun _ _ _ h => h) (by rfl) (v := ?v12) ?hy12 hHeld ?rest12
        case hy12 => (intro v hSw; have y0 := hSw; first | (go_simp; done) | (go_simp; with_reducible rfl))
        try simp only [Act.put, List.setIfInBounds_toArray, List.set_cons_zero, List.set_cons_succ]
        have s1 := (H5.out.rowAt (i := 0) rfl).cell 1
        have z1 := (H5.out.rowAt (i := 0) rfl).frozen 1
        simp only [List.getElem?_cons_succ, List.getElem?_cons_zero] at s1
        have H6 := Lib.hid (H5.out.rowSet (i := 0) (g := b) (cs' := [.slice A n c, .slice (some ⟨g', 0, none⟩) q c']) rfl ((Chg.refl (fun k => k = b) W5).setCell (p := ⟨b, 1, none⟩) (.inl rfl) (.slice (some ⟨g', 0, none⟩) q c')) ((H5.out.rowAt (i := 0) rfl).set 1 _))
        have H7 : Hid (Side w0 N (W5.setCell ⟨b, 1, none⟩ (.slice (some ⟨g', 0, none⟩) q c')) ((sOs TS b (.slice A n c) (.slice (some ⟨g', 0, none⟩) q c') (vs ++ [.slice A5 n c5]) m).set 3 (oMk vs m.M) ++ [oWr (.slice A5 n c5) m.L])) := H6
        have H8 := Lib.hid (H7.out.merge (i := 3) (oi := oMk vs m.M) (o' := oMk (vs ++ [Value.slice A5 n c5]) (m.M ++ [m.L])) rfl (fun F F' p q => MkP.push (v := .slice A5 n c5) p q))
        have H9 : Hid (Side w0 N (W5.setCell ⟨b, 1, none⟩ (.slice (some ⟨g', 0, none⟩) q c')) (sOs TS b (.slice A n c) (.slice (some ⟨g', 0, none⟩) q c') (vs ++ [.slice A5 n c5]) ⟨m.L, m.M ++ [m.L]⟩)) := H8
        have q1 := Lib.hid (show (W5.setCell ⟨b, 1, none⟩ (.slice (some ⟨g', 0, none⟩) q c')).cell? ⟨b, 1, none⟩ = some (.slice (some ⟨g', 0, none⟩) q c') from (H7.out.rowAt (i := 0) rfl).cell 1)
        clear H6 H7 H8
        refine rgnOne 14 rfl (by kernel_rfl) (fun K hK => ?_)
        go_simp
        refine hK.out _ _ ((RB.out _ _ _ H9.out)) (fun hHeld => ?_)
        clear hK K
        try simp only [Act.put, List.setIfInBounds_toArray, List.set_cons_zero, List.set_cons_succ]
        refine wpAnyH_done (by kernel_rfl) ?_ _
        clear s1 z1
        have t1 := q1.out
        go_wp2_with fail
        go_ret2
        first | exact ⟨by rw [HQ.out]; rfl, OKM.out, _, _, _, H9.out⟩ | exact ⟨OKM.out, _, _, _, H9.out⟩
      · go_simp
        refine hK.out _ _ ((RB.out _ _ _ (H3.out.below (w' := W3.alloc (.cells #[.slice A5 n c5] 27)) ((Below.refl _ _).alloc (Nat.le_refl _) _)))) (fun hHeld => ?_)
        clear hK K
        try simp only [Act.put, List.setIfInBounds_toArray, List.set_cons_zero, List.set_cons_succ]
        have r1 := RC.out _ _ _ (H3.out.below (w' := W3.alloc (.cells #[.slice A5 n c5] 27)) ((Below.refl _ _).alloc (Nat.le_refl _) _))
        refine rgnOne 4 rfl (by kernel_rfl) (fun K hK => ?_)
        go_simp
        refine hK.out _ _ ((RB.out _ _ _ (H3.out.below (w' := W3.alloc (.cells #[.slice A5 n c5] 27)) ((Below.refl _ _).alloc (Nat.le_refl _) _)))) (fun hHeld => ?_)
        clear hK K
        try simp only [Act.put, List.setIfInBounds_toArray, List.set_cons_zero, List.set_cons_succ]
        have B4 := Lib.hid (show Below w.heap.size w (W3.alloc (.cells #[.slice A5 n c5] 27)) from B3.out.alloc B3.out.size _)
        have X4 := Lib.hid (cell_new1 W3 (.slice A5 n c5) 27)
        have H4 := Lib.hid (H3.out.below (w' := W3.alloc (.cells #[.slice A5 n c5] 27)) ((Below.refl _ _).alloc (Nat.le_refl _) _))
        clear r1
        refine rgnOne 11 rfl (by kernel_rfl) (fun K hK => ?_)
        refine step_sideV rfl (.tmp 16) (.tmp 22) 28 27 rfl Try.underlying28 infoWs rfl (by decide) (.slice Am M cm) vs rfl H4.out (i := 2) rfl W3.heap.size (.slice A5 n c5) rfl X4.out rfl (by rw [VL.out]; omega) ?_
        intro g' c' q W5 hq h5 _
        rw [VL.out] at hq
        have H5 := Lib.hid h5
        have HQ := Lib.hid hq
        clear h5 hq
        refine hK.out _ _ (RB.out _ _ _ H5.out) (fun hHeld => ?_)
        clear hK K
        try simp only [Act.put, List.setIfInBounds_toArray, List.set_cons_zero, List.set_cons_succ]
        refine rgnTake 12 rfl (by kernel_rfl) (by kernel_rfl) (by kernel_rfl) (fun _ _ _ h => h) (by rfl) (v := ?v13) ?hy13 hHeld ?rest13
        case hy13 => (intro v hSw; have y0 := hSw; first | (go_simp; done) | (go_simp; with_reducible rfl))
        try simp only [Act.put, List.setIfInBounds_toArray, List.set_cons_zero, List.set_cons_succ]
        refine rgnTake 13 rfl (by kernel_rfl) (by kernel_rfl) (by kernel_rfl) (fun _ _ _ h => h) (by rfl) (v := ?v14) ?hy14 hHeld ?rest14
        case hy14 => (intro v hSw; have y0 := hSw; first | (go_simp; done) | (go_simp; with_reducible rfl))
        try simp only [Act.put, List.setIfInBounds_toArray, List.set_cons_zero, List.set_cons_succ]
        have s1 := (H5.out.rowAt (i := 0) rfl).cell 1
        have z1 := (H5.out.rowAt (i := 0) rfl).frozen 1
        simp only [List.getElem?_cons_succ, List.getElem?_cons_zero] at s1
        have H6 := Lib.hid (H5.out.rowSet (i := 0) (g := b) (cs' := [.slice A n c, .slice (some ⟨g', 0, none⟩) q c']) rfl ((Chg.refl (fun k => k = b) W5).setCell (p := ⟨b, 1, none⟩) (.inl rfl) (.slice (some ⟨g', 0, none⟩) q c')) ((H5.out.rowAt (i := 0) rfl).set 1 _))
        have H7 : Hid (Side w0 N (W5.setCell ⟨b, 1, none⟩ (.slice (some ⟨g', 0, none⟩) q c')) ((sOs TS b (.slice A n c) (.slice (some ⟨g', 0, none⟩) q c') (vs ++ [.slice A5 n c5]) m).set 3 (oMk vs m.M) ++ [oWr (.slice A5 n c5) m.L])) := H6
        have H8 := Lib.hid (H7.out.merge (i := 3) (oi := oMk vs m.M) (o' := oMk (vs ++ [Value.slice A5 n c5]) (m.M ++ [m.L])) rfl (fun F F' p q => MkP.push (v := .slice A5 n c5) p q))
        have H9 : Hid (Side w0 N (W5.setCell ⟨b, 1, none⟩ (.slice (some ⟨g', 0, none⟩) q c')) (sOs TS b (.slice A n c) (.slice (some ⟨g', 0, none⟩) q c') (vs ++ [.slice A5 n c5]) ⟨m.L, m.M ++ [m.L]⟩)) := H8
        have q1 := Lib.hid (show (W5.setCell ⟨b, 1, none⟩ (.slice (some ⟨g', 0, none⟩) q c')).cell? ⟨b, 1, none⟩ = some (.slice (some ⟨g', 0, none⟩) q c') from (H7.out.rowAt (i := 0) rfl).cell 1)
        clear H6 H7 H8
        refine rgnOne 14 rfl (by kernel_rfl) (fun K hK => ?_)
        go_simp
        refine hK.out _ _ ((RB.out _ _ _ H9.out)) (fun hHeld => ?_)
        clear hK K
        try simp only [Act.put, List.setIfInBounds_toArray, List.set_cons_zero, List.set_cons_succ]
        refine wpAnyH_done (by kernel_rfl) ?_ _
        clear s1 z1
        have t1 := q1.out
        go_wp2_with fail
        go_ret2
        first | exact ⟨by rw [HQ.out]; rfl, OKM.out, _, _, _, H9.out⟩ | exact ⟨OKM.out, _, _, _, H9.out⟩
end

end Go.Proofs.Ytnbkekbgedioeaa

namespace Go.Proofs.Ytnbkekbgedioeaa
open Go.RowKit

/-- append(v, none...) -/
theorem run_app_none (w : World) (t ty e : TypeId) (i0 : TypeInfo) (ht : Try.prog.underlying t = some (.slice e)) (h0 : Try.prog.info? e = some i0) (a : Addr) (n c : Nat) (A : Option Addr) (c' : Nat) (hn : n ≤ c) :
    (Builtin.append_ #[t, t] ty #[.slice (some a) n c, .slice A 0 c']).run Try.prog w = .ok (.slice (some a) n c) w := by
  cases A <;> simp [Builtin.append_, run_underlying ht, sizeOf, typeInfo, h0, Builtin.lenOf, Builtin.firstCells, hn, storeCells, loadCells, loadCellsFrom]
theorem step_app_none {ops : Array Oper} {o : Oper} {a : Act} {w : World} {K : Act → World → Prop} {Q : Exit → Act → World → Prop} {E : Prop} (hgd : o.guard = none) (x y : Operand) (t e : TypeId)
    (ho : o.op = .call { callee := .builtin .append, args := #[x, y], argTypes := #[t, t] }) (i0 : TypeInfo) (ht : Try.prog.underlying t = some (.slice e)) (h0 : Try.prog.info? e = some i0)
    (b : Addr) (n c : Nat) (A : Option Addr) (c' : Nat) (hn : n ≤ c) (hx : a.eval x = .slice (some b) n c) (hy : a.eval y = .slice A 0 c') (k : K (a.put o.dst (.slice (some b) n c)) w) :
    if Region.wanted o (yielded ops a.tmps) = true then Oper.wp Try.prog o a w K Q else E := by
  have hw : Region.wanted o (yielded ops a.tmps) = true := by simp [Region.wanted, hgd]
  rw [if_pos hw]
  have hr := run_app_none w t o.type e i0 ht h0 b n c A c' hn
  unfold Oper.wp execOp
  simp only [ho, resolve, invoke, builtin, Sem.run_bind, Sem.run_pure, Result.andThen_ok, List.map_toArray, List.map_cons, List.map_nil, hx, hy, hr]
  exact k
set_option maxHeartbeats 4000000 in
set_option maxRecDepth 100000 in
/-- slices.Delete of the last ones -/
theorem xDelM (w : World) (g n c i : Nat) (xs : List Value) (hn : n = xs.length) (h : w.ownsRow 0 27 1 (.slice (some ⟨g, 0, none⟩) n c) xs.length xs) (h1 : 1 ≤ i) (hi : i ≤ n) (hl : n ≤ 100000) :
    Calls Try.prog 31 #[.slice (some ⟨g, 0, none⟩) n c, .int .i64 (i : Nat), .int .i64 (n : Nat)] w fun e w' =>
      e = .returned (.slice (some ⟨g, 0, none⟩) i c) ∧ w'.ownsRow 0 27 1 (.slice (some ⟨g, 0, none⟩) i c) i (xs.take i) ∧ Chg (fun k => k = g) w w' := by
  rcases h.2 with ⟨e, _⟩ | ⟨b, c0, cur, e, hB, hg, hnc, hcm, hs, ht⟩
  · injection e with e _ _; cases e
  injection e with e1 e2 e3
  injection e1 with e1
  injection e1 with e1 _ _
  subst e1; subst e3
  have hm := hcm
  unfold maxLen at hm
  have tl : (xs.take i).length = i := by rw [List.length_take]; omega
  obtain ⟨L, hL⟩ : ∃ L, L = cur.toList := ⟨_, rfl⟩
  have row : RowAt w g L 27 := by unfold RowAt; rw [hg, hL]
  have ll : L.length = c := by rw [hL, Array.length_toList]; omega
  rw [← hL, Nat.mul_one] at ht
  have lt : L.take i = xs.take i := by
    have : (L.take xs.length).take i = L.take i := by rw [List.take_take, Nat.min_eq_left (by omega)]
    rw [← this, ht]
  by_cases q : i = n
  · subst q
    have K := Lib.hid (show w.ownsRow 0 27 1 (.slice (some ⟨g, 0, none⟩) i c) i (xs.take i) by
      rw [List.take_of_length_le (by omega)]; rw [← hn] at h; exact h)
    have hic : i ≤ c := by omega
    clear h hg hs ht row lt ll hL tl hn hnc hcm e2
    go_enter Try.func31, Try.ntmps31
    go_wp2_with fail
    all_goals go_ret
    all_goals exact ⟨rfl, K.out, Chg.refl _ _⟩
  · obtain ⟨i0, hi0, hz0, hz1, hz2⟩ := info_parts infoWs
    have ROW := Lib.hid row
    have LL := Lib.hid ll
    have LT := Lib.hid lt
    have TL := Lib.hid tl
    have CM := Lib.hid hcm
    have row2 : RowAt w.drew g L 27 := row
    have RC := fun ty => Lib.run_clear_slice (P := Try.prog) w.drew 28 27 ty (.slice none 0 0) Try.underlying28 (by intro w; rfl) rfl rfl g i (n - i) (c - i) (by omega)
      (fun j hj => by rw [row2.cell, List.getElem?_eq_getElem (by omega)]; rfl) (fun j _ => row2.frozen _)
    have hic : i ≤ c := by omega
    have hin : i ≤ n := by omega
    have hnc2 : n ≤ c := by omega
    have hz2' : ¬ ((i : Int) = (n : Int)) := by omega
    have hni : ¬ (i = n) := q
    have hci : ¬ (c = i) := by omega
    clear h hg hs ht row lt ll hL tl hnc hcm e2 hn row2
    obtain ⟨d, hd⟩ : ∃ d : Nat, d = n - i := ⟨_, rfl⟩
    rw [← hd] at RC
    have dl : i + d = n := by omega
    have HD := Lib.hid dl
    have hdi : (n : Int) - (i : Int) = (d : Int) := by omega
    have hdn : n - i = d := hd.symm
    clear hd
    by_cases hcn : c = n
    · subst hcn
      simp only [hdn] at RC
      go_enter Try.func31, Try.ntmps31
      go_wp2_with fail
      refine wp_region_held_drew (S := (fun _ => True)) (by kernel_rfl) (trivial) (fun hHeld => ?_)
      refine rgnTake 0 rfl (by kernel_rfl) (by kernel_rfl) (by kernel_rfl) (fun _ _ _ h => h) (by rfl) (v := ?v1) ?hy1 hHeld ?rest1
      case hy1 => (intro v hSw; first | (go_simp; done) | (go_simp; with_reducible rfl))
      try simp only [Act.put, List.setIfInBounds_toArray, List.set_cons_zero, List.set_cons_succ]
      refine rgnTake 1 rfl (by kernel_rfl) (by kernel_rfl) (by kernel_rfl) (fun _ _ _ h => h) (by rfl) (v := ?v2) ?hy2 hHeld ?rest2
      case hy2 => (intro v hSw; first | (go_simp; done) | (go_simp; with_reducible rfl))
      try simp only [Act.put, List.setIfInBounds_toArray, List.set_cons_zero, List.set_cons_succ]
      refine rgnTake 2 rfl (by kernel_rfl) (by kernel_rfl) (by kernel_rfl) (fun _ _ _ h => h) (by rfl) (v := ?v3) ?hy3 hHeld ?rest3
      case hy3 => (intro v hSw; first | (go_simp; done) | (go_simp; with_reducible rfl))
      try simp only [Act.put, List.setIfInBounds_toArray, List.set_cons_zero, List.set_cons_succ]
      refine rgnTake 3 rfl (by kernel_rfl) (by kernel_rfl) (by kernel_rfl) (fun _ _ _ h => h) (by rfl) (v := ?v4) ?hy4 hHeld ?rest4
      case hy4 => (intro v hSw; first | (go_simp; done) | (go_simp; with_reducible rfl))
      try simp only [Act.put, List.setIfInBounds_toArray, List.set_cons_zero, List.set_cons_succ]
      refine rgnTake 4 rfl (by kernel_rfl) (by kernel_rfl) (by kernel_rfl) (fun _ _ _ h => h) (by rfl) (v := ?v5) ?hy5 hHeld ?rest5
      case hy5 => (intro v hSw; first | (go_simp; done) | (go_simp; with_reducible rfl))
      try simp only [Act.put, List.setIfInBounds_toArray, List.set_cons_zero, List.set_cons_succ]
      refine rgnTake 5 rfl (by kernel_rfl) (by kernel_rfl) (by kernel_rfl) (fun _ _ _ h => h) (by rfl) (v := ?v6) ?hy6 hHeld ?rest6
      case hy6 => (intro v hSw; first | (go_simp; done) | (go_simp; with_reducible rfl))
      try simp only [Act.put, List.setIfInBounds_toArray, List.set_cons_zero, List.set_cons_succ]
      refine rgnOne 6 rfl (by kernel_rfl) (fun K hK => ?_)
      refine step_app_none rfl (.tmp 22) (.tmp 25) 28 27 rfl i0 Try.underlying28 hi0 ⟨g, 0, none⟩ i c _ _ hic rfl rfl ?_
      refine hK.out _ _ trivial (fun hHeld => ?_)
      clear hK K
      refine rgnTake 7 rfl (by kernel_rfl) (by kernel_rfl) (by kernel_rfl) (fun _ _ _ h => h) (by rfl) (v := ?v7) ?hy7 hHeld ?rest7
      case hy7 => (intro v hSw; first | (go_simp; done) | (go_simp; with_reducible rfl))
      try simp only [Act.put, List.setIfInBounds_toArray, List.set_cons_zero, List.set_cons_succ]
      refine wpAnyH_done (by kernel_rfl) ?_ _
      go_wp2_with fail
      go_ret
      refine ⟨rfl, ⟨by rw [TL.out, Nat.mul_one], .inr ⟨g, c, _, rfl, Nat.zero_le _, RowAt.setCells _ i _ w.drew ROW.out (by rw [List.length_replicate, LL.out]; have := HD.out; omega), hic, CM.out, ?_, ?_⟩⟩, ?_⟩
      · rw [List.size_toArray, over_len _ _ _ (by rw [List.length_replicate, LL.out]; have := HD.out; omega), LL.out, Nat.mul_one]
      · show (over _ i _).take (i * 1) = _
        unfold over
        rw [Nat.mul_one, List.take_append_of_le_length (by rw [List.length_take, LL.out]; omega), List.take_take, Nat.min_self, LT.out]
      · exact Chg.setCells (F := fun k => k = g) (Chg.refl _ w).drew (.inl rfl) _ _
    · skip
      go_enter Try.func31, Try.ntmps31
      go_wp2_with fail
      refine wp_region_held_drew (S := (fun _ => True)) (by kernel_rfl) (trivial) (fun hHeld => ?_)
      refine rgnTake 0 rfl (by kernel_rfl) (by kernel_rfl) (by kernel_rfl) (fun _ _ _ h => h) (by rfl) (v := ?v8) ?hy8 hHeld ?rest8
      case hy8 => (intro v hSw; first | (go_simp; done) | (go_simp; with_reducible rfl))
      try simp only [Act.put, List.setIfInBounds_toArray, List.set_cons_zero, List.set_cons_succ]
      refine rgnTake 1 rfl (by kernel_rfl) (by kernel_rfl) (by kernel_rfl) (fun _ _ _ h => h) (by rfl) (v := ?v9) ?hy9 hHeld ?rest9
      case hy9 => (intro v hSw; first | (go_simp; done) | (go_simp; with_reducible rfl))
      try simp only [Act.put, List.setIfInBounds_toArray, List.set_cons_zero, List.set_cons_succ]
      refine rgnTake 2 rfl (by kernel_rfl) (by kernel_rfl) (by kernel_rfl) (fun _ _ _ h => h) (by rfl) (v := ?v10) ?hy10 hHeld ?rest10
      case hy10 => (intro v hSw; first | (go_simp; done) | (go_simp; with_reducible rfl))
      try simp only [Act.put, List.setIfInBounds_toArray, List.set_cons_zero, List.set_cons_succ]
      refine rgnTake 3 rfl (by kernel_rfl) (by kernel_rfl) (by kernel_rfl) (fun _ _ _ h => h) (by rfl) (v := ?v11) ?hy11 hHeld ?rest11
      case hy11 => (intro v hSw; first | (go_simp; done) | (go_simp; with_reducible rfl))
      try simp only [Act.put, List.setIfInBounds_toArray, List.set_cons_zero, List.set_cons_succ]
      refine rgnTake 4 rfl (by kernel_rfl) (by kernel_rfl) (by kernel_rfl) (fun _ _ _ h => h) (by rfl) (v := ?v12) ?hy12 hHeld ?rest12
      case hy12 => (intro v hSw; first | (go_simp; done) | (go_simp; with_reducible rfl))
      try simp only [Act.put, List.setIfInBounds_toArray, List.set_cons_zero, List.set_cons_succ]
      refine rgnTake 5 rfl (by kernel_rfl) (by kernel_rfl) (by kernel_rfl) (fun _ _ _ h => h) (by rfl) (v := ?v13) ?hy13 hHeld ?rest13
      case hy13 => (intro v hSw; first | (go_simp; done) | (go_simp; with_reducible rfl))
      try simp only [Act.put, List.setIfInBounds_toArray, List.set_cons_zero, List.set_cons_succ]
      refine rgnOne 6 rfl (by kernel_rfl) (fun K hK => ?_)
      refine step_app_none rfl (.tmp 22) (.tmp 25) 28 27 rfl i0 Try.underlying28 hi0 ⟨g, 0, none⟩ i c _ _ hic rfl rfl ?_
      refine hK.out _ _ trivial (fun hHeld => ?_)
      clear hK K
      refine rgnTake 7 rfl (by kernel_rfl) (by kernel_rfl) (by kernel_rfl) (fun _ _ _ h => h) (by rfl) (v := ?v14) ?hy14 hHeld ?rest14
      case hy14 => (intro v hSw; first | (go_simp; done) | (go_simp; with_reducible rfl))
      try simp only [Act.put, List.setIfInBounds_toArray, List.set_cons_zero, List.set_cons_succ]
      refine wpAnyH_done (by kernel_rfl) ?_ _
      go_wp2_with fail
      go_ret
      refine ⟨rfl, ⟨by rw [TL.out, Nat.mul_one], .inr ⟨g, c, _, rfl, Nat.zero_le _, RowAt.setCells _ i _ w.drew ROW.out (by rw [List.length_replicate, LL.out]; have := HD.out; omega), hic, CM.out, ?_, ?_⟩⟩, ?_⟩
      · rw [List.size_toArray, over_len _ _ _ (by rw [List.length_replicate, LL.out]; have := HD.out; omega), LL.out, Nat.mul_one]
      · show (over _ i _).take (i * 1) = _
        unfold over
        rw [Nat.mul_one, List.take_append_of_le_length (by rw [List.length_take, LL.out]; omega), List.take_take, Nat.min_self, LT.out]
      · exact Chg.setCells (F := fun k => k = g) (Chg.refl _ w).drew (.inl rfl) _ _

end Go.Proofs.Ytnbkekbgedioeaa
