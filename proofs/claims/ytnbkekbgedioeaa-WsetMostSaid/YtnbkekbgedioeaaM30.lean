/- Proved parts: D2y D2k. Conditions: each theorem's own. -/
import Derived.Test.YtnbkekbgedioeaaM23
import Derived.Test.YtnbkekbgedioeaaM29
import Derived.Test.YtnbkekbgedioeaaM24
import Derived.Deep.CutRange
namespace Go.Proofs.Ytnbkekbgedioeaa
open Go.RowKit

section
variable {w0 w w' : World} {N : Nat → Prop} {b : Nat} {v vm : Value} {vs : List Value} {m : Ws} {os : List Ob} {i : Nat}
/-- append, in a region, whose run is known -/
theorem step_run2 {ops : Array Oper} {o : Oper} {a : Act} {K : Act → World → Prop} {Q : Exit → Act → World → Prop} {E : Prop} (hgd : o.guard = none) (x y : Operand) (t u : TypeId)
    (ho : o.op = .call { callee := .builtin .append, args := #[x, y], argTypes := #[t, u] }) (v1 v2 v' : Value) (w2 : World) (hx : a.eval x = v1) (hy : a.eval y = v2) (hr : ∀ ty, (Builtin.append_ #[t, u] ty #[v1, v2]).run Try.prog w = .ok v' w2) (k : K (a.put o.dst v') w2) :
    if Region.wanted o (yielded ops a.tmps) = true then Oper.wp Try.prog o a w K Q else E := by
  have hw : Region.wanted o (yielded ops a.tmps) = true := by simp [Region.wanted, hgd]
  rw [if_pos hw]
  have hr := hr o.type
  unfold Oper.wp execOp
  simp only [ho, resolve, invoke, builtin, Sem.run_bind, Sem.run_pure, Result.andThen_ok, List.map_toArray, List.map_cons, List.map_nil, hx, hy, hr]
  exact k
/-- append([]api.Write{}, v...) -/
theorem app_copy {l : Wl} {B : Nat} (h : NodeAtW w v l) (hB : B ≤ w.heap.size) (hl : l.length ≤ 1000) :
    ∃ v' w', (∀ ty, (Builtin.append_ #[27, 27] ty #[.slice (some ⟨w.heap.size, 0, none⟩) 0 0, v]).run Try.prog (w.alloc (.cells #[] 42)) = .ok v' w') ∧ NodeAtW w' v' l ∧ (∀ k, v'.ownBlock = some k → w.heap.size ≤ k) ∧ Below B w w' := by
  have b0 : Below w.heap.size w (w.alloc (.cells #[] 42)) := (Below.refl _ _).alloc (Nat.le_refl _) _
  have key := fun ty => app_row 27 ty Try.underlying27 (NodeAtW.made w) (h.below b0) (by rw [List.length_nil]; omega)
  obtain ⟨v', w', hr, k1, k2, k3⟩ := key 27
  rw [List.nil_append] at k1
  refine ⟨v', w', fun ty => ?_, k1, fun k e => ?_, (b0.mono hB).trans (k2.below_of (fun k e => by have e : w.heap.size = k := Option.some.inj e; omega) (by have := b0.size; omega))⟩
  · have e : (Builtin.append_ #[27, 27] ty #[.slice (some ⟨w.heap.size, 0, none⟩) 0 0, v]).run Try.prog (w.alloc (.cells #[] 42)) = (Builtin.append_ #[27, 27] 27 #[.slice (some ⟨w.heap.size, 0, none⟩) 0 0, v]).run Try.prog (w.alloc (.cells #[] 42)) := rfl
    exact e.trans hr
  · rcases k3 k e with z | z
    · exact Nat.le_of_eq (Option.some.inj z)
    · have := b0.size; omega
set_option maxRecDepth 100000 in
set_option maxHeartbeats 4000000 in
/-- Mark -/
theorem rMarkW (h : Side w0 N w (sOs TR b v vm vs m)) (ok : m.Ok) :
    Calls Try.prog 25 #[.pointer (some ⟨b, 0, none⟩)] w fun e w' => e = .returned (.tuple #[.int .i64 m.mkN, .int .i64 m.mkE]) ∧ m.mk'.Ok ∧ ∃ v' vm' vs', Side w0 N w' (sOs TR b v' vm' vs' m.mk') := by
  have OKM := Lib.hid (Ws.ok_mk ok)
  have h0 : Side w0 N w (sOs TR b v vm vs m ++ []) := by rw [List.append_nil]; exact h
  obtain ⟨Am, cm, rfl, hmc, hmg⟩ := Sets.form h0
  obtain ⟨A, c, rfl, hs, -⟩ := (Sets.node h0).sl
  have r0 := (Sets.row h0).cell 0
  have r1 := (Sets.row h0).cell 1
  simp only [List.getElem?_cons_succ, List.getElem?_cons_zero] at r0 r1
  have VL := Lib.hid (Sets.marks h0).1
  have CL := app_copy (w := w.drew) (v := .slice A m.L.length c) (B := w.heap.size) ((Sets.node h0).keep fun _ _ => rfl) (Nat.le_refl _) (Nat.le_trans ok.l.len (by decide))
  obtain ⟨n, hn⟩ : ∃ n, n = m.L.length := ⟨_, rfl⟩
  obtain ⟨M, hM⟩ : ∃ M, M = m.M.length := ⟨_, rfl⟩
  have m4 := ok.len
  have EN : m.mkN = if 4 ≤ M then 0 else (M : Int) + 1 := by unfold Ws.mkN; rw [hM]
  have EE : m.mkE = if 4 ≤ M then 5 else 0 := by unfold Ws.mkE; rw [hM]
  have EM : m.mk' = if 4 ≤ M then m else ⟨m.L, m.M ++ [m.L]⟩ := by unfold Ws.mk'; rw [hM]
  rw [← hM] at m4 VL h r1
  rw [← hn] at r0 h
  simp only [← hn] at CL
  rw [EN, EE]
  rw [EM] at OKM ⊢
  have HN := Lib.hid hn
  by_cases q : 4 ≤ M
  · rw [if_pos q] at OKM
    rw [if_pos q, if_pos q, if_pos q]
    have H := Lib.hid h
    have q4 : M = 4 := by omega
    clear h h0 ok hmg hs hn hM EN EE EM CL HN VL
    subst q4
    go_enter Try.func25, Try.ntmps25
    go_wp2_with fail
    go_ret2
    first | exact ⟨rfl, OKM.out, _, _, _, H.out⟩ | exact ⟨OKM.out, _, _, _, H.out⟩
  · rw [if_neg q] at OKM
    rw [if_neg q, if_neg q, if_neg q]
    have H := Lib.hid h
    have q4 : ¬ (M : Int) = 4 := by omega
    have q5 : ¬ M = 4 := by omega
    obtain ⟨v5, W3, hrn, n5, k5, hb3⟩ := CL
    obtain ⟨A5, c5, e5, -⟩ := n5.sl
    rw [← HN.out] at e5
    subst e5
    have HRN := Lib.hid hrn
    have BX := Lib.hid (show Below w.heap.size w w.drew from (Below.refl _ _).drew)
    have B3 := Lib.hid (BX.out.trans hb3)
    have H3 := Lib.hid ((H.out.below BX.out).more (w' := W3) hb3 (o := oWr (.slice A5 n c5) m.L) ⟨n5, fun k => Iff.rfl⟩ k5)
    have HA := Lib.hid ((H.out.below BX.out).below (w' := w.drew.alloc (.cells #[] 42)) ((Below.refl _ _).alloc (Nat.le_refl _) _))
    have HD := Lib.hid (H3.out.below (w' := W3.alloc (.cells #[.slice A5 n c5] 27)) ((Below.refl _ _).alloc (Nat.le_refl _) _))
    have RB := Lib.hid (fun W (vm' : Value) (os' : List Ob) (h : Side w0 N W (Ob.row b [.slice A n c, vm'] TR :: os')) => show W.cell? ⟨b, 0, none⟩ = some (.slice A n c) from (h.rowAt (i := 0) rfl).cell 0)
    have RC := Lib.hid (fun W (v' : Value) (os' : List Ob) (h : Side w0 N W (Ob.row b [v', .slice Am M cm] TR :: os')) => show W.cell? ⟨b, 1, none⟩ = some (.slice Am M cm) from (h.rowAt (i := 0) rfl).cell 1)
    clear h h0 ok hmg hs hn hM EN EE EM hrn n5 k5 hb3
    go_enter Try.func25, Try.ntmps25
    go_wp2_with fail
    clear r1
    refine wp_region_held_drew (S := (fun w' => w'.cell? ⟨b, 0, none⟩ = some (.slice A n c))) (by kernel_rfl) (r0) (fun hHeld => ?_)
    refine rgnTake 0 rfl (by kernel_rfl) (by kernel_rfl) (by kernel_rfl) (fun _ _ _ h => h) (by rfl) (v := ?v1) ?hy1 hHeld ?rest1
    case hy1 => (intro v hSw; have y0 := hSw; first | (go_simp; done) | (go_simp; with_reducible rfl))
    try simp only [Act.put, List.setIfInBounds_toArray, List.set_cons_zero, List.set_cons_succ]
    refine rgnTake 1 rfl (by kernel_rfl) (by kernel_rfl) (by kernel_rfl) (fun _ _ _ h => h) (by rfl) (v := ?v2) ?hy2 hHeld ?rest2
    case hy2 => (intro v hSw; have y0 := hSw; first | (go_simp; done) | (go_simp; with_reducible rfl))
    try simp only [Act.put, List.setIfInBounds_toArray, List.set_cons_zero, List.set_cons_succ]
    refine rgnTake 2 rfl (by kernel_rfl) (by kernel_rfl) (by kernel_rfl) (fun _ _ _ h => h) (by rfl) (v := ?v3) ?hy3 hHeld ?rest3
    case hy3 => (intro v hSw; have y0 := hSw; first | (go_simp; done) | (go_simp; with_reducible rfl))
    try simp only [Act.put, List.setIfInBounds_toArray, List.set_cons_zero, List.set_cons_succ]
    refine rgnTake 3 rfl (by kernel_rfl) (by kernel_rfl) (by kernel_rfl) (fun _ _ _ h => h) (by rfl) (v := ?v4) ?hy4 hHeld ?rest4
    case hy4 => (intro v hSw; have y0 := hSw; first | (go_simp; done) | (go_simp; with_reducible rfl))
    try simp only [Act.put, List.setIfInBounds_toArray, List.set_cons_zero, List.set_cons_succ]
    refine rgnTake 6 rfl (by kernel_rfl) (by kernel_rfl) (by kernel_rfl) (fun _ _ _ h => h) (by rfl) (v := ?v5) ?hy5 hHeld ?rest5
    case hy5 => (intro v hSw; have y0 := hSw; first | (go_simp; done) | (go_simp; with_reducible rfl))
    try simp only [Act.put, List.setIfInBounds_toArray, List.set_cons_zero, List.set_cons_succ]
    refine rgnTake 7 rfl (by kernel_rfl) (by kernel_rfl) (by kernel_rfl) (fun _ _ _ h => h) (by rfl) (v := ?v6) ?hy6 hHeld ?rest6
    case hy6 => (intro v hSw; have y0 := hSw; first | (go_simp; done) | (go_simp; with_reducible rfl))
    try simp only [Act.put, List.setIfInBounds_toArray, List.set_cons_zero, List.set_cons_succ]
    refine rgnTake 8 rfl (by kernel_rfl) (by kernel_rfl) (by kernel_rfl) (fun _ _ _ h => h) (by rfl) (v := ?v7) ?hy7 hHeld ?rest7
    case hy7 => (intro v hSw; have y0 := hSw; first | (go_simp; done) | (go_simp; with_reducible rfl))
    try simp only [Act.put, List.setIfInBounds_toArray, List.set_cons_zero, List.set_cons_succ]
    refine rgnTake 9 rfl (by kernel_rfl) (by kernel_rfl) (by kernel_rfl) (fun _ _ _ h => h) (by rfl) (v := ?v8) ?hy8 hHeld ?rest8
    case hy8 => (intro v hSw; have y0 := hSw; first | (go_simp; done) | (go_simp; with_reducible rfl))
    try simp only [Act.put, List.setIfInBounds_toArray, List.set_cons_zero, List.set_cons_succ]
    refine rgnTwo 4 5 rfl rfl (by kernel_rfl) (fun K hK => ?_) (fun K hK => ?_)
    · have r1 := RC.out _ _ _ (H.out.below BX.out)
      go_simp
      refine hK.out _ _ (r0) (fun hHeld => ?_)
      clear hK K
      try simp only [Act.put, List.setIfInBounds_toArray, List.set_cons_zero, List.set_cons_succ]
      refine rgnOne 5 rfl (by kernel_rfl) (fun K hK => ?_)
      go_simp
      refine hK.out _ _ ((RB.out _ _ _ HA.out)) (fun hHeld => ?_)
      clear hK K
      try simp only [Act.put, List.setIfInBounds_toArray, List.set_cons_zero, List.set_cons_succ]
      refine rgnOne 10 rfl (by kernel_rfl) (fun K hK => ?_)
      refine step_run2 rfl (.tmp 15) (.tmp 19) 27 27 rfl (.slice (some ⟨w.drew.heap.size, 0, none⟩) 0 0) (.slice A n c) (.slice A5 n c5) W3 rfl rfl HRN.out ?_
      refine hK.out _ _ (RB.out _ _ _ H3.out) (fun hHeld => ?_)
      clear hK K
      try simp only [Act.put, List.setIfInBounds_toArray, List.set_cons_zero, List.set_cons_succ]
      refine rgnOne 11 rfl (by kernel_rfl) (fun K hK => ?_)
      go_simp
      refine hK.out _ _ ((RB.out _ _ _ HD.out)) (fun hHeld => ?_)
      clear hK K
      try simp only [Act.put, List.setIfInBounds_toArray, List.set_cons_zero, List.set_cons_succ]
      have B4 := Lib.hid (show Below w.heap.size w (W3.alloc (.cells #[.slice A5 n c5] 27)) from B3.out.alloc B3.out.size _)
      have X4 := Lib.hid (cell_new1 W3 (.slice A5 n c5) 27)
      have H4 := Lib.hid (H3.out.below (w' := W3.alloc (.cells #[.slice A5 n c5] 27)) ((Below.refl _ _).alloc (Nat.le_refl _) _))
      clear r1
      refine rgnOne 12 rfl (by kernel_rfl) (fun K hK => ?_)
      refine step_sideV rfl (.tmp 14) (.tmp 21) 28 27 rfl Try.underlying28 infoWs rfl (by decide) (.slice Am M cm) vs rfl H4.out (i := 2) rfl W3.heap.size (.slice A5 n c5) rfl X4.out rfl (by rw [VL.out]; omega) ?_
      intro g' c' q W5 hq h5 _
      rw [VL.out] at hq
      have H5 := Lib.hid h5
      have HQ := Lib.hid hq
      clear h5 hq
      refine hK.out _ _ (RB.out _ _ _ H5.out) (fun hHeld => ?_)
      clear hK K
      try simp only [Act.put, List.setIfInBounds_toArray, List.set_cons_zero, List.set_cons_succ]
      refine rgnTake 13 rfl (by kernel_rfl) (by kernel_rfl) (by kernel_rfl) (fun _ _ _ h => h) (by rfl) (v := ?v9) ?hy9 hHeld ?rest9
      case hy9 => (intro v hSw; have y0 := hSw; first | (go_simp; done) | (go_simp; with_reducible rfl))
      try simp only [Act.put, List.setIfInBounds_toArray, List.set_cons_zero, List.set_cons_succ]
      refine rgnTake 14 rfl (by kernel_rfl) (by kernel_rfl) (by kernel_rfl) (fun _ _ _ h => h) (by rfl) (v := ?v10) ?hy10 hHeld ?rest10
      case hy10 => (intro v hSw; have y0 := hSw; first | (go_simp; done) | (go_simp; with_reducible rfl))
      try simp only [Act.put, List.setIfInBounds_toArray, List.set_cons_zero, List.set_cons_succ]
      have s1 := (H5.out.rowAt (i := 0) rfl).cell 1
      have z1 := (H5.out.rowAt (i := 0) rfl).frozen 1
      simp only [List.getElem?_cons_succ, List.getElem?_cons_zero] at s1
      have H6 := Lib.hid (H5.out.rowSet (i := 0) (g := b) (cs' := [.slice A n c, .slice (some ⟨g', 0, none⟩) q c']) rfl ((Chg.refl (fun k => k = b) W5).setCell (p := ⟨b, 1, none⟩) (.inl rfl) (.slice (some ⟨g', 0, none⟩) q c')) ((H5.out.rowAt (i := 0) rfl).set 1 _))
      have H7 : Hid (Side w0 N (W5.setCell ⟨b, 1, none⟩ (.slice (some ⟨g', 0, none⟩) q c')) ((sOs TR b (.slice A n c) (.slice (some ⟨g', 0, none⟩) q c') (vs ++ [.slice A5 n c5]) m).set 3 (oMk vs m.M) ++ [oWr (.slice A5 n c5) m.L])) := H6
      have H8 := Lib.hid (H7.out.merge (i := 3) (oi := oMk vs m.M) (o' := oMk (vs ++ [Value.slice A5 n c5]) (m.M ++ [m.L])) rfl (fun F F' p q => MkP.push (v := .slice A5 n c5) p q))
      have H9 : Hid (Side w0 N (W5.setCell ⟨b, 1, none⟩ (.slice (some ⟨g', 0, none⟩) q c')) (sOs TR b (.slice A n c) (.slice (some ⟨g', 0, none⟩) q c') (vs ++ [.slice A5 n c5]) ⟨m.L, m.M ++ [m.L]⟩)) := H8
      have q1 := Lib.hid (show (W5.setCell ⟨b, 1, none⟩ (.slice (some ⟨g', 0, none⟩) q c')).cell? ⟨b, 1, none⟩ = some (.slice (some ⟨g', 0, none⟩) q c') from (H7.out.rowAt (i := 0) rfl).cell 1)
      clear H6 H7 H8
      refine rgnOne 15 rfl (by kernel_rfl) (fun K hK => ?_)
      go_simp
      refine hK.out _ _ ((RB.out _ _ _ H9.out)) (fun hHeld => ?_)
      clear hK K
      try simp only [Act.put, List.setIfInBounds_toArray, List.set_cons_zero, List.set_cons_succ]
      refine wpAnyH_done (by kernel_rfl) ?_ _
      clear s1 z1
      have t1 := q1.out
      go_wp2_with fail
      go_ret2
      first | exact ⟨by rw [HQ.out]; rfl, OKM.out, _, _, _, H9.out⟩ | exact ⟨OKM.out, _, _, _, H9.out⟩
    · go_simp
      refine hK.out _ _ ((RB.out _ _ _ HA.out)) (fun hHeld => ?_)
      clear hK K
      try simp only [Act.put, List.setIfInBounds_toArray, List.set_cons_zero, List.set_cons_succ]
      refine rgnTwo 4 10 rfl rfl (by kernel_rfl) (fun K hK => ?_) (fun K hK => ?_)
      · have r1 : ((w.alloc (.cells #[] 42)).drew).cell? ⟨b, 1, none⟩ = some (.slice Am M cm) := RC.out _ _ _ HA.out
        go_simp
        refine hK.out _ _ ((RB.out _ _ _ HA.out)) (fun hHeld => ?_)
        clear hK K
        try simp only [Act.put, List.setIfInBounds_toArray, List.set_cons_zero, List.set_cons_succ]
        refine rgnOne 10 rfl (by kernel_rfl) (fun K hK => ?_)
        refine step_run2 rfl (.tmp 15) (.tmp 19) 27 27 rfl (.slice (some ⟨w.drew.heap.size, 0, none⟩) 0 0) (.slice A n c) (.slice A5 n c5) W3 rfl rfl HRN.out ?_
        refine hK.out _ _ (RB.out _ _ _ H3.out) (fun hHeld => ?_)
        clear hK K
        try simp only [Act.put, List.setIfInBounds_toArray, List.set_cons_zero, List.set_cons_succ]
        refine rgnOne 11 rfl (by kernel_rfl) (fun K hK => ?_)
        go_simp
        refine hK.out _ _ ((RB.out _ _ _ HD.out)) (fun hHeld => ?_)
        clear hK K
        try simp only [Act.put, List.setIfInBounds_toArray, List.set_cons_zero, List.set_cons_succ]
        have B4 := Lib.hid (show Below w.heap.size w (W3.alloc (.cells #[.slice A5 n c5] 27)) from B3.out.alloc B3.out.size _)
        have X4 := Lib.hid (cell_new1 W3 (.slice A5 n c5) 27)
        have H4 := Lib.hid (H3.out.below (w' := W3.alloc (.cells #[.slice A5 n c5] 27)) ((Below.refl _ _).alloc (Nat.le_refl _) _))
        clear r1
        refine rgnOne 12 rfl (by kernel_rfl) (fun K hK => ?_)
        refine step_sideV rfl (.tmp 14) (.tmp 21) 28 27 rfl Try.underlying28 infoWs rfl (by decide) (.slice Am M cm) vs rfl H4.out (i := 2) rfl W3.heap.size (.slice A5 n c5) rfl X4.out rfl (by rw [VL.out]; omega) ?_
        intro g' c' q W5 hq h5 _
        rw [VL.out] at hq
        have H5 := Lib.hid h5
        have HQ := Lib.hid hq
        clear h5 hq
        refine hK.out _ _ (RB.out _ _ _ H5.out) (fun hHeld => ?_)
        clear hK K
        try simp only [Act.put, List.setIfInBounds_toArray, List.set_cons_zero, List.set_cons_succ]
        refine rgnTake 13 rfl (by kernel_rfl) (by kernel_rfl) (by kernel_rfl) (fun _ _ _ h => h) (by rfl) (v := ?v11) ?hy11 hHeld ?rest11
        case hy11 => (intro v hSw; have y0 := hSw; first | (go_simp; done) | (go_simp; with_reducible rfl))
        try simp only [Act.put, List.setIfInBounds_toArray, List.set_cons_zero, List.set_cons_succ]
        refine rgnTake 14 rfl (by kernel_rfl) (by kernel_rfl) (by kernel_rfl) (fun _ _ _ h => h) (by rfl) (v := ?v12) ?hy12 hHeld ?rest12
        case hy12 => (intro v hSw; have y0 := hSw; first | (go_simp; done) | (go_simp; with_reducible rfl))
        try simp only [Act.put, List.setIfInBounds_toArray, List.set_cons_zero, List.set_cons_succ]
        have s1 := (H5.out.rowAt (i := 0) rfl).cell 1
        have z1 := (H5.out.rowAt (i := 0) rfl).frozen 1
        simp only [List.getElem?_cons_succ, List.getElem?_cons_zero] at s1
        have H6 := Lib.hid (H5.out.rowSet (i := 0) (g := b) (cs' := [.slice A n c, .slice (some ⟨g', 0, none⟩) q c']) rfl ((Chg.refl (fun k => k = b) W5).setCell (p := ⟨b, 1, none⟩) (.inl rfl) (.slice (some ⟨g', 0, none⟩) q c')) ((H5.out.rowAt (i := 0) rfl).set 1 _))
        have H7 : Hid (Side w0 N (W5.setCell ⟨b, 1, none⟩ (.slice (some ⟨g', 0, none⟩) q c')) ((sOs TR b (.slice A n c) (.slice (some ⟨g', 0, none⟩) q c') (vs ++ [.slice A5 n c5]) m).set 3 (oMk vs m.M) ++ [oWr (.slice A5 n c5) m.L])) := H6
        have H8 := Lib.hid (H7.out.merge (i := 3) (oi := oMk vs m.M) (o' := oMk (vs ++ [Value.slice A5 n c5]) (m.M ++ [m.L])) rfl (fun F F' p q => MkP.push (v := .slice A5 n c5) p q))
        have H9 : Hid (Side w0 N (W5.setCell ⟨b, 1, none⟩ (.slice (some ⟨g', 0, none⟩) q c')) (sOs TR b (.slice A n c) (.slice (some ⟨g', 0, none⟩) q c') (vs ++ [.slice A5 n c5]) ⟨m.L, m.M ++ [m.L]⟩)) := H8
        have q1 := Lib.hid (show (W5.setCell ⟨b, 1, none⟩ (.slice (some ⟨g', 0, none⟩) q c')).cell? ⟨b, 1, none⟩ = some (.slice (some ⟨g', 0, none⟩) q c') from (H7.out.rowAt (i := 0) rfl).cell 1)
        clear H6 H7 H8
        refine rgnOne 15 rfl (by kernel_rfl) (fun K hK => ?_)
        go_simp
        refine hK.out _ _ ((RB.out _ _ _ H9.out)) (fun hHeld => ?_)
        clear hK K
        try simp only [Act.put, List.setIfInBounds_toArray, List.set_cons_zero, List.set_cons_succ]
        refine wpAnyH_done (by kernel_rfl) ?_ _
        clear s1 z1
        have t1 := q1.out
        go_wp2_with fail
        go_ret2
        first | exact ⟨by rw [HQ.out]; rfl, OKM.out, _, _, _, H9.out⟩ | exact ⟨OKM.out, _, _, _, H9.out⟩
      · skip
        refine step_run2 rfl (.tmp 15) (.tmp 19) 27 27 rfl (.slice (some ⟨w.drew.heap.size, 0, none⟩) 0 0) (.slice A n c) (.slice A5 n c5) W3 rfl rfl HRN.out ?_
        refine hK.out _ _ (RB.out _ _ _ H3.out) (fun hHeld => ?_)
        clear hK K
        try simp only [Act.put, List.setIfInBounds_toArray, List.set_cons_zero, List.set_cons_succ]
        refine rgnTwo 4 11 rfl rfl (by kernel_rfl) (fun K hK => ?_) (fun K hK => ?_)
        · have r1 := RC.out _ _ _ H3.out
          go_simp
          refine hK.out _ _ ((RB.out _ _ _ H3.out)) (fun hHeld => ?_)
          clear hK K
          try simp only [Act.put, List.setIfInBounds_toArray, List.set_cons_zero, List.set_cons_succ]
          refine rgnOne 11 rfl (by kernel_rfl) (fun K hK => ?_)
          go_simp
          refine hK.out _ _ ((RB.out _ _ _ HD.out)) (fun hHeld => ?_)
          clear hK K
          try simp only [Act.put, List.setIfInBounds_toArray, List.set_cons_zero, List.set_cons_succ]
          have B4 := Lib.hid (show Below w.heap.size w (W3.alloc (.cells #[.slice A5 n c5] 27)) from B3.out.alloc B3.out.size _)
          have X4 := Lib.hid (cell_new1 W3 (.slice A5 n c5) 27)
          have H4 := Lib.hid (H3.out.below (w' := W3.alloc (.cells #[.slice A5 n c5] 27)) ((Below.refl _ _).alloc (Nat.le_refl _) _))
          clear r1
          refine rgnOne 12 rfl (by kernel_rfl) (fun K hK => ?_)
          refine step_sideV rfl (.tmp 14) (.tmp 21) 28 27 rfl Try.underlying28 infoWs rfl (by decide) (.slice Am M cm) vs rfl H4.out (i := 2) rfl W3.heap.size (.slice A5 n c5) rfl X4.out rfl (by rw [VL.out]; omega) ?_
          intro g' c' q W5 hq h5 _
          rw [VL.out] at hq
          have H5 := Lib.hid h5
          have HQ := Lib.hid hq
          clear h5 hq
          refine hK.out _ _ (RB.out _ _ _ H5.out) (fun hHeld => ?_)
          clear hK K
          try simp only [Act.put, List.setIfInBounds_toArray, List.set_cons_zero, List.set_cons_succ]
          refine rgnTake 13 rfl (by kernel_rfl) (by kernel_rfl) (by kernel_rfl) (fun _ _ _ h => h) (by rfl) (v := ?v13) ?hy13 hHeld ?rest13
          case hy13 => (intro v hSw; have y0 := hSw; first | (go_simp; done) | (go_simp; with_reducible rfl))
          try simp only [Act.put, List.setIfInBounds_toArray, List.set_cons_zero, List.set_cons_succ]
          refine rgnTake 14 rfl (by kernel_rfl) (by kernel_rfl) (by kernel_rfl) (fun _ _ _ h => h) (by rfl) (v := ?v14) ?hy14 hHeld ?rest14
          case hy14 => (intro v hSw; have y0 := hSw; first | (go_simp; done) | (go_simp; with_reducible rfl))
          try simp only [Act.put, List.setIfInBounds_toArray, List.set_cons_zero, List.set_cons_succ]
          have s1 := (H5.out.rowAt (i := 0) rfl).cell 1
          have z1 := (H5.out.rowAt (i := 0) rfl).frozen 1
          simp only [List.getElem?_cons_succ, List.getElem?_cons_zero] at s1
          have H6 := Lib.hid (H5.out.rowSet (i := 0) (g := b) (cs' := [.slice A n c, .slice (some ⟨g', 0, none⟩) q c']) rfl ((Chg.refl (fun k => k = b) W5).setCell (p := ⟨b, 1, none⟩) (.inl rfl) (.slice (some ⟨g', 0, none⟩) q c')) ((H5.out.rowAt (i := 0) rfl).set 1 _))
          have H7 : Hid (Side w0 N (W5.setCell ⟨b, 1, none⟩ (.slice (some ⟨g', 0, none⟩) q c')) ((sOs TR b (.slice A n c) (.slice (some ⟨g', 0, none⟩) q c') (vs ++ [.slice A5 n c5]) m).set 3 (oMk vs m.M) ++ [oWr (.slice A5 n c5) m.L])) := H6
          have H8 := Lib.hid (H7.out.merge (i := 3) (oi := oMk vs m.M) (o' := oMk (vs ++ [Value.slice A5 n c5]) (m.M ++ [m.L])) rfl (fun F F' p q => MkP.push (v := .slice A5 n c5) p q))
          have H9 : Hid (Side w0 N (W5.setCell ⟨b, 1, none⟩ (.slice (some ⟨g', 0, none⟩) q c')) (sOs TR b (.slice A n c) (.slice (some ⟨g', 0, none⟩) q c') (vs ++ [.slice A5 n c5]) ⟨m.L, m.M ++ [m.L]⟩)) := H8
          have q1 := Lib.hid (show (W5.setCell ⟨b, 1, none⟩ (.slice (some ⟨g', 0, none⟩) q c')).cell? ⟨b, 1, none⟩ = some (.slice (some ⟨g', 0, none⟩) q c') from (H7.out.rowAt (i := 0) rfl).cell 1)
          clear H6 H7 H8
          refine rgnOne 15 rfl (by kernel_rfl) (fun K hK => ?_)
          go_simp
          refine hK.out _ _ ((RB.out _ _ _ H9.out)) (fun hHeld => ?_)
          clear hK K
          try simp only [Act.put, List.setIfInBounds_toArray, List.set_cons_zero, List.set_cons_succ]
          refine wpAnyH_done (by kernel_rfl) ?_ _
          clear s1 z1
          have t1 := q1.out
          go_wp2_with fail
          go_ret2
          first | exact ⟨by rw [HQ.out]; rfl, OKM.out, _, _, _, H9.out⟩ | exact ⟨OKM.out, _, _, _, H9.out⟩
        · go_simp
          refine hK.out _ _ ((RB.out _ _ _ HD.out)) (fun hHeld => ?_)
          clear hK K
          try simp only [Act.put, List.setIfInBounds_toArray, List.set_cons_zero, List.set_cons_succ]
          have r1 := RC.out _ _ _ HD.out
          refine rgnOne 4 rfl (by kernel_rfl) (fun K hK => ?_)
          go_simp
          refine hK.out _ _ ((RB.out _ _ _ HD.out)) (fun hHeld => ?_)
          clear hK K
          try simp only [Act.put, List.setIfInBounds_toArray, List.set_cons_zero, List.set_cons_succ]
          have B4 := Lib.hid (show Below w.heap.size w (W3.alloc (.cells #[.slice A5 n c5] 27)) from B3.out.alloc B3.out.size _)
          have X4 := Lib.hid (cell_new1 W3 (.slice A5 n c5) 27)
          have H4 := Lib.hid (H3.out.below (w' := W3.alloc (.cells #[.slice A5 n c5] 27)) ((Below.refl _ _).alloc (Nat.le_refl _) _))
          clear r1
          refine rgnOne 12 rfl (by kernel_rfl) (fun K hK => ?_)
          refine step_sideV rfl (.tmp 14) (.tmp 21) 28 27 rfl Try.underlying28 infoWs rfl (by decide) (.slice Am M cm) vs rfl H4.out (i := 2) rfl W3.heap.size (.slice A5 n c5) rfl X4.out rfl (by rw [VL.out]; omega) ?_
          intro g' c' q W5 hq h5 _
          rw [VL.out] at hq
          have H5 := Lib.hid h5
          have HQ := Lib.hid hq
          clear h5 hq
          refine hK.out _ _ (RB.out _ _ _ H5.out) (fun hHeld => ?_)
          clear hK K
          try simp only [Act.put, List.setIfInBounds_toArray, List.set_cons_zero, List.set_cons_succ]
          refine rgnTake 13 rfl (by kernel_rfl) (by kernel_rfl) (by kernel_rfl) (fun _ _ _ h => h) (by rfl) (v := ?v15) ?hy15 hHeld ?rest15
          case hy15 => (intro v hSw; have y0 := hSw; first | (go_simp; done) | (go_simp; with_reducible rfl))
          try simp only [Act.put, List.setIfInBounds_toArray, List.set_cons_zero, List.set_cons_succ]
          refine rgnTake 14 rfl (by kernel_rfl) (by kernel_rfl) (by kernel_rfl) (fun _ _ _ h => h) (by rfl) (v := ?v16) ?hy16 hHeld ?rest16
          case hy16 => (intro v hSw; have y0 := hSw; first | (go_simp; done) | (go_simp; with_reducible rfl))
          try simp only [Act.put, List.setIfInBounds_toArray, List.set_cons_zero, List.set_cons_succ]
          have s1 := (H5.out.rowAt (i := 0) rfl).cell 1
          have z1 := (H5.out.rowAt (i := 0) rfl).frozen 1
          simp only [List.getElem?_cons_succ, List.getElem?_cons_zero] at s1
          have H6 := Lib.hid (H5.out.rowSet (i := 0) (g := b) (cs' := [.slice A n c, .slice (some ⟨g', 0, none⟩) q c']) rfl ((Chg.refl (fun k => k = b) W5).setCell (p := ⟨b, 1, none⟩) (.inl rfl) (.slice (some ⟨g', 0, none⟩) q c')) ((H5.out.rowAt (i := 0) rfl).set 1 _))
          have H7 : Hid (Side w0 N (W5.setCell ⟨b, 1, none⟩ (.slice (some ⟨g', 0, none⟩) q c')) ((sOs TR b (.slice A n c) (.slice (some ⟨g', 0, none⟩) q c') (vs ++ [.slice A5 n c5]) m).set 3 (oMk vs m.M) ++ [oWr (.slice A5 n c5) m.L])) := H6
          have H8 := Lib.hid (H7.out.merge (i := 3) (oi := oMk vs m.M) (o' := oMk (vs ++ [Value.slice A5 n c5]) (m.M ++ [m.L])) rfl (fun F F' p q => MkP.push (v := .slice A5 n c5) p q))
          have H9 : Hid (Side w0 N (W5.setCell ⟨b, 1, none⟩ (.slice (some ⟨g', 0, none⟩) q c')) (sOs TR b (.slice A n c) (.slice (some ⟨g', 0, none⟩) q c') (vs ++ [.slice A5 n c5]) ⟨m.L, m.M ++ [m.L]⟩)) := H8
          have q1 := Lib.hid (show (W5.setCell ⟨b, 1, none⟩ (.slice (some ⟨g', 0, none⟩) q c')).cell? ⟨b, 1, none⟩ = some (.slice (some ⟨g', 0, none⟩) q c') from (H7.out.rowAt (i := 0) rfl).cell 1)
          clear H6 H7 H8
          refine rgnOne 15 rfl (by kernel_rfl) (fun K hK => ?_)
          go_simp
          refine hK.out _ _ ((RB.out _ _ _ H9.out)) (fun hHeld => ?_)
          clear hK K
          try simp only [Act.put, List.setIfInBounds_toArray, List.set_cons_zero, List.set_cons_succ]
          refine wpAnyH_done (by kernel_rfl) ?_ _
          clear s1 z1
          have t1 := q1.out
          go_wp2_with fail
          go_ret2
          first | exact ⟨by rw [HQ.out]; rfl, OKM.out, _, _, _, H9.out⟩ | exact ⟨OKM.out, _, _, _, H9.out⟩
end

end Go.Proofs.Ytnbkekbgedioeaa

namespace Go.Proofs.Ytnbkekbgedioeaa
open Go.RowKit

section
variable {w0 w w' : World} {N : Nat → Prop} {b : Nat} {v vm : Value} {vs : List Value} {m : Ws} {os : List Ob} {i : Nat}
theorem cell_allocW {a : Addr} {u : Value} (o : Obj) (h : w.cell? a = some u) : (w.alloc o).cell? a = some u := (World.cell?_alloc_lt _ _ _ (World.block_lt_of_cell? w a h)).trans h
theorem getD_takeW {α : Type} (l : List α) (d : α) {i j : Nat} (h : j < i) : (l.take i).getD j d = l.getD j d := by
  rw [List.getD_eq_getElem?_getD, List.getElem?_take, if_pos h, ← List.getD_eq_getElem?_getD]
theorem NodeAtW.cell1 {l : Wl} (h : NodeAtW w v l) : v.oneCell' = true := by
  rcases h with ⟨rfl, _⟩ | ⟨b, o, c, rfl, _⟩ <;> rfl
theorem vec_cell {t : TypeId} {g n c : Nat} {xs : List Value} (h : w.ownsRow 0 t 1 (.slice (some ⟨g, 0, none⟩) n c) xs.length xs) {j : Nat} (hj : j < xs.length) : w.cell? ⟨g, j, none⟩ = xs[j]? := by
  rcases vec_form h with ⟨e, _⟩ | ⟨g', c', e, _, _, k, _⟩
  · injection e with e _ _; cases e
  · injection e with e _ _
    injection e with e
    injection e with e _ _
    subst e
    exact k j hj
/-- append([][]api.Write{}, v[:i]...) -/
theorem app_marks {g n c i : Nat} (h : w.ownsRow 0 27 1 (.slice (some ⟨g, 0, none⟩) n c) vs.length vs) (hi : i ≤ vs.length) (h1 : ∀ u, u ∈ vs → u.oneCell' = true) (hl : vs.length ≤ 100000) (h0 : 0 < i) :
    ∃ g2 c2 w', (∀ ty, (Builtin.append_ #[28, 28] ty #[.slice (some ⟨w.heap.size, 0, none⟩) 0 0, .slice (some ⟨g, 0, none⟩) i c]).run Try.prog (w.alloc (.cells #[] 27)) = .ok (.slice (some ⟨g2, 0, none⟩) i c2) w') ∧
      w'.ownsRow 0 27 1 (.slice (some ⟨g2, 0, none⟩) i c2) (vs.take i).length (vs.take i) ∧ w.heap.size ≤ g2 ∧ Below w.heap.size w w' := by
  obtain ⟨i0, hi0, hz0, hz1, hz2⟩ := info_parts infoWs
  have b0 : Below w.heap.size w (w.alloc (.cells #[] 27)) := (Below.refl _ _).alloc (Nat.le_refl _) _
  have own := World.ownsRow_made (size := 1) w (base := 0) (e := 27) #[] 0 (Nat.zero_le _) (Nat.zero_le _) (by simp)
  have tl : (vs.take i).length = i := by rw [List.length_take]; omega
  have key := fun ty => run_append_own_at (P := Try.prog) (w.alloc (.cells #[] 27)) 0 28 ty 27 i0 _ 1 24 Try.underlying28 hi0 hz0 hz1 hz2 rfl (by decide) (.slice (some ⟨w.heap.size, 0, none⟩) 0 0) 0 [] own ⟨g, 0, none⟩ i c (vs.take i) (by rw [tl, Nat.mul_one])
    (fun j u hj => by
      have hjl := (List.getElem?_eq_some_iff.1 hj).1
      rw [tl] at hjl
      rw [List.getElem?_take, if_pos hjl] at hj
      have lt : g < w.heap.size := (World.ownsRow.lt h g rfl).2
      have e := vec_cell h (j := j) (by omega)
      have e2 : (w.alloc (.cells #[] 27)).cell? ⟨g, j, none⟩ = w.cell? ⟨g, j, none⟩ := b0.cell (p := ⟨g, j, none⟩) lt
      rw [Addr.add_mid, Nat.zero_add, e2, e, hj])
    (fun u hu => h1 u (List.mem_of_mem_take hu)) (by unfold maxLen; omega) (by omega) (Nat.zero_le _)
  obtain ⟨v', w', hr, h2, h3, h4, h5⟩ := key 28
  rw [List.nil_append, Nat.zero_add] at h2
  have h2' : w'.ownsRow 0 27 1 v' (vs.take i).length (vs.take i) := by rw [tl]; exact h2
  rcases vec_form h2' with ⟨_, e2⟩ | ⟨g2, c2, e2, _⟩
  · exact absurd (congrArg List.length e2) (by rw [tl]; simp; omega)
  · rw [tl] at e2
    subst e2
    have gg : w.heap.size ≤ g2 := by
      rcases h5 with z | z
      · exact Nat.le_of_eq (Option.some.inj z).symm
      · have := Option.some.inj z
        rw [World.size_alloc] at this
        have e : g2 = w.heap.size + 1 := this
        omega
    refine ⟨g2, c2, w', fun ty => ?_, h2', gg, b0.trans ((Below.refl _ _).grown h3 (by have := b0.size; exact this) (fun k e => Nat.le_of_eq (Option.some.inj e)))⟩
    have e : (Builtin.append_ #[28, 28] ty #[.slice (some ⟨w.heap.size, 0, none⟩) 0 0, .slice (some ⟨g, 0, none⟩) i c]).run Try.prog (w.alloc (.cells #[] 27)) = (Builtin.append_ #[28, 28] 28 #[.slice (some ⟨w.heap.size, 0, none⟩) 0 0, .slice (some ⟨g, 0, none⟩) i c]).run Try.prog (w.alloc (.cells #[] 27)) := rfl
    exact e.trans hr
set_option maxRecDepth 100000 in
set_option maxHeartbeats 4000000 in
/-- Back -/
theorem rBackW (n : Int) (h : Side w0 N w (sOs TR b v vm vs m)) (ok : m.Ok) :
    Calls Try.prog 26 #[.pointer (some ⟨b, 0, none⟩), .int .i64 n] w fun e w' => e = .returned (.int .i64 (m.bkE n)) ∧ (m.bk n).Ok ∧ ∃ v' vm' vs', Side w0 N w' (sOs TR b v' vm' vs' (m.bk n)) := by
  have OKM := Lib.hid (Ws.ok_bk ok n)
  have h0 : Side w0 N w (sOs TR b v vm vs m ++ []) := by rw [List.append_nil]; exact h
  obtain ⟨Am, cm, rfl, hmc, hmg⟩ := Sets.form h0
  obtain ⟨A, c, rfl, -⟩ := (Sets.node h0).sl
  have r0 := (Sets.row h0).cell 0
  have r1 := (Sets.row h0).cell 1
  simp only [List.getElem?_cons_succ, List.getElem?_cons_zero] at r0 r1
  have VL := (Sets.marks h0).1
  have m4 := ok.len
  obtain ⟨M, hM⟩ : ∃ M, M = m.M.length := ⟨_, rfl⟩
  have EE : m.bkE n = if n < 1 ∨ (M : Int) < n then 7 else 0 := by unfold Ws.bkE; rw [hM]
  have EM : m.bk n = if n < 1 ∨ (M : Int) < n then m else ⟨m.M.getD (n.toNat - 1) [], m.M.take n.toNat⟩ := by unfold Ws.bk; rw [hM]
  rw [EE]
  rw [EM] at OKM ⊢
  by_cases q : n < 1 ∨ (M : Int) < n
  · rw [if_pos q] at OKM
    rw [if_pos q, if_pos q]
    have H := Lib.hid h
    rw [← hM] at r1 H
    clear h h0 ok hmg hM EE EM VL hmc
    by_cases q1 : n < 1
    · clear q
      go_enter Try.func26, Try.ntmps26
      go_wp2_with fail
      go_ret
      first | exact ⟨rfl, OKM.out, _, _, _, H.out⟩ | exact ⟨OKM.out, _, _, _, H.out⟩
    · have q2 : (M : Int) < n := by omega
      clear q
      go_enter Try.func26, Try.ntmps26
      go_wp2_with fail
      go_ret
      first | exact ⟨rfl, OKM.out, _, _, _, H.out⟩ | exact ⟨OKM.out, _, _, _, H.out⟩
  · obtain ⟨i, rfl⟩ : ∃ i : Nat, n = (i : Int) := ⟨n.toNat, by omega⟩
    have ti : ((i : Int)).toNat = i := by omega
    rw [if_neg q, ti] at OKM
    rw [if_neg q, if_neg q, ti]
    obtain ⟨j, hj⟩ : ∃ j, j = i - 1 := ⟨_, rfl⟩
    rw [← hj] at OKM ⊢
    obtain ⟨l5, hl5⟩ : ∃ l, l = m.M.getD j [] := ⟨_, rfl⟩
    rw [← hl5] at OKM ⊢
    have jm : j < m.M.length := by omega
    have ji : j < i := by omega
    obtain ⟨g, rfl, hcells⟩ := hmg (by omega)
    have hone : ∀ u, u ∈ vs → u.oneCell' = true := fun u hu => by
      obtain ⟨k, hk, rfl⟩ := List.mem_iff_getElem.1 hu
      have := (Sets.marks h0).2 k (by omega)
      rw [List.getD_eq_getElem?_getD, List.getElem?_eq_getElem hk] at this
      exact this.cell1
    obtain ⟨g2, c2, W2, hr2, o2, gg2, b2⟩ := app_marks (i := i) (Sets.vec h0) (by omega) hone (by omega) (by omega)
    have oj := (ok.mark jm).len
    -- what the append leaves
    obtain ⟨F, pF, _, kF⟩ := h.left (i := 2) (o := oVec 27 (.slice (some ⟨g, 0, none⟩) m.M.length cm) vs) rfl
    have h2 := kF W2 (oVec 27 (.slice (some ⟨g2, 0, none⟩) i c2) (vs.take i)) (fun k => (Value.slice (some ⟨g2, 0, none⟩) i c2).ownBlock = some k) (Chg.of_below b2) ⟨o2, fun _ => Iff.rfl⟩ (fun k e => .inr (by have e : g2 = k := Option.some.inj e; omega))
    have h2b := h2.tell (i := 3) (o := oMk vs m.M) (o' := oMk (vs.take i) (m.M.take i)) rfl (fun F p => MkP.take i p)
    obtain ⟨n0, hn0⟩ : ∃ n, n = m.L.length := ⟨_, rfl⟩
    rw [← hn0] at r0
    have h3 : Side w0 N (W2.setCell ⟨b, 1, none⟩ (.slice (some ⟨g2, 0, none⟩) i c2)) (sOs TR b (.slice A n0 c) (.slice (some ⟨g2, 0, none⟩) i c2) (vs.take i) ⟨m.L, m.M.take i⟩) := by
      rw [hn0]
      exact h2b.rowSet (i := 0) (g := b) (cs' := [.slice A m.L.length c, .slice (some ⟨g2, 0, none⟩) i c2]) rfl ((Chg.refl (fun k => k = b) W2).setCell (p := ⟨b, 1, none⟩) (.inl rfl) (.slice (some ⟨g2, 0, none⟩) i c2)) ((h2b.rowAt (i := 0) rfl).set 1 _)
    have s1 : W2.cell? ⟨b, 1, none⟩ = some (.slice (some ⟨g, 0, none⟩) M cm) := by rw [hM]; exact (h2b.rowAt (i := 0) rfl).cell 1
    have z1 := (h2b.rowAt (i := 0) rfl).frozen 1
    have h30 : Side w0 N (W2.setCell ⟨b, 1, none⟩ (.slice (some ⟨g2, 0, none⟩) i c2)) (sOs TR b (.slice A n0 c) (.slice (some ⟨g2, 0, none⟩) i c2) (vs.take i) ⟨m.L, m.M.take i⟩ ++ []) := by rw [List.append_nil]; exact h3
    have nj := (Sets.marks h30).2 j (by show j < (m.M.take i).length; rw [List.length_take]; omega)
    have nj : NodeAtW (W2.setCell ⟨b, 1, none⟩ (.slice (some ⟨g2, 0, none⟩) i c2)) ((vs.take i).getD j undef) ((m.M.take i).getD j []) := nj
    rw [getD_takeW _ _ ji, getD_takeW _ _ ji] at nj
    have l2 := vec_cell (Sets.vec h30) (j := j) (by rw [List.length_take]; omega)
    rw [List.getElem?_take, if_pos ji, List.getElem?_eq_getElem (by omega)] at l2
    have ev : vs.getD j undef = vs[j]'(by omega) := by rw [List.getD_eq_getElem?_getD, List.getElem?_eq_getElem (by omega)]; rfl
    rw [← ev] at l2
    obtain ⟨A5, c5, e5, -⟩ := nj.sl
    obtain ⟨q5, hq5⟩ : ∃ q, q = (m.M.getD j []).length := ⟨_, rfl⟩
    rw [← hq5] at e5
    rw [e5] at l2 nj
    obtain ⟨v6, W5, hr5, n6, k6, b5⟩ := app_copy nj (B := (W2.setCell ⟨b, 1, none⟩ (.slice (some ⟨g2, 0, none⟩) i c2)).heap.size) (Nat.le_refl _) (Nat.le_trans oj (by decide))
    have h5 := Sets.moved h3 (j := 1) rfl n6 (Chg.of_below b5) (fun k e => .inr (k6 k e))
    obtain ⟨A6, c6, e6, -⟩ := n6.sl
    rw [← hq5] at e6
    subst e6
    have s0 : W5.cell? ⟨b, 0, none⟩ = some (.slice A n0 c) := (h5.rowAt (i := 0) rfl).cell 0
    have z0 := (h5.rowAt (i := 0) rfl).frozen 0
    have h9 : Side w0 N (W5.setCell ⟨b, 0, none⟩ (.slice A6 q5 c6)) (sOs TR b (.slice A6 q5 c6) (.slice (some ⟨g2, 0, none⟩) i c2) (vs.take i) ⟨m.M.getD j [], m.M.take i⟩) :=
      h5.rowSet (i := 0) (g := b) (cs' := [.slice A6 q5 c6, .slice (some ⟨g2, 0, none⟩) i c2]) rfl ((Chg.refl (fun k => k = b) W5).setCell (p := ⟨b, 0, none⟩) (.inl rfl) (.slice A6 q5 c6)) ((h5.rowAt (i := 0) rfl).set 0 _)
    rw [← hl5] at h9
    have t1 : (W2.setCell ⟨b, 1, none⟩ (.slice (some ⟨g2, 0, none⟩) i c2)).cell? ⟨b, 1, none⟩ = some (.slice (some ⟨g2, 0, none⟩) i c2) := (h3.rowAt (i := 0) rfl).cell 1
    obtain ⟨W3, hW3⟩ : ∃ W, W = W2.setCell ⟨b, 1, none⟩ (.slice (some ⟨g2, 0, none⟩) i c2) := ⟨_, rfl⟩
    rw [← hW3] at hr5 t1 l2
    have HR2 := Lib.hid hr2
    have HR5 := Lib.hid hr5
    have H9 := Lib.hid h9
    have T1 := Lib.hid t1
    have L2 := Lib.hid l2
    have HW := Lib.hid hW3
    have S0 := Lib.hid s0
    have Z0 := Lib.hid z0
    have S1 := Lib.hid s1
    have Z1 := Lib.hid z1
    rw [← hM] at r1 jm
    have i1 : wrap64 ((i : Int) - 1) = (j : Int) := by unfold wrap64; omega
    have i2 : (0 : Int) ≤ (j : Int) := by omega
    have i3 : (j : Int) < (i : Int) := by omega
    have i4 : ¬ (i : Int) < 1 := by omega
    have i5 : ¬ (M : Int) < (i : Int) := by omega
    have i6 : i ≤ cm := by omega
    have i7 : i ≤ M := by omega
    clear h h0 ok EE EM VL hmc hmg hcells hone o2 gg2 b2 oj pF kF h2 h2b hn0 h3 h30 nj ev e5 hq5 n6 k6 b5 h5 h9 hr2 hr5 t1 l2 hW3 q ti hj hM s0 z0 s1 z1 jm hl5
    go_enter Try.func26, Try.ntmps26
    have r2 := cell_allocW (.cells #[] 27) r1
    go_upto_region 4 with (at_builtin; refine Lib.wpList_append_run _ rfl (.tmp 17) (.tmp 23) 28 28 rfl _ _ rfl rfl _ _ (HR2.out _) ?_; have s1 := S1.out; have z1 := Z1.out)
    rw [← HW.out]
    clear r0 r1 r2
    have t2 := cell_allocW (.cells #[] 42) T1.out
    have t3 := cell_allocW (.cells #[] 42) L2.out
    go_wp2_with (at_builtin; refine Lib.wpList_append_run _ rfl (.tmp 28) (.tmp 36) 27 27 rfl _ _ rfl rfl _ _ (HR5.out _) ?_; have s0 := S0.out; have z0 := Z0.out)
    go_ret
    first | exact ⟨rfl, OKM.out, _, _, _, H9.out⟩ | exact ⟨OKM.out, _, _, _, H9.out⟩
end

end Go.Proofs.Ytnbkekbgedioeaa
