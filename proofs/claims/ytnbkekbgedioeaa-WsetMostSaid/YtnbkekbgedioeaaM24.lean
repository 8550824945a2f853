/- Proved parts: D2v. Conditions: each theorem's own. -/
import Derived.Test.YtnbkekbgedioeaaM23
namespace Go.Proofs.Ytnbkekbgedioeaa
open Go.RowKit

section
variable {w0 w w' : World} {N : Nat → Prop} {b : Nat} {v vm : Value} {vs : List Value} {m : Ws} {os : List Ob} {i : Nat}
/-- a row is cut -/
theorem Side.vecCut {t : TypeId} {g n c : Nat} {xs ys : List Value} {j k : Nat} (h : Side w0 N w os) (hj : os[j]? = some (oVec t (.slice (some ⟨g, 0, none⟩) n c) xs)) (hk : k = ys.length) (ho : w'.ownsRow 0 t 1 (.slice (some ⟨g, 0, none⟩) k c) k ys) (hc : Chg (fun k => k = g) w w') :
    Side w0 N w' (os.set j (oVec t (.slice (some ⟨g, 0, none⟩) k c) ys)) := by
  obtain ⟨F, q, _, kk⟩ := h.left hj
  refine kk _ _ F (hc.mono fun x e => (q.2 x).2 (by rw [e]; rfl)) ⟨by rw [← hk]; exact ho, fun x => (q.2 x).trans ⟨fun e => e, fun e => e⟩⟩ fun _ e => .inl e
set_option maxRecDepth 100000 in
set_option maxHeartbeats 4000000 in
/-- Back -/
theorem xBackW (n : Int) (h : Side w0 N w (sOs TS b v vm vs m)) (ok : m.Ok) :
    Calls Try.prog 21 #[PtrW b, .int .i64 n] w fun e w' => e = .returned (.int .i64 (m.bkE n)) ∧ (m.bk n).Ok ∧ ∃ v' vm' vs', Side w0 N w' (sOs TS b v' vm' vs' (m.bk n)) := by
  have OKM := Lib.hid (Ws.ok_bk ok n)
  have h0 : Side w0 N w (sOs TS b v vm vs m ++ []) := by rw [List.append_nil]; exact h
  obtain ⟨Am, cm, rfl, hmc, hmg⟩ := Sets.form h0
  obtain ⟨A, c, rfl, -⟩ := (Sets.node h0).sl
  have r0 := (Sets.row h0).cell 0
  have r1 := (Sets.row h0).cell 1
  have f0 := (Sets.row h0).frozen 0
  simp only [List.getElem?_cons_succ, List.getElem?_cons_zero] at r0 r1
  have VL := (Sets.marks h0).1
  have m4 := ok.len
  obtain ⟨M, hM⟩ : ∃ M, M = m.M.length := ⟨_, rfl⟩
  have EE : m.bkE n = if n < 1 ∨ (M : Int) < n then 7 else 0 := by unfold Ws.bkE; rw [hM]
  have EM : m.bk n = if n < 1 ∨ (M : Int) < n then m else ⟨m.M.getD (n.toNat - 1) [], m.M.take n.toNat⟩ := by unfold Ws.bk; rw [hM]
  rw [EE]
  rw [EM] at OKM ⊢
  by_cases q : n < 1 ∨ (M : Int) < n
  · rw [if_pos q] at OKM
    rw [if_pos q, if_pos q]
    have H := Lib.hid h
    rw [← hM] at r1 H
    clear h h0 ok hmg hM EE EM VL hmc
    by_cases q1 : n < 1
    · clear q
      go_enter Try.func21, Try.ntmps21
      go_wp2_with fail
      go_ret
      first | exact ⟨rfl, OKM.out, _, _, _, H.out⟩ | exact ⟨OKM.out, _, _, _, H.out⟩
    · have q2 : (M : Int) < n := by omega
      clear q
      go_enter Try.func21, Try.ntmps21
      go_wp2_with fail
      go_ret
      first | exact ⟨rfl, OKM.out, _, _, _, H.out⟩ | exact ⟨OKM.out, _, _, _, H.out⟩
  · obtain ⟨i, rfl⟩ : ∃ i : Nat, n = (i : Int) := ⟨n.toNat, by omega⟩
    have ti : ((i : Int)).toNat = i := by omega
    rw [if_neg q, ti] at OKM
    rw [if_neg q, if_neg q, ti]
    obtain ⟨j, hj⟩ : ∃ j, j = i - 1 := ⟨_, rfl⟩
    rw [← hj] at OKM ⊢
    have jm : j < m.M.length := by omega
    obtain ⟨g, rfl, hcells⟩ := hmg (by omega)
    have l1 := hcells j jm
    have nj := (Sets.marks h0).2 j jm
    have oj := (ok.mark jm).len
    obtain ⟨A5, c5, e5, -⟩ := nj.sl
    obtain ⟨q5, hq5⟩ : ∃ q, q = (m.M.getD j []).length := ⟨_, rfl⟩
    rw [← hq5] at e5
    rw [e5] at l1 nj
    have TK := Lib.hid (show (vs.take i).length = i by rw [List.length_take]; omega)
    have CL := Lib.hid (xCloneW (.slice A5 q5 c5) (m.M.getD j []) w nj (Nat.le_trans oj (by decide)))
    rw [← hM] at r1 h jm
    have HM := Lib.hid hM
    have VL2 := Lib.hid VL
    have KD := Lib.hid (fun W {o0 o1 o3 : Ob} (hW : Side w0 N W [o0, o1, oVec 27 (.slice (some ⟨g, 0, none⟩) M cm) vs, o3]) => xDelM W g M cm i vs (by omega) (by
      have := hW.vecAt (i := 2) rfl; exact this) (by omega) (by omega) (by omega))
    have HQ := Lib.hid hq5
    have H := Lib.hid h
    have RC := Lib.hid (fun W (v' : Value) (os' : List Ob) (h : Side w0 N W (Ob.row b [v', .slice (some ⟨g, 0, none⟩) M cm] TS :: os')) => show W.cell? ⟨b, 1, none⟩ = some (.slice (some ⟨g, 0, none⟩) M cm) from (h.rowAt (i := 0) rfl).cell 1)
    have i1 : wrap64 ((i : Int) - 1) = (j : Int) := by unfold wrap64; omega
    have i2 : (0 : Int) ≤ (j : Int) := by omega
    have i3 : (j : Int) < (M : Int) := by omega
    have i4 : ¬ (i : Int) < 1 := by omega
    have i5 : ¬ (M : Int) < (i : Int) := by omega
    clear h h0 ok hM EE EM VL hmc hmg hcells nj oj e5 hq5 hj jm q ti
    go_enter Try.func21, Try.ntmps21
    go_wp2_with fail
    refine CL.out.mono ?_
    rintro e W3 ⟨v6, rfl, n6, k6, hb3⟩
    obtain ⟨A6, c6, e6, -⟩ := n6.sl
    rw [← HQ.out] at e6
    subst e6
    have H3 := Lib.hid (Sets.moved H.out (j := 1) rfl n6 (Chg.of_below hb3) (fun k e => .inr (k6 k e)))
    have H4 : Hid (Side w0 N W3 [Ob.row b [.slice A m.L.length c, .slice (some ⟨g, 0, none⟩) M cm] TS, oWr (.slice A6 q5 c6) (m.M.getD j []), oVec 27 (.slice (some ⟨g, 0, none⟩) M cm) vs, oMk vs m.M]) := H3
    have H5 : Hid (Side w0 N (W3.setCell ⟨b, 0, none⟩ (.slice A6 q5 c6)) [Ob.row b [.slice A6 q5 c6, .slice (some ⟨g, 0, none⟩) M cm] TS, oWr (.slice A6 q5 c6) (m.M.getD j []), oVec 27 (.slice (some ⟨g, 0, none⟩) M cm) vs, oMk vs m.M]) :=
      Lib.hid (H4.out.rowSet (i := 0) (g := b) (cs' := [.slice A6 q5 c6, .slice (some ⟨g, 0, none⟩) M cm]) rfl ((Chg.refl (fun k => k = b) W3).setCell (p := ⟨b, 0, none⟩) (.inl rfl) (.slice A6 q5 c6)) ((H4.out.rowAt (i := 0) rfl).set 0 _))
    have s0 := (H4.out.rowAt (i := 0) rfl).cell 0
    have z0 := (H4.out.rowAt (i := 0) rfl).frozen 0
    simp only [List.getElem?_cons_zero] at s0
    clear H3 n6 k6 hb3 r0 r1 l1 f0
    have r1 := RC.out _ _ _ H4.out
    go_wp2_with fail
    clear r1 s0 z0
    generalize W3.setCell ⟨b, 0, none⟩ (.slice A6 q5 c6) = W4 at H5 ⊢
    have BX := Lib.hid (show Below W4.heap.size W4 W4.drew from (Below.refl _ _).drew)
    have r1 := RC.out _ _ _ (H5.out.below BX.out)
    refine wp_region_held_drew (S := (fun _ => True)) (by kernel_rfl) (trivial) (fun hHeld => ?_)
    refine rgnTake 0 rfl (by kernel_rfl) (by kernel_rfl) (by kernel_rfl) (fun _ _ _ h => h) (by rfl) (v := ?v1) ?hy1 hHeld ?rest1
    case hy1 => (intro v hSw; skip; first | (go_simp; done) | (go_simp; with_reducible rfl))
    try simp only [Act.put, List.setIfInBounds_toArray, List.set_cons_zero, List.set_cons_succ]
    refine rgnTake 1 rfl (by kernel_rfl) (by kernel_rfl) (by kernel_rfl) (fun _ _ _ h => h) (by rfl) (v := ?v2) ?hy2 hHeld ?rest2
    case hy2 => (intro v hSw; skip; first | (go_simp; done) | (go_simp; with_reducible rfl))
    try simp only [Act.put, List.setIfInBounds_toArray, List.set_cons_zero, List.set_cons_succ]
    refine rgnTake 2 rfl (by kernel_rfl) (by kernel_rfl) (by kernel_rfl) (fun _ _ _ h => h) (by rfl) (v := ?v3) ?hy3 hHeld ?rest3
    case hy3 => (intro v hSw; skip; first | (go_simp; done) | (go_simp; with_reducible rfl))
    try simp only [Act.put, List.setIfInBounds_toArray, List.set_cons_zero, List.set_cons_succ]
    refine rgnTake 3 rfl (by kernel_rfl) (by kernel_rfl) (by kernel_rfl) (fun _ _ _ h => h) (by rfl) (v := ?v4) ?hy4 hHeld ?rest4
    case hy4 => (intro v hSw; skip; first | (go_simp; done) | (go_simp; with_reducible rfl))
    try simp only [Act.put, List.setIfInBounds_toArray, List.set_cons_zero, List.set_cons_succ]
    refine rgnTake 5 rfl (by kernel_rfl) (by kernel_rfl) (by kernel_rfl) (fun _ _ _ h => h) (by rfl) (v := ?v5) ?hy5 hHeld ?rest5
    case hy5 => (intro v hSw; skip; first | (go_simp; done) | (go_simp; with_reducible rfl))
    try simp only [Act.put, List.setIfInBounds_toArray, List.set_cons_zero, List.set_cons_succ]
    refine rgnTake 6 rfl (by kernel_rfl) (by kernel_rfl) (by kernel_rfl) (fun _ _ _ h => h) (by rfl) (v := ?v6) ?hy6 hHeld ?rest6
    case hy6 => (intro v hSw; skip; first | (go_simp; done) | (go_simp; with_reducible rfl))
    try simp only [Act.put, List.setIfInBounds_toArray, List.set_cons_zero, List.set_cons_succ]
    refine rgnTake 7 rfl (by kernel_rfl) (by kernel_rfl) (by kernel_rfl) (fun _ _ _ h => h) (by rfl) (v := ?v7) ?hy7 hHeld ?rest7
    case hy7 => (intro v hSw; skip; first | (go_simp; done) | (go_simp; with_reducible rfl))
    try simp only [Act.put, List.setIfInBounds_toArray, List.set_cons_zero, List.set_cons_succ]
    refine rgnTake 8 rfl (by kernel_rfl) (by kernel_rfl) (by kernel_rfl) (fun _ _ _ h => h) (by rfl) (v := ?v8) ?hy8 hHeld ?rest8
    case hy8 => (intro v hSw; skip; first | (go_simp; done) | (go_simp; with_reducible rfl))
    try simp only [Act.put, List.setIfInBounds_toArray, List.set_cons_zero, List.set_cons_succ]
    refine rgnTwo 4 9 rfl rfl (by kernel_rfl) (fun K hK => ?_) (fun K hK => ?_)
    · go_simp
      refine hK.out _ _ (trivial) (fun hHeld => ?_)
      clear hK K
      try simp only [Act.put, List.setIfInBounds_toArray, List.set_cons_zero, List.set_cons_succ]
      refine rgnOne 9 rfl (by kernel_rfl) (fun K hK => ?_)
      go_simp
      refine hK.out _ _ (trivial) (fun hHeld => ?_)
      clear hK K
      try simp only [Act.put, List.setIfInBounds_toArray, List.set_cons_zero, List.set_cons_succ]
      refine rgnTake 10 rfl (by kernel_rfl) (by kernel_rfl) (by kernel_rfl) (fun _ _ _ h => h) (by rfl) (v := ?v9) ?hy9 hHeld ?rest9
      case hy9 => (intro v hSw; skip; first | (go_simp; done) | (go_simp; with_reducible rfl))
      try simp only [Act.put, List.setIfInBounds_toArray, List.set_cons_zero, List.set_cons_succ]
      have KD2 := KD.out _ (H5.out.below BX.out)
      refine rgnOne 11 rfl (by kernel_rfl) (fun K hK => ?_)
      go_simp
      refine KD2.mono ?_
      rintro r W6 ⟨rfl, o6, c6'⟩
      have H6 := Lib.hid ((H5.out.below BX.out).vecCut (j := 2) rfl TK.out.symm o6 c6')
      clear o6 c6' KD2 r1
      refine hK.out _ _ (trivial) (fun hHeld => ?_)
      clear hK K
      try simp only [Act.put, List.setIfInBounds_toArray, List.set_cons_zero, List.set_cons_succ]
      refine rgnTake 12 rfl (by kernel_rfl) (by kernel_rfl) (by kernel_rfl) (fun _ _ _ h => h) (by rfl) (v := ?v10) ?hy10 hHeld ?rest10
      case hy10 => (intro v hSw; skip; first | (go_simp; done) | (go_simp; with_reducible rfl))
      try simp only [Act.put, List.setIfInBounds_toArray, List.set_cons_zero, List.set_cons_succ]
      refine rgnTake 13 rfl (by kernel_rfl) (by kernel_rfl) (by kernel_rfl) (fun _ _ _ h => h) (by rfl) (v := ?v11) ?hy11 hHeld ?rest11
      case hy11 => (intro v hSw; skip; first | (go_simp; done) | (go_simp; with_reducible rfl))
      try simp only [Act.put, List.setIfInBounds_toArray, List.set_cons_zero, List.set_cons_succ]
      have s1 := (H6.out.rowAt (i := 0) rfl).cell 1
      have z1 := (H6.out.rowAt (i := 0) rfl).frozen 1
      simp only [List.getElem?_cons_succ, List.getElem?_cons_zero] at s1
      have H7 := Lib.hid (H6.out.rowSet (i := 0) (g := b) (cs' := [.slice A6 q5 c6, .slice (some ⟨g, 0, none⟩) i cm]) rfl ((Chg.refl (fun k => k = b) W6).setCell (p := ⟨b, 1, none⟩) (.inl rfl) (.slice (some ⟨g, 0, none⟩) i cm)) ((H6.out.rowAt (i := 0) rfl).set 1 _))
      have H8 := Lib.hid (H7.out.tell (i := 3) (o := oMk vs m.M) (o' := oMk (vs.take i) (m.M.take i)) rfl (fun F p => MkP.take i p))
      have H9 : Hid (Side w0 N (W6.setCell ⟨b, 1, none⟩ (.slice (some ⟨g, 0, none⟩) i cm)) (sOs TS b (.slice A6 q5 c6) (.slice (some ⟨g, 0, none⟩) i cm) (vs.take i) ⟨m.M.getD j [], m.M.take i⟩)) := H8
      clear H7 H8
      refine rgnOne 14 rfl (by kernel_rfl) (fun K hK => ?_)
      go_simp
      refine hK.out _ _ (trivial) (fun hHeld => ?_)
      clear hK K
      try simp only [Act.put, List.setIfInBounds_toArray, List.set_cons_zero, List.set_cons_succ]
      refine wpAnyH_done (by kernel_rfl) ?_ _
      clear s1 z1
      go_wp2_with fail
      go_ret
      first | exact ⟨rfl, OKM.out, _, _, _, H9.out⟩ | exact ⟨OKM.out, _, _, _, H9.out⟩
    · go_simp
      refine hK.out _ _ (trivial) (fun hHeld => ?_)
      clear hK K
      try simp only [Act.put, List.setIfInBounds_toArray, List.set_cons_zero, List.set_cons_succ]
      refine rgnTake 10 rfl (by kernel_rfl) (by kernel_rfl) (by kernel_rfl) (fun _ _ _ h => h) (by rfl) (v := ?v12) ?hy12 hHeld ?rest12
      case hy12 => (intro v hSw; skip; first | (go_simp; done) | (go_simp; with_reducible rfl))
      try simp only [Act.put, List.setIfInBounds_toArray, List.set_cons_zero, List.set_cons_succ]
      refine rgnOne 4 rfl (by kernel_rfl) (fun K hK => ?_)
      go_simp
      refine hK.out _ _ (trivial) (fun hHeld => ?_)
      clear hK K
      try simp only [Act.put, List.setIfInBounds_toArray, List.set_cons_zero, List.set_cons_succ]
      have KD2 := KD.out _ (H5.out.below BX.out)
      refine rgnOne 11 rfl (by kernel_rfl) (fun K hK => ?_)
      go_simp
      refine KD2.mono ?_
      rintro r W6 ⟨rfl, o6, c6'⟩
      have H6 := Lib.hid ((H5.out.below BX.out).vecCut (j := 2) rfl TK.out.symm o6 c6')
      clear o6 c6' KD2 r1
      refine hK.out _ _ (trivial) (fun hHeld => ?_)
      clear hK K
      try simp only [Act.put, List.setIfInBounds_toArray, List.set_cons_zero, List.set_cons_succ]
      refine rgnTake 12 rfl (by kernel_rfl) (by kernel_rfl) (by kernel_rfl) (fun _ _ _ h => h) (by rfl) (v := ?v13) ?hy13 hHeld ?rest13
      case hy13 => (intro v hSw; skip; first | (go_simp; done) | (go_simp; with_reducible rfl))
      try simp only [Act.put, List.setIfInBounds_toArray, List.set_cons_zero, List.set_cons_succ]
      refine rgnTake 13 rfl (by kernel_rfl) (by kernel_rfl) (by kernel_rfl) (fun _ _ _ h => h) (by rfl) (v := ?v14) ?hy14 hHeld ?rest14
      case hy14 => (intro v hSw; skip; first | (go_simp; done) | (go_simp; with_reducible rfl))
      try simp only [Act.put, List.setIfInBounds_toArray, List.set_cons_zero, List.set_cons_succ]
      have s1 := (H6.out.rowAt (i := 0) rfl).cell 1
      have z1 := (H6.out.rowAt (i := 0) rfl).frozen 1
      simp only [List.getElem?_cons_succ, List.getElem?_cons_zero] at s1
      have H7 := Lib.hid (H6.out.rowSet (i := 0) (g := b) (cs' := [.slice A6 q5 c6, .slice (some ⟨g, 0, none⟩) i cm]) rfl ((Chg.refl (fun k => k = b) W6).setCell (p := ⟨b, 1, none⟩) (.inl rfl) (.slice (some ⟨g, 0, none⟩) i cm)) ((H6.out.rowAt (i := 0) rfl).set 1 _))
      have H8 := Lib.hid (H7.out.tell (i := 3) (o := oMk vs m.M) (o' := oMk (vs.take i) (m.M.take i)) rfl (fun F p => MkP.take i p))
      have H9 : Hid (Side w0 N (W6.setCell ⟨b, 1, none⟩ (.slice (some ⟨g, 0, none⟩) i cm)) (sOs TS b (.slice A6 q5 c6) (.slice (some ⟨g, 0, none⟩) i cm) (vs.take i) ⟨m.M.getD j [], m.M.take i⟩)) := H8
      clear H7 H8
      refine rgnOne 14 rfl (by kernel_rfl) (fun K hK => ?_)
      go_simp
      refine hK.out _ _ (trivial) (fun hHeld => ?_)
      clear hK K
      try simp only [Act.put, List.setIfInBounds_toArray, List.set_cons_zero, List.set_cons_succ]
      refine wpAnyH_done (by kernel_rfl) ?_ _
      clear s1 z1
      go_wp2_with fail
      go_ret
      first | exact ⟨rfl, OKM.out, _, _, _, H9.out⟩ | exact ⟨OKM.out, _, _, _, H9.out⟩
end

end Go.Proofs.Ytnbkekbgedioeaa
