/- Proved parts: T9g. Conditions: each theorem's own. -/
import Derived.Test.YtbfgpdgiaclphaaM26
namespace Go.Proofs.Ytbfgpdgiaclphaa
open Go.RowKit

theorem TabV.eq_win {w : World} {T : Nat} {E : Nat → Prop} {s : Tab} {rv fv : Value} {vs : List Value} (h : TabV w T E s rv fv vs) {g c : Nat} (hr : rv = .slice (some ⟨g, 0, none⟩) vs.length c) {p : Nat} (hp : p < vs.length) : w.cell? ⟨g, p, none⟩ = some (tnv vs p) ∧ w.frozen? ⟨g, p, none⟩ = false := by
  obtain ⟨g', c', e, _, _, hc⟩ := h.rowAt (by omega)
  rw [hr] at e
  injection e with e _ _
  injection e with e
  injection e with e _ _
  subst e
  exact hc p hp
/-- an append in a region, whose run is known -/
theorem step_append_run {P : Program} {ops : Array Oper} {o : Oper} {a : Act} {w : World} {K : Act → World → Prop} {Q : Exit → Act → World → Prop} {E : Prop}
    (hg : o.guard = none) (s x : Operand) (t : TypeId) (hop : o.op = Op.call { callee := Callee.builtin Builtin.append, args := #[s, x], argTypes := #[t, t] })
    (u1 u2 : Value) (hs : a.eval s = u1) (hx : a.eval x = u2) (v' : Value) (w' : World) (hrun : (Builtin.append_ #[t, t] o.type #[u1, u2]).run P w = .ok v' w')
    (hK : K (a.put o.dst v') w') : if Region.wanted o (yielded ops a.tmps) = true then Oper.wp P o a w K Q else E := by
  have hw : Region.wanted o (yielded ops a.tmps) = true := by simp [Region.wanted, hg]
  rw [if_pos hw]
  unfold Oper.wp
  simp [execOp, hop, resolve, invoke, builtin, hs, hx, hrun, Result.andThen]
  exact hK
set_option maxHeartbeats 4000000 in
set_option maxRecDepth 100000 in
/-- fill -/
theorem xFill (w : World) (T : Nat) (E : Nat → Prop) (s : Tab) (x : Nat × Nat) (h : TabG w T E s) (hf : FineFill s x) :
    Calls Try.prog 87 #[Ptr T, .agg #[.int .i64 x.1, .int .i64 x.2]] w fun r w' => r = .returned (.tuple #[]) ∧ LeftP w T E (s.fill x) w' := by
  obtain ⟨q, a⟩ := x
  obtain ⟨rv, fv, vs, h⟩ := h
  have iq : q < vs.length := by rw [h.len]; exact hf.iq
  have ia : a < (s.nd q).length := hf.ia
  obtain ⟨g, c, hrv, hg, gT, hc⟩ := h.rowAt (by omega)
  obtain ⟨b, o, cp, ev, hw⟩ := h.win iq (by omega)
  have hW := h.eW q b o iq ⟨o, _, cp, ev, Nat.le_refl _, by have := hw.pos; omega⟩
  obtain ⟨p0, hp0, p0l, p0q, p0n, p0m⟩ := hf.kid a ia
  have p0l' : p0 < vs.length := by rw [h.len]; exact p0l
  obtain ⟨A0, c0, ev0, _⟩ := (h.node p0 p0l').form
  obtain ⟨q3, hq3⟩ : ∃ q3, q3 = w.heap.size := ⟨_, rfl⟩
  obtain ⟨w1, hw1⟩ : ∃ w1, w1 = w.alloc (.cells #[.int .i64 q, .int .i64 a] 150) := ⟨_, rfl⟩
  have B1 : Below w.heap.size w w1 := by rw [hw1]; exact (Below.refl _ _).alloc (Nat.le_refl _) _
  have R1 := Lib.hid (show RowAt w1 q3 [.int .i64 q, .int .i64 a] 150 by rw [hw1, hq3]; exact RowAt.new w _ _)
  have S1 := Lib.hid (show w1.heap.size = q3 + 1 by rw [hw1, hq3]; simp)
  have V1 := Lib.hid (h.below B1)
  have d0 := V1.out.row.cell 0
  simp only [List.getElem?_cons_zero] at d0
  rw [hrv] at d0
  have d1 := (V1.out.eq_win hrv iq).1
  have d2 := (V1.out.eq_win hrv p0l').1
  rw [ev] at d1
  rw [ev0] at d2
  have d3 : w1.cell? ⟨b, o + a * 2 + 1, none⟩ = some (.int .i64 p0) := by
    have := (hw.cells a ia).2
    rw [hp0] at this
    exact (B1.cell (p := ⟨b, o + a * 2 + 1, none⟩) (block_lt_of_cell this)).trans this
  have d4 := (hw.cells a ia).1
  have d4 : w1.cell? ⟨b, o + a * 2, none⟩ = some _ := (B1.cell (p := ⟨b, o + a * 2, none⟩) (block_lt_of_cell d4)).trans d4
  have d5 := R1.out.cell 0
  have d6 := R1.out.cell 1
  simp only [List.getElem?_cons_zero, List.getElem?_cons_succ] at d5 d6
  have L3 := Lib.hid (show ∀ k, E k → k ≠ q3 from fun k e => by have := h.lt k e; omega)
  have KA : s.kid q a = p0 := by unfold Tab.kid; rw [hp0]; rfl
  obtain ⟨N, hN⟩ : ∃ N, N = vs.length := ⟨_, rfl⟩
  obtain ⟨Z, hZ⟩ : ∃ Z, Z = (s.nd q).length := ⟨_, rfl⟩
  obtain ⟨Z0, hZ0⟩ : ∃ Z0, Z0 = (s.nd p0).length := ⟨_, rfl⟩
  have iaZ : a < Z := by rw [hZ]; exact ia
  have ap : a < 100000 := by have := hf.lq; have e : (s.nd q).length ≤ 1000 := this; omega
  rw [← hN] at d0
  rw [← hZ] at d1
  rw [← hZ0] at d2
  have iqN : q < N := by rw [hN]; exact iq
  have p0N : p0 < N := by rw [hN]; exact p0l'
  have H := Lib.hid h
  have HF := Lib.hid hf
  have EV := Lib.hid ev
  have HRV := Lib.hid hrv
  have HWE := Lib.hid hW
  have HN := Lib.hid hN
  have HZ := Lib.hid hZ
  have HZ0 := Lib.hid hZ0
  have HW1 := Lib.hid hw1
  have HQ3 := Lib.hid hq3
  have HKA := Lib.hid KA
  have HP0 := Lib.hid hp0
  have BB1 := Lib.hid B1
  have WW := Lib.hid hw
  have P0L := Lib.hid (show p0 < s.nds.length ∧ p0 ≠ q ∧ 0 < (s.nd p0).length from ⟨p0l, p0q, p0n⟩)
  have az : (0 : Int) ≤ (a : Int) := by omega
  clear h hf ev hrv hW hN hZ hZ0 hw1 hq3 hc KA hp0 B1 hw ev0 ia iq p0l' p0l p0n p0m hg
  go_enter Try.func87, Try.ntmps87
  go_wp2_with fail
  rw [← HW1.out, ← HQ3.out]
  have D := Lib.hid (And.intro d0 (And.intro d1 (And.intro d2 (And.intro d3 (And.intro d4 (And.intro d5 d6))))))
  refine wp_region_held_drew (S := (fun w' => w'.cell? ⟨T, 0, none⟩ = some (.slice (some ⟨g, 0, none⟩) N c) ∧ w'.cell? ⟨g, q, none⟩ = some (.slice (some ⟨b, o, none⟩) Z cp) ∧ w'.cell? ⟨g, p0, none⟩ = some (.slice A0 Z0 c0) ∧ w'.cell? ⟨b, o + a * 2 + 1, none⟩ = some (.int .i64 p0) ∧ w'.cell? ⟨b, o + a * 2, none⟩ = some (.string ((s.nd q).key a)) ∧ w'.cell? ⟨q3, 0, none⟩ = some (.int .i64 q) ∧ w'.cell? ⟨q3, 1, none⟩ = some (.int .i64 a))) (by kernel_rfl) (D.out) (fun hHeld => ?_)
  refine rgnTake 0 rfl (by kernel_rfl) (by kernel_rfl) (by kernel_rfl) (fun _ _ _ h => h) (by rfl) (v := ?v1) ?hy1 hHeld ?rest1
  case hy1 => (intro v hSw; obtain ⟨y0, y1, y2, y3, y4, y5, y6⟩ := hSw; first | (go_simp; done) | (go_simp; with_reducible rfl))
  try simp only [Act.put, List.setIfInBounds_toArray, List.set_cons_zero, List.set_cons_succ]
  refine rgnTake 1 rfl (by kernel_rfl) (by kernel_rfl) (by kernel_rfl) (fun _ _ _ h => h) (by rfl) (v := ?v2) ?hy2 hHeld ?rest2
  case hy2 => (intro v hSw; obtain ⟨y0, y1, y2, y3, y4, y5, y6⟩ := hSw; first | (go_simp; done) | (go_simp; with_reducible rfl))
  try simp only [Act.put, List.setIfInBounds_toArray, List.set_cons_zero, List.set_cons_succ]
  refine rgnTake 2 rfl (by kernel_rfl) (by kernel_rfl) (by kernel_rfl) (fun _ _ _ h => h) (by rfl) (v := ?v3) ?hy3 hHeld ?rest3
  case hy3 => (intro v hSw; obtain ⟨y0, y1, y2, y3, y4, y5, y6⟩ := hSw; first | (go_simp; done) | (go_simp; with_reducible rfl))
  try simp only [Act.put, List.setIfInBounds_toArray, List.set_cons_zero, List.set_cons_succ]
  refine rgnTake 3 rfl (by kernel_rfl) (by kernel_rfl) (by kernel_rfl) (fun _ _ _ h => h) (by rfl) (v := ?v4) ?hy4 hHeld ?rest4
  case hy4 => (intro v hSw; obtain ⟨y0, y1, y2, y3, y4, y5, y6⟩ := hSw; first | (go_simp; done) | (go_simp; with_reducible rfl))
  try simp only [Act.put, List.setIfInBounds_toArray, List.set_cons_zero, List.set_cons_succ]
  refine rgnTake 4 rfl (by kernel_rfl) (by kernel_rfl) (by kernel_rfl) (fun _ _ _ h => h) (by rfl) (v := ?v5) ?hy5 hHeld ?rest5
  case hy5 => (intro v hSw; obtain ⟨y0, y1, y2, y3, y4, y5, y6⟩ := hSw; first | (go_simp; done) | (go_simp; with_reducible rfl))
  try simp only [Act.put, List.setIfInBounds_toArray, List.set_cons_zero, List.set_cons_succ]
  refine rgnTake 5 rfl (by kernel_rfl) (by kernel_rfl) (by kernel_rfl) (fun _ _ _ h => h) (by rfl) (v := ?v6) ?hy6 hHeld ?rest6
  case hy6 => (intro v hSw; obtain ⟨y0, y1, y2, y3, y4, y5, y6⟩ := hSw; first | (go_simp; done) | (go_simp; with_reducible rfl))
  try simp only [Act.put, List.setIfInBounds_toArray, List.set_cons_zero, List.set_cons_succ]
  refine rgnTake 6 rfl (by kernel_rfl) (by kernel_rfl) (by kernel_rfl) (fun _ _ _ h => h) (by rfl) (v := ?v7) ?hy7 hHeld ?rest7
  case hy7 => (intro v hSw; obtain ⟨y0, y1, y2, y3, y4, y5, y6⟩ := hSw; first | (go_simp; done) | (go_simp; with_reducible rfl))
  try simp only [Act.put, List.setIfInBounds_toArray, List.set_cons_zero, List.set_cons_succ]
  refine rgnTake 7 rfl (by kernel_rfl) (by kernel_rfl) (by kernel_rfl) (fun _ _ _ h => h) (by rfl) (v := ?v8) ?hy8 hHeld ?rest8
  case hy8 => (intro v hSw; obtain ⟨y0, y1, y2, y3, y4, y5, y6⟩ := hSw; first | (go_simp; done) | (go_simp; with_reducible rfl))
  try simp only [Act.put, List.setIfInBounds_toArray, List.set_cons_zero, List.set_cons_succ]
  refine rgnTake 8 rfl (by kernel_rfl) (by kernel_rfl) (by kernel_rfl) (fun _ _ _ h => h) (by rfl) (v := ?v9) ?hy9 hHeld ?rest9
  case hy9 => (intro v hSw; obtain ⟨y0, y1, y2, y3, y4, y5, y6⟩ := hSw; first | (go_simp; done) | (go_simp; with_reducible rfl))
  try simp only [Act.put, List.setIfInBounds_toArray, List.set_cons_zero, List.set_cons_succ]
  refine wpAnyH_done (by kernel_rfl) ?_ _
  go_wp2_with fail
  refine wp_region_held_drew (S := (fun w' => w'.cell? ⟨T, 0, none⟩ = some (.slice (some ⟨g, 0, none⟩) N c) ∧ w'.cell? ⟨g, q, none⟩ = some (.slice (some ⟨b, o, none⟩) Z cp) ∧ w'.cell? ⟨g, p0, none⟩ = some (.slice A0 Z0 c0) ∧ w'.cell? ⟨b, o + a * 2 + 1, none⟩ = some (.int .i64 p0) ∧ w'.cell? ⟨b, o + a * 2, none⟩ = some (.string ((s.nd q).key a)) ∧ w'.cell? ⟨q3, 0, none⟩ = some (.int .i64 q) ∧ w'.cell? ⟨q3, 1, none⟩ = some (.int .i64 a))) (by kernel_rfl) (D.out) (fun hHeld => ?_)
  by_cases z2 : 2 ≤ Z0
  · have z2' : (2 : Int) ≤ (Z0 : Int) := by omega
    have UP := Lib.hid (show s.fill (q, a) = s.tell (q, a) p0 by unfold Tab.fill; rw [HKA.out]; exact if_pos (by rw [← HZ0.out]; exact z2))
    refine rgnTake 0 rfl (by kernel_rfl) (by kernel_rfl) (by kernel_rfl) (fun _ _ _ h => h) (by rfl) (v := ?v10) ?hy10 hHeld ?rest10
    case hy10 => (intro v hSw; obtain ⟨y0, y1, y2, y3, y4, y5, y6⟩ := hSw; first | (go_simp; done) | (go_simp; with_reducible rfl))
    try simp only [Act.put, List.setIfInBounds_toArray, List.set_cons_zero, List.set_cons_succ]
    refine rgnTake 1 rfl (by kernel_rfl) (by kernel_rfl) (by kernel_rfl) (fun _ _ _ h => h) (by rfl) (v := ?v11) ?hy11 hHeld ?rest11
    case hy11 => (intro v hSw; obtain ⟨y0, y1, y2, y3, y4, y5, y6⟩ := hSw; first | (go_simp; done) | (go_simp; with_reducible rfl))
    try simp only [Act.put, List.setIfInBounds_toArray, List.set_cons_zero, List.set_cons_succ]
    refine rgnTake 2 rfl (by kernel_rfl) (by kernel_rfl) (by kernel_rfl) (fun _ _ _ h => h) (by rfl) (v := ?v12) ?hy12 hHeld ?rest12
    case hy12 => (intro v hSw; obtain ⟨y0, y1, y2, y3, y4, y5, y6⟩ := hSw; first | (go_simp; done) | (go_simp; with_reducible rfl))
    try simp only [Act.put, List.setIfInBounds_toArray, List.set_cons_zero, List.set_cons_succ]
    refine rgnTake 3 rfl (by kernel_rfl) (by kernel_rfl) (by kernel_rfl) (fun _ _ _ h => h) (by rfl) (v := ?v13) ?hy13 hHeld ?rest13
    case hy13 => (intro v hSw; obtain ⟨y0, y1, y2, y3, y4, y5, y6⟩ := hSw; first | (go_simp; done) | (go_simp; with_reducible rfl))
    try simp only [Act.put, List.setIfInBounds_toArray, List.set_cons_zero, List.set_cons_succ]
    refine rgnTake 4 rfl (by kernel_rfl) (by kernel_rfl) (by kernel_rfl) (fun _ _ _ h => h) (by rfl) (v := ?v14) ?hy14 hHeld ?rest14
    case hy14 => (intro v hSw; obtain ⟨y0, y1, y2, y3, y4, y5, y6⟩ := hSw; first | (go_simp; done) | (go_simp; with_reducible rfl))
    try simp only [Act.put, List.setIfInBounds_toArray, List.set_cons_zero, List.set_cons_succ]
    refine rgnTake 5 rfl (by kernel_rfl) (by kernel_rfl) (by kernel_rfl) (fun _ _ _ h => h) (by rfl) (v := ?v15) ?hy15 hHeld ?rest15
    case hy15 => (intro v hSw; obtain ⟨y0, y1, y2, y3, y4, y5, y6⟩ := hSw; first | (go_simp; done) | (go_simp; with_reducible rfl))
    try simp only [Act.put, List.setIfInBounds_toArray, List.set_cons_zero, List.set_cons_succ]
    refine rgnTake 6 rfl (by kernel_rfl) (by kernel_rfl) (by kernel_rfl) (fun _ _ _ h => h) (by rfl) (v := ?v16) ?hy16 hHeld ?rest16
    case hy16 => (intro v hSw; obtain ⟨y0, y1, y2, y3, y4, y5, y6⟩ := hSw; first | (go_simp; done) | (go_simp; with_reducible rfl))
    try simp only [Act.put, List.setIfInBounds_toArray, List.set_cons_zero, List.set_cons_succ]
    refine rgnTake 7 rfl (by kernel_rfl) (by kernel_rfl) (by kernel_rfl) (fun _ _ _ h => h) (by rfl) (v := ?v17) ?hy17 hHeld ?rest17
    case hy17 => (intro v hSw; obtain ⟨y0, y1, y2, y3, y4, y5, y6⟩ := hSw; first | (go_simp; done) | (go_simp; with_reducible rfl))
    try simp only [Act.put, List.setIfInBounds_toArray, List.set_cons_zero, List.set_cons_succ]
    refine rgnTake 8 rfl (by kernel_rfl) (by kernel_rfl) (by kernel_rfl) (fun _ _ _ h => h) (by rfl) (v := ?v18) ?hy18 hHeld ?rest18
    case hy18 => (intro v hSw; obtain ⟨y0, y1, y2, y3, y4, y5, y6⟩ := hSw; first | (go_simp; done) | (go_simp; with_reducible rfl))
    try simp only [Act.put, List.setIfInBounds_toArray, List.set_cons_zero, List.set_cons_succ]
    refine rgnTake 9 rfl (by kernel_rfl) (by kernel_rfl) (by kernel_rfl) (fun _ _ _ h => h) (by rfl) (v := ?v19) ?hy19 hHeld ?rest19
    case hy19 => (intro v hSw; obtain ⟨y0, y1, y2, y3, y4, y5, y6⟩ := hSw; first | (go_simp; done) | (go_simp; with_reducible rfl))
    try simp only [Act.put, List.setIfInBounds_toArray, List.set_cons_zero, List.set_cons_succ]
    refine rgnTake 10 rfl (by kernel_rfl) (by kernel_rfl) (by kernel_rfl) (fun _ _ _ h => h) (by rfl) (v := ?v20) ?hy20 hHeld ?rest20
    case hy20 => (intro v hSw; obtain ⟨y0, y1, y2, y3, y4, y5, y6⟩ := hSw; first | (go_simp; done) | (go_simp; with_reducible rfl))
    try simp only [Act.put, List.setIfInBounds_toArray, List.set_cons_zero, List.set_cons_succ]
    refine rgnTake 11 rfl (by kernel_rfl) (by kernel_rfl) (by kernel_rfl) (fun _ _ _ h => h) (by rfl) (v := ?v21) ?hy21 hHeld ?rest21
    case hy21 => (intro v hSw; obtain ⟨y0, y1, y2, y3, y4, y5, y6⟩ := hSw; first | (go_simp; done) | (go_simp; with_reducible rfl))
    try simp only [Act.put, List.setIfInBounds_toArray, List.set_cons_zero, List.set_cons_succ]
    refine rgnTake 12 rfl (by kernel_rfl) (by kernel_rfl) (by kernel_rfl) (fun _ _ _ h => h) (by rfl) (v := ?v22) ?hy22 hHeld ?rest22
    case hy22 => (intro v hSw; obtain ⟨y0, y1, y2, y3, y4, y5, y6⟩ := hSw; first | (go_simp; done) | (go_simp; with_reducible rfl))
    try simp only [Act.put, List.setIfInBounds_toArray, List.set_cons_zero, List.set_cons_succ]
    refine rgnTake 13 rfl (by kernel_rfl) (by kernel_rfl) (by kernel_rfl) (fun _ _ _ h => h) (by rfl) (v := ?v23) ?hy23 hHeld ?rest23
    case hy23 => (intro v hSw; obtain ⟨y0, y1, y2, y3, y4, y5, y6⟩ := hSw; first | (go_simp; done) | (go_simp; with_reducible rfl))
    try simp only [Act.put, List.setIfInBounds_toArray, List.set_cons_zero, List.set_cons_succ]
    refine wpAnyH_done (by kernel_rfl) ?_ _
    go_wp2_with fail
    obtain ⟨K, hK⟩ : ∃ K, K = (s.nd p0).key 0 := ⟨_, rfl⟩
    obtain ⟨w2, hw2⟩ : ∃ w2, w2 = w1.drew.drew.drew := ⟨_, rfl⟩
    have V2 := V1.out.below (w' := w2) (by rw [hw2]; exact (Below.refl _ _).drew.drew.drew)
    have LE := Lib.hid (xLeast w2 T E s _ _ _ p0 V2 (by rw [V2.len]; exact P0L.out.1) P0L.out.2.2)
    rw [← hK] at LE
    have iq : q < vs.length := by rw [← HN.out]; exact iqN
    have ia : a < (s.nd q).length := HF.out.ia
    have V3 := Lib.hid (V2.item (j := 0) (u := .string K) (K, (s.nd q).num a) iq EV.out ia (by decide) (by rw [KV.getE _ _ ia]; rfl))
    rw [Nat.add_zero, hK] at V3
    have F3 := Lib.hid (show ∀ w3, w3 = w2.setCell ⟨b, o + a * 2, none⟩ (.string K) → LeftP w T E (s.fill (q, a)) w3 from fun w3 h3 => by
      rw [UP.out, h3]
      refine ⟨E, ⟨_, _, _, by rw [hK]; exact V3.out⟩, fun _ e => .inl e, ?_⟩
      rw [hw2]
      exact Chg.setCell (Chg.of_below BB1.out).drew.drew.drew (.inl HWE.out.1) _)
    have fz : w1.frozen? ⟨b, o + a * 2, none⟩ = false := by
      obtain ⟨b', o', c', e, k⟩ := V1.out.win iq (by omega)
      rw [EV.out] at e
      injection e with e1 _ e3
      injection e1 with e1
      injection e1 with e1 e4 _
      subst e1
      exact k.plain.frozen _
    have bq : b ≠ q3 := L3.out b HWE.out.1
    have KS := Lib.hid (show ∀ u, (w1.setCell ⟨b, o + a * 2, none⟩ u).cell? ⟨b, o + a * 2 + 1, none⟩ = some (.int .i64 p0) ∧ (w1.setCell ⟨b, o + a * 2, none⟩ u).cell? ⟨q3, 1, none⟩ = some (.int .i64 a) from fun u => by
      refine ⟨?_, (World.cell?_of_block (a := ⟨q3, 1, none⟩) (Below.heap_setCell _ _ _ _ (Ne.symm bq))).trans d6⟩
      rw [World.cell?_setCell_other (h := fun e => by injection e with _ e _; omega)]
      exact d3)
    have HW2 := Lib.hid hw2
    clear V2 hw2 hK hHeld
    refine wp_region_held_drew (S := (fun w' => w'.cell? ⟨b, o + a * 2 + 1, none⟩ = some (.int .i64 p0) ∧ w'.cell? ⟨q3, 1, none⟩ = some (.int .i64 a))) (by kernel_rfl) (⟨d3, d6⟩) (fun hHeld => ?_)
    refine rgnTake 0 rfl (by kernel_rfl) (by kernel_rfl) (by kernel_rfl) (fun _ _ _ h => h) (by rfl) (v := ?v24) ?hy24 hHeld ?rest24
    case hy24 => (intro v hSw; obtain ⟨y0, y1⟩ := hSw; first | (go_simp; done) | (go_simp; with_reducible rfl))
    try simp only [Act.put, List.setIfInBounds_toArray, List.set_cons_zero, List.set_cons_succ]
    refine rgnTake 1 rfl (by kernel_rfl) (by kernel_rfl) (by kernel_rfl) (fun _ _ _ h => h) (by rfl) (v := ?v25) ?hy25 hHeld ?rest25
    case hy25 => (intro v hSw; obtain ⟨y0, y1⟩ := hSw; first | (go_simp; done) | (go_simp; with_reducible rfl))
    try simp only [Act.put, List.setIfInBounds_toArray, List.set_cons_zero, List.set_cons_succ]
    refine rgnTake 2 rfl (by kernel_rfl) (by kernel_rfl) (by kernel_rfl) (fun _ _ _ h => h) (by rfl) (v := ?v26) ?hy26 hHeld ?rest26
    case hy26 => (intro v hSw; obtain ⟨y0, y1⟩ := hSw; first | (go_simp; done) | (go_simp; with_reducible rfl))
    try simp only [Act.put, List.setIfInBounds_toArray, List.set_cons_zero, List.set_cons_succ]
    refine rgnTake 3 rfl (by kernel_rfl) (by kernel_rfl) (by kernel_rfl) (fun _ _ _ h => h) (by rfl) (v := ?v27) ?hy27 hHeld ?rest27
    case hy27 => (intro v hSw; obtain ⟨y0, y1⟩ := hSw; first | (go_simp; done) | (go_simp; with_reducible rfl))
    try simp only [Act.put, List.setIfInBounds_toArray, List.set_cons_zero, List.set_cons_succ]
    refine rgnTake 4 rfl (by kernel_rfl) (by kernel_rfl) (by kernel_rfl) (fun _ _ _ h => h) (by rfl) (v := ?v28) ?hy28 hHeld ?rest28
    case hy28 => (intro v hSw; obtain ⟨y0, y1⟩ := hSw; first | (go_simp; done) | (go_simp; with_reducible rfl))
    try simp only [Act.put, List.setIfInBounds_toArray, List.set_cons_zero, List.set_cons_succ]
    refine rgnTake 5 rfl (by kernel_rfl) (by kernel_rfl) (by kernel_rfl) (fun _ _ _ h => h) (by rfl) (v := ?v29) ?hy29 hHeld ?rest29
    case hy29 => (intro v hSw; obtain ⟨y0, y1⟩ := hSw; first | (go_simp; done) | (go_simp; with_reducible rfl))
    try simp only [Act.put, List.setIfInBounds_toArray, List.set_cons_zero, List.set_cons_succ]
    refine rgnTake 6 rfl (by kernel_rfl) (by kernel_rfl) (by kernel_rfl) (fun _ _ _ h => h) (by rfl) (v := ?v30) ?hy30 hHeld ?rest30
    case hy30 => (intro v hSw; obtain ⟨y0, y1⟩ := hSw; first | (go_simp; done) | (go_simp; with_reducible rfl))
    try simp only [Act.put, List.setIfInBounds_toArray, List.set_cons_zero, List.set_cons_succ]
    refine rgnTake 7 rfl (by kernel_rfl) (by kernel_rfl) (by kernel_rfl) (fun _ _ _ h => h) (by rfl) (v := ?v31) ?hy31 hHeld ?rest31
    case hy31 => (intro v hSw; obtain ⟨y0, y1⟩ := hSw; first | (go_simp; done) | (go_simp; with_reducible rfl))
    try simp only [Act.put, List.setIfInBounds_toArray, List.set_cons_zero, List.set_cons_succ]
    refine rgnTake 8 rfl (by kernel_rfl) (by kernel_rfl) (by kernel_rfl) (fun _ _ _ h => h) (by rfl) (v := ?v32) ?hy32 hHeld ?rest32
    case hy32 => (intro v hSw; obtain ⟨y0, y1⟩ := hSw; first | (go_simp; done) | (go_simp; with_reducible rfl))
    try simp only [Act.put, List.setIfInBounds_toArray, List.set_cons_zero, List.set_cons_succ]
    refine rgnTake 9 rfl (by kernel_rfl) (by kernel_rfl) (by kernel_rfl) (fun _ _ _ h => h) (by rfl) (v := ?v33) ?hy33 hHeld ?rest33
    case hy33 => (intro v hSw; obtain ⟨y0, y1⟩ := hSw; first | (go_simp; done) | (go_simp; with_reducible rfl))
    try simp only [Act.put, List.setIfInBounds_toArray, List.set_cons_zero, List.set_cons_succ]
    rw [← HW2.out] at hHeld ⊢
    refine rgnOne 10 rfl (by kernel_rfl) (fun K hK => ?_)
    go_simp
    refine LE.out.mono ?_
    rintro r w2' ⟨rfl, h2⟩
    subst h2
    rw [HW2.out] at hHeld ⊢
    refine hK.out _ _ (hHeld) (fun hHeld => ?_)
    clear hK K
    try simp only [Act.put, List.setIfInBounds_toArray, List.set_cons_zero, List.set_cons_succ]
    refine rgnTake 11 rfl (by kernel_rfl) (by kernel_rfl) (by kernel_rfl) (fun _ _ _ h => h) (by rfl) (v := ?v34) ?hy34 hHeld ?rest34
    case hy34 => (intro v hSw; obtain ⟨y0, y1⟩ := hSw; first | (go_simp; done) | (go_simp; with_reducible rfl))
    try simp only [Act.put, List.setIfInBounds_toArray, List.set_cons_zero, List.set_cons_succ]
    refine rgnTake 12 rfl (by kernel_rfl) (by kernel_rfl) (by kernel_rfl) (fun _ _ _ h => h) (by rfl) (v := ?v35) ?hy35 hHeld ?rest35
    case hy35 => (intro v hSw; obtain ⟨y0, y1⟩ := hSw; first | (go_simp; done) | (go_simp; with_reducible rfl))
    try simp only [Act.put, List.setIfInBounds_toArray, List.set_cons_zero, List.set_cons_succ]
    refine rgnOne 13 rfl (by kernel_rfl) (fun K hK => ?_)
    go_simp
    refine hK.out _ _ ((KS.out _)) (fun hHeld => ?_)
    clear hK K
    try simp only [Act.put, List.setIfInBounds_toArray, List.set_cons_zero, List.set_cons_succ]
    refine wpAnyH_done (by kernel_rfl) ?_ _
    go_wp2_with fail
    exact bodyPost_ret (results_none rfl _ _ _) rfl ⟨rfl, F3.out _ (by rw [HW2.out]; rfl)⟩
  · have z2' : decide ((2 : Int) ≤ (Z0 : Int)) = false := decide_eq_false (by omega)
    refine rgnTake 0 rfl (by kernel_rfl) (by kernel_rfl) (by kernel_rfl) (fun _ _ _ h => h) (by rfl) (v := ?v36) ?hy36 hHeld ?rest36
    case hy36 => (intro v hSw; obtain ⟨y0, y1⟩ := hSw; first | (go_simp; done) | (go_simp; with_reducible rfl))
    try simp only [Act.put, List.setIfInBounds_toArray, List.set_cons_zero, List.set_cons_succ]
    refine rgnTake 1 rfl (by kernel_rfl) (by kernel_rfl) (by kernel_rfl) (fun _ _ _ h => h) (by rfl) (v := ?v37) ?hy37 hHeld ?rest37
    case hy37 => (intro v hSw; obtain ⟨y0, y1⟩ := hSw; first | (go_simp; done) | (go_simp; with_reducible rfl))
    try simp only [Act.put, List.setIfInBounds_toArray, List.set_cons_zero, List.set_cons_succ]
    refine rgnTake 2 rfl (by kernel_rfl) (by kernel_rfl) (by kernel_rfl) (fun _ _ _ h => h) (by rfl) (v := ?v38) ?hy38 hHeld ?rest38
    case hy38 => (intro v hSw; obtain ⟨y0, y1⟩ := hSw; first | (go_simp; done) | (go_simp; with_reducible rfl))
    try simp only [Act.put, List.setIfInBounds_toArray, List.set_cons_zero, List.set_cons_succ]
    refine rgnTake 3 rfl (by kernel_rfl) (by kernel_rfl) (by kernel_rfl) (fun _ _ _ h => h) (by rfl) (v := ?v39) ?hy39 hHeld ?rest39
    case hy39 => (intro v hSw; obtain ⟨y0, y1⟩ := hSw; first | (go_simp; done) | (go_simp; with_reducible rfl))
    try simp only [Act.put, List.setIfInBounds_toArray, List.set_cons_zero, List.set_cons_succ]
    refine rgnTake 4 rfl (by kernel_rfl) (by kernel_rfl) (by kernel_rfl) (fun _ _ _ h => h) (by rfl) (v := ?v40) ?hy40 hHeld ?rest40
    case hy40 => (intro v hSw; obtain ⟨y0, y1⟩ := hSw; first | (go_simp; done) | (go_simp; with_reducible rfl))
    try simp only [Act.put, List.setIfInBounds_toArray, List.set_cons_zero, List.set_cons_succ]
    refine rgnTake 5 rfl (by kernel_rfl) (by kernel_rfl) (by kernel_rfl) (fun _ _ _ h => h) (by rfl) (v := ?v41) ?hy41 hHeld ?rest41
    case hy41 => (intro v hSw; obtain ⟨y0, y1⟩ := hSw; first | (go_simp; done) | (go_simp; with_reducible rfl))
    try simp only [Act.put, List.setIfInBounds_toArray, List.set_cons_zero, List.set_cons_succ]
    refine rgnTake 6 rfl (by kernel_rfl) (by kernel_rfl) (by kernel_rfl) (fun _ _ _ h => h) (by rfl) (v := ?v42) ?hy42 hHeld ?rest42
    case hy42 => (intro v hSw; obtain ⟨y0, y1⟩ := hSw; first | (go_simp; done) | (go_simp; with_reducible rfl))
    try simp only [Act.put, List.setIfInBounds_toArray, List.set_cons_zero, List.set_cons_succ]
    refine rgnTake 7 rfl (by kernel_rfl) (by kernel_rfl) (by kernel_rfl) (fun _ _ _ h => h) (by rfl) (v := ?v43) ?hy43 hHeld ?rest43
    case hy43 => (intro v hSw; obtain ⟨y0, y1⟩ := hSw; first | (go_simp; done) | (go_simp; with_reducible rfl))
    try simp only [Act.put, List.setIfInBounds_toArray, List.set_cons_zero, List.set_cons_succ]
    refine rgnTake 8 rfl (by kernel_rfl) (by kernel_rfl) (by kernel_rfl) (fun _ _ _ h => h) (by rfl) (v := ?v44) ?hy44 hHeld ?rest44
    case hy44 => (intro v hSw; obtain ⟨y0, y1⟩ := hSw; first | (go_simp; done) | (go_simp; with_reducible rfl))
    try simp only [Act.put, List.setIfInBounds_toArray, List.set_cons_zero, List.set_cons_succ]
    refine rgnTake 9 rfl (by kernel_rfl) (by kernel_rfl) (by kernel_rfl) (fun _ _ _ h => h) (by rfl) (v := ?v45) ?hy45 hHeld ?rest45
    case hy45 => (intro v hSw; obtain ⟨y0, y1⟩ := hSw; first | (go_simp; done) | (go_simp; with_reducible rfl))
    try simp only [Act.put, List.setIfInBounds_toArray, List.set_cons_zero, List.set_cons_succ]
    refine rgnTake 10 rfl (by kernel_rfl) (by kernel_rfl) (by kernel_rfl) (fun _ _ _ h => h) (by rfl) (v := ?v46) ?hy46 hHeld ?rest46
    case hy46 => (intro v hSw; obtain ⟨y0, y1⟩ := hSw; first | (go_simp; done) | (go_simp; with_reducible rfl))
    try simp only [Act.put, List.setIfInBounds_toArray, List.set_cons_zero, List.set_cons_succ]
    refine rgnTake 11 rfl (by kernel_rfl) (by kernel_rfl) (by kernel_rfl) (fun _ _ _ h => h) (by rfl) (v := ?v47) ?hy47 hHeld ?rest47
    case hy47 => (intro v hSw; obtain ⟨y0, y1⟩ := hSw; first | (go_simp; done) | (go_simp; with_reducible rfl))
    try simp only [Act.put, List.setIfInBounds_toArray, List.set_cons_zero, List.set_cons_succ]
    refine rgnTake 12 rfl (by kernel_rfl) (by kernel_rfl) (by kernel_rfl) (fun _ _ _ h => h) (by rfl) (v := ?v48) ?hy48 hHeld ?rest48
    case hy48 => (intro v hSw; obtain ⟨y0, y1⟩ := hSw; first | (go_simp; done) | (go_simp; with_reducible rfl))
    try simp only [Act.put, List.setIfInBounds_toArray, List.set_cons_zero, List.set_cons_succ]
    refine rgnTake 13 rfl (by kernel_rfl) (by kernel_rfl) (by kernel_rfl) (fun _ _ _ h => h) (by rfl) (v := ?v49) ?hy49 hHeld ?rest49
    case hy49 => (intro v hSw; obtain ⟨y0, y1⟩ := hSw; first | (go_simp; done) | (go_simp; with_reducible rfl))
    try simp only [Act.put, List.setIfInBounds_toArray, List.set_cons_zero, List.set_cons_succ]
    refine wpAnyH_done (by kernel_rfl) ?_ _
    obtain ⟨f, hf⟩ : ∃ f, f = a - 1 := ⟨_, rfl⟩
    obtain ⟨w2, hw2⟩ : ∃ w2, w2 = w1.drew.drew := ⟨_, rfl⟩
    have V2 := V1.out.below (w' := w2) (by rw [hw2]; exact (Below.refl _ _).drew.drew)
    have C2 := Lib.hid (show Chg E w w2 by rw [hw2]; exact (Chg.of_below BB1.out).drew.drew)
    have R2 := Lib.hid (show RowAt w2 q3 [.int .i64 q, .int .i64 a] 150 by rw [hw2]; exact R1.out)
    have S2 := Lib.hid (show w2.heap.size = q3 + 1 by rw [hw2]; exact S1.out)
    have fl : f < Z ∧ f + 1 < Z := by have e := HF.out.two; have e : 2 ≤ (s.nd q).length := e; rw [← HZ.out] at e; omega
    have UP : s.fill (q, a) = (s.join q f (s.kid q f) (s.kid q (f + 1))).fix (q, f) (s.kid q f) := by
      unfold Tab.fill; rw [HKA.out, hf]; exact if_neg (by rw [← HZ0.out]; exact z2)
    obtain ⟨P, hP⟩ : ∃ P, P = s.kid q f := ⟨_, rfl⟩
    obtain ⟨O, hO⟩ : ∃ O, O = s.kid q (f + 1) := ⟨_, rfl⟩
    have PR : Pair s q f P O := by rw [hP, hO, hf]; exact HF.out.pair
    rw [← hP, ← hO] at UP
    obtain ⟨P', eP, _, _, nP, mP⟩ := HF.out.kid f (by rw [← HZ.out]; exact fl.1)
    obtain ⟨O', eO, _, _, nO, mO⟩ := HF.out.kid (f + 1) (by rw [← HZ.out]; exact fl.2)
    have eP' : P' = P := by rw [hP]; unfold Tab.kid; rw [show (s.nd q).num f = (P' : Int) from eP]; rfl
    have eO' : O' = O := by rw [hO]; unfold Tab.kid; rw [show (s.nd q).num (f + 1) = (O' : Int) from eO]; rfl
    subst eP'
    subst eO'
    have Pl : P' < vs.length := by rw [V2.len]; exact PR.ip
    have Ol : O' < vs.length := by rw [V2.len]; exact PR.io
    have ql : q < vs.length := by rw [V2.len]; exact PR.iq
    obtain ⟨bP, oP, cP, evP, _⟩ := V2.win Pl nP
    obtain ⟨bO, oO, cO, evO, _⟩ := V2.win Ol nO
    have kb : ∀ v i, w.cell? ⟨b, i, none⟩ = some v → w2.cell? ⟨b, i, none⟩ = some v := fun v i hv => by
      have e : w2.heap[b]? = w.heap[b]? := by rw [hw2]; exact BB1.out.block b (H.out.lt b HWE.out.1)
      exact (World.cell?_of_block (a := ⟨b, i, none⟩) e).trans hv
    have m0 : w2.cell? ⟨b, o + f * 2 + 1, none⟩ = some (.int .i64 P') := by
      have := (WW.out.cells f (by rw [← HZ.out]; exact fl.1)).2
      rw [show (s.nd q).num f = (P' : Int) from eP] at this
      exact kb _ _ this
    have m1 : w2.cell? ⟨b, o + (f + 1) * 2 + 1, none⟩ = some (.int .i64 O') := by
      have := (WW.out.cells (f + 1) (by rw [← HZ.out]; exact fl.2)).2
      rw [show (s.nd q).num (f + 1) = (O' : Int) from eO] at this
      exact kb _ _ this
    -- the append's world
    obtain ⟨w3, hw3⟩ : ∃ w3, w3 = w2.drew.drew := ⟨_, rfl⟩
    have V3 := V2.below (w' := w3) (by rw [hw3]; exact (Below.refl _ _).drew.drew)
    have WP : WinAt w3 bP oP cP (s.nd P') := by
      obtain ⟨b', o', c', e, k⟩ := V3.win Pl nP
      rw [evP] at e
      injection e with e1 _ e3
      injection e1 with e1
      injection e1 with e1 e4 _
      subst e1; subst e4; subst e3; exact k
    have WO : WinAt w3 bO oO cO (s.nd O') := by
      obtain ⟨b', o', c', e, k⟩ := V3.win Ol nO
      rw [evO] at e
      injection e with e1 _ e3
      injection e1 with e1
      injection e1 with e1 e4 _
      subst e1; subst e4; subst e3; exact k
    obtain ⟨v', w4, hrun, hmv, _⟩ := run_app w3 148 148 148 Try.underlying148 Try.underlying148 bP oP cP (s.nd P') (s.nd O') WP bO oO cO WO.row (by omega)
    rw [← evP] at hmv
    have n3 : TabV w3 T E s rv fv vs := V3
    obtain ⟨hm1, hm2, hm3, _⟩ := hmv
    obtain ⟨A', c', rfl, _⟩ := hm1.form
    have s3 : w3.heap.size = q3 + 1 := by rw [hw3]; exact S2.out
    have V5 : TabV (w4.setCell ⟨g, P', none⟩ _) T (fun k => k < w4.heap.size ∧ (E k ∨ w3.heap.size ≤ k)) (s.put P' (s.nd P' ++ s.nd O')) rv fv (vs.set P' _) := V3.moved Pl HRV.out hm1 hm2 hm3 (fun k e => ⟨by have := V3.lt k e; have := hm2.size; omega, .inl e⟩) (fun k e f => ⟨f, .inr e⟩) (fun k e => e.1)
    obtain ⟨w5, hw5⟩ : ∃ w5, w5 = w4.setCell ⟨g, P', none⟩ (.slice A' (s.nd P' ++ s.nd O').length c') := ⟨_, rfl⟩
    rw [← hw5] at V5
    have gE : E g := (V3.eN g (by rw [HRV.out]; rfl)).1
    have C5 : Chg E w w5 := by
      rw [hw5]
      refine Chg.setCell (Chg.then (a := w) (b := w3) ?_ (hm2.chg fun k j e => (V3.eW P' k j Pl e).1)) (.inl gE) _
      rw [hw3]; exact C2.out.drew.drew
    obtain ⟨E5, hE5⟩ : ∃ E5 : Nat → Prop, E5 = fun k => k < w4.heap.size ∧ (E k ∨ w3.heap.size ≤ k) := ⟨_, rfl⟩
    rw [← hE5] at V5
    have A5 : ∀ k, E5 k → E k ∨ q3 + 1 ≤ k := fun k e => by rw [hE5] at e; rw [← s3]; exact e.2
    -- the cells that the append's region loads, whatever has run
    have fw : w4.frozen? ⟨g, P', none⟩ = false ∧ w4.cell? ⟨g, P', none⟩ = some (tnv vs P') ∧ w4.cell? ⟨g, O', none⟩ = some (tnv vs O') ∧ w4.cell? ⟨T, 0, none⟩ = some rv := by
      have kp : ∀ k, k < w3.heap.size → (∀ j, ¬ InWin (tnv vs P') k j) → w4.heap[k]? = w3.heap[k]? := hm2.block
      have ng : ∀ j, ¬ InWin (tnv vs P') g j := fun j e => (V3.eW P' g j Pl e).2.2.1 (by rw [HRV.out]; rfl)
      have nT : ∀ j, ¬ InWin (tnv vs P') T j := fun j e => (V3.eW P' T j Pl e).2.1 rfl
      have eg := kp g (V3.lt g gE) ng
      have eT := kp T (V3.lt T V3.eT) nT
      obtain ⟨k1, k2⟩ := V3.eq_win HRV.out Pl
      exact ⟨(World.frozen?_of_block (a := ⟨g, P', none⟩) eg).trans k2, (World.cell?_of_block (a := ⟨g, P', none⟩) eg).trans k1, (World.cell?_of_block (a := ⟨g, O', none⟩) eg).trans (V3.eq_win HRV.out Ol).1, (World.cell?_of_block (a := ⟨T, 0, none⟩) eT).trans (V3.row.cell 0)⟩
    have C5q3 : w5.cell? ⟨q3, 0, none⟩ = some (.int .i64 q) := by
      have e3 : w3.heap[q3]? = w2.heap[q3]? := by rw [hw3]; rfl
      have nw : ∀ j, ¬ InWin (tnv vs P') q3 j := fun j e => L3.out q3 (V3.eW P' q3 j Pl e).1 rfl
      have e4 := hm2.block q3 (by omega) nw
      have gq : g ≠ q3 := L3.out g gE
      rw [hw5]
      refine (World.cell?_of_block (a := ⟨q3, 0, none⟩) ((Below.heap_setCell _ _ _ _ (Ne.symm gq)).trans (e4.trans e3))).trans ?_
      exact R2.out.cell 0
    have nO1 : (s.put P' (s.nd P' ++ s.nd O')).nd O' = s.nd O' := by rw [PR.nd1, if_neg (Ne.symm PR.po)]
    have RL := Lib.hid (xReleaseV w5 T E5 (s.put P' (s.nd P' ++ s.nd O')) rv fv _ O' V5 (by rw [PR.len1]; exact PR.io) (by rw [nO1]; exact nO) (by have := HF.out.lf; show s.free.length ≤ _; omega))
    have VS6 : ∀ u, tnv ((vs.set P' u).set O' nilv) q = .slice (some ⟨b, o, none⟩) (s.nd q).length cp := fun u => by
      rw [nv_set (by rw [List.length_set]; exact Ol), if_neg (Ne.symm PR.oq), nv_set Pl, if_neg (Ne.symm PR.pq)]
      exact EV.out
    obtain ⟨K, hK⟩ : ∃ K, K = ((s.melt P' O').nd P').key 0 := ⟨_, rfl⟩
    have lm : 0 < ((s.melt P' O').nd P').length := by rw [PR.nd2p, List.length_append]; omega
    have AF := Lib.hid (show ∀ w6 E6 fv6, TabV w6 T E6 (s.melt P' O') rv fv6 ((vs.set P' (.slice A' (s.nd P' ++ s.nd O').length c')).set O' nilv) → (∀ k, E6 k → E5 k ∨ w5.heap.size ≤ k) → Chg E5 w5 w6 →
        (∃ u, w6.cell? ⟨b, o + f * 2, none⟩ = some u) ∧ w6.frozen? ⟨b, o + f * 2, none⟩ = false ∧ Calls Try.prog 93 #[Ptr T, .int .i64 P'] w6 (fun x w' => x = .returned (.string K) ∧ w' = w6) ∧ (w6.setCell ⟨b, o + f * 2, none⟩ (.string K)).cell? ⟨q3, 0, none⟩ = some (.int .i64 q) ∧
        ∀ w8, w8 = (w6.setCell ⟨b, o + f * 2, none⟩ (.string K)).alloc (.cells #[.int .i64 q, .int .i64 ((f : Int) + 1)] 150) → Calls Try.prog 86 #[Ptr T, .agg #[.int .i64 q, .int .i64 ((f : Int) + 1)]] w8 (fun r w9 => r = .returned (.tuple #[]) ∧ LeftP w8 T E6 (s.join q f P' O') w9) ∧ Chg E6 w6 w8 ∧ (∀ k, E6 k → k < w6.heap.size) ∧ RowAt w8 w6.heap.size [.int .i64 q, .int .i64 ((f : Int) + 1)] 150 ∧ w8.heap.size = w6.heap.size + 1 from fun w6 E6 fv6 V6 A6 C6 => by
      have l6 : P' < ((vs.set P' (.slice A' (s.nd P' ++ s.nd O').length c')).set O' nilv).length := by rw [List.length_set, List.length_set]; exact Pl
      have q6 : q < ((vs.set P' (.slice A' (s.nd P' ++ s.nd O').length c')).set O' nilv).length := by rw [List.length_set, List.length_set]; exact ql
      have ev6 := VS6 (.slice A' (s.nd P' ++ s.nd O').length c')
      have nq6 : (s.melt P' O').nd q = s.nd q := PR.nd2q
      rw [← nq6] at ev6
      have f6 : f < ((s.melt P' O').nd q).length := by rw [nq6, ← HZ.out]; exact fl.1
      have W6 : WinAt w6 b o cp ((s.melt P' O').nd q) := by
        obtain ⟨b', o', c', e, k⟩ := V6.win q6 (by omega)
        rw [ev6] at e
        injection e with e1 _ e3
        injection e1 with e1
        injection e1 with e1 e4 _
        subst e1; subst e4; subst e3; exact k
      have b6 := V6.eW q b o q6 (by rw [ev6]; exact ⟨o, _, cp, rfl, Nat.le_refl _, by have := W6.pos; omega⟩)
      have q3n : ¬ E5 q3 := fun e => by
        rcases A5 q3 e with r | r
        · exact L3.out q3 r rfl
        · omega
      have s5 : w3.heap.size ≤ w5.heap.size := by rw [hw5]; simp [World.setCell]; exact hm2.size
      have bq3 : b ≠ q3 := fun e => by rw [e] at b6; exact (A6 q3 b6.1).elim (fun r => q3n r) (fun r => by omega)
      have c3 : w6.cell? ⟨q3, 0, none⟩ = some (.int .i64 q) := C6.cell (p := ⟨q3, 0, none⟩) (C5q3) q3n
      refine ⟨⟨_, (W6.cells f f6).1⟩, W6.plain.frozen _, ?_, (World.cell?_of_block (a := ⟨q3, 0, none⟩) (Below.heap_setCell _ _ _ _ (Ne.symm bq3))).trans c3, fun w8 hw8 => ?_⟩
      · rw [hK]; exact xLeast w6 T E6 _ rv fv6 _ P' V6 l6 lm
      · have V7 := V6.item (j := 0) (u := .string K) (K, ((s.melt P' O').nd q).num f) q6 ev6 f6 (by decide) (by rw [KV.getE _ _ f6]; rfl)
        rw [Nat.add_zero, hK] at V7
        have V7' : TabV _ T E6 ((s.melt P' O').tell (q, f) P') _ _ _ := V7
        have b8 : Below (w6.setCell ⟨b, o + f * 2, none⟩ (.string K)).heap.size (w6.setCell ⟨b, o + f * 2, none⟩ (.string K)) w8 := by rw [hw8]; exact (Below.refl _ _).alloc (Nat.le_refl _) _
        have V8 := V7'.below (w' := w8) (by rw [← hK]; exact b8)
        have z6 : (w6.setCell ⟨b, o + f * 2, none⟩ (.string K)).heap.size = w6.heap.size := by simp [World.setCell]
        refine ⟨?_, Chg.then (Chg.setCell (Chg.refl E6 w6) (.inl b6.1) _) (Chg.of_below b8), V6.lt, by rw [hw8, ← z6]; exact RowAt.new _ _ _, by rw [hw8, World.size_alloc, z6]⟩
        have := xDrop w8 T E6 ((s.melt P' O').tell (q, f) P') q (f + 1) ⟨_, _, _, V8⟩ (by rw [PR.len3]; exact PR.iq) (by rw [PR.nd3, if_pos rfl, List.length_set]; exact PR.lf1) (by rw [PR.nd3, if_pos rfl, List.length_set]; have e : (s.nd q).length ≤ 1000 := HF.out.lq; omega)
        exact this)
    have A5w : ∀ k, E5 k → E k ∨ w.heap.size ≤ k := fun k e => by
      rcases A5 k e with r | r
      · exact .inl r
      · exact .inr (by have := HQ3.out; omega)
    obtain ⟨z9, hz9⟩ : ∃ z9, z9 = ((s.join q f P' O').nd P').length := ⟨_, rfl⟩
    have UPy : ∀ s', s' = s.fill (q, a) → 4 < z9 → s' = (s.join q f P' O').split (q, f) P' := fun s' e h4 => by rw [e, UP]; exact if_pos (by rw [← hz9]; exact h4)
    have UPn : ¬ 4 < z9 → s.fill (q, a) = s.join q f P' O' := fun h4 => by rw [UP]; exact if_neg (by rw [← hz9]; exact h4)
    have LV := Lib.hid (show ∀ w6 E6 w8 s' w9, (∀ k, E6 k → E5 k ∨ w5.heap.size ≤ k) → Chg E5 w5 w6 → Chg E6 w6 w8 → LeftP w8 T E6 s' w9 → LeftP w T E s' w9 from fun w6 E6 w8 s' w9 a6 c6 c68 h => LeftP.then C5 A5w (LeftP.then c6 a6 (LeftP.then c68 (fun _ e => .inl e) h)))
    have G9 := Lib.hid (show ∀ w8 E6 w9, LeftP w8 T E6 (s.join q f P' O') w9 → ∃ g9 N9 c9 A9 cz, w9.cell? ⟨T, 0, none⟩ = some (.slice (some ⟨g9, 0, none⟩) N9 c9) ∧ P' < N9 ∧ w9.cell? ⟨g9, P', none⟩ = some (.slice A9 z9 cz) from fun w8 E6 w9 ⟨E9, ⟨rv9, fv9, vs9, V9⟩, _, _⟩ => by
      have p9 : P' < vs9.length := by rw [V9.len, PR.len4]; exact PR.ip
      obtain ⟨g9, c9, e9, _, _, hc9⟩ := V9.rowAt (by omega)
      obtain ⟨A9, cz, ev9, _⟩ := (V9.node P' p9).form
      refine ⟨g9, vs9.length, c9, A9, cz, by rw [← e9]; exact V9.row.cell 0, p9, ?_⟩
      rw [hz9, ← ev9]; exact (hc9 P' p9).1)
    have q6 : ∀ k, E5 k → k ≠ q3 := fun k e t => by
      rcases A5 k e with r | r
      · exact L3.out k r t
      · omega
    have m2 := fw.1
    have m3 := fw.2.1
    have m4 := fw.2.2.1
    have m5 := fw.2.2.2
    rw [HRV.out] at m5
    rw [evP] at m3
    rw [evO] at m4
    have n0 := V2.row.cell 0
    simp only [List.getElem?_cons_zero] at n0
    rw [HRV.out] at n0
    have n1 := (V2.eq_win HRV.out Pl).1
    have n2 := (V2.eq_win HRV.out Ol).1
    rw [evP] at n1
    rw [evO] at n2
    obtain ⟨zP, hzP⟩ : ∃ zP, zP = (s.nd P').length := ⟨_, rfl⟩
    obtain ⟨zO, hzO⟩ : ∃ zO, zO = (s.nd O').length := ⟨_, rfl⟩
    obtain ⟨zA, hzA⟩ : ∃ zA, zA = (s.nd P' ++ s.nd O').length := ⟨_, rfl⟩
    rw [← hzA] at hw5
    rw [← hzP] at m3 n1 hrun
    rw [← hzO] at m4 n2 hrun
    rw [← hzA] at hrun
    rw [← HN.out] at m5 n0 Pl Ol
    have hrun' := fun ty => (show (Builtin.append_ #[148, 148] ty #[.slice (some ⟨bP, oP, none⟩) zP cP, .slice (some ⟨bO, oO, none⟩) zO cO]).run Try.prog w3 = .ok (.slice A' zA c') w4 from hrun)
    have H6 := Lib.hid (show ∀ u, (w4.setCell ⟨g, P', none⟩ u).cell? ⟨T, 0, none⟩ = some (.slice (some ⟨g, 0, none⟩) N c) ∧ (w4.setCell ⟨g, P', none⟩ u).cell? ⟨g, O', none⟩ = some (.slice (some ⟨bO, oO, none⟩) zO cO) from fun u => by
      refine ⟨(World.cell?_of_block (a := ⟨T, 0, none⟩) (Below.heap_setCell _ _ _ _ (Ne.symm gT))).trans m5, ?_⟩
      rw [World.cell?_setCell_other (h := fun e => PR.po (by injection e))]
      exact m4)
    have P3 := Lib.hid (show w3.cell? ⟨g, P', none⟩ = some (.slice (some ⟨bP, oP, none⟩) zP cP) by rw [hw3]; exact n1)
    have HW2 := Lib.hid hw2
    have HW3 := Lib.hid hw3
    have HW5 := Lib.hid hw5
    have HFA := Lib.hid hf
    have M := Lib.hid (And.intro m0 m1)
    have M6 := Lib.hid (And.intro m2 (And.intro m3 (And.intro m4 m5)))
    have N6 := Lib.hid (And.intro n0 n2)
    have HPR := Lib.hid PR
    have HUY := Lib.hid UPy
    have HUN := Lib.hid UPn
    have Q6 := Lib.hid q6
    have HZ9 := Lib.hid hz9
    have HR := Lib.hid hrun'
    have fl1 := fl.1
    have fl2 : (f : Int) + 1 < (Z : Int) := by have := fl.2; omega
    have f0 : (0 : Int) ≤ (f : Int) + 1 := by omega
    have fb : f < 100000 := by omega
    have fw1 : IntKind.i64.wrap ((f : Int) + 1) = (f : Int) + 1 := by rw [IntKind.wrap_i64]; omega
    have ft : ((f : Int) + 1).toNat = f + 1 := by omega
    clear V2 V3 WP WO n3 hm1 hm2 hm3 s3 V5 gE C5 A5 fw nO1 VS6 lm C5q3 A5w q6 kb evP evO nP nO mP mO eP eO hw2 hw3 hw5 hE5 hP hO hK hz9 UP UPy UPn PR ql m0 m1 m2 m3 m4 m5 n0 n1 n2 hHeld d0 d1 d2 d3 d4 d5 d6 hzP hzO hzA hrun hrun' hf fl D
    by_cases z4 : 4 < z9
    · have z4' : (4 : Int) < (z9 : Int) := by omega
      by_cases a1 : 1 ≤ a
      · have a2 : (0 : Int) ≤ (a : Int) - 1 := by omega
        go_wp2_with fail
        have e : (a : Int) - 1 = (f : Int) := by have := HFA.out; omega
        rw [e]
        clear e
        rw [← HW2.out]
        refine wp_region_held_drew (S := (fun w' => w'.cell? ⟨b, o + f * 2 + 1, none⟩ = some (.int .i64 P') ∧ w'.cell? ⟨b, o + (f + 1) * 2 + 1, none⟩ = some (.int .i64 O'))) (by kernel_rfl) (M.out) (fun hHeld => ?_)
        refine rgnTake 0 rfl (by kernel_rfl) (by kernel_rfl) (by kernel_rfl) (fun _ _ _ h => h) (by rfl) (v := ?v50) ?hy50 hHeld ?rest50
        case hy50 => (intro v hSw; obtain ⟨y0, y1⟩ := hSw; first | (go_simp; done) | (go_simp; with_reducible rfl))
        try simp only [Act.put, List.setIfInBounds_toArray, List.set_cons_zero, List.set_cons_succ]
        refine rgnTake 1 rfl (by kernel_rfl) (by kernel_rfl) (by kernel_rfl) (fun _ _ _ h => h) (by rfl) (v := ?v51) ?hy51 hHeld ?rest51
        case hy51 => (intro v hSw; obtain ⟨y0, y1⟩ := hSw; first | (go_simp; done) | (go_simp; with_reducible rfl))
        try simp only [Act.put, List.setIfInBounds_toArray, List.set_cons_zero, List.set_cons_succ]
        refine rgnTake 2 rfl (by kernel_rfl) (by kernel_rfl) (by kernel_rfl) (fun _ _ _ h => h) (by rfl) (v := ?v52) ?hy52 hHeld ?rest52
        case hy52 => (intro v hSw; obtain ⟨y0, y1⟩ := hSw; first | (go_simp; done) | (go_simp; with_reducible rfl))
        try simp only [Act.put, List.setIfInBounds_toArray, List.set_cons_zero, List.set_cons_succ]
        refine rgnTake 3 rfl (by kernel_rfl) (by kernel_rfl) (by kernel_rfl) (fun _ _ _ h => h) (by rfl) (v := ?v53) ?hy53 hHeld ?rest53
        case hy53 => (intro v hSw; obtain ⟨y0, y1⟩ := hSw; first | (go_simp; done) | (go_simp; with_reducible rfl))
        try simp only [Act.put, List.setIfInBounds_toArray, List.set_cons_zero, List.set_cons_succ]
        refine rgnTake 4 rfl (by kernel_rfl) (by kernel_rfl) (by kernel_rfl) (fun _ _ _ h => h) (by rfl) (v := ?v54) ?hy54 hHeld ?rest54
        case hy54 => (intro v hSw; obtain ⟨y0, y1⟩ := hSw; first | (go_simp; done) | (go_simp; with_reducible rfl))
        try simp only [Act.put, List.setIfInBounds_toArray, List.set_cons_zero, List.set_cons_succ]
        refine rgnTake 5 rfl (by kernel_rfl) (by kernel_rfl) (by kernel_rfl) (fun _ _ _ h => h) (by rfl) (v := ?v55) ?hy55 hHeld ?rest55
        case hy55 => (intro v hSw; obtain ⟨y0, y1⟩ := hSw; first | (go_simp; done) | (go_simp; with_reducible rfl))
        try simp only [Act.put, List.setIfInBounds_toArray, List.set_cons_zero, List.set_cons_succ]
        refine rgnTake 6 rfl (by kernel_rfl) (by kernel_rfl) (by kernel_rfl) (fun _ _ _ h => h) (by rfl) (v := ?v56) ?hy56 hHeld ?rest56
        case hy56 => (intro v hSw; obtain ⟨y0, y1⟩ := hSw; first | (go_simp; done) | (go_simp; with_reducible rfl))
        try simp only [Act.put, List.setIfInBounds_toArray, List.set_cons_zero, List.set_cons_succ]
        refine rgnTake 7 rfl (by kernel_rfl) (by kernel_rfl) (by kernel_rfl) (fun _ _ _ h => h) (by rfl) (v := ?v57) ?hy57 hHeld ?rest57
        case hy57 => (intro v hSw; obtain ⟨y0, y1⟩ := hSw; first | (go_simp; done) | (go_simp; with_reducible rfl))
        try simp only [Act.put, List.setIfInBounds_toArray, List.set_cons_zero, List.set_cons_succ]
        refine rgnTake 8 rfl (by kernel_rfl) (by kernel_rfl) (by kernel_rfl) (fun _ _ _ h => h) (by rfl) (v := ?v58) ?hy58 hHeld ?rest58
        case hy58 => (intro v hSw; obtain ⟨y0, y1⟩ := hSw; first | (go_simp; done) | (go_simp; with_reducible rfl))
        try simp only [Act.put, List.setIfInBounds_toArray, List.set_cons_zero, List.set_cons_succ]
        refine rgnTake 9 rfl (by kernel_rfl) (by kernel_rfl) (by kernel_rfl) (fun _ _ _ h => h) (by rfl) (v := ?v59) ?hy59 hHeld ?rest59
        case hy59 => (intro v hSw; obtain ⟨y0, y1⟩ := hSw; first | (go_simp; done) | (go_simp; with_reducible rfl))
        try simp only [Act.put, List.setIfInBounds_toArray, List.set_cons_zero, List.set_cons_succ]
        refine rgnTake 10 rfl (by kernel_rfl) (by kernel_rfl) (by kernel_rfl) (fun _ _ _ h => h) (by rfl) (v := ?v60) ?hy60 hHeld ?rest60
        case hy60 => (intro v hSw; obtain ⟨y0, y1⟩ := hSw; first | (go_simp; done) | (go_simp; with_reducible rfl))
        try simp only [Act.put, List.setIfInBounds_toArray, List.set_cons_zero, List.set_cons_succ]
        refine rgnTake 11 rfl (by kernel_rfl) (by kernel_rfl) (by kernel_rfl) (fun _ _ _ h => h) (by rfl) (v := ?v61) ?hy61 hHeld ?rest61
        case hy61 => (intro v hSw; obtain ⟨y0, y1⟩ := hSw; first | (go_simp; done) | (go_simp; with_reducible rfl))
        try simp only [Act.put, List.setIfInBounds_toArray, List.set_cons_zero, List.set_cons_succ]
        refine rgnTake 12 rfl (by kernel_rfl) (by kernel_rfl) (by kernel_rfl) (fun _ _ _ h => h) (by rfl) (v := ?v62) ?hy62 hHeld ?rest62
        case hy62 => (intro v hSw; obtain ⟨y0, y1⟩ := hSw; first | (go_simp; done) | (go_simp; with_reducible rfl))
        try simp only [Act.put, List.setIfInBounds_toArray, List.set_cons_zero, List.set_cons_succ]
        refine wpAnyH_done (by kernel_rfl) ?_ _
        clear hHeld
        go_wp2_with fail
        refine wp_region_held_drew (S := (fun w' => w'.cell? ⟨T, 0, none⟩ = some (.slice (some ⟨g, 0, none⟩) N c) ∧ w'.cell? ⟨g, O', none⟩ = some (.slice (some ⟨bO, oO, none⟩) zO cO))) (by kernel_rfl) (N6.out) (fun hHeld => ?_)
        rw [← HW3.out] at hHeld ⊢
        have p3 := P3.out
        refine rgnTake 0 rfl (by kernel_rfl) (by kernel_rfl) (by kernel_rfl) (fun _ _ _ h => h) (by rfl) (v := ?v63) ?hy63 hHeld ?rest63
        case hy63 => (intro v hSw; obtain ⟨y0, y1⟩ := hSw; first | (go_simp; done) | (go_simp; with_reducible rfl))
        try simp only [Act.put, List.setIfInBounds_toArray, List.set_cons_zero, List.set_cons_succ]
        refine rgnTake 1 rfl (by kernel_rfl) (by kernel_rfl) (by kernel_rfl) (fun _ _ _ h => h) (by rfl) (v := ?v64) ?hy64 hHeld ?rest64
        case hy64 => (intro v hSw; obtain ⟨y0, y1⟩ := hSw; first | (go_simp; done) | (go_simp; with_reducible rfl))
        try simp only [Act.put, List.setIfInBounds_toArray, List.set_cons_zero, List.set_cons_succ]
        refine rgnTake 2 rfl (by kernel_rfl) (by kernel_rfl) (by kernel_rfl) (fun _ _ _ h => h) (by rfl) (v := ?v65) ?hy65 hHeld ?rest65
        case hy65 => (intro v hSw; obtain ⟨y0, y1⟩ := hSw; first | (go_simp; done) | (go_simp; with_reducible rfl))
        try simp only [Act.put, List.setIfInBounds_toArray, List.set_cons_zero, List.set_cons_succ]
        refine rgnTake 3 rfl (by kernel_rfl) (by kernel_rfl) (by kernel_rfl) (fun _ _ _ h => h) (by rfl) (v := ?v66) ?hy66 hHeld ?rest66
        case hy66 => (intro v hSw; obtain ⟨y0, y1⟩ := hSw; first | (go_simp; done) | (go_simp; with_reducible rfl))
        try simp only [Act.put, List.setIfInBounds_toArray, List.set_cons_zero, List.set_cons_succ]
        refine rgnTake 4 rfl (by kernel_rfl) (by kernel_rfl) (by kernel_rfl) (fun _ _ _ h => h) (by rfl) (v := ?v67) ?hy67 hHeld ?rest67
        case hy67 => (intro v hSw; obtain ⟨y0, y1⟩ := hSw; first | (go_simp; done) | (go_simp; with_reducible rfl))
        try simp only [Act.put, List.setIfInBounds_toArray, List.set_cons_zero, List.set_cons_succ]
        refine rgnTake 5 rfl (by kernel_rfl) (by kernel_rfl) (by kernel_rfl) (fun _ _ _ h => h) (by rfl) (v := ?v68) ?hy68 hHeld ?rest68
        case hy68 => (intro v hSw; obtain ⟨y0, y1⟩ := hSw; first | (go_simp; done) | (go_simp; with_reducible rfl))
        try simp only [Act.put, List.setIfInBounds_toArray, List.set_cons_zero, List.set_cons_succ]
        refine rgnTake 6 rfl (by kernel_rfl) (by kernel_rfl) (by kernel_rfl) (fun _ _ _ h => h) (by rfl) (v := ?v69) ?hy69 hHeld ?rest69
        case hy69 => (intro v hSw; obtain ⟨y0, y1⟩ := hSw; first | (go_simp; done) | (go_simp; with_reducible rfl))
        try simp only [Act.put, List.setIfInBounds_toArray, List.set_cons_zero, List.set_cons_succ]
        refine rgnTake 7 rfl (by kernel_rfl) (by kernel_rfl) (by kernel_rfl) (fun _ _ _ h => h) (by rfl) (v := ?v70) ?hy70 hHeld ?rest70
        case hy70 => (intro v hSw; obtain ⟨y0, y1⟩ := hSw; first | (go_simp; done) | (go_simp; with_reducible rfl))
        try simp only [Act.put, List.setIfInBounds_toArray, List.set_cons_zero, List.set_cons_succ]
        refine rgnTake 8 rfl (by kernel_rfl) (by kernel_rfl) (by kernel_rfl) (fun _ _ _ h => h) (by rfl) (v := ?v71) ?hy71 hHeld ?rest71
        case hy71 => (intro v hSw; obtain ⟨y0, y1⟩ := hSw; first | (go_simp; done) | (go_simp; with_reducible rfl))
        try simp only [Act.put, List.setIfInBounds_toArray, List.set_cons_zero, List.set_cons_succ]
        refine rgnTake 9 rfl (by kernel_rfl) (by kernel_rfl) (by kernel_rfl) (fun _ _ _ h => h) (by rfl) (v := ?v72) ?hy72 hHeld ?rest72
        case hy72 => (intro v hSw; obtain ⟨y0, y1⟩ := hSw; first | (go_simp; done) | (go_simp; with_reducible rfl))
        try simp only [Act.put, List.setIfInBounds_toArray, List.set_cons_zero, List.set_cons_succ]
        refine rgnTake 10 rfl (by kernel_rfl) (by kernel_rfl) (by kernel_rfl) (fun _ _ _ h => h) (by rfl) (v := ?v73) ?hy73 hHeld ?rest73
        case hy73 => (intro v hSw; obtain ⟨y0, y1⟩ := hSw; first | (go_simp; done) | (go_simp; with_reducible rfl))
        try simp only [Act.put, List.setIfInBounds_toArray, List.set_cons_zero, List.set_cons_succ]
        refine rgnTake 12 rfl (by kernel_rfl) (by kernel_rfl) (by kernel_rfl) (fun _ _ _ h => h) (by rfl) (v := ?v74) ?hy74 hHeld ?rest74
        case hy74 => (intro v hSw; obtain ⟨y0, y1⟩ := hSw; first | (go_simp; done) | (go_simp; with_reducible rfl))
        try simp only [Act.put, List.setIfInBounds_toArray, List.set_cons_zero, List.set_cons_succ]
        refine rgnTake 13 rfl (by kernel_rfl) (by kernel_rfl) (by kernel_rfl) (fun _ _ _ h => h) (by rfl) (v := ?v75) ?hy75 hHeld ?rest75
        case hy75 => (intro v hSw; obtain ⟨y0, y1⟩ := hSw; first | (go_simp; done) | (go_simp; with_reducible rfl))
        try simp only [Act.put, List.setIfInBounds_toArray, List.set_cons_zero, List.set_cons_succ]
        refine rgnTake 14 rfl (by kernel_rfl) (by kernel_rfl) (by kernel_rfl) (fun _ _ _ h => h) (by rfl) (v := ?v76) ?hy76 hHeld ?rest76
        case hy76 => (intro v hSw; obtain ⟨y0, y1⟩ := hSw; first | (go_simp; done) | (go_simp; with_reducible rfl))
        try simp only [Act.put, List.setIfInBounds_toArray, List.set_cons_zero, List.set_cons_succ]
        refine rgnTake 15 rfl (by kernel_rfl) (by kernel_rfl) (by kernel_rfl) (fun _ _ _ h => h) (by rfl) (v := ?v77) ?hy77 hHeld ?rest77
        case hy77 => (intro v hSw; obtain ⟨y0, y1⟩ := hSw; first | (go_simp; done) | (go_simp; with_reducible rfl))
        try simp only [Act.put, List.setIfInBounds_toArray, List.set_cons_zero, List.set_cons_succ]
        refine rgnTake 16 rfl (by kernel_rfl) (by kernel_rfl) (by kernel_rfl) (fun _ _ _ h => h) (by rfl) (v := ?v78) ?hy78 hHeld ?rest78
        case hy78 => (intro v hSw; obtain ⟨y0, y1⟩ := hSw; first | (go_simp; done) | (go_simp; with_reducible rfl))
        try simp only [Act.put, List.setIfInBounds_toArray, List.set_cons_zero, List.set_cons_succ]
        refine rgnTake 17 rfl (by kernel_rfl) (by kernel_rfl) (by kernel_rfl) (fun _ _ _ h => h) (by rfl) (v := ?v79) ?hy79 hHeld ?rest79
        case hy79 => (intro v hSw; obtain ⟨y0, y1⟩ := hSw; first | (go_simp; done) | (go_simp; with_reducible rfl))
        try simp only [Act.put, List.setIfInBounds_toArray, List.set_cons_zero, List.set_cons_succ]
        refine rgnTake 18 rfl (by kernel_rfl) (by kernel_rfl) (by kernel_rfl) (fun _ _ _ h => h) (by rfl) (v := ?v80) ?hy80 hHeld ?rest80
        case hy80 => (intro v hSw; obtain ⟨y0, y1⟩ := hSw; first | (go_simp; done) | (go_simp; with_reducible rfl))
        try simp only [Act.put, List.setIfInBounds_toArray, List.set_cons_zero, List.set_cons_succ]
        refine rgnOne 11 rfl (by kernel_rfl) (fun K hK => ?_)
        go_simp
        refine hK.out _ _ (hHeld) (fun hHeld => ?_)
        clear hK K
        try simp only [Act.put, List.setIfInBounds_toArray, List.set_cons_zero, List.set_cons_succ]
        clear p3
        refine rgnOne 19 rfl (by kernel_rfl) (fun K hK => ?_)
        refine step_append_run rfl (.tmp 70) (.tmp 77) 148 rfl _ _ rfl rfl _ _ (HR.out _) ?_
        refine hK.out _ _ ⟨M6.out.2.2.2, M6.out.2.2.1⟩ (fun hHeld => ?_)
        clear hK K
        simp only [Act.put, List.setIfInBounds_toArray, List.set_cons_zero, List.set_cons_succ]
        refine rgnTake 20 rfl (by kernel_rfl) (by kernel_rfl) (by kernel_rfl) (fun _ _ _ h => h) (by rfl) (v := ?v81) ?hy81 hHeld ?rest81
        case hy81 => (intro v hSw; obtain ⟨y0, y1⟩ := hSw; first | (go_simp; done) | (go_simp; with_reducible rfl))
        try simp only [Act.put, List.setIfInBounds_toArray, List.set_cons_zero, List.set_cons_succ]
        have m2 := M6.out.1
        have m3 := M6.out.2.1
        refine rgnOne 21 rfl (by kernel_rfl) (fun K hK => ?_)
        go_simp
        refine hK.out _ _ ((H6.out _)) (fun hHeld => ?_)
        clear hK K
        try simp only [Act.put, List.setIfInBounds_toArray, List.set_cons_zero, List.set_cons_succ]
        refine wpAnyH_done (by kernel_rfl) ?_ _
        rw [← HW5.out]
        clear m2 m3 hHeld
        go_wp2_with (first | (go_at_call 88; refine RL.out.mono ?_; rintro r w6 ⟨rfl, E6, fv6, V6, A6, C6⟩; obtain ⟨⟨u6, k6⟩, z6, le6, q36, f8⟩ := AF.out w6 E6 fv6 V6 A6 C6; have LE6 := Lib.hid le6; have F8 := Lib.hid f8; have HA6 := Lib.hid A6; have HC6 := Lib.hid C6; clear V6 A6 C6 le6 f8) | (go_at_call 93; refine LE6.out.mono ?_; rintro r w6 ⟨rfl, h6⟩; subst h6) | (go_at_call 86; refine (F8.out _ rfl).1.mono ?_; rintro r w9 ⟨rfl, h9⟩; obtain ⟨g9, N9, c9, A9, cz, e90, p9, e91⟩ := G9.out _ _ _ h9; have H9 := Lib.hid h9; clear h9))
        obtain ⟨E9, g9t, a9, c9t⟩ := H9.out
        obtain ⟨_, C68, l68, r8, s8⟩ := F8.out _ rfl
        obtain ⟨w10, hw10⟩ : ∃ w10, w10 = w9.drew := ⟨_, rfl⟩
        have g10 : TabG w10 T E9 (s.join q f P' O') := by rw [hw10]; exact g9t.below (Below.refl _ _).drew
        have pr := HPR.out
        have hf := HF.out
        have fr : ∀ f', f' ∈ (s.join q f P' O').free → f' < (s.join q f P' O').nds.length ∧ f' ≠ q := fun f' hm => by
          rw [pr.free4, List.mem_append] at hm
          rw [pr.len4]
          rcases hm with hm | hm
          · exact hf.free f' hm
          · rw [List.mem_singleton] at hm
            rw [hm]; exact ⟨pr.io, pr.oq⟩
        have lfr : (s.join q f P' O').free.length ≤ 850001 := by rw [pr.free4]; have := hf.lf; simp; omega
        have lnr : (s.join q f P' O').nds.length ≤ 850000 := by rw [pr.len4]; exact hf.ln
        have PC := Lib.hid (xPart w10 T E9 (s.join q f P' O') P' g10 (by rw [pr.len4]; exact pr.ip) (by rw [← HZ9.out]; omega) (fun f' hm => (fr f' hm).1) (by omega) (by omega))
        have LY := Lib.hid (show ∀ w11, LeftP w10 T E9 (((s.join q f P' O').put P' (((s.join q f P' O').nd P').take 3)).take (((s.join q f P' O').nd P').drop 3)) w11 → Calls Try.prog 92 #[Ptr T, .agg #[.int .i64 q, .int .i64 ((f : Int) + 1)], .agg #[.string (((s.join q f P' O').nd P').key 3), .int .i64 (s.join q f P' O').place]] w11 fun r w' => r = .returned (.tuple #[]) ∧ LeftP w10 T E9 ((s.join q f P' O').split (q, f) P') w' from fun w11 ⟨E11, g11, a11, c11⟩ => by
          obtain ⟨nq, ql⟩ := Tab.split_lay (s := s.join q f P' O') (q := q) (p := P') (a := ((s.join q f P' O').nd P').take 3) (b := ((s.join q f P' O').nd P').drop 3) (by rw [pr.len4]; exact pr.iq) (by rw [pr.len4]; exact pr.ip) pr.pq fr
          have le := pr.len4q
          have l1 := pr.lf1
          have lq : (s.nd q).length ≤ 1000 := hf.lq
          have := xLay w11 T E11 _ q (f + 1) (((s.join q f P' O').nd P').key 3, ((s.join q f P' O').place : Int)) g11 (Nat.lt_of_lt_of_le (by rw [pr.len4]; exact pr.iq) ql) (by rw [nq]; omega) (by rw [nq]; omega) (by rw [nq]; omega)
          rw [show ((f + 1 : Nat) : Int) = (f : Int) + 1 from rfl] at this
          exact this.mono fun r w' h => ⟨h.1, LeftP.then c11 a11 h.2⟩)
        have q9 : ¬ E9 w6.heap.size := fun e => by
          rcases a9 _ e with r | r
          · have := l68 _ r; omega
          · omega
        have r9 : RowAt w10 w6.heap.size [.int .i64 q, .int .i64 ((f : Int) + 1)] 150 := by
          rw [hw10]
          exact (RowAt.keep r8 c9t.drew (fun e => by have := l68 _ e; omega))
        have SK := Lib.hid (show ∀ s' w11, LeftP w10 T E9 s' w11 → w11.cell? ⟨w6.heap.size, 0, none⟩ = some (.int .i64 q) ∧ w11.cell? ⟨w6.heap.size, 1, none⟩ = some (.int .i64 ((f : Int) + 1)) from fun s' w11 ⟨E11, g11, a11, c11⟩ => by
          have r11 : RowAt w11 w6.heap.size _ _ := r9.keep c11 q9
          exact ⟨r11.cell 0, r11.cell 1⟩)
        have FN := Lib.hid (show ∀ w12, LeftP w10 T E9 ((s.join q f P' O').split (q, f) P') w12 → LeftP w T E (s.fill (q, a)) w12 from fun w12 ⟨E12, g12, a12, c12⟩ => by
          rw [HUY.out _ rfl z4]
          refine LV.out _ _ _ _ _ HA6.out HC6.out C68 (LeftP.then c9t a9 ?_)
          rw [hw10] at a12 c12
          exact ⟨E12, g12, a12, ⟨c12.os, c12.tape, c12.output, c12.size, c12.block⟩⟩)
        have t0 := r9.cell 0
        have t1 := r9.cell 1
        simp only [List.getElem?_cons_zero, List.getElem?_cons_succ] at t0 t1
        have t0' : w9.cell? ⟨w6.heap.size, 0, none⟩ = some (.int .i64 q) := by rw [hw10] at t0; exact t0
        have t1' : w9.cell? ⟨w6.heap.size, 1, none⟩ = some (.int .i64 ((f : Int) + 1)) := by rw [hw10] at t1; exact t1
        have HW10 := Lib.hid hw10
        clear g10 hw10 r9 q9 lfr lnr fr hf pr g9t a9 c9t C68 l68 r8 s8 e90 e91 t0 t1
        refine wp_region_held_drew (S := (fun w' => w'.cell? ⟨w6.heap.size, 0, none⟩ = some (.int .i64 q) ∧ w'.cell? ⟨w6.heap.size, 1, none⟩ = some (.int .i64 ((f : Int) + 1)))) (by kernel_rfl) (⟨t0', t1'⟩) (fun hHeld => ?_)
        rw [← HW10.out] at hHeld ⊢
        refine rgnTake 0 rfl (by kernel_rfl) (by kernel_rfl) (by kernel_rfl) (fun _ _ _ h => h) (by rfl) (v := ?v82) ?hy82 hHeld ?rest82
        case hy82 => (intro v hSw; obtain ⟨y0, y1⟩ := hSw; first | (go_simp; done) | (go_simp; with_reducible rfl))
        try simp only [Act.put, List.setIfInBounds_toArray, List.set_cons_zero, List.set_cons_succ]
        refine rgnTake 1 rfl (by kernel_rfl) (by kernel_rfl) (by kernel_rfl) (fun _ _ _ h => h) (by rfl) (v := ?v83) ?hy83 hHeld ?rest83
        case hy83 => (intro v hSw; obtain ⟨y0, y1⟩ := hSw; first | (go_simp; done) | (go_simp; with_reducible rfl))
        try simp only [Act.put, List.setIfInBounds_toArray, List.set_cons_zero, List.set_cons_succ]
        refine rgnTake 2 rfl (by kernel_rfl) (by kernel_rfl) (by kernel_rfl) (fun _ _ _ h => h) (by rfl) (v := ?v84) ?hy84 hHeld ?rest84
        case hy84 => (intro v hSw; obtain ⟨y0, y1⟩ := hSw; first | (go_simp; done) | (go_simp; with_reducible rfl))
        try simp only [Act.put, List.setIfInBounds_toArray, List.set_cons_zero, List.set_cons_succ]
        refine rgnTake 3 rfl (by kernel_rfl) (by kernel_rfl) (by kernel_rfl) (fun _ _ _ h => h) (by rfl) (v := ?v85) ?hy85 hHeld ?rest85
        case hy85 => (intro v hSw; obtain ⟨y0, y1⟩ := hSw; first | (go_simp; done) | (go_simp; with_reducible rfl))
        try simp only [Act.put, List.setIfInBounds_toArray, List.set_cons_zero, List.set_cons_succ]
        refine rgnOne 4 rfl (by kernel_rfl) (fun K hK => ?_)
        go_simp
        refine PC.out.mono ?_
        rintro r w11 ⟨rfl, hp⟩
        have LC5 := Lib.hid (LY.out w11 hp)
        refine hK.out _ _ ((SK.out _ w11 hp)) (fun hHeld => ?_)
        clear hK K
        try simp only [Act.put, List.setIfInBounds_toArray, List.set_cons_zero, List.set_cons_succ]
        refine rgnOne 5 rfl (by kernel_rfl) (fun K hK => ?_)
        go_simp
        refine LC5.out.mono ?_
        rintro r w12 ⟨rfl, hp6⟩
        have HL6 := Lib.hid (FN.out w12 hp6)
        refine hK.out _ _ ((SK.out _ w12 hp6)) (fun hHeld => ?_)
        clear hK K
        try simp only [Act.put, List.setIfInBounds_toArray, List.set_cons_zero, List.set_cons_succ]
        refine wpAnyH_done (by kernel_rfl) ?_ _
        go_wp2_with fail
        exact bodyPost_end (results_none rfl _ _ _) rfl ⟨rfl, HL6.out⟩
      · have a2 : ¬ (0 : Int) ≤ (a : Int) - 1 := by omega
        have a3 : (a : Int) - 1 < 0 := by omega
        go_wp2_with fail
        have e : Value.int .i64 (0 : Int) = Value.int .i64 (f : Int) := by have := HFA.out; congr 1; omega
        rw [e]
        clear e
        rw [← HW2.out]
        refine wp_region_held_drew (S := (fun w' => w'.cell? ⟨b, o + f * 2 + 1, none⟩ = some (.int .i64 P') ∧ w'.cell? ⟨b, o + (f + 1) * 2 + 1, none⟩ = some (.int .i64 O'))) (by kernel_rfl) (M.out) (fun hHeld => ?_)
        refine rgnTake 0 rfl (by kernel_rfl) (by kernel_rfl) (by kernel_rfl) (fun _ _ _ h => h) (by rfl) (v := ?v86) ?hy86 hHeld ?rest86
        case hy86 => (intro v hSw; obtain ⟨y0, y1⟩ := hSw; first | (go_simp; done) | (go_simp; with_reducible rfl))
        try simp only [Act.put, List.setIfInBounds_toArray, List.set_cons_zero, List.set_cons_succ]
        refine rgnTake 1 rfl (by kernel_rfl) (by kernel_rfl) (by kernel_rfl) (fun _ _ _ h => h) (by rfl) (v := ?v87) ?hy87 hHeld ?rest87
        case hy87 => (intro v hSw; obtain ⟨y0, y1⟩ := hSw; first | (go_simp; done) | (go_simp; with_reducible rfl))
        try simp only [Act.put, List.setIfInBounds_toArray, List.set_cons_zero, List.set_cons_succ]
        refine rgnTake 2 rfl (by kernel_rfl) (by kernel_rfl) (by kernel_rfl) (fun _ _ _ h => h) (by rfl) (v := ?v88) ?hy88 hHeld ?rest88
        case hy88 => (intro v hSw; obtain ⟨y0, y1⟩ := hSw; first | (go_simp; done) | (go_simp; with_reducible rfl))
        try simp only [Act.put, List.setIfInBounds_toArray, List.set_cons_zero, List.set_cons_succ]
        refine rgnTake 3 rfl (by kernel_rfl) (by kernel_rfl) (by kernel_rfl) (fun _ _ _ h => h) (by rfl) (v := ?v89) ?hy89 hHeld ?rest89
        case hy89 => (intro v hSw; obtain ⟨y0, y1⟩ := hSw; first | (go_simp; done) | (go_simp; with_reducible rfl))
        try simp only [Act.put, List.setIfInBounds_toArray, List.set_cons_zero, List.set_cons_succ]
        refine rgnTake 4 rfl (by kernel_rfl) (by kernel_rfl) (by kernel_rfl) (fun _ _ _ h => h) (by rfl) (v := ?v90) ?hy90 hHeld ?rest90
        case hy90 => (intro v hSw; obtain ⟨y0, y1⟩ := hSw; first | (go_simp; done) | (go_simp; with_reducible rfl))
        try simp only [Act.put, List.setIfInBounds_toArray, List.set_cons_zero, List.set_cons_succ]
        refine rgnTake 5 rfl (by kernel_rfl) (by kernel_rfl) (by kernel_rfl) (fun _ _ _ h => h) (by rfl) (v := ?v91) ?hy91 hHeld ?rest91
        case hy91 => (intro v hSw; obtain ⟨y0, y1⟩ := hSw; first | (go_simp; done) | (go_simp; with_reducible rfl))
        try simp only [Act.put, List.setIfInBounds_toArray, List.set_cons_zero, List.set_cons_succ]
        refine rgnTake 6 rfl (by kernel_rfl) (by kernel_rfl) (by kernel_rfl) (fun _ _ _ h => h) (by rfl) (v := ?v92) ?hy92 hHeld ?rest92
        case hy92 => (intro v hSw; obtain ⟨y0, y1⟩ := hSw; first | (go_simp; done) | (go_simp; with_reducible rfl))
        try simp only [Act.put, List.setIfInBounds_toArray, List.set_cons_zero, List.set_cons_succ]
        refine rgnTake 7 rfl (by kernel_rfl) (by kernel_rfl) (by kernel_rfl) (fun _ _ _ h => h) (by rfl) (v := ?v93) ?hy93 hHeld ?rest93
        case hy93 => (intro v hSw; obtain ⟨y0, y1⟩ := hSw; first | (go_simp; done) | (go_simp; with_reducible rfl))
        try simp only [Act.put, List.setIfInBounds_toArray, List.set_cons_zero, List.set_cons_succ]
        refine rgnTake 8 rfl (by kernel_rfl) (by kernel_rfl) (by kernel_rfl) (fun _ _ _ h => h) (by rfl) (v := ?v94) ?hy94 hHeld ?rest94
        case hy94 => (intro v hSw; obtain ⟨y0, y1⟩ := hSw; first | (go_simp; done) | (go_simp; with_reducible rfl))
        try simp only [Act.put, List.setIfInBounds_toArray, List.set_cons_zero, List.set_cons_succ]
        refine rgnTake 9 rfl (by kernel_rfl) (by kernel_rfl) (by kernel_rfl) (fun _ _ _ h => h) (by rfl) (v := ?v95) ?hy95 hHeld ?rest95
        case hy95 => (intro v hSw; obtain ⟨y0, y1⟩ := hSw; first | (go_simp; done) | (go_simp; with_reducible rfl))
        try simp only [Act.put, List.setIfInBounds_toArray, List.set_cons_zero, List.set_cons_succ]
        refine rgnTake 10 rfl (by kernel_rfl) (by kernel_rfl) (by kernel_rfl) (fun _ _ _ h => h) (by rfl) (v := ?v96) ?hy96 hHeld ?rest96
        case hy96 => (intro v hSw; obtain ⟨y0, y1⟩ := hSw; first | (go_simp; done) | (go_simp; with_reducible rfl))
        try simp only [Act.put, List.setIfInBounds_toArray, List.set_cons_zero, List.set_cons_succ]
        refine rgnTake 11 rfl (by kernel_rfl) (by kernel_rfl) (by kernel_rfl) (fun _ _ _ h => h) (by rfl) (v := ?v97) ?hy97 hHeld ?rest97
        case hy97 => (intro v hSw; obtain ⟨y0, y1⟩ := hSw; first | (go_simp; done) | (go_simp; with_reducible rfl))
        try simp only [Act.put, List.setIfInBounds_toArray, List.set_cons_zero, List.set_cons_succ]
        refine rgnTake 12 rfl (by kernel_rfl) (by kernel_rfl) (by kernel_rfl) (fun _ _ _ h => h) (by rfl) (v := ?v98) ?hy98 hHeld ?rest98
        case hy98 => (intro v hSw; obtain ⟨y0, y1⟩ := hSw; first | (go_simp; done) | (go_simp; with_reducible rfl))
        try simp only [Act.put, List.setIfInBounds_toArray, List.set_cons_zero, List.set_cons_succ]
        refine wpAnyH_done (by kernel_rfl) ?_ _
        clear hHeld
        go_wp2_with fail
        refine wp_region_held_drew (S := (fun w' => w'.cell? ⟨T, 0, none⟩ = some (.slice (some ⟨g, 0, none⟩) N c) ∧ w'.cell? ⟨g, O', none⟩ = some (.slice (some ⟨bO, oO, none⟩) zO cO))) (by kernel_rfl) (N6.out) (fun hHeld => ?_)
        rw [← HW3.out] at hHeld ⊢
        have p3 := P3.out
        refine rgnTake 0 rfl (by kernel_rfl) (by kernel_rfl) (by kernel_rfl) (fun _ _ _ h => h) (by rfl) (v := ?v99) ?hy99 hHeld ?rest99
        case hy99 => (intro v hSw; obtain ⟨y0, y1⟩ := hSw; first | (go_simp; done) | (go_simp; with_reducible rfl))
        try simp only [Act.put, List.setIfInBounds_toArray, List.set_cons_zero, List.set_cons_succ]
        refine rgnTake 1 rfl (by kernel_rfl) (by kernel_rfl) (by kernel_rfl) (fun _ _ _ h => h) (by rfl) (v := ?v100) ?hy100 hHeld ?rest100
        case hy100 => (intro v hSw; obtain ⟨y0, y1⟩ := hSw; first | (go_simp; done) | (go_simp; with_reducible rfl))
        try simp only [Act.put, List.setIfInBounds_toArray, List.set_cons_zero, List.set_cons_succ]
        refine rgnTake 2 rfl (by kernel_rfl) (by kernel_rfl) (by kernel_rfl) (fun _ _ _ h => h) (by rfl) (v := ?v101) ?hy101 hHeld ?rest101
        case hy101 => (intro v hSw; obtain ⟨y0, y1⟩ := hSw; first | (go_simp; done) | (go_simp; with_reducible rfl))
        try simp only [Act.put, List.setIfInBounds_toArray, List.set_cons_zero, List.set_cons_succ]
        refine rgnTake 3 rfl (by kernel_rfl) (by kernel_rfl) (by kernel_rfl) (fun _ _ _ h => h) (by rfl) (v := ?v102) ?hy102 hHeld ?rest102
        case hy102 => (intro v hSw; obtain ⟨y0, y1⟩ := hSw; first | (go_simp; done) | (go_simp; with_reducible rfl))
        try simp only [Act.put, List.setIfInBounds_toArray, List.set_cons_zero, List.set_cons_succ]
        refine rgnTake 4 rfl (by kernel_rfl) (by kernel_rfl) (by kernel_rfl) (fun _ _ _ h => h) (by rfl) (v := ?v103) ?hy103 hHeld ?rest103
        case hy103 => (intro v hSw; obtain ⟨y0, y1⟩ := hSw; first | (go_simp; done) | (go_simp; with_reducible rfl))
        try simp only [Act.put, List.setIfInBounds_toArray, List.set_cons_zero, List.set_cons_succ]
        refine rgnTake 5 rfl (by kernel_rfl) (by kernel_rfl) (by kernel_rfl) (fun _ _ _ h => h) (by rfl) (v := ?v104) ?hy104 hHeld ?rest104
        case hy104 => (intro v hSw; obtain ⟨y0, y1⟩ := hSw; first | (go_simp; done) | (go_simp; with_reducible rfl))
        try simp only [Act.put, List.setIfInBounds_toArray, List.set_cons_zero, List.set_cons_succ]
        refine rgnTake 6 rfl (by kernel_rfl) (by kernel_rfl) (by kernel_rfl) (fun _ _ _ h => h) (by rfl) (v := ?v105) ?hy105 hHeld ?rest105
        case hy105 => (intro v hSw; obtain ⟨y0, y1⟩ := hSw; first | (go_simp; done) | (go_simp; with_reducible rfl))
        try simp only [Act.put, List.setIfInBounds_toArray, List.set_cons_zero, List.set_cons_succ]
        refine rgnTake 7 rfl (by kernel_rfl) (by kernel_rfl) (by kernel_rfl) (fun _ _ _ h => h) (by rfl) (v := ?v106) ?hy106 hHeld ?rest106
        case hy106 => (intro v hSw; obtain ⟨y0, y1⟩ := hSw; first | (go_simp; done) | (go_simp; with_reducible rfl))
        try simp only [Act.put, List.setIfInBounds_toArray, List.set_cons_zero, List.set_cons_succ]
        refine rgnTake 8 rfl (by kernel_rfl) (by kernel_rfl) (by kernel_rfl) (fun _ _ _ h => h) (by rfl) (v := ?v107) ?hy107 hHeld ?rest107
        case hy107 => (intro v hSw; obtain ⟨y0, y1⟩ := hSw; first | (go_simp; done) | (go_simp; with_reducible rfl))
        try simp only [Act.put, List.setIfInBounds_toArray, List.set_cons_zero, List.set_cons_succ]
        refine rgnTake 9 rfl (by kernel_rfl) (by kernel_rfl) (by kernel_rfl) (fun _ _ _ h => h) (by rfl) (v := ?v108) ?hy108 hHeld ?rest108
        case hy108 => (intro v hSw; obtain ⟨y0, y1⟩ := hSw; first | (go_simp; done) | (go_simp; with_reducible rfl))
        try simp only [Act.put, List.setIfInBounds_toArray, List.set_cons_zero, List.set_cons_succ]
        refine rgnTake 10 rfl (by kernel_rfl) (by kernel_rfl) (by kernel_rfl) (fun _ _ _ h => h) (by rfl) (v := ?v109) ?hy109 hHeld ?rest109
        case hy109 => (intro v hSw; obtain ⟨y0, y1⟩ := hSw; first | (go_simp; done) | (go_simp; with_reducible rfl))
        try simp only [Act.put, List.setIfInBounds_toArray, List.set_cons_zero, List.set_cons_succ]
        refine rgnTake 12 rfl (by kernel_rfl) (by kernel_rfl) (by kernel_rfl) (fun _ _ _ h => h) (by rfl) (v := ?v110) ?hy110 hHeld ?rest110
        case hy110 => (intro v hSw; obtain ⟨y0, y1⟩ := hSw; first | (go_simp; done) | (go_simp; with_reducible rfl))
        try simp only [Act.put, List.setIfInBounds_toArray, List.set_cons_zero, List.set_cons_succ]
        refine rgnTake 13 rfl (by kernel_rfl) (by kernel_rfl) (by kernel_rfl) (fun _ _ _ h => h) (by rfl) (v := ?v111) ?hy111 hHeld ?rest111
        case hy111 => (intro v hSw; obtain ⟨y0, y1⟩ := hSw; first | (go_simp; done) | (go_simp; with_reducible rfl))
        try simp only [Act.put, List.setIfInBounds_toArray, List.set_cons_zero, List.set_cons_succ]
        refine rgnTake 14 rfl (by kernel_rfl) (by kernel_rfl) (by kernel_rfl) (fun _ _ _ h => h) (by rfl) (v := ?v112) ?hy112 hHeld ?rest112
        case hy112 => (intro v hSw; obtain ⟨y0, y1⟩ := hSw; first | (go_simp; done) | (go_simp; with_reducible rfl))
        try simp only [Act.put, List.setIfInBounds_toArray, List.set_cons_zero, List.set_cons_succ]
        refine rgnTake 15 rfl (by kernel_rfl) (by kernel_rfl) (by kernel_rfl) (fun _ _ _ h => h) (by rfl) (v := ?v113) ?hy113 hHeld ?rest113
        case hy113 => (intro v hSw; obtain ⟨y0, y1⟩ := hSw; first | (go_simp; done) | (go_simp; with_reducible rfl))
        try simp only [Act.put, List.setIfInBounds_toArray, List.set_cons_zero, List.set_cons_succ]
        refine rgnTake 16 rfl (by kernel_rfl) (by kernel_rfl) (by kernel_rfl) (fun _ _ _ h => h) (by rfl) (v := ?v114) ?hy114 hHeld ?rest114
        case hy114 => (intro v hSw; obtain ⟨y0, y1⟩ := hSw; first | (go_simp; done) | (go_simp; with_reducible rfl))
        try simp only [Act.put, List.setIfInBounds_toArray, List.set_cons_zero, List.set_cons_succ]
        refine rgnTake 17 rfl (by kernel_rfl) (by kernel_rfl) (by kernel_rfl) (fun _ _ _ h => h) (by rfl) (v := ?v115) ?hy115 hHeld ?rest115
        case hy115 => (intro v hSw; obtain ⟨y0, y1⟩ := hSw; first | (go_simp; done) | (go_simp; with_reducible rfl))
        try simp only [Act.put, List.setIfInBounds_toArray, List.set_cons_zero, List.set_cons_succ]
        refine rgnTake 18 rfl (by kernel_rfl) (by kernel_rfl) (by kernel_rfl) (fun _ _ _ h => h) (by rfl) (v := ?v116) ?hy116 hHeld ?rest116
        case hy116 => (intro v hSw; obtain ⟨y0, y1⟩ := hSw; first | (go_simp; done) | (go_simp; with_reducible rfl))
        try simp only [Act.put, List.setIfInBounds_toArray, List.set_cons_zero, List.set_cons_succ]
        refine rgnOne 11 rfl (by kernel_rfl) (fun K hK => ?_)
        go_simp
        refine hK.out _ _ (hHeld) (fun hHeld => ?_)
        clear hK K
        try simp only [Act.put, List.setIfInBounds_toArray, List.set_cons_zero, List.set_cons_succ]
        clear p3
        refine rgnOne 19 rfl (by kernel_rfl) (fun K hK => ?_)
        refine step_append_run rfl (.tmp 70) (.tmp 77) 148 rfl _ _ rfl rfl _ _ (HR.out _) ?_
        refine hK.out _ _ ⟨M6.out.2.2.2, M6.out.2.2.1⟩ (fun hHeld => ?_)
        clear hK K
        simp only [Act.put, List.setIfInBounds_toArray, List.set_cons_zero, List.set_cons_succ]
        refine rgnTake 20 rfl (by kernel_rfl) (by kernel_rfl) (by kernel_rfl) (fun _ _ _ h => h) (by rfl) (v := ?v117) ?hy117 hHeld ?rest117
        case hy117 => (intro v hSw; obtain ⟨y0, y1⟩ := hSw; first | (go_simp; done) | (go_simp; with_reducible rfl))
        try simp only [Act.put, List.setIfInBounds_toArray, List.set_cons_zero, List.set_cons_succ]
        have m2 := M6.out.1
        have m3 := M6.out.2.1
        refine rgnOne 21 rfl (by kernel_rfl) (fun K hK => ?_)
        go_simp
        refine hK.out _ _ ((H6.out _)) (fun hHeld => ?_)
        clear hK K
        try simp only [Act.put, List.setIfInBounds_toArray, List.set_cons_zero, List.set_cons_succ]
        refine wpAnyH_done (by kernel_rfl) ?_ _
        rw [← HW5.out]
        clear m2 m3 hHeld
        go_wp2_with (first | (go_at_call 88; refine RL.out.mono ?_; rintro r w6 ⟨rfl, E6, fv6, V6, A6, C6⟩; obtain ⟨⟨u6, k6⟩, z6, le6, q36, f8⟩ := AF.out w6 E6 fv6 V6 A6 C6; have LE6 := Lib.hid le6; have F8 := Lib.hid f8; have HA6 := Lib.hid A6; have HC6 := Lib.hid C6; clear V6 A6 C6 le6 f8) | (go_at_call 93; refine LE6.out.mono ?_; rintro r w6 ⟨rfl, h6⟩; subst h6) | (go_at_call 86; refine (F8.out _ rfl).1.mono ?_; rintro r w9 ⟨rfl, h9⟩; obtain ⟨g9, N9, c9, A9, cz, e90, p9, e91⟩ := G9.out _ _ _ h9; have H9 := Lib.hid h9; clear h9))
        obtain ⟨E9, g9t, a9, c9t⟩ := H9.out
        obtain ⟨_, C68, l68, r8, s8⟩ := F8.out _ rfl
        obtain ⟨w10, hw10⟩ : ∃ w10, w10 = w9.drew := ⟨_, rfl⟩
        have g10 : TabG w10 T E9 (s.join q f P' O') := by rw [hw10]; exact g9t.below (Below.refl _ _).drew
        have pr := HPR.out
        have hf := HF.out
        have fr : ∀ f', f' ∈ (s.join q f P' O').free → f' < (s.join q f P' O').nds.length ∧ f' ≠ q := fun f' hm => by
          rw [pr.free4, List.mem_append] at hm
          rw [pr.len4]
          rcases hm with hm | hm
          · exact hf.free f' hm
          · rw [List.mem_singleton] at hm
            rw [hm]; exact ⟨pr.io, pr.oq⟩
        have lfr : (s.join q f P' O').free.length ≤ 850001 := by rw [pr.free4]; have := hf.lf; simp; omega
        have lnr : (s.join q f P' O').nds.length ≤ 850000 := by rw [pr.len4]; exact hf.ln
        have PC := Lib.hid (xPart w10 T E9 (s.join q f P' O') P' g10 (by rw [pr.len4]; exact pr.ip) (by rw [← HZ9.out]; omega) (fun f' hm => (fr f' hm).1) (by omega) (by omega))
        have LY := Lib.hid (show ∀ w11, LeftP w10 T E9 (((s.join q f P' O').put P' (((s.join q f P' O').nd P').take 3)).take (((s.join q f P' O').nd P').drop 3)) w11 → Calls Try.prog 92 #[Ptr T, .agg #[.int .i64 q, .int .i64 ((f : Int) + 1)], .agg #[.string (((s.join q f P' O').nd P').key 3), .int .i64 (s.join q f P' O').place]] w11 fun r w' => r = .returned (.tuple #[]) ∧ LeftP w10 T E9 ((s.join q f P' O').split (q, f) P') w' from fun w11 ⟨E11, g11, a11, c11⟩ => by
          obtain ⟨nq, ql⟩ := Tab.split_lay (s := s.join q f P' O') (q := q) (p := P') (a := ((s.join q f P' O').nd P').take 3) (b := ((s.join q f P' O').nd P').drop 3) (by rw [pr.len4]; exact pr.iq) (by rw [pr.len4]; exact pr.ip) pr.pq fr
          have le := pr.len4q
          have l1 := pr.lf1
          have lq : (s.nd q).length ≤ 1000 := hf.lq
          have := xLay w11 T E11 _ q (f + 1) (((s.join q f P' O').nd P').key 3, ((s.join q f P' O').place : Int)) g11 (Nat.lt_of_lt_of_le (by rw [pr.len4]; exact pr.iq) ql) (by rw [nq]; omega) (by rw [nq]; omega) (by rw [nq]; omega)
          rw [show ((f + 1 : Nat) : Int) = (f : Int) + 1 from rfl] at this
          exact this.mono fun r w' h => ⟨h.1, LeftP.then c11 a11 h.2⟩)
        have q9 : ¬ E9 w6.heap.size := fun e => by
          rcases a9 _ e with r | r
          · have := l68 _ r; omega
          · omega
        have r9 : RowAt w10 w6.heap.size [.int .i64 q, .int .i64 ((f : Int) + 1)] 150 := by
          rw [hw10]
          exact (RowAt.keep r8 c9t.drew (fun e => by have := l68 _ e; omega))
        have SK := Lib.hid (show ∀ s' w11, LeftP w10 T E9 s' w11 → w11.cell? ⟨w6.heap.size, 0, none⟩ = some (.int .i64 q) ∧ w11.cell? ⟨w6.heap.size, 1, none⟩ = some (.int .i64 ((f : Int) + 1)) from fun s' w11 ⟨E11, g11, a11, c11⟩ => by
          have r11 : RowAt w11 w6.heap.size _ _ := r9.keep c11 q9
          exact ⟨r11.cell 0, r11.cell 1⟩)
        have FN := Lib.hid (show ∀ w12, LeftP w10 T E9 ((s.join q f P' O').split (q, f) P') w12 → LeftP w T E (s.fill (q, a)) w12 from fun w12 ⟨E12, g12, a12, c12⟩ => by
          rw [HUY.out _ rfl z4]
          refine LV.out _ _ _ _ _ HA6.out HC6.out C68 (LeftP.then c9t a9 ?_)
          rw [hw10] at a12 c12
          exact ⟨E12, g12, a12, ⟨c12.os, c12.tape, c12.output, c12.size, c12.block⟩⟩)
        have t0 := r9.cell 0
        have t1 := r9.cell 1
        simp only [List.getElem?_cons_zero, List.getElem?_cons_succ] at t0 t1
        have t0' : w9.cell? ⟨w6.heap.size, 0, none⟩ = some (.int .i64 q) := by rw [hw10] at t0; exact t0
        have t1' : w9.cell? ⟨w6.heap.size, 1, none⟩ = some (.int .i64 ((f : Int) + 1)) := by rw [hw10] at t1; exact t1
        have HW10 := Lib.hid hw10
        clear g10 hw10 r9 q9 lfr lnr fr hf pr g9t a9 c9t C68 l68 r8 s8 e90 e91 t0 t1
        refine wp_region_held_drew (S := (fun w' => w'.cell? ⟨w6.heap.size, 0, none⟩ = some (.int .i64 q) ∧ w'.cell? ⟨w6.heap.size, 1, none⟩ = some (.int .i64 ((f : Int) + 1)))) (by kernel_rfl) (⟨t0', t1'⟩) (fun hHeld => ?_)
        rw [← HW10.out] at hHeld ⊢
        refine rgnTake 0 rfl (by kernel_rfl) (by kernel_rfl) (by kernel_rfl) (fun _ _ _ h => h) (by rfl) (v := ?v118) ?hy118 hHeld ?rest118
        case hy118 => (intro v hSw; obtain ⟨y0, y1⟩ := hSw; first | (go_simp; done) | (go_simp; with_reducible rfl))
        try simp only [Act.put, List.setIfInBounds_toArray, List.set_cons_zero, List.set_cons_succ]
        refine rgnTake 1 rfl (by kernel_rfl) (by kernel_rfl) (by kernel_rfl) (fun _ _ _ h => h) (by rfl) (v := ?v119) ?hy119 hHeld ?rest119
        case hy119 => (intro v hSw; obtain ⟨y0, y1⟩ := hSw; first | (go_simp; done) | (go_simp; with_reducible rfl))
        try simp only [Act.put, List.setIfInBounds_toArray, List.set_cons_zero, List.set_cons_succ]
        refine rgnTake 2 rfl (by kernel_rfl) (by kernel_rfl) (by kernel_rfl) (fun _ _ _ h => h) (by rfl) (v := ?v120) ?hy120 hHeld ?rest120
        case hy120 => (intro v hSw; obtain ⟨y0, y1⟩ := hSw; first | (go_simp; done) | (go_simp; with_reducible rfl))
        try simp only [Act.put, List.setIfInBounds_toArray, List.set_cons_zero, List.set_cons_succ]
        refine rgnTake 3 rfl (by kernel_rfl) (by kernel_rfl) (by kernel_rfl) (fun _ _ _ h => h) (by rfl) (v := ?v121) ?hy121 hHeld ?rest121
        case hy121 => (intro v hSw; obtain ⟨y0, y1⟩ := hSw; first | (go_simp; done) | (go_simp; with_reducible rfl))
        try simp only [Act.put, List.setIfInBounds_toArray, List.set_cons_zero, List.set_cons_succ]
        refine rgnOne 4 rfl (by kernel_rfl) (fun K hK => ?_)
        go_simp
        refine PC.out.mono ?_
        rintro r w11 ⟨rfl, hp⟩
        have LC5 := Lib.hid (LY.out w11 hp)
        refine hK.out _ _ ((SK.out _ w11 hp)) (fun hHeld => ?_)
        clear hK K
        try simp only [Act.put, List.setIfInBounds_toArray, List.set_cons_zero, List.set_cons_succ]
        refine rgnOne 5 rfl (by kernel_rfl) (fun K hK => ?_)
        go_simp
        refine LC5.out.mono ?_
        rintro r w12 ⟨rfl, hp6⟩
        have HL6 := Lib.hid (FN.out w12 hp6)
        refine hK.out _ _ ((SK.out _ w12 hp6)) (fun hHeld => ?_)
        clear hK K
        try simp only [Act.put, List.setIfInBounds_toArray, List.set_cons_zero, List.set_cons_succ]
        refine wpAnyH_done (by kernel_rfl) ?_ _
        go_wp2_with fail
        exact bodyPost_end (results_none rfl _ _ _) rfl ⟨rfl, HL6.out⟩
    · have z4' : ¬ (4 : Int) < (z9 : Int) := by omega
      by_cases a1 : 1 ≤ a
      · have a2 : (0 : Int) ≤ (a : Int) - 1 := by omega
        go_wp2_with fail
        have e : (a : Int) - 1 = (f : Int) := by have := HFA.out; omega
        rw [e]
        clear e
        rw [← HW2.out]
        refine wp_region_held_drew (S := (fun w' => w'.cell? ⟨b, o + f * 2 + 1, none⟩ = some (.int .i64 P') ∧ w'.cell? ⟨b, o + (f + 1) * 2 + 1, none⟩ = some (.int .i64 O'))) (by kernel_rfl) (M.out) (fun hHeld => ?_)
        refine rgnTake 0 rfl (by kernel_rfl) (by kernel_rfl) (by kernel_rfl) (fun _ _ _ h => h) (by rfl) (v := ?v122) ?hy122 hHeld ?rest122
        case hy122 => (intro v hSw; obtain ⟨y0, y1⟩ := hSw; first | (go_simp; done) | (go_simp; with_reducible rfl))
        try simp only [Act.put, List.setIfInBounds_toArray, List.set_cons_zero, List.set_cons_succ]
        refine rgnTake 1 rfl (by kernel_rfl) (by kernel_rfl) (by kernel_rfl) (fun _ _ _ h => h) (by rfl) (v := ?v123) ?hy123 hHeld ?rest123
        case hy123 => (intro v hSw; obtain ⟨y0, y1⟩ := hSw; first | (go_simp; done) | (go_simp; with_reducible rfl))
        try simp only [Act.put, List.setIfInBounds_toArray, List.set_cons_zero, List.set_cons_succ]
        refine rgnTake 2 rfl (by kernel_rfl) (by kernel_rfl) (by kernel_rfl) (fun _ _ _ h => h) (by rfl) (v := ?v124) ?hy124 hHeld ?rest124
        case hy124 => (intro v hSw; obtain ⟨y0, y1⟩ := hSw; first | (go_simp; done) | (go_simp; with_reducible rfl))
        try simp only [Act.put, List.setIfInBounds_toArray, List.set_cons_zero, List.set_cons_succ]
        refine rgnTake 3 rfl (by kernel_rfl) (by kernel_rfl) (by kernel_rfl) (fun _ _ _ h => h) (by rfl) (v := ?v125) ?hy125 hHeld ?rest125
        case hy125 => (intro v hSw; obtain ⟨y0, y1⟩ := hSw; first | (go_simp; done) | (go_simp; with_reducible rfl))
        try simp only [Act.put, List.setIfInBounds_toArray, List.set_cons_zero, List.set_cons_succ]
        refine rgnTake 4 rfl (by kernel_rfl) (by kernel_rfl) (by kernel_rfl) (fun _ _ _ h => h) (by rfl) (v := ?v126) ?hy126 hHeld ?rest126
        case hy126 => (intro v hSw; obtain ⟨y0, y1⟩ := hSw; first | (go_simp; done) | (go_simp; with_reducible rfl))
        try simp only [Act.put, List.setIfInBounds_toArray, List.set_cons_zero, List.set_cons_succ]
        refine rgnTake 5 rfl (by kernel_rfl) (by kernel_rfl) (by kernel_rfl) (fun _ _ _ h => h) (by rfl) (v := ?v127) ?hy127 hHeld ?rest127
        case hy127 => (intro v hSw; obtain ⟨y0, y1⟩ := hSw; first | (go_simp; done) | (go_simp; with_reducible rfl))
        try simp only [Act.put, List.setIfInBounds_toArray, List.set_cons_zero, List.set_cons_succ]
        refine rgnTake 6 rfl (by kernel_rfl) (by kernel_rfl) (by kernel_rfl) (fun _ _ _ h => h) (by rfl) (v := ?v128) ?hy128 hHeld ?rest128
        case hy128 => (intro v hSw; obtain ⟨y0, y1⟩ := hSw; first | (go_simp; done) | (go_simp; with_reducible rfl))
        try simp only [Act.put, List.setIfInBounds_toArray, List.set_cons_zero, List.set_cons_succ]
        refine rgnTake 7 rfl (by kernel_rfl) (by kernel_rfl) (by kernel_rfl) (fun _ _ _ h => h) (by rfl) (v := ?v129) ?hy129 hHeld ?rest129
        case hy129 => (intro v hSw; obtain ⟨y0, y1⟩ := hSw; first | (go_simp; done) | (go_simp; with_reducible rfl))
        try simp only [Act.put, List.setIfInBounds_toArray, List.set_cons_zero, List.set_cons_succ]
        refine rgnTake 8 rfl (by kernel_rfl) (by kernel_rfl) (by kernel_rfl) (fun _ _ _ h => h) (by rfl) (v := ?v130) ?hy130 hHeld ?rest130
        case hy130 => (intro v hSw; obtain ⟨y0, y1⟩ := hSw; first | (go_simp; done) | (go_simp; with_reducible rfl))
        try simp only [Act.put, List.setIfInBounds_toArray, List.set_cons_zero, List.set_cons_succ]
        refine rgnTake 9 rfl (by kernel_rfl) (by kernel_rfl) (by kernel_rfl) (fun _ _ _ h => h) (by rfl) (v := ?v131) ?hy131 hHeld ?rest131
        case hy131 => (intro v hSw; obtain ⟨y0, y1⟩ := hSw; first | (go_simp; done) | (go_simp; with_reducible rfl))
        try simp only [Act.put, List.setIfInBounds_toArray, List.set_cons_zero, List.set_cons_succ]
        refine rgnTake 10 rfl (by kernel_rfl) (by kernel_rfl) (by kernel_rfl) (fun _ _ _ h => h) (by rfl) (v := ?v132) ?hy132 hHeld ?rest132
        case hy132 => (intro v hSw; obtain ⟨y0, y1⟩ := hSw; first | (go_simp; done) | (go_simp; with_reducible rfl))
        try simp only [Act.put, List.setIfInBounds_toArray, List.set_cons_zero, List.set_cons_succ]
        refine rgnTake 11 rfl (by kernel_rfl) (by kernel_rfl) (by kernel_rfl) (fun _ _ _ h => h) (by rfl) (v := ?v133) ?hy133 hHeld ?rest133
        case hy133 => (intro v hSw; obtain ⟨y0, y1⟩ := hSw; first | (go_simp; done) | (go_simp; with_reducible rfl))
        try simp only [Act.put, List.setIfInBounds_toArray, List.set_cons_zero, List.set_cons_succ]
        refine rgnTake 12 rfl (by kernel_rfl) (by kernel_rfl) (by kernel_rfl) (fun _ _ _ h => h) (by rfl) (v := ?v134) ?hy134 hHeld ?rest134
        case hy134 => (intro v hSw; obtain ⟨y0, y1⟩ := hSw; first | (go_simp; done) | (go_simp; with_reducible rfl))
        try simp only [Act.put, List.setIfInBounds_toArray, List.set_cons_zero, List.set_cons_succ]
        refine wpAnyH_done (by kernel_rfl) ?_ _
        clear hHeld
        go_wp2_with fail
        refine wp_region_held_drew (S := (fun w' => w'.cell? ⟨T, 0, none⟩ = some (.slice (some ⟨g, 0, none⟩) N c) ∧ w'.cell? ⟨g, O', none⟩ = some (.slice (some ⟨bO, oO, none⟩) zO cO))) (by kernel_rfl) (N6.out) (fun hHeld => ?_)
        rw [← HW3.out] at hHeld ⊢
        have p3 := P3.out
        refine rgnTake 0 rfl (by kernel_rfl) (by kernel_rfl) (by kernel_rfl) (fun _ _ _ h => h) (by rfl) (v := ?v135) ?hy135 hHeld ?rest135
        case hy135 => (intro v hSw; obtain ⟨y0, y1⟩ := hSw; first | (go_simp; done) | (go_simp; with_reducible rfl))
        try simp only [Act.put, List.setIfInBounds_toArray, List.set_cons_zero, List.set_cons_succ]
        refine rgnTake 1 rfl (by kernel_rfl) (by kernel_rfl) (by kernel_rfl) (fun _ _ _ h => h) (by rfl) (v := ?v136) ?hy136 hHeld ?rest136
        case hy136 => (intro v hSw; obtain ⟨y0, y1⟩ := hSw; first | (go_simp; done) | (go_simp; with_reducible rfl))
        try simp only [Act.put, List.setIfInBounds_toArray, List.set_cons_zero, List.set_cons_succ]
        refine rgnTake 2 rfl (by kernel_rfl) (by kernel_rfl) (by kernel_rfl) (fun _ _ _ h => h) (by rfl) (v := ?v137) ?hy137 hHeld ?rest137
        case hy137 => (intro v hSw; obtain ⟨y0, y1⟩ := hSw; first | (go_simp; done) | (go_simp; with_reducible rfl))
        try simp only [Act.put, List.setIfInBounds_toArray, List.set_cons_zero, List.set_cons_succ]
        refine rgnTake 3 rfl (by kernel_rfl) (by kernel_rfl) (by kernel_rfl) (fun _ _ _ h => h) (by rfl) (v := ?v138) ?hy138 hHeld ?rest138
        case hy138 => (intro v hSw; obtain ⟨y0, y1⟩ := hSw; first | (go_simp; done) | (go_simp; with_reducible rfl))
        try simp only [Act.put, List.setIfInBounds_toArray, List.set_cons_zero, List.set_cons_succ]
        refine rgnTake 4 rfl (by kernel_rfl) (by kernel_rfl) (by kernel_rfl) (fun _ _ _ h => h) (by rfl) (v := ?v139) ?hy139 hHeld ?rest139
        case hy139 => (intro v hSw; obtain ⟨y0, y1⟩ := hSw; first | (go_simp; done) | (go_simp; with_reducible rfl))
        try simp only [Act.put, List.setIfInBounds_toArray, List.set_cons_zero, List.set_cons_succ]
        refine rgnTake 5 rfl (by kernel_rfl) (by kernel_rfl) (by kernel_rfl) (fun _ _ _ h => h) (by rfl) (v := ?v140) ?hy140 hHeld ?rest140
        case hy140 => (intro v hSw; obtain ⟨y0, y1⟩ := hSw; first | (go_simp; done) | (go_simp; with_reducible rfl))
        try simp only [Act.put, List.setIfInBounds_toArray, List.set_cons_zero, List.set_cons_succ]
        refine rgnTake 6 rfl (by kernel_rfl) (by kernel_rfl) (by kernel_rfl) (fun _ _ _ h => h) (by rfl) (v := ?v141) ?hy141 hHeld ?rest141
        case hy141 => (intro v hSw; obtain ⟨y0, y1⟩ := hSw; first | (go_simp; done) | (go_simp; with_reducible rfl))
        try simp only [Act.put, List.setIfInBounds_toArray, List.set_cons_zero, List.set_cons_succ]
        refine rgnTake 7 rfl (by kernel_rfl) (by kernel_rfl) (by kernel_rfl) (fun _ _ _ h => h) (by rfl) (v := ?v142) ?hy142 hHeld ?rest142
        case hy142 => (intro v hSw; obtain ⟨y0, y1⟩ := hSw; first | (go_simp; done) | (go_simp; with_reducible rfl))
        try simp only [Act.put, List.setIfInBounds_toArray, List.set_cons_zero, List.set_cons_succ]
        refine rgnTake 8 rfl (by kernel_rfl) (by kernel_rfl) (by kernel_rfl) (fun _ _ _ h => h) (by rfl) (v := ?v143) ?hy143 hHeld ?rest143
        case hy143 => (intro v hSw; obtain ⟨y0, y1⟩ := hSw; first | (go_simp; done) | (go_simp; with_reducible rfl))
        try simp only [Act.put, List.setIfInBounds_toArray, List.set_cons_zero, List.set_cons_succ]
        refine rgnTake 9 rfl (by kernel_rfl) (by kernel_rfl) (by kernel_rfl) (fun _ _ _ h => h) (by rfl) (v := ?v144) ?hy144 hHeld ?rest144
        case hy144 => (intro v hSw; obtain ⟨y0, y1⟩ := hSw; first | (go_simp; done) | (go_simp; with_reducible rfl))
        try simp only [Act.put, List.setIfInBounds_toArray, List.set_cons_zero, List.set_cons_succ]
        refine rgnTake 10 rfl (by kernel_rfl) (by kernel_rfl) (by kernel_rfl) (fun _ _ _ h => h) (by rfl) (v := ?v145) ?hy145 hHeld ?rest145
        case hy145 => (intro v hSw; obtain ⟨y0, y1⟩ := hSw; first | (go_simp; done) | (go_simp; with_reducible rfl))
        try simp only [Act.put, List.setIfInBounds_toArray, List.set_cons_zero, List.set_cons_succ]
        refine rgnTake 12 rfl (by kernel_rfl) (by kernel_rfl) (by kernel_rfl) (fun _ _ _ h => h) (by rfl) (v := ?v146) ?hy146 hHeld ?rest146
        case hy146 => (intro v hSw; obtain ⟨y0, y1⟩ := hSw; first | (go_simp; done) | (go_simp; with_reducible rfl))
        try simp only [Act.put, List.setIfInBounds_toArray, List.set_cons_zero, List.set_cons_succ]
        refine rgnTake 13 rfl (by kernel_rfl) (by kernel_rfl) (by kernel_rfl) (fun _ _ _ h => h) (by rfl) (v := ?v147) ?hy147 hHeld ?rest147
        case hy147 => (intro v hSw; obtain ⟨y0, y1⟩ := hSw; first | (go_simp; done) | (go_simp; with_reducible rfl))
        try simp only [Act.put, List.setIfInBounds_toArray, List.set_cons_zero, List.set_cons_succ]
        refine rgnTake 14 rfl (by kernel_rfl) (by kernel_rfl) (by kernel_rfl) (fun _ _ _ h => h) (by rfl) (v := ?v148) ?hy148 hHeld ?rest148
        case hy148 => (intro v hSw; obtain ⟨y0, y1⟩ := hSw; first | (go_simp; done) | (go_simp; with_reducible rfl))
        try simp only [Act.put, List.setIfInBounds_toArray, List.set_cons_zero, List.set_cons_succ]
        refine rgnTake 15 rfl (by kernel_rfl) (by kernel_rfl) (by kernel_rfl) (fun _ _ _ h => h) (by rfl) (v := ?v149) ?hy149 hHeld ?rest149
        case hy149 => (intro v hSw; obtain ⟨y0, y1⟩ := hSw; first | (go_simp; done) | (go_simp; with_reducible rfl))
        try simp only [Act.put, List.setIfInBounds_toArray, List.set_cons_zero, List.set_cons_succ]
        refine rgnTake 16 rfl (by kernel_rfl) (by kernel_rfl) (by kernel_rfl) (fun _ _ _ h => h) (by rfl) (v := ?v150) ?hy150 hHeld ?rest150
        case hy150 => (intro v hSw; obtain ⟨y0, y1⟩ := hSw; first | (go_simp; done) | (go_simp; with_reducible rfl))
        try simp only [Act.put, List.setIfInBounds_toArray, List.set_cons_zero, List.set_cons_succ]
        refine rgnTake 17 rfl (by kernel_rfl) (by kernel_rfl) (by kernel_rfl) (fun _ _ _ h => h) (by rfl) (v := ?v151) ?hy151 hHeld ?rest151
        case hy151 => (intro v hSw; obtain ⟨y0, y1⟩ := hSw; first | (go_simp; done) | (go_simp; with_reducible rfl))
        try simp only [Act.put, List.setIfInBounds_toArray, List.set_cons_zero, List.set_cons_succ]
        refine rgnTake 18 rfl (by kernel_rfl) (by kernel_rfl) (by kernel_rfl) (fun _ _ _ h => h) (by rfl) (v := ?v152) ?hy152 hHeld ?rest152
        case hy152 => (intro v hSw; obtain ⟨y0, y1⟩ := hSw; first | (go_simp; done) | (go_simp; with_reducible rfl))
        try simp only [Act.put, List.setIfInBounds_toArray, List.set_cons_zero, List.set_cons_succ]
        refine rgnOne 11 rfl (by kernel_rfl) (fun K hK => ?_)
        go_simp
        refine hK.out _ _ (hHeld) (fun hHeld => ?_)
        clear hK K
        try simp only [Act.put, List.setIfInBounds_toArray, List.set_cons_zero, List.set_cons_succ]
        clear p3
        refine rgnOne 19 rfl (by kernel_rfl) (fun K hK => ?_)
        refine step_append_run rfl (.tmp 70) (.tmp 77) 148 rfl _ _ rfl rfl _ _ (HR.out _) ?_
        refine hK.out _ _ ⟨M6.out.2.2.2, M6.out.2.2.1⟩ (fun hHeld => ?_)
        clear hK K
        simp only [Act.put, List.setIfInBounds_toArray, List.set_cons_zero, List.set_cons_succ]
        refine rgnTake 20 rfl (by kernel_rfl) (by kernel_rfl) (by kernel_rfl) (fun _ _ _ h => h) (by rfl) (v := ?v153) ?hy153 hHeld ?rest153
        case hy153 => (intro v hSw; obtain ⟨y0, y1⟩ := hSw; first | (go_simp; done) | (go_simp; with_reducible rfl))
        try simp only [Act.put, List.setIfInBounds_toArray, List.set_cons_zero, List.set_cons_succ]
        have m2 := M6.out.1
        have m3 := M6.out.2.1
        refine rgnOne 21 rfl (by kernel_rfl) (fun K hK => ?_)
        go_simp
        refine hK.out _ _ ((H6.out _)) (fun hHeld => ?_)
        clear hK K
        try simp only [Act.put, List.setIfInBounds_toArray, List.set_cons_zero, List.set_cons_succ]
        refine wpAnyH_done (by kernel_rfl) ?_ _
        rw [← HW5.out]
        clear m2 m3 hHeld
        go_wp2_with (first | (go_at_call 88; refine RL.out.mono ?_; rintro r w6 ⟨rfl, E6, fv6, V6, A6, C6⟩; obtain ⟨⟨u6, k6⟩, z6, le6, q36, f8⟩ := AF.out w6 E6 fv6 V6 A6 C6; have LE6 := Lib.hid le6; have F8 := Lib.hid f8; have HA6 := Lib.hid A6; have HC6 := Lib.hid C6; clear V6 A6 C6 le6 f8) | (go_at_call 93; refine LE6.out.mono ?_; rintro r w6 ⟨rfl, h6⟩; subst h6) | (go_at_call 86; refine (F8.out _ rfl).1.mono ?_; rintro r w9 ⟨rfl, h9⟩; obtain ⟨g9, N9, c9, A9, cz, e90, p9, e91⟩ := G9.out _ _ _ h9; have H9 := Lib.hid h9; clear h9))
        refine bodyPost_end (results_none rfl _ _ _) rfl ⟨rfl, ?_⟩
        rw [HUN.out z4]
        exact LV.out _ _ _ _ _ HA6.out HC6.out (F8.out _ rfl).2.1 H9.out
      · have a2 : ¬ (0 : Int) ≤ (a : Int) - 1 := by omega
        have a3 : (a : Int) - 1 < 0 := by omega
        go_wp2_with fail
        have e : Value.int .i64 (0 : Int) = Value.int .i64 (f : Int) := by have := HFA.out; congr 1; omega
        rw [e]
        clear e
        rw [← HW2.out]
        refine wp_region_held_drew (S := (fun w' => w'.cell? ⟨b, o + f * 2 + 1, none⟩ = some (.int .i64 P') ∧ w'.cell? ⟨b, o + (f + 1) * 2 + 1, none⟩ = some (.int .i64 O'))) (by kernel_rfl) (M.out) (fun hHeld => ?_)
        refine rgnTake 0 rfl (by kernel_rfl) (by kernel_rfl) (by kernel_rfl) (fun _ _ _ h => h) (by rfl) (v := ?v154) ?hy154 hHeld ?rest154
        case hy154 => (intro v hSw; obtain ⟨y0, y1⟩ := hSw; first | (go_simp; done) | (go_simp; with_reducible rfl))
        try simp only [Act.put, List.setIfInBounds_toArray, List.set_cons_zero, List.set_cons_succ]
        refine rgnTake 1 rfl (by kernel_rfl) (by kernel_rfl) (by kernel_rfl) (fun _ _ _ h => h) (by rfl) (v := ?v155) ?hy155 hHeld ?rest155
        case hy155 => (intro v hSw; obtain ⟨y0, y1⟩ := hSw; first | (go_simp; done) | (go_simp; with_reducible rfl))
        try simp only [Act.put, List.setIfInBounds_toArray, List.set_cons_zero, List.set_cons_succ]
        refine rgnTake 2 rfl (by kernel_rfl) (by kernel_rfl) (by kernel_rfl) (fun _ _ _ h => h) (by rfl) (v := ?v156) ?hy156 hHeld ?rest156
        case hy156 => (intro v hSw; obtain ⟨y0, y1⟩ := hSw; first | (go_simp; done) | (go_simp; with_reducible rfl))
        try simp only [Act.put, List.setIfInBounds_toArray, List.set_cons_zero, List.set_cons_succ]
        refine rgnTake 3 rfl (by kernel_rfl) (by kernel_rfl) (by kernel_rfl) (fun _ _ _ h => h) (by rfl) (v := ?v157) ?hy157 hHeld ?rest157
        case hy157 => (intro v hSw; obtain ⟨y0, y1⟩ := hSw; first | (go_simp; done) | (go_simp; with_reducible rfl))
        try simp only [Act.put, List.setIfInBounds_toArray, List.set_cons_zero, List.set_cons_succ]
        refine rgnTake 4 rfl (by kernel_rfl) (by kernel_rfl) (by kernel_rfl) (fun _ _ _ h => h) (by rfl) (v := ?v158) ?hy158 hHeld ?rest158
        case hy158 => (intro v hSw; obtain ⟨y0, y1⟩ := hSw; first | (go_simp; done) | (go_simp; with_reducible rfl))
        try simp only [Act.put, List.setIfInBounds_toArray, List.set_cons_zero, List.set_cons_succ]
        refine rgnTake 5 rfl (by kernel_rfl) (by kernel_rfl) (by kernel_rfl) (fun _ _ _ h => h) (by rfl) (v := ?v159) ?hy159 hHeld ?rest159
        case hy159 => (intro v hSw; obtain ⟨y0, y1⟩ := hSw; first | (go_simp; done) | (go_simp; with_reducible rfl))
        try simp only [Act.put, List.setIfInBounds_toArray, List.set_cons_zero, List.set_cons_succ]
        refine rgnTake 6 rfl (by kernel_rfl) (by kernel_rfl) (by kernel_rfl) (fun _ _ _ h => h) (by rfl) (v := ?v160) ?hy160 hHeld ?rest160
        case hy160 => (intro v hSw; obtain ⟨y0, y1⟩ := hSw; first | (go_simp; done) | (go_simp; with_reducible rfl))
        try simp only [Act.put, List.setIfInBounds_toArray, List.set_cons_zero, List.set_cons_succ]
        refine rgnTake 7 rfl (by kernel_rfl) (by kernel_rfl) (by kernel_rfl) (fun _ _ _ h => h) (by rfl) (v := ?v161) ?hy161 hHeld ?rest161
        case hy161 => (intro v hSw; obtain ⟨y0, y1⟩ := hSw; first | (go_simp; done) | (go_simp; with_reducible rfl))
        try simp only [Act.put, List.setIfInBounds_toArray, List.set_cons_zero, List.set_cons_succ]
        refine rgnTake 8 rfl (by kernel_rfl) (by kernel_rfl) (by kernel_rfl) (fun _ _ _ h => h) (by rfl) (v := ?v162) ?hy162 hHeld ?rest162
        case hy162 => (intro v hSw; obtain ⟨y0, y1⟩ := hSw; first | (go_simp; done) | (go_simp; with_reducible rfl))
        try simp only [Act.put, List.setIfInBounds_toArray, List.set_cons_zero, List.set_cons_succ]
        refine rgnTake 9 rfl (by kernel_rfl) (by kernel_rfl) (by kernel_rfl) (fun _ _ _ h => h) (by rfl) (v := ?v163) ?hy163 hHeld ?rest163
        case hy163 => (intro v hSw; obtain ⟨y0, y1⟩ := hSw; first | (go_simp; done) | (go_simp; with_reducible rfl))
        try simp only [Act.put, List.setIfInBounds_toArray, List.set_cons_zero, List.set_cons_succ]
        refine rgnTake 10 rfl (by kernel_rfl) (by kernel_rfl) (by kernel_rfl) (fun _ _ _ h => h) (by rfl) (v := ?v164) ?hy164 hHeld ?rest164
        case hy164 => (intro v hSw; obtain ⟨y0, y1⟩ := hSw; first | (go_simp; done) | (go_simp; with_reducible rfl))
        try simp only [Act.put, List.setIfInBounds_toArray, List.set_cons_zero, List.set_cons_succ]
        refine rgnTake 11 rfl (by kernel_rfl) (by kernel_rfl) (by kernel_rfl) (fun _ _ _ h => h) (by rfl) (v := ?v165) ?hy165 hHeld ?rest165
        case hy165 => (intro v hSw; obtain ⟨y0, y1⟩ := hSw; first | (go_simp; done) | (go_simp; with_reducible rfl))
        try simp only [Act.put, List.setIfInBounds_toArray, List.set_cons_zero, List.set_cons_succ]
        refine rgnTake 12 rfl (by kernel_rfl) (by kernel_rfl) (by kernel_rfl) (fun _ _ _ h => h) (by rfl) (v := ?v166) ?hy166 hHeld ?rest166
        case hy166 => (intro v hSw; obtain ⟨y0, y1⟩ := hSw; first | (go_simp; done) | (go_simp; with_reducible rfl))
        try simp only [Act.put, List.setIfInBounds_toArray, List.set_cons_zero, List.set_cons_succ]
        refine wpAnyH_done (by kernel_rfl) ?_ _
        clear hHeld
        go_wp2_with fail
        refine wp_region_held_drew (S := (fun w' => w'.cell? ⟨T, 0, none⟩ = some (.slice (some ⟨g, 0, none⟩) N c) ∧ w'.cell? ⟨g, O', none⟩ = some (.slice (some ⟨bO, oO, none⟩) zO cO))) (by kernel_rfl) (N6.out) (fun hHeld => ?_)
        rw [← HW3.out] at hHeld ⊢
        have p3 := P3.out
        refine rgnTake 0 rfl (by kernel_rfl) (by kernel_rfl) (by kernel_rfl) (fun _ _ _ h => h) (by rfl) (v := ?v167) ?hy167 hHeld ?rest167
        case hy167 => (intro v hSw; obtain ⟨y0, y1⟩ := hSw; first | (go_simp; done) | (go_simp; with_reducible rfl))
        try simp only [Act.put, List.setIfInBounds_toArray, List.set_cons_zero, List.set_cons_succ]
        refine rgnTake 1 rfl (by kernel_rfl) (by kernel_rfl) (by kernel_rfl) (fun _ _ _ h => h) (by rfl) (v := ?v168) ?hy168 hHeld ?rest168
        case hy168 => (intro v hSw; obtain ⟨y0, y1⟩ := hSw; first | (go_simp; done) | (go_simp; with_reducible rfl))
        try simp only [Act.put, List.setIfInBounds_toArray, List.set_cons_zero, List.set_cons_succ]
        refine rgnTake 2 rfl (by kernel_rfl) (by kernel_rfl) (by kernel_rfl) (fun _ _ _ h => h) (by rfl) (v := ?v169) ?hy169 hHeld ?rest169
        case hy169 => (intro v hSw; obtain ⟨y0, y1⟩ := hSw; first | (go_simp; done) | (go_simp; with_reducible rfl))
        try simp only [Act.put, List.setIfInBounds_toArray, List.set_cons_zero, List.set_cons_succ]
        refine rgnTake 3 rfl (by kernel_rfl) (by kernel_rfl) (by kernel_rfl) (fun _ _ _ h => h) (by rfl) (v := ?v170) ?hy170 hHeld ?rest170
        case hy170 => (intro v hSw; obtain ⟨y0, y1⟩ := hSw; first | (go_simp; done) | (go_simp; with_reducible rfl))
        try simp only [Act.put, List.setIfInBounds_toArray, List.set_cons_zero, List.set_cons_succ]
        refine rgnTake 4 rfl (by kernel_rfl) (by kernel_rfl) (by kernel_rfl) (fun _ _ _ h => h) (by rfl) (v := ?v171) ?hy171 hHeld ?rest171
        case hy171 => (intro v hSw; obtain ⟨y0, y1⟩ := hSw; first | (go_simp; done) | (go_simp; with_reducible rfl))
        try simp only [Act.put, List.setIfInBounds_toArray, List.set_cons_zero, List.set_cons_succ]
        refine rgnTake 5 rfl (by kernel_rfl) (by kernel_rfl) (by kernel_rfl) (fun _ _ _ h => h) (by rfl) (v := ?v172) ?hy172 hHeld ?rest172
        case hy172 => (intro v hSw; obtain ⟨y0, y1⟩ := hSw; first | (go_simp; done) | (go_simp; with_reducible rfl))
        try simp only [Act.put, List.setIfInBounds_toArray, List.set_cons_zero, List.set_cons_succ]
        refine rgnTake 6 rfl (by kernel_rfl) (by kernel_rfl) (by kernel_rfl) (fun _ _ _ h => h) (by rfl) (v := ?v173) ?hy173 hHeld ?rest173
        case hy173 => (intro v hSw; obtain ⟨y0, y1⟩ := hSw; first | (go_simp; done) | (go_simp; with_reducible rfl))
        try simp only [Act.put, List.setIfInBounds_toArray, List.set_cons_zero, List.set_cons_succ]
        refine rgnTake 7 rfl (by kernel_rfl) (by kernel_rfl) (by kernel_rfl) (fun _ _ _ h => h) (by rfl) (v := ?v174) ?hy174 hHeld ?rest174
        case hy174 => (intro v hSw; obtain ⟨y0, y1⟩ := hSw; first | (go_simp; done) | (go_simp; with_reducible rfl))
        try simp only [Act.put, List.setIfInBounds_toArray, List.set_cons_zero, List.set_cons_succ]
        refine rgnTake 8 rfl (by kernel_rfl) (by kernel_rfl) (by kernel_rfl) (fun _ _ _ h => h) (by rfl) (v := ?v175) ?hy175 hHeld ?rest175
        case hy175 => (intro v hSw; obtain ⟨y0, y1⟩ := hSw; first | (go_simp; done) | (go_simp; with_reducible rfl))
        try simp only [Act.put, List.setIfInBounds_toArray, List.set_cons_zero, List.set_cons_succ]
        refine rgnTake 9 rfl (by kernel_rfl) (by kernel_rfl) (by kernel_rfl) (fun _ _ _ h => h) (by rfl) (v := ?v176) ?hy176 hHeld ?rest176
        case hy176 => (intro v hSw; obtain ⟨y0, y1⟩ := hSw; first | (go_simp; done) | (go_simp; with_reducible rfl))
        try simp only [Act.put, List.setIfInBounds_toArray, List.set_cons_zero, List.set_cons_succ]
        refine rgnTake 10 rfl (by kernel_rfl) (by kernel_rfl) (by kernel_rfl) (fun _ _ _ h => h) (by rfl) (v := ?v177) ?hy177 hHeld ?rest177
        case hy177 => (intro v hSw; obtain ⟨y0, y1⟩ := hSw; first | (go_simp; done) | (go_simp; with_reducible rfl))
        try simp only [Act.put, List.setIfInBounds_toArray, List.set_cons_zero, List.set_cons_succ]
        refine rgnTake 12 rfl (by kernel_rfl) (by kernel_rfl) (by kernel_rfl) (fun _ _ _ h => h) (by rfl) (v := ?v178) ?hy178 hHeld ?rest178
        case hy178 => (intro v hSw; obtain ⟨y0, y1⟩ := hSw; first | (go_simp; done) | (go_simp; with_reducible rfl))
        try simp only [Act.put, List.setIfInBounds_toArray, List.set_cons_zero, List.set_cons_succ]
        refine rgnTake 13 rfl (by kernel_rfl) (by kernel_rfl) (by kernel_rfl) (fun _ _ _ h => h) (by rfl) (v := ?v179) ?hy179 hHeld ?rest179
        case hy179 => (intro v hSw; obtain ⟨y0, y1⟩ := hSw; first | (go_simp; done) | (go_simp; with_reducible rfl))
        try simp only [Act.put, List.setIfInBounds_toArray, List.set_cons_zero, List.set_cons_succ]
        refine rgnTake 14 rfl (by kernel_rfl) (by kernel_rfl) (by kernel_rfl) (fun _ _ _ h => h) (by rfl) (v := ?v180) ?hy180 hHeld ?rest180
        case hy180 => (intro v hSw; obtain ⟨y0, y1⟩ := hSw; first | (go_simp; done) | (go_simp; with_reducible rfl))
        try simp only [Act.put, List.setIfInBounds_toArray, List.set_cons_zero, List.set_cons_succ]
        refine rgnTake 15 rfl (by kernel_rfl) (by kernel_rfl) (by kernel_rfl) (fun _ _ _ h => h) (by rfl) (v := ?v181) ?hy181 hHeld ?rest181
        case hy181 => (intro v hSw; obtain ⟨y0, y1⟩ := hSw; first | (go_simp; done) | (go_simp; with_reducible rfl))
        try simp only [Act.put, List.setIfInBounds_toArray, List.set_cons_zero, List.set_cons_succ]
        refine rgnTake 16 rfl (by kernel_rfl) (by kernel_rfl) (by kernel_rfl) (fun _ _ _ h => h) (by rfl) (v := ?v182) ?hy182 hHeld ?rest182
        case hy182 => (intro v hSw; obtain ⟨y0, y1⟩ := hSw; first | (go_simp; done) | (go_simp; with_reducible rfl))
        try simp only [Act.put, List.setIfInBounds_toArray, List.set_cons_zero, List.set_cons_succ]
        refine rgnTake 17 rfl (by kernel_rfl) (by kernel_rfl) (by kernel_rfl) (fun _ _ _ h => h) (by rfl) (v := ?v183) ?hy183 hHeld ?rest183
        case hy183 => (intro v hSw; obtain ⟨y0, y1⟩ := hSw; first | (go_simp; done) | (go_simp; with_reducible rfl))
        try simp only [Act.put, List.setIfInBounds_toArray, List.set_cons_zero, List.set_cons_succ]
        refine rgnTake 18 rfl (by kernel_rfl) (by kernel_rfl) (by kernel_rfl) (fun _ _ _ h => h) (by rfl) (v := ?v184) ?hy184 hHeld ?rest184
        case hy184 => (intro v hSw; obtain ⟨y0, y1⟩ := hSw; first | (go_simp; done) | (go_simp; with_reducible rfl))
        try simp only [Act.put, List.setIfInBounds_toArray, List.set_cons_zero, List.set_cons_succ]
        refine rgnOne 11 rfl (by kernel_rfl) (fun K hK => ?_)
        go_simp
        refine hK.out _ _ (hHeld) (fun hHeld => ?_)
        clear hK K
        try simp only [Act.put, List.setIfInBounds_toArray, List.set_cons_zero, List.set_cons_succ]
        clear p3
        refine rgnOne 19 rfl (by kernel_rfl) (fun K hK => ?_)
        refine step_append_run rfl (.tmp 70) (.tmp 77) 148 rfl _ _ rfl rfl _ _ (HR.out _) ?_
        refine hK.out _ _ ⟨M6.out.2.2.2, M6.out.2.2.1⟩ (fun hHeld => ?_)
        clear hK K
        simp only [Act.put, List.setIfInBounds_toArray, List.set_cons_zero, List.set_cons_succ]
        refine rgnTake 20 rfl (by kernel_rfl) (by kernel_rfl) (by kernel_rfl) (fun _ _ _ h => h) (by rfl) (v := ?v185) ?hy185 hHeld ?rest185
        case hy185 => (intro v hSw; obtain ⟨y0, y1⟩ := hSw; first | (go_simp; done) | (go_simp; with_reducible rfl))
        try simp only [Act.put, List.setIfInBounds_toArray, List.set_cons_zero, List.set_cons_succ]
        have m2 := M6.out.1
        have m3 := M6.out.2.1
        refine rgnOne 21 rfl (by kernel_rfl) (fun K hK => ?_)
        go_simp
        refine hK.out _ _ ((H6.out _)) (fun hHeld => ?_)
        clear hK K
        try simp only [Act.put, List.setIfInBounds_toArray, List.set_cons_zero, List.set_cons_succ]
        refine wpAnyH_done (by kernel_rfl) ?_ _
        rw [← HW5.out]
        clear m2 m3 hHeld
        go_wp2_with (first | (go_at_call 88; refine RL.out.mono ?_; rintro r w6 ⟨rfl, E6, fv6, V6, A6, C6⟩; obtain ⟨⟨u6, k6⟩, z6, le6, q36, f8⟩ := AF.out w6 E6 fv6 V6 A6 C6; have LE6 := Lib.hid le6; have F8 := Lib.hid f8; have HA6 := Lib.hid A6; have HC6 := Lib.hid C6; clear V6 A6 C6 le6 f8) | (go_at_call 93; refine LE6.out.mono ?_; rintro r w6 ⟨rfl, h6⟩; subst h6) | (go_at_call 86; refine (F8.out _ rfl).1.mono ?_; rintro r w9 ⟨rfl, h9⟩; obtain ⟨g9, N9, c9, A9, cz, e90, p9, e91⟩ := G9.out _ _ _ h9; have H9 := Lib.hid h9; clear h9))
        refine bodyPost_end (results_none rfl _ _ _) rfl ⟨rfl, ?_⟩
        rw [HUN.out z4]
        exact LV.out _ _ _ _ _ HA6.out HC6.out (F8.out _ rfl).2.1 H9.out

end Go.Proofs.Ytbfgpdgiaclphaa
