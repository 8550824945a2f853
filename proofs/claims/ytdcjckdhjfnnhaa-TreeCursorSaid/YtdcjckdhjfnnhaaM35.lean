/- Proved parts: T9be. Conditions: each theorem's own. -/
import Derived.Test.YtdcjckdhjfnnhaaM34
import Derived.Test.YtdcjckdhjfnnhaaM32
namespace Go.Proofs.Ytdcjckdhjfnnhaa
open Go.RowKit

/-- a node's value and items, in whatever world nothing of the tree has turned -/
theorem TabV.nodeIn {w : World} {T : Nat} {E : Nat → Prop} {s : Tab} {rv fv : Value} {vs : List Value} (h : TabV w T E s rv fv vs) {p : Nat} (hp : p < s.nds.length) (h0 : 0 < (s.nd p).length) :
    ∃ N g c b o cp, p < N ∧ ∀ w', Below w.heap.size w w' → w'.cell? ⟨T, 0, none⟩ = some (.slice (some ⟨g, 0, none⟩) N c) ∧ w'.cell? ⟨g, p, none⟩ = some (.slice (some ⟨b, o, none⟩) (s.nd p).length cp) ∧ NodeAt w' (.slice (some ⟨b, o, none⟩) (s.nd p).length cp) (s.nd p) ∧
      ∀ j, j < (s.nd p).length → w'.cell? ⟨b, o + j * 2, none⟩ = some (.string ((s.nd p).key j)) ∧ w'.cell? ⟨b, o + j * 2 + 1, none⟩ = some (.int .i64 ((s.nd p).num j)) := by
  have hp' : p < vs.length := by rw [h.len]; exact hp
  obtain ⟨g, c, hrv, _, _, _⟩ := h.rowAt (by omega)
  obtain ⟨b, o, cp, ev, _⟩ := h.win hp' h0
  refine ⟨vs.length, g, c, b, o, cp, hp', fun w' hb => ?_⟩
  have h' := h.below hb
  have hn := h'.node p hp'
  rw [ev] at hn
  refine ⟨by rw [← hrv]; exact h'.row.cell 0, by rw [← ev]; exact (h'.eq_win hrv hp').1, hn, fun j hj => ?_⟩
  rcases hn with ⟨e, _⟩ | ⟨b', o', c', e, k⟩
  · cases e
  · injection e with e1 _ e3
    injection e1 with e1
    injection e1 with e1 e4 _
    subst e1; subst e4
    exact k.cells j hj

set_option maxHeartbeats 2000000 in
set_option maxRecDepth 100000 in
/-- Before, in a tree with keys -/
theorem xBeforeW (w : World) (T : Nat) (E : Nat → Prop) (s : Tab) (L : Nat → List Nat) (l : KV) (k : ByteArray) (h : TabG w T E s) (m : Whole s L l) (h0 : RiseL l) (hd : s.depth ≤ 1000) (hs : ∀ x, x ∈ l → x.1.size ≤ 1000000) :
    Calls Try.prog 18 #[Ptr T, .string k] w fun x w' => x = .returned (.tuple #[.string (if 0 < l.pos k then l.key (l.pos k - 1) else ⟨#[]⟩), .int .i64 (if 0 < l.pos k then l.num (l.pos k - 1) else 0), .bool (decide (0 < l.pos k))]) ∧ Below w.heap.size w w' := by
  obtain ⟨rv, fv, vs, h⟩ := h
  obtain ⟨d, hdd⟩ : ∃ d, s.depth = d + 1 := ⟨s.depth - 1, by have := m.d1; omega⟩
  have rm : s.root ∈ L d := by rw [show d = s.depth - 1 by omega, m.top]; simp
  have rz := m.pos (by omega) rm
  obtain ⟨N, g, c, b, o, cp, pN, hcc⟩ := h.nodeIn (m.lt _ _ (by omega) rm) (by omega)
  obtain ⟨e0, e1, _, e3⟩ := hcc w (Below.refl _ _)
  obtain ⟨e4, _⟩ := e3 0 (by omega)
  rw [Nat.zero_mul, Nat.add_zero] at e4
  have e5 : w.cell? ⟨T, 2, none⟩ = some (.int .i64 s.root) := h.row.cell 2
  have e6 : w.cell? ⟨T, 3, none⟩ = some (.int .i64 ((d : Int) + 1)) := by have := h.row.cell 3; rw [hdd] at this; exact this
  obtain ⟨R, hR⟩ : ∃ R, R = s.root := ⟨_, rfl⟩
  obtain ⟨Z, hZ⟩ : ∃ Z, Z = (s.nd s.root).length := ⟨_, rfl⟩
  obtain ⟨K0, hK0⟩ : ∃ K0, K0 = (s.nd s.root).key 0 := ⟨_, rfl⟩
  have z1 : 1 ≤ Z := by omega
  have z1z : (0 : Int) < (Z : Int) := by omega
  rw [← hZ, ← hR] at e1
  rw [← hK0] at e4
  rw [← hR] at e5 pN
  have dn : ¬ ((d : Int) + 1 = 0) := by omega
  have dB : d ≤ 1000 := by omega
  have wd : IntKind.i64.wrap (d : Int) = (d : Int) := by rw [IntKind.wrap_i64]; omega
  have d9 : (d : Int) + 1 - 1 = (d : Int) := by omega
  have dn' : ((d : Int) + 1 == 0) = false := by simp; omega
  have H := Lib.hid h
  have HM := Lib.hid m
  have HK0 := Lib.hid hK0
  have HR := Lib.hid hR
  have HZ := Lib.hid hZ
  have HD := Lib.hid hdd
  have HS := Lib.hid hs
  have H0 := Lib.hid h0
  have HCC := Lib.hid hcc
  clear h m hK0 hR hZ hdd hs h0 hcc e3 rm rz
  by_cases q : ltB K0 k = true
  · have qq := q
    unfold ltB at qq
    have Q := Lib.hid q
    clear q
    have lp : 0 < l.pos k := by
      have mm := HM.out
      have rm : s.root ∈ L (s.depth - 1) := by rw [mm.top]; simp
      obtain ⟨u1, u2⟩ := mm.sub_head (s.depth - 1) s.root (by have := mm.d1; omega) rm
      rw [mm.sub_root] at u1 u2
      exact pos_pos (by rw [u2, ← HK0.out]; exact Q.out) u1
    rw [if_pos lp, if_pos lp, decide_eq_true lp]
    obtain ⟨X0, hX0⟩ : ∃ X0, X0 = l.key (l.pos k - 1) := ⟨_, rfl⟩
    obtain ⟨X1, hX1⟩ : ∃ X1, X1 = l.num (l.pos k - 1) := ⟨_, rfl⟩
    rw [← hX0, ← hX1]
    have HX0 := Lib.hid hX0
    have HX1 := Lib.hid hX1
    clear lp hX0 hX1
    go_enter Try.func18, Try.ntmps18
    go_wp2_with fail
    refine wp_region_held_drew (S := (fun w' => w'.cell? ⟨T, 0, none⟩ = some (.slice (some ⟨g, 0, none⟩) N c) ∧ w'.cell? ⟨g, R, none⟩ = some (.slice (some ⟨b, o, none⟩) Z cp) ∧ w'.cell? ⟨T, 2, none⟩ = some (.int .i64 R))) (by kernel_rfl) (⟨e0, e1, e5⟩) (fun hHeld => ?_)
    refine rgnTake 0 rfl (by kernel_rfl) (by kernel_rfl) (by kernel_rfl) (fun _ _ _ h => h) (by rfl) (v := ?v1) ?hy1 hHeld ?rest1
    case hy1 => (intro v hSw; obtain ⟨y0, y1, y2⟩ := hSw; first | (go_simp; done) | (go_simp; with_reducible rfl))
    try simp only [Act.put, List.setIfInBounds_toArray, List.set_cons_zero, List.set_cons_succ]
    refine rgnTake 1 rfl (by kernel_rfl) (by kernel_rfl) (by kernel_rfl) (fun _ _ _ h => h) (by rfl) (v := ?v2) ?hy2 hHeld ?rest2
    case hy2 => (intro v hSw; obtain ⟨y0, y1, y2⟩ := hSw; first | (go_simp; done) | (go_simp; with_reducible rfl))
    try simp only [Act.put, List.setIfInBounds_toArray, List.set_cons_zero, List.set_cons_succ]
    refine rgnTake 2 rfl (by kernel_rfl) (by kernel_rfl) (by kernel_rfl) (fun _ _ _ h => h) (by rfl) (v := ?v3) ?hy3 hHeld ?rest3
    case hy3 => (intro v hSw; obtain ⟨y0, y1, y2⟩ := hSw; first | (go_simp; done) | (go_simp; with_reducible rfl))
    try simp only [Act.put, List.setIfInBounds_toArray, List.set_cons_zero, List.set_cons_succ]
    refine rgnTake 3 rfl (by kernel_rfl) (by kernel_rfl) (by kernel_rfl) (fun _ _ _ h => h) (by rfl) (v := ?v4) ?hy4 hHeld ?rest4
    case hy4 => (intro v hSw; obtain ⟨y0, y1, y2⟩ := hSw; first | (go_simp; done) | (go_simp; with_reducible rfl))
    try simp only [Act.put, List.setIfInBounds_toArray, List.set_cons_zero, List.set_cons_succ]
    refine rgnTake 4 rfl (by kernel_rfl) (by kernel_rfl) (by kernel_rfl) (fun _ _ _ h => h) (by rfl) (v := ?v5) ?hy5 hHeld ?rest5
    case hy5 => (intro v hSw; obtain ⟨y0, y1, y2⟩ := hSw; first | (go_simp; done) | (go_simp; with_reducible rfl))
    try simp only [Act.put, List.setIfInBounds_toArray, List.set_cons_zero, List.set_cons_succ]
    refine rgnTake 5 rfl (by kernel_rfl) (by kernel_rfl) (by kernel_rfl) (fun _ _ _ h => h) (by rfl) (v := ?v6) ?hy6 hHeld ?rest6
    case hy6 => (intro v hSw; obtain ⟨y0, y1, y2⟩ := hSw; first | (go_simp; done) | (go_simp; with_reducible rfl))
    try simp only [Act.put, List.setIfInBounds_toArray, List.set_cons_zero, List.set_cons_succ]
    refine rgnTake 6 rfl (by kernel_rfl) (by kernel_rfl) (by kernel_rfl) (fun _ _ _ h => h) (by rfl) (v := ?v7) ?hy7 hHeld ?rest7
    case hy7 => (intro v hSw; obtain ⟨y0, y1, y2⟩ := hSw; first | (go_simp; done) | (go_simp; with_reducible rfl))
    try simp only [Act.put, List.setIfInBounds_toArray, List.set_cons_zero, List.set_cons_succ]
    refine rgnTake 7 rfl (by kernel_rfl) (by kernel_rfl) (by kernel_rfl) (fun _ _ _ h => h) (by rfl) (v := ?v8) ?hy8 hHeld ?rest8
    case hy8 => (intro v hSw; obtain ⟨y0, y1, y2⟩ := hSw; first | (go_simp; done) | (go_simp; with_reducible rfl))
    try simp only [Act.put, List.setIfInBounds_toArray, List.set_cons_zero, List.set_cons_succ]
    refine rgnTake 8 rfl (by kernel_rfl) (by kernel_rfl) (by kernel_rfl) (fun _ _ _ h => h) (by rfl) (v := ?v9) ?hy9 hHeld ?rest9
    case hy9 => (intro v hSw; obtain ⟨y0, y1, y2⟩ := hSw; first | (go_simp; done) | (go_simp; with_reducible rfl))
    try simp only [Act.put, List.setIfInBounds_toArray, List.set_cons_zero, List.set_cons_succ]
    refine rgnTake 9 rfl (by kernel_rfl) (by kernel_rfl) (by kernel_rfl) (fun _ _ _ h => h) (by rfl) (v := ?v10) ?hy10 hHeld ?rest10
    case hy10 => (intro v hSw; obtain ⟨y0, y1, y2⟩ := hSw; first | (go_simp; done) | (go_simp; with_reducible rfl))
    try simp only [Act.put, List.setIfInBounds_toArray, List.set_cons_zero, List.set_cons_succ]
    refine rgnTake 10 rfl (by kernel_rfl) (by kernel_rfl) (by kernel_rfl) (fun _ _ _ h => h) (by rfl) (v := ?v11) ?hy11 hHeld ?rest11
    case hy11 => (intro v hSw; obtain ⟨y0, y1, y2⟩ := hSw; first | (go_simp; done) | (go_simp; with_reducible rfl))
    try simp only [Act.put, List.setIfInBounds_toArray, List.set_cons_zero, List.set_cons_succ]
    refine wpAnyH_done (by kernel_rfl) ?_ _
    go_wp2_with fail
    have WN := Lib.hid (show NodeAt w (.slice (some ⟨b, o, none⟩) Z cp) (s.nd R) by have := (HCC.out w (Below.refl _ _)).2.2.1; rw [← HZ.out, ← HR.out] at this; exact this)
    have ZR := Lib.hid (show Z = (s.nd R).length by rw [HR.out]; exact HZ.out)
    have B0 := Lib.hid (show Bef s L k d R by
      have := Bef.root HM.out (k := k) (by rw [← HK0.out]; exact Q.out)
      rw [HR.out, show d = s.depth - 1 by have := HD.out; omega]; exact this)
    clear hHeld e0 e1 e4 e5 e6
    go_loopw [7, 38] (fun vl vi wr => ∃ (i p : Nat) (b1 o1 c1 z1 : Nat), i ≤ d ∧ vi = .int .i64 i ∧ vl = .slice (some ⟨b1, o1, none⟩) z1 c1 ∧ Hid (z1 = (s.nd p).length) ∧ Hid (Bef s L k (d - i) p) ∧ Hid (∀ w', Below w.heap.size w w' → NodeAt w' (.slice (some ⟨b1, o1, none⟩) z1 c1) (s.nd p) ∧ ∀ j, j < z1 → w'.cell? ⟨b1, o1 + j * 2, none⟩ = some (.string ((s.nd p).key j)) ∧ w'.cell? ⟨b1, o1 + j * 2 + 1, none⟩ = some (.int .i64 ((s.nd p).num j))) ∧ Hid (Below w.heap.size w wr)) (fun _ vi _ => d - (intOf vi).toNat)
    case atStart =>
      refine ⟨0, R, b, o, cp, Z, Nat.zero_le _, rfl, rfl, ZR, B0, Lib.hid (fun w' hb => ?_), Lib.hid (Below.refl _ _).drew⟩
      obtain ⟨_, _, a1, a2⟩ := HCC.out w' hb
      rw [← HZ.out, ← HR.out] at a1
      rw [← HZ.out, ← HR.out] at a2
      exact ⟨a1, a2⟩
    case round =>
      obtain ⟨i, p, b1, o1, c1, z1, hid', rfl, rfl, HZ1, HB1, HN1, HW1⟩ := hrel
      by_cases q2 : i < d
      · obtain ⟨j, hj⟩ : ∃ j, d - i = j + 1 := ⟨d - i - 1, by omega⟩
        have hB1 := HB1.out
        rw [hj] at hB1
        have mm := HM.out
        obtain ⟨p0, qn, hqn, hql, hBq⟩ := hB1.down mm H0.out (by have := HD.out; omega)
        obtain ⟨P', hP'⟩ : ∃ P', (s.nd p).pos k = P' + 1 := ⟨(s.nd p).pos k - 1, by omega⟩
        have pz := mm.pos (by have := HD.out; omega) hBq.mem
        obtain ⟨N2, g2, c2, b2, o2, cp2, pN2, hcc2⟩ := H.out.nodeIn hql (by omega)
        obtain ⟨f0, f1, _, _⟩ := hcc2 wr HW1.out
        have plz := KV.pos_le k (s.nd p)
        have hz1 := HZ1.out
        have pz1 : P' < z1 := by omega
        have f2 := ((HN1.out wr HW1.out).2 P' pz1).2
        rw [hP', Nat.add_sub_cancel] at hqn
        rw [hqn] at f2
        have zq := mm.pos (by have := HD.out; omega) hB1.mem
        have BC := Lib.hid (xBelow wr.drew (.slice (some ⟨b1, o1, none⟩) z1 c1) (s.nd p) k (HN1.out wr.drew HW1.out.drew).1 (by omega))
        rw [hP'] at BC
        obtain ⟨z2, hz2⟩ : ∃ z2, z2 = (s.nd qn).length := ⟨_, rfl⟩
        rw [← hz2] at f1
        have pi1 : ((P' + 1 : Nat) : Int) - 1 = (P' : Int) := by omega
        have pb : P' ≤ 10 := by omega
        have wp1 : IntKind.i64.wrap (P' : Int) = (P' : Int) := by rw [IntKind.wrap_i64]; omega
        have pg0 : (0 : Int) ≤ (P' : Int) := by omega
        have pg1 : (P' : Int) < (z1 : Int) := by omega
        have REL := Lib.hid (show ∃ (i' p' : Nat) (b1' o1' c1' z1' : Nat), i' ≤ d ∧ ((i : Int) + 1 = (i' : Int)) ∧ (Value.slice (some ⟨b2, o2, none⟩) z2 cp2 = .slice (some ⟨b1', o1', none⟩) z1' c1') ∧ Hid (z1' = (s.nd p').length) ∧ Hid (Bef s L k (d - i') p') ∧ Hid (∀ w', Below w.heap.size w w' → NodeAt w' (.slice (some ⟨b1', o1', none⟩) z1' c1') (s.nd p') ∧ ∀ j, j < z1' → w'.cell? ⟨b1', o1' + j * 2, none⟩ = some (.string ((s.nd p').key j)) ∧ w'.cell? ⟨b1', o1' + j * 2 + 1, none⟩ = some (.int .i64 ((s.nd p').num j))) from
          ⟨i + 1, qn, b2, o2, cp2, z2, by omega, by omega, rfl, Lib.hid hz2, Lib.hid (by rw [show d - (i + 1) = j by omega]; exact hBq), Lib.hid (fun w' hb => by
            obtain ⟨_, _, a1, a2⟩ := hcc2 w' hb
            rw [← hz2] at a1
            rw [← hz2] at a2
            exact ⟨a1, a2⟩)⟩)
        have qi : (i : Int) < (d : Int) := by omega
        clear hB1 mm hqn hql hBq hcc2 plz hz1 zq hz2 hP' p0 hj pz
        go_wp2_with fail
        refine wp_region_held_drew (S := (fun w' => w'.cell? ⟨T, 0, none⟩ = some (.slice (some ⟨g2, 0, none⟩) N2 c2) ∧ w'.cell? ⟨b1, o1 + P' * 2 + 1, none⟩ = some (.int .i64 qn) ∧ w'.cell? ⟨g2, qn, none⟩ = some (.slice (some ⟨b2, o2, none⟩) z2 cp2))) (by kernel_rfl) (⟨f0, f2, f1⟩) (fun hHeld => ?_)
        refine rgnTake 0 rfl (by kernel_rfl) (by kernel_rfl) (by kernel_rfl) (fun _ _ _ h => h) (by rfl) (v := ?v12) ?hy12 hHeld ?rest12
        case hy12 => (intro v hSw; obtain ⟨y0, y1, y2⟩ := hSw; first | (go_simp; done) | (go_simp; with_reducible rfl))
        try simp only [Act.put, List.setIfInBounds_toArray, List.set_cons_zero, List.set_cons_succ]
        refine rgnTake 1 rfl (by kernel_rfl) (by kernel_rfl) (by kernel_rfl) (fun _ _ _ h => h) (by rfl) (v := ?v13) ?hy13 hHeld ?rest13
        case hy13 => (intro v hSw; obtain ⟨y0, y1, y2⟩ := hSw; first | (go_simp; done) | (go_simp; with_reducible rfl))
        try simp only [Act.put, List.setIfInBounds_toArray, List.set_cons_zero, List.set_cons_succ]
        refine rgnTake 2 rfl (by kernel_rfl) (by kernel_rfl) (by kernel_rfl) (fun _ _ _ h => h) (by rfl) (v := ?v14) ?hy14 hHeld ?rest14
        case hy14 => (intro v hSw; obtain ⟨y0, y1, y2⟩ := hSw; first | (go_simp; done) | (go_simp; with_reducible rfl))
        try simp only [Act.put, List.setIfInBounds_toArray, List.set_cons_zero, List.set_cons_succ]
        refine rgnTake 3 rfl (by kernel_rfl) (by kernel_rfl) (by kernel_rfl) (fun _ _ _ h => h) (by rfl) (v := ?v15) ?hy15 hHeld ?rest15
        case hy15 => (intro v hSw; obtain ⟨y0, y1, y2⟩ := hSw; first | (go_simp; done) | (go_simp; with_reducible rfl))
        try simp only [Act.put, List.setIfInBounds_toArray, List.set_cons_zero, List.set_cons_succ]
        refine rgnTake 4 rfl (by kernel_rfl) (by kernel_rfl) (by kernel_rfl) (fun _ _ _ h => h) (by rfl) (v := ?v16) ?hy16 hHeld ?rest16
        case hy16 => (intro v hSw; obtain ⟨y0, y1, y2⟩ := hSw; first | (go_simp; done) | (go_simp; with_reducible rfl))
        try simp only [Act.put, List.setIfInBounds_toArray, List.set_cons_zero, List.set_cons_succ]
        refine rgnTake 5 rfl (by kernel_rfl) (by kernel_rfl) (by kernel_rfl) (fun _ _ _ h => h) (by rfl) (v := ?v17) ?hy17 hHeld ?rest17
        case hy17 => (intro v hSw; obtain ⟨y0, y1, y2⟩ := hSw; first | (go_simp; done) | (go_simp; with_reducible rfl))
        try simp only [Act.put, List.setIfInBounds_toArray, List.set_cons_zero, List.set_cons_succ]
        refine rgnTake 6 rfl (by kernel_rfl) (by kernel_rfl) (by kernel_rfl) (fun _ _ _ h => h) (by rfl) (v := ?v18) ?hy18 hHeld ?rest18
        case hy18 => (intro v hSw; obtain ⟨y0, y1, y2⟩ := hSw; first | (go_simp; done) | (go_simp; with_reducible rfl))
        try simp only [Act.put, List.setIfInBounds_toArray, List.set_cons_zero, List.set_cons_succ]
        refine rgnOne 7 rfl (by kernel_rfl) (fun K hK => ?_)
        go_simp
        refine BC.out.mono ?_
        rintro r w4 ⟨rfl, h4⟩
        subst h4
        refine hK.out _ _ (hHeld) (fun hHeld => ?_)
        clear hK K
        try simp only [Act.put, List.setIfInBounds_toArray, List.set_cons_zero, List.set_cons_succ]
        refine rgnTake 8 rfl (by kernel_rfl) (by kernel_rfl) (by kernel_rfl) (fun _ _ _ h => h) (by rfl) (v := ?v19) ?hy19 hHeld ?rest19
        case hy19 => (intro v hSw; obtain ⟨y0, y1, y2⟩ := hSw; first | (go_simp; done) | (go_simp; with_reducible rfl))
        try simp only [Act.put, List.setIfInBounds_toArray, List.set_cons_zero, List.set_cons_succ]
        refine rgnTake 9 rfl (by kernel_rfl) (by kernel_rfl) (by kernel_rfl) (fun _ _ _ h => h) (by rfl) (v := ?v20) ?hy20 hHeld ?rest20
        case hy20 => (intro v hSw; obtain ⟨y0, y1, y2⟩ := hSw; first | (go_simp; done) | (go_simp; with_reducible rfl))
        try simp only [Act.put, List.setIfInBounds_toArray, List.set_cons_zero, List.set_cons_succ]
        refine rgnTake 10 rfl (by kernel_rfl) (by kernel_rfl) (by kernel_rfl) (fun _ _ _ h => h) (by rfl) (v := ?v21) ?hy21 hHeld ?rest21
        case hy21 => (intro v hSw; obtain ⟨y0, y1, y2⟩ := hSw; first | (go_simp; done) | (go_simp; with_reducible rfl))
        try simp only [Act.put, List.setIfInBounds_toArray, List.set_cons_zero, List.set_cons_succ]
        refine rgnTake 11 rfl (by kernel_rfl) (by kernel_rfl) (by kernel_rfl) (fun _ _ _ h => h) (by rfl) (v := ?v22) ?hy22 hHeld ?rest22
        case hy22 => (intro v hSw; obtain ⟨y0, y1, y2⟩ := hSw; first | (go_simp; done) | (go_simp; with_reducible rfl))
        try simp only [Act.put, List.setIfInBounds_toArray, List.set_cons_zero, List.set_cons_succ]
        refine rgnTake 12 rfl (by kernel_rfl) (by kernel_rfl) (by kernel_rfl) (fun _ _ _ h => h) (by rfl) (v := ?v23) ?hy23 hHeld ?rest23
        case hy23 => (intro v hSw; obtain ⟨y0, y1, y2⟩ := hSw; first | (go_simp; done) | (go_simp; with_reducible rfl))
        try simp only [Act.put, List.setIfInBounds_toArray, List.set_cons_zero, List.set_cons_succ]
        refine rgnTake 13 rfl (by kernel_rfl) (by kernel_rfl) (by kernel_rfl) (fun _ _ _ h => h) (by rfl) (v := ?v24) ?hy24 hHeld ?rest24
        case hy24 => (intro v hSw; obtain ⟨y0, y1, y2⟩ := hSw; first | (go_simp; done) | (go_simp; with_reducible rfl))
        try simp only [Act.put, List.setIfInBounds_toArray, List.set_cons_zero, List.set_cons_succ]
        refine rgnTake 14 rfl (by kernel_rfl) (by kernel_rfl) (by kernel_rfl) (fun _ _ _ h => h) (by rfl) (v := ?v25) ?hy25 hHeld ?rest25
        case hy25 => (intro v hSw; obtain ⟨y0, y1, y2⟩ := hSw; first | (go_simp; done) | (go_simp; with_reducible rfl))
        try simp only [Act.put, List.setIfInBounds_toArray, List.set_cons_zero, List.set_cons_succ]
        refine wpAnyH_done (by kernel_rfl) ?_ _
        go_wp2_with fail
        refine ⟨?_, by simp [intOf]; omega⟩
        obtain ⟨i', p', b1', o1', c1', z1', a1, a2, a3, a4, a5, a6⟩ := REL.out
        exact ⟨i', p', b1', o1', c1', z1', a1, by rw [a2], a3, a4, a5, a6, Lib.hid HW1.out.drew⟩
      · have di : d - i = 0 := by omega
        have hB1 := HB1.out
        rw [di] at hB1
        have mm := HM.out
        have nqi : ¬ (i : Int) < (d : Int) := by omega
        obtain ⟨p0, lp, lk, ln⟩ := hB1.found mm H0.out
        obtain ⟨P', hP'⟩ : ∃ P', (s.nd p).pos k = P' + 1 := ⟨(s.nd p).pos k - 1, by omega⟩
        have zq := mm.pos (by have := HD.out; omega) hB1.mem
        have plz := KV.pos_le k (s.nd p)
        have hz1 := HZ1.out
        have pz1 : P' < z1 := by omega
        obtain ⟨f1, f2⟩ := (HN1.out wr HW1.out).2 P' pz1
        have BC := Lib.hid (xBelow wr (.slice (some ⟨b1, o1, none⟩) z1 c1) (s.nd p) k (HN1.out wr HW1.out).1 (by omega))
        rw [hP'] at BC
        rw [hP', Nat.add_sub_cancel] at lk ln
        have hx : (l.key (l.pos k - 1)).size ≤ 1000000 := by
          have pl2 := KV.pos_le k l
          have hi : l.pos k - 1 < l.length := by omega
          have := HS.out _ (List.getElem_mem hi)
          rw [KV.getE _ _ hi] at this
          exact this
        rw [← lk] at f1
        rw [← ln] at f2
        rw [← HX0.out] at f1 hx
        rw [← HX1.out] at f2
        have TC := Lib.hid (xTold wr (X0, X1) hx)
        have pi1 : ((P' + 1 : Nat) : Int) - 1 = (P' : Int) := by omega
        have pb : P' ≤ 10 := by omega
        have wp1 : IntKind.i64.wrap (P' : Int) = (P' : Int) := by rw [IntKind.wrap_i64]; omega
        have pg0 : (0 : Int) ≤ (P' : Int) := by omega
        have pg1 : (P' : Int) < (z1 : Int) := by omega
        clear hB1 mm p0 lp lk ln hP' zq plz hz1 hx
        go_wp2_with (first | (go_at_call 30; refine BC.out.mono ?_; rintro r w4 ⟨rfl, h4⟩; subst h4) | (go_at_call 29; refine TC.out.mono ?_; rintro r w5 ⟨rfl, hb5⟩; have HB5 := Lib.hid hb5; clear hb5))
        go_ret3
        exact ⟨rfl, Below.then2 HW1.out HB5.out HW1.out.size⟩
  · have q : ltB K0 k = false := by simpa using q
    have qq := q
    unfold ltB at qq
    have Q := Lib.hid q
    clear q
    have pz : l.pos k = 0 := HM.out.none_below (by rw [← HK0.out]; exact Q.out)
    rw [pz, if_neg (Nat.lt_irrefl 0), if_neg (Nat.lt_irrefl 0), decide_eq_false (Nat.lt_irrefl 0)]
    clear pz
    go_enter Try.func18, Try.ntmps18
    go_wp2_with fail
    refine wp_region_held_drew (S := (fun w' => w'.cell? ⟨T, 0, none⟩ = some (.slice (some ⟨g, 0, none⟩) N c) ∧ w'.cell? ⟨g, R, none⟩ = some (.slice (some ⟨b, o, none⟩) Z cp) ∧ w'.cell? ⟨T, 2, none⟩ = some (.int .i64 R))) (by kernel_rfl) (⟨e0, e1, e5⟩) (fun hHeld => ?_)
    refine rgnTake 0 rfl (by kernel_rfl) (by kernel_rfl) (by kernel_rfl) (fun _ _ _ h => h) (by rfl) (v := ?v26) ?hy26 hHeld ?rest26
    case hy26 => (intro v hSw; obtain ⟨y0, y1, y2⟩ := hSw; first | (go_simp; done) | (go_simp; with_reducible rfl))
    try simp only [Act.put, List.setIfInBounds_toArray, List.set_cons_zero, List.set_cons_succ]
    refine rgnTake 1 rfl (by kernel_rfl) (by kernel_rfl) (by kernel_rfl) (fun _ _ _ h => h) (by rfl) (v := ?v27) ?hy27 hHeld ?rest27
    case hy27 => (intro v hSw; obtain ⟨y0, y1, y2⟩ := hSw; first | (go_simp; done) | (go_simp; with_reducible rfl))
    try simp only [Act.put, List.setIfInBounds_toArray, List.set_cons_zero, List.set_cons_succ]
    refine rgnTake 2 rfl (by kernel_rfl) (by kernel_rfl) (by kernel_rfl) (fun _ _ _ h => h) (by rfl) (v := ?v28) ?hy28 hHeld ?rest28
    case hy28 => (intro v hSw; obtain ⟨y0, y1, y2⟩ := hSw; first | (go_simp; done) | (go_simp; with_reducible rfl))
    try simp only [Act.put, List.setIfInBounds_toArray, List.set_cons_zero, List.set_cons_succ]
    refine rgnTake 3 rfl (by kernel_rfl) (by kernel_rfl) (by kernel_rfl) (fun _ _ _ h => h) (by rfl) (v := ?v29) ?hy29 hHeld ?rest29
    case hy29 => (intro v hSw; obtain ⟨y0, y1, y2⟩ := hSw; first | (go_simp; done) | (go_simp; with_reducible rfl))
    try simp only [Act.put, List.setIfInBounds_toArray, List.set_cons_zero, List.set_cons_succ]
    refine rgnTake 4 rfl (by kernel_rfl) (by kernel_rfl) (by kernel_rfl) (fun _ _ _ h => h) (by rfl) (v := ?v30) ?hy30 hHeld ?rest30
    case hy30 => (intro v hSw; obtain ⟨y0, y1, y2⟩ := hSw; first | (go_simp; done) | (go_simp; with_reducible rfl))
    try simp only [Act.put, List.setIfInBounds_toArray, List.set_cons_zero, List.set_cons_succ]
    refine rgnTake 5 rfl (by kernel_rfl) (by kernel_rfl) (by kernel_rfl) (fun _ _ _ h => h) (by rfl) (v := ?v31) ?hy31 hHeld ?rest31
    case hy31 => (intro v hSw; obtain ⟨y0, y1, y2⟩ := hSw; first | (go_simp; done) | (go_simp; with_reducible rfl))
    try simp only [Act.put, List.setIfInBounds_toArray, List.set_cons_zero, List.set_cons_succ]
    refine rgnTake 6 rfl (by kernel_rfl) (by kernel_rfl) (by kernel_rfl) (fun _ _ _ h => h) (by rfl) (v := ?v32) ?hy32 hHeld ?rest32
    case hy32 => (intro v hSw; obtain ⟨y0, y1, y2⟩ := hSw; first | (go_simp; done) | (go_simp; with_reducible rfl))
    try simp only [Act.put, List.setIfInBounds_toArray, List.set_cons_zero, List.set_cons_succ]
    refine rgnTake 7 rfl (by kernel_rfl) (by kernel_rfl) (by kernel_rfl) (fun _ _ _ h => h) (by rfl) (v := ?v33) ?hy33 hHeld ?rest33
    case hy33 => (intro v hSw; obtain ⟨y0, y1, y2⟩ := hSw; first | (go_simp; done) | (go_simp; with_reducible rfl))
    try simp only [Act.put, List.setIfInBounds_toArray, List.set_cons_zero, List.set_cons_succ]
    refine rgnTake 8 rfl (by kernel_rfl) (by kernel_rfl) (by kernel_rfl) (fun _ _ _ h => h) (by rfl) (v := ?v34) ?hy34 hHeld ?rest34
    case hy34 => (intro v hSw; obtain ⟨y0, y1, y2⟩ := hSw; first | (go_simp; done) | (go_simp; with_reducible rfl))
    try simp only [Act.put, List.setIfInBounds_toArray, List.set_cons_zero, List.set_cons_succ]
    refine rgnTake 9 rfl (by kernel_rfl) (by kernel_rfl) (by kernel_rfl) (fun _ _ _ h => h) (by rfl) (v := ?v35) ?hy35 hHeld ?rest35
    case hy35 => (intro v hSw; obtain ⟨y0, y1, y2⟩ := hSw; first | (go_simp; done) | (go_simp; with_reducible rfl))
    try simp only [Act.put, List.setIfInBounds_toArray, List.set_cons_zero, List.set_cons_succ]
    refine rgnTake 10 rfl (by kernel_rfl) (by kernel_rfl) (by kernel_rfl) (fun _ _ _ h => h) (by rfl) (v := ?v36) ?hy36 hHeld ?rest36
    case hy36 => (intro v hSw; obtain ⟨y0, y1, y2⟩ := hSw; first | (go_simp; done) | (go_simp; with_reducible rfl))
    try simp only [Act.put, List.setIfInBounds_toArray, List.set_cons_zero, List.set_cons_succ]
    refine wpAnyH_done (by kernel_rfl) ?_ _
    go_wp2_with fail
    go_ret3
    exact ⟨rfl, (Below.refl _ _).drew⟩

end Go.Proofs.Ytdcjckdhjfnnhaa
