/- Proved parts: B5c B5d. Conditions: each theorem's own. -/
import Derived.Test.YtiiokmfnohifmaaGreatM45
namespace Go.Proofs.YtiiokmfnohifmaaGreat
open Go.RowKit

theorem infoT : (Tryz.prog.info? 133).map (fun i => (i.zero, i.size, i.bytes)) = some (some (.pointer none), 1, 8) := by kernel_rfl
theorem infoC : (Tryz.prog.info? 95).map (fun i => (i.zero, i.size, i.bytes)) = some (some (.slice none 0 0), 1, 24) := by kernel_rfl
section
variable {w0 w : World} {N : Nat → Prop} {b : Nat} {s : Sh} {L : Ch} {P : Nat} {os os2 : List Ob} {i : Nat}
set_option maxRecDepth 100000 in
/-- append(v, u), of a row beside other things -/
theorem wp_sideV {ops : Array Oper} {rest : List Oper} {o : Oper} {a : Act} {Q : Exit → Act → World → Prop} (hgd : o.guard = none) (x y : Operand) (t e : TypeId)
    (ho : o.op = .call { callee := .builtin .append, args := #[x, y], argTypes := #[t, t] }) {z : Value} {bytes : Nat} (ht : Tryz.prog.underlying t = some (.slice e)) (hin : (Tryz.prog.info? e).map (fun i => (i.zero, i.size, i.bytes)) = some (some z, 1, bytes))
    (hzs : z.cells.size = 1) (hb : bytes ≤ 100) (v : Value) (xs : List Value) (hs : a.eval x = v) (h : Side w0 N w os) (hi : os[i]? = some (oVec e v xs)) (g : Nat) (u : Value)
    (hx : a.eval y = .slice (some ⟨g, 0, none⟩) 1 1) (hc : w.cell? ⟨g, 0, none⟩ = some u) (hu : u.oneCell' = true) (hl : xs.length ≤ 1000000)
    (k : ∀ g' c' n w', n = xs.length + 1 → Side w0 N w' (os.set i (oVec e (.slice (some ⟨g', 0, none⟩) n c') (xs ++ [u]))) → wpList Tryz.prog ops Q rest (a.put o.dst (.slice (some ⟨g', 0, none⟩) n c')) w') : wpList Tryz.prog ops Q (o :: rest) a w := by
  obtain ⟨i0, h0, hz0, hz1, hz2⟩ := info_parts hin
  refine wp_vec hgd x y t e ho i0 z bytes ht h0 hz0 hz1 hz2 hzs hb v xs hs (h.vecAt hi) g u hx hc hu hl ?_
  intro v' w' h1 h2 h4
  rcases vec_form h1 with ⟨_, e2⟩ | ⟨g', c', e2, _⟩
  · exact absurd e2 (by simp)
  · have hh := h.vecGrow hi h1 h2 h4
    rw [e2] at hh ⊢
    exact k g' c' _ w' (by simp) hh
theorem Sh.vlen (h : Side w0 N w (s.os b ++ os2)) : s.vs.length = s.cs.length := by
  obtain ⟨F, hP⟩ := h.get (i := 5) (o := oDat s.vs s.cs) rfl
  exact hP.len
theorem Sh.cform (h : Side w0 N w (s.os b ++ os2)) : ∃ A c, s.cv = .slice A s.cs.length c := by
  have hv := h.vecAt (i := 3) (t := 95) (v := s.cv) (xs := s.vs) rfl
  have hl := Sh.vlen h
  rcases vec_form hv with ⟨e, e2⟩ | ⟨g, c, e, _⟩
  · rw [e2] at hl
    exact ⟨none, 0, by rw [e, ← hl]; rfl⟩
  · exact ⟨_, c, by rw [e, hl]⟩
theorem Sh.fform (h : Side w0 N w (s.os b ++ os2)) : ∃ A c, s.fv = .slice A s.fr.length c ∧ s.fr.length ≤ c ∧ (0 < s.fr.length → ∃ g, A = some ⟨g, 0, none⟩ ∧ ∀ j, j < s.fr.length → w.cell? ⟨g, j, none⟩ = some (.int .i64 (s.fr.getD j 0 : Nat))) := by
  have hv := h.vecAt (i := 4) (t := 3) (v := s.fv) (xs := Sh.frs s.fr) rfl
  have hl : (Sh.frs s.fr).length = s.fr.length := by unfold Sh.frs; simp
  rcases vec_form hv with ⟨e, e2⟩ | ⟨g, c, e, hc, _, hcell, _⟩
  · rw [e2] at hl
    exact ⟨none, 0, by rw [e, ← hl]; rfl, by rw [← hl]; exact Nat.le_refl _, fun hp => by rw [← hl] at hp; exact absurd hp (by simp)⟩
  · rw [hl] at e hc hcell
    refine ⟨_, c, e, hc, fun _ => ⟨g, rfl, fun j hj => ?_⟩⟩
    rw [hcell j hj]
    unfold Sh.frs
    rw [List.getElem?_map, List.getElem?_eq_getElem hj, List.getD_eq_getElem?_getD, List.getElem?_eq_getElem hj]; rfl
/-- the room's block is turned -/
theorem Sh.rowSet (h : Side w0 N w os) (hi : os[i]? = some (Ob.row b s.row 87)) (j : Nat) (v : Value) : Side w0 N (w.setCell ⟨b, j, none⟩ v) (os.set i (Ob.row b (s.row.set j v) 87)) :=
  h.rowSet hi ((Chg.refl (fun k => k = b) w).setCell (.inl rfl) v) ((h.rowAt hi).set j v)

/-- the shelf with other rows -/
def Sh.rows (s : Sh) (cv fv : Value) (vs : List Value) (cs : List (List Ver)) (fr : List Nat) : Sh := { s with cv := cv, fv := fv, vs := vs, cs := cs, fr := fr }
set_option maxRecDepth 100000 in
set_option maxHeartbeats 2000000 in
/-- take, where no place is free -/
theorem xTake1R {A : Option Addr} {c : List Ver} {n cap : Nat} (hn : n = c.length) (h : Side w0 N w (s.os b ++ [oCh A c])) (hcap : n ≤ cap) (hf : s.fr = []) (hl : s.cs.length ≤ 100000) :
    Calls Tryz.prog 98 #[PtrS b, .slice A n cap] w fun e w' => ∃ cv, e = .returned (.int .i64 (s.cs.length : Nat)) ∧ Side w0 N w' ((s.rows cv s.fv (s.vs ++ [.slice A n cap]) (s.cs ++ [c]) s.fr).os b) := by
  have c7 := (Sh.rowAt h).cell 7
  have d6 := (Sh.rowAt h).cell 6
  simp only [Sh.row, List.getElem?_cons_succ, List.getElem?_cons_zero] at d6 c7
  obtain ⟨A3, c3, e3, _, _⟩ := Sh.fform h
  rw [e3, hf] at c7
  simp only [List.length_nil] at c7
  obtain ⟨A4, c4, e4⟩ := Sh.cform h
  have hv := Sh.vlen h
  obtain ⟨M, hM⟩ : ∃ M, M = s.cs.length := ⟨_, rfl⟩
  rw [← hM] at hl e4 hv ⊢
  have HV := Lib.hid hv
  have HM := Lib.hid hM
  have HF := Lib.hid hf
  have HN := Lib.hid hn
  have E4 := Lib.hid e4
  have HS := Lib.hid h
  have h1 := h.below (w' := w.alloc (.cells #[.slice A n cap] 95)) ((Below.refl _ _).alloc (Nat.le_refl _) _)
  have H1 := Lib.hid h1
  have X1 := Lib.hid (cell_new1 w (.slice A n cap) 95)
  clear h hM hf hn e3 e4 hv h1
  go_enter Tryz.func98, Tryz.ntmps98
  go_wp2_with (at_builtin; refine wp_sideV rfl (.tmp 19) (.tmp 21) 80 95 rfl Tryz.underlying80 infoC rfl (by decide) s.cv s.vs rfl H1.out (i := 3) rfl w.heap.size (.slice A n cap) rfl X1.out rfl (by rw [HV.out]; omega) ?_; intro g' c' m w2 hm h2; rw [HV.out] at hm; have HMM := Lib.hid hm; have H2 := Lib.hid h2; have q6 := (H2.out.rowAt (i := 0) rfl).cell 6; have f6 := (H2.out.rowAt (i := 0) rfl).frozen 6; simp only [Sh.row, List.getElem?_cons_succ, List.getElem?_cons_zero] at q6; clear hm h2)
  go_ret
  have h3 := H2.out.rowSet (i := 0) (g := b) (cs' := (s.rows (.slice (some ⟨g', 0, none⟩) m c') s.fv s.vs s.cs s.fr).row) rfl ((Chg.refl (fun k => k = b) w2).setCell (p := ⟨b, 6, none⟩) (.inl rfl) (.slice (some ⟨g', 0, none⟩) m c')) ((H2.out.rowAt (i := 0) rfl).set 6 _)
  have h4 : Side w0 N (w2.setCell ⟨b, 6, none⟩ (.slice (some ⟨g', 0, none⟩) m c')) ((((s.rows (.slice (some ⟨g', 0, none⟩) m c') s.fv (s.vs ++ [.slice A n cap]) (s.cs ++ [c]) s.fr).os b).set 5 (oDat s.vs s.cs)) ++ [oCh A c]) := h3
  refine ⟨.slice (some ⟨g', 0, none⟩) m c', ?_, ?_⟩
  · rw [HMM.out]
    show Ending.returned (.int .i64 (wrap64 (((M + 1 : Nat) : Int) - 1))) = _
    rw [show wrap64 (((M + 1 : Nat) : Int) - 1) = (M : Int) by unfold wrap64; omega]
  · have h5 := h4.merge (i := 5) (oi := oDat s.vs s.cs) (o' := oDat (s.vs ++ [.slice A n cap]) (s.cs ++ [c])) rfl (fun F F' p q => by rw [HN.out]; exact DatP.push p q (by rw [← HN.out]; exact hcap))
    exact h5
theorem Side.apart {os : List Ob} {i j : Nat} {oi oj : Ob} (h : Side w0 N w os) (hi : os[i]? = some oi) (hj : os[j]? = some oj) (hn : i ≠ j) : ∃ Fi Fj : Nat → Prop, oi.P w Fi ∧ oj.P w Fj ∧ ∀ k, Fi k → ¬ Fj k := by
  obtain ⟨F, h1, h2, _⟩ := h
  exact ⟨F i, F j, h1 i _ hi, h1 j _ hj, fun k e => h2 i j k (List.getElem?_eq_some_iff.1 hi).1 (List.getElem?_eq_some_iff.1 hj).1 hn e⟩
/-- a row's block isn't the room's -/
theorem Side.vecNe {os : List Ob} {i j b g n c : Nat} {t t2 : TypeId} {cs xs : List Value} (h : Side w0 N w os) (hi : os[i]? = some (Ob.row b cs t)) (hj : os[j]? = some (oVec t2 (.slice (some ⟨g, 0, none⟩) n c) xs)) (hn : i ≠ j) : g ≠ b := by
  obtain ⟨Fi, Fj, p, q, hk⟩ := h.apart hi hj hn
  intro e
  exact hk b ((p.2 b).2 rfl) ((q.2 b).2 (by rw [e]; rfl))
theorem Side.vecSetV {os : List Ob} {i g n c p : Nat} {t : TypeId} {v u : Value} {xs : List Value} (h : Side w0 N w os) (hi : os[i]? = some (oVec t v xs)) (hv : v = .slice (some ⟨g, 0, none⟩) n c) : Side w0 N (w.setCell ⟨g, p, none⟩ u) (os.set i (oVec t v (xs.set p u))) := by
  subst hv; exact h.vecSet hi
theorem Side.vecPopV {os : List Ob} {i g n n' c : Nat} {t : TypeId} {v u : Value} {xs ys : List Value} (h : Side w0 N w os) (hi : os[i]? = some (oVec t v ys)) (hv : v = .slice (some ⟨g, 0, none⟩) n c) (hy : ys = xs ++ [u]) (hn : n' = xs.length) : Side w0 N w (os.set i (oVec t (.slice (some ⟨g, 0, none⟩) n' c) xs)) := by
  subst hv; subst hy; subst hn; exact h.vecPop hi
set_option maxRecDepth 100000 in
set_option maxHeartbeats 2000000 in
/-- take, where a place is free -/
theorem xTake2R {A : Option Addr} {c : List Ver} {n cap p : Nat} {fr : List Nat} (hn : n = c.length) (h : Side w0 N w (s.os b ++ [oCh A c])) (hcap : n ≤ cap) (hf : s.fr = fr ++ [p]) (hp : p < s.cs.length) (hl2 : fr.length ≤ 100000) :
    Calls Tryz.prog 98 #[PtrS b, .slice A n cap] w fun e w' => ∃ fv, e = .returned (.int .i64 (p : Nat)) ∧ Side w0 N w' ((s.rows s.cv fv (s.vs.set p (.slice A n cap)) (s.cs.set p c) fr).os b) := by
  have c7 := (Sh.rowAt h).cell 7
  have c6 := (Sh.rowAt h).cell 6
  have f7 := (Sh.rowAt h).frozen 7
  simp only [Sh.row, List.getElem?_cons_succ, List.getElem?_cons_zero] at c6 c7
  obtain ⟨A3, c3, e3, k3, hc3⟩ := Sh.fform h
  have fl : s.fr.length = fr.length + 1 := by rw [hf]; simp
  obtain ⟨g7, rfl, hc7⟩ := hc3 (by omega)
  have l7 := hc7 fr.length (by omega)
  rw [show s.fr.getD fr.length 0 = p by rw [hf, List.getD_eq_getElem?_getD, List.getElem?_append_right (Nat.le_refl _), Nat.sub_self]; rfl] at l7
  obtain ⟨g6, c4, A5, c5, e4, q4, fz, _, _⟩ := Sh.cview h hp
  have n6 : g6 ≠ b := h.vecNe (i := 0) (j := 3) (t2 := 95) (n := s.cs.length) (c := c4) (xs := s.vs) rfl (by rw [← e4]; rfl) (by decide)
  obtain ⟨F, hF⟩ : ∃ F, F = fr.length := ⟨_, rfl⟩
  obtain ⟨m, hm⟩ : ∃ m, m = s.fr.length := ⟨_, rfl⟩
  obtain ⟨M, hM⟩ : ∃ M, M = s.cs.length := ⟨_, rfl⟩
  obtain ⟨z, hz⟩ : ∃ z, z = (s.cs.getD p []).length := ⟨_, rfl⟩
  rw [← hz] at q4
  rw [e3, ← hm] at c7
  rw [e4, ← hM] at c6
  rw [← hF] at l7 fl hl2
  rw [← hm] at fl k3
  rw [← hM] at hp
  have i1 : wrap64 ((m : Int) - 1) = (F : Int) := by rw [fl]; unfold wrap64; omega
  have i2 : (0 : Int) ≤ (F : Int) := by omega
  have i3 : (F : Int) < (m : Int) := by omega
  have i4 : (F : Int) ≤ (c3 : Int) := by omega
  have i5 : (0 : Int) ≤ (p : Int) := by omega
  have i6 : (p : Int) < (M : Int) := by omega
  have HN := Lib.hid hn
  have HS := Lib.hid h
  have E3 := Lib.hid e3
  have E4 := Lib.hid e4
  have HF := Lib.hid hf
  have FL := Lib.hid hF
  have HM := Lib.hid hM
  have HM2 := Lib.hid hm
  have I6 := Lib.hid hp
  clear h hn e3 e4 hf hF hM hm hc7 hc3 hz fl k3 hp
  go_enter Tryz.func98, Tryz.ntmps98
  go_wp2_with fail
  go_ret
  refine ⟨.slice (some ⟨g7, 0, none⟩) F c3, rfl, ?_⟩
  have h1 := HS.out.rowSet (i := 0) (g := b) (cs' := (s.rows s.cv (.slice (some ⟨g7, 0, none⟩) F c3) s.vs s.cs s.fr).row) rfl ((Chg.refl (fun k => k = b) w).setCell (p := ⟨b, 7, none⟩) (.inl rfl) (.slice (some ⟨g7, 0, none⟩) F c3)) ((HS.out.rowAt (i := 0) rfl).set 7 _)
  have h2 := h1.vecPopV (i := 4) (t := 3) (v := s.fv) (ys := Sh.frs s.fr) (xs := Sh.frs fr) (u := .int .i64 (p : Int)) (n' := F) rfl E3.out (by rw [HF.out]; unfold Sh.frs; rw [List.map_append]; rfl) (by rw [FL.out]; unfold Sh.frs; rw [List.length_map])
  have h3 := h2.vecSetV (i := 3) (t := 95) (v := s.cv) (xs := s.vs) (p := p) (u := .slice A n cap) rfl E4.out
  have h4 : Side w0 N ((w.setCell ⟨b, 7, none⟩ (.slice (some ⟨g7, 0, none⟩) F c3)).setCell ⟨g6, p, none⟩ (.slice A n cap)) ((((s.rows s.cv (.slice (some ⟨g7, 0, none⟩) F c3) (s.vs.set p (.slice A n cap)) (s.cs.set p c) fr).os b).set 5 (oDat s.vs s.cs)) ++ [oCh A c]) := h3
  have h5 := h4.merge (i := 5) (oi := oDat s.vs s.cs) (o' := oDat (s.vs.set p (.slice A n cap)) (s.cs.set p c)) rfl (fun F F' q1 q2 => by have q := DatP.put (c := cap) q1 q2 (by rw [← HN.out]; exact hcap) (p := p) (by rw [← HM.out]; exact I6.out); rw [← HN.out] at q; exact q)
  exact h5
end

end Go.Proofs.YtiiokmfnohifmaaGreat

namespace Go.Proofs.YtiiokmfnohifmaaGreat
open Go.RowKit

section
variable {w0 w : World} {N : Nat → Prop} {b : Nat} {s : Sh} {os : List Ob} {i : Nat}
/-- Put and Del of the tree, beside other things -/
theorem sPut {t : Nat} {l : KV} {bd : Nat} (h : Side w0 N w os) (hi : os[i]? = some (oTree (some t) l bd)) (k : ByteArray) (n : Int) (hl : l.length ≤ 4000) (hb : bd ≤ 800000) (hk : k.size ≤ 1000000) :
    Calls Tryz.prog 123 #[Ptr t, .string k, .int .i64 n] w fun x w' => x = .returned (.tuple #[.int .i64 (if l.has k then l.num (l.pos k) else 0), .bool (l.has k), .int .i64 0]) ∧ Side w0 N w' (os.set i (oTree (some t) (l.put k n) (bd + 29))) :=
  h.call hi fun F hP _ => by
    rcases hP with ⟨e, _⟩ | ⟨t', e, hr⟩
    · cases e
    · injection e with e
      subst e
      exact (xPut w t F l bd k n hr hl hb hk).mono fun x w' ⟨h1, E', h2, h3, h4⟩ => ⟨h1, h4, E', .inr ⟨t, rfl, h2⟩, h3⟩
theorem sNew (h : Side w0 N w os) : Calls Tryz.prog 124 #[] w fun x w' => x = .returned (Ptr w.heap.size) ∧ Side w0 N w' (os ++ [oTree (some w.heap.size) [] 0]) :=
  (xNew w).mono fun x w' ⟨h1, h2, h3⟩ => ⟨h1, h.more h3 (F' := fun k => k = w.heap.size) (.inr ⟨_, rfl, Tab.bare, h2, .inl ⟨rfl, rfl⟩, Nat.le_refl _⟩) fun k e => by omega⟩
set_option maxRecDepth 100000 in
set_option maxHeartbeats 2000000 in
/-- lay, where there is a tree -/
theorem xLay1R {t : Nat} (h : Side w0 N w (s.os b)) (ht : s.T = some t) (k : ByteArray) (n : Nat) (hl : s.l.length ≤ 4000) (hb : s.bd ≤ 800000) (hk : k.size ≤ 1000000) :
    Calls Tryz.prog 97 #[PtrS b, .string k, .int .i64 (n : Int)] w fun e w' => e = .returned (.tuple #[]) ∧ Side w0 N w' (({ s with l := s.l.put k n, bd := s.bd + 29 } : Sh).os b) := by
  have h0 : Side w0 N w (s.os b ++ []) := by rw [List.append_nil]; exact h
  have c5 := (Sh.rowAt h0).cell 5
  simp only [Sh.row, List.getElem?_cons_succ, List.getElem?_cons_zero] at c5
  have hv := h.vecAt (i := 2) (t := 133) (v := s.tv) (xs := Sh.ptrs s.T) rfl
  rw [ht] at hv
  rcases vec_form hv with ⟨_, e3⟩ | ⟨g, c, e3, hc, hg, hcell, _⟩
  · cases e3
  have c0 : w.cell? ⟨g, 0, none⟩ = some (Ptr t) := hcell 0 (by show 0 < 1; decide)
  have e3 : s.tv = .slice (some ⟨g, 0, none⟩) 1 c := e3
  rw [e3] at c5
  have PC := Lib.hid (sPut h (i := 1) (t := t) (l := s.l) (bd := s.bd) (by rw [← ht]; rfl) k n hl hb hk)
  have PC := Lib.hid (PC.out.mono (R' := fun x w' => (∃ n2 b2, x = .returned (.tuple #[.int .i64 n2, .bool b2, .int .i64 0])) ∧ Side w0 N w' (({ s with l := s.l.put k n, bd := s.bd + 29 } : Sh).os b)) fun x w' ⟨h1, h2⟩ => ⟨⟨_, _, h1⟩, by rw [← ht] at h2; exact h2⟩)
  clear h h0 hv hc hg hcell ht hl hb hk e3
  go_enter Tryz.func97, Tryz.ntmps97
  go_wp2_with fail
  refine wp_loop_rounds 2 ?_
  rw [rounds_succ]
  go_wp2_with fail
  refine PC.out.mono ?_
  rintro e w1 ⟨⟨n2, b2, rfl⟩, hS⟩
  have HS := Lib.hid hS
  clear hS
  go_wp2_with fail
  exact bodyPost_ret (results_none rfl _ _ _) rfl ⟨rfl, HS.out⟩
set_option maxRecDepth 100000 in
set_option maxHeartbeats 2000000 in
/-- lay, where there is none -/
theorem xLay0R (h : Side w0 N w (s.os b)) (ht : s.T = none) (h0 : s.tv = .slice none 0 0) (hl : s.l = []) (k : ByteArray) (n : Nat) (hk : k.size ≤ 1000000) :
    Calls Tryz.prog 97 #[PtrS b, .string k, .int .i64 (n : Int)] w fun e w' => e = .returned (.tuple #[]) ∧ ∃ t tv, Side w0 N w' (({ s with T := some t, tv := tv, l := s.l.put k n, bd := 29 } : Sh).os b) := by
  have h1 : Side w0 N w (s.os b ++ []) := by rw [List.append_nil]; exact h
  have c5 := (Sh.rowAt h1).cell 5
  simp only [Sh.row, List.getElem?_cons_succ, List.getElem?_cons_zero] at c5
  rw [h0] at c5
  have NC := Lib.hid (sNew h)
  obtain ⟨t, hti⟩ : ∃ t, t = w.heap.size := ⟨_, rfl⟩
  rw [← hti] at NC
  have PC := Lib.hid (fun W (hS : Side w0 N W (s.os b ++ [oTree (some t) [] 0])) => (sPut hS (i := 8) (t := t) (l := []) (bd := 0) rfl k n (by decide) (by decide) hk).mono (R' := fun x w' => (∃ n2 b2, x = .returned (.tuple #[.int .i64 n2, .bool b2, .int .i64 0])) ∧ Side w0 N w' (s.os b ++ [oTree (some t) (KV.put [] k n) 29])) fun x w' ⟨h1, h2⟩ => ⟨⟨_, _, h1⟩, h2⟩)
  have HT := Lib.hid ht
  have H0 := Lib.hid h0
  have HL := Lib.hid hl
  clear h h1 h0 ht hl hti hk
  go_enter Tryz.func97, Tryz.ntmps97
  go_wp2_with fail
  refine wp_loop_rounds 1 ?_
  rw [rounds_succ]
  go_wp2_with fail
  refine NC.out.mono ?_
  rintro e w1 ⟨rfl, hS1⟩
  have S1 := Lib.hid hS1
  clear hS1 NC c5
  go_wp2_with fail
  refine (PC.out _ S1.out).mono ?_
  rintro e w2 ⟨⟨n2, b2, rfl⟩, hS2⟩
  have S2 := Lib.hid (hS2.below (w' := w2.alloc (.cells #[Ptr t] 133)) ((Below.refl _ _).alloc (Nat.le_refl _) _))
  have c5 := (hS2.rowAt (i := 0) rfl).cell 5
  simp only [Sh.row, List.getElem?_cons_succ, List.getElem?_cons_zero] at c5
  have X2 := Lib.hid (cell_new1 w2 (Ptr t) 133)
  clear hS2 PC
  go_wp2_with (at_builtin; refine wp_sideV rfl (.tmp 41) (.tmp 43) 79 133 rfl Tryz.underlying79 infoT rfl (by decide) s.tv [] rfl S2.out (i := 2) (by rw [show ([] : List Value) = Sh.ptrs s.T by rw [HT.out]; rfl]; rfl) w2.heap.size (Ptr t) rfl X2.out rfl (by decide) ?_; intro g' c' m w3 hm h3; have H3 := Lib.hid h3; have q5 := (H3.out.rowAt (i := 0) rfl).cell 5; have f5 := (H3.out.rowAt (i := 0) rfl).frozen 5; simp only [Sh.row, List.getElem?_cons_succ, List.getElem?_cons_zero] at q5; clear hm h3)
  refine bodyPost_end (results_none rfl _ _ _) rfl ⟨rfl, t, .slice (some ⟨g', 0, none⟩) m c', ?_⟩
  rw [HL.out]
  have h4 := H3.out.rowSet (i := 0) (g := b) (cs' := ({ s with tv := .slice (some ⟨g', 0, none⟩) m c' } : Sh).row) rfl ((Chg.refl (fun k => k = b) w3).setCell (p := ⟨b, 5, none⟩) (.inl rfl) (.slice (some ⟨g', 0, none⟩) m c')) ((H3.out.rowAt (i := 0) rfl).set 5 _)
  have h5 : Side w0 N (w3.setCell ⟨b, 5, none⟩ (.slice (some ⟨g', 0, none⟩) m c')) (((({ s with T := some t, tv := .slice (some ⟨g', 0, none⟩) m c', l := KV.put [] k n, bd := 29 } : Sh).os b).set 1 (oTree s.T s.l s.bd)) ++ [oTree (some t) (KV.put [] k n) 29]) := h4
  have h6 := h5.merge (i := 1) (oi := oTree s.T s.l s.bd) (o' := oTree (some t) (KV.put [] k n) 29) rfl (fun F F' p q => by
    rcases p with ⟨_, _, p⟩ | ⟨t', e, _⟩
    · rw [show (fun k => F k ∨ F' k) = F' from by funext k; simp [p k]]
      exact q
    · rw [HT.out] at e; cases e)
  exact h6
end

end Go.Proofs.YtiiokmfnohifmaaGreat
