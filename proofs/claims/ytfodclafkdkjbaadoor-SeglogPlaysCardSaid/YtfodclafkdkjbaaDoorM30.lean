/- Proved parts: E5e E5h E5ba. Conditions: each theorem's own. -/
import Derived.Test.YtfodclafkdkjbaaDoorM29
namespace Go.Proofs.YtfodclafkdkjbaaDoor
open Go.RowKit Go.Maps

section
variable {w w' : World} {b g cap : Nat} {ds ms : Nat → Nat} {Ds : Nat → DataW Unit} {m m' : Ext}
theorem RepE.drySec (h : RepE w b g cap ds ms Ds m) {e a : Nat} (he : e < m.ext) (ha : a < m.sec) : w.rangeAt (ds e) (a * 65) (secL (m.secAt (e * m.sec + a)).dry) := by
  refine RowAt.mid (h.row e he) fun j v hj => ?_
  have hl : j < (secL (m.secAt (e * m.sec + a)).dry).length := (List.getElem?_eq_some_iff.1 hj).1
  rw [secL_len] at hl
  rw [flat_at secL_len (drys m e) a j (by rw [drys_len]; exact ha) hl, drys_get m e a ha]
  exact hj
end
theorem pos_nat (m : Ext) (e a : Nat) : m.pos (e : Int) (a : Int) = e * m.sec + a := by unfold Ext.pos; simp
theorem has_nat {m : Ext} {e a : Int} (h : m.has e a) : ∃ e' a' : Nat, e = e' ∧ a = a' ∧ e' < m.ext ∧ a' < m.sec := by
  obtain ⟨h0, h1, h2, h3⟩ := h
  exact ⟨e.toNat, a.toNat, by omega, by omega, by omega, by omega⟩
theorem has_of {m : Ext} {e a : Nat} (he : e < m.ext) (ha : a < m.sec) : m.has (e : Int) (a : Int) := ⟨by omega, by omega, by omega, by omega⟩

theorem rangeAt_below {w W : World} {k o : Nat} {vs : List Value} (h : w.rangeAt k o vs) (hb : Below w.heap.size w W) : W.rangeAt k o vs := fun j v hj => (Chg.of_below (F := fun _ => False) hb).cell (h j v hj) id
/-- a look-up -/
theorem look_run {W : World} {c n : Nat} {D : DataW Unit} {m : Ext} {e a : Nat} (hw : W.ownsMap Tryd.prog 3 secElem c n D) (hs : Says D m e) (ha : a < m.sec) (h64 : m.sec ≤ 128) :
    (Instr.lookup 68 (.map (some c)) (.int .i64 a) true).run Tryd.prog W = .ok (.tuple #[.agg (secL (if (m.secAt (e * m.sec + a)).wet then (m.secAt (e * m.sec + a)).now else ⟨#[]⟩)).toArray, .bool (m.secAt (e * m.sec + a)).wet]) W := by
  obtain ⟨v, ps, hrun, hv⟩ := hw.look_ok keyI Tryd.underlying68 (zeroS74 W) (zd := .lit (.string [])) (zp := []) (by
    rw [← secL_nil]; exact secElem_mk ⟨#[]⟩ (by decide)) (keyOfI (a : Int) ⟨by omega, by omega⟩)
  rw [hs.wet a ha] at hrun
  rw [hrun]
  obtain ⟨s, hsz, rfl, he⟩ := secElem_inv hv
  simp only [Prod.mk.injEq] at he
  have hx := he.1
  cases hwet : (m.secAt (e * m.sec + a)).wet with
  | true =>
    rw [hs.now a ha hwet] at hx
    simp only [DataW.lit.injEq, Lit.string.injEq] at hx
    rw [str_inj hx, if_pos rfl]
  | false =>
    rw [Go.Maps.atKey_of_not_has (by rw [hs.wet a ha]; exact hwet)] at hx
    simp only [DataW.lit.injEq, Lit.string.injEq] at hx
    rw [← str_inj (s := ⟨#[]⟩) (t := s) hx]
    rfl

end Go.Proofs.YtfodclafkdkjbaaDoor

namespace Go.Proofs.YtfodclafkdkjbaaDoor
open Go.RowKit Go.Maps

set_option maxRecDepth 100000 in
set_option maxHeartbeats 1000000 in
/-- Read -/
theorem xReadB (b : Nat) (F : Nat → Prop) (m : Ext) (e a : Int) (w : World) (h : RelX w b F m) :
    Calls Tryd.prog 17 #[.pointer (some ⟨b, 0, none⟩), .int .i64 e, .int .i64 a] w fun x w' => x = .returned (.tuple #[.string (m.read e a).1, .int .i64 (m.read e a).2]) ∧ Below w.heap.size w w' := by
  obtain ⟨g, cap, ds, ms, Ds, hr, hb', hg, hd, hF⟩ := h
  clear hb' hg hd hF
  have c0 := hr.on
  have c1 := hr.sec
  have c2 := hr.ext
  by_cases ho : m.off = true
  · have hd' : m.read e a = (⟨#[]⟩, 6) := by unfold Ext.read; rw [if_pos ho]
    rw [hd']
    rw [ho] at c0
    have HR := Lib.hid hr
    have HB := Lib.hid (Below.refl w.heap.size w)
    clear hd' hr ho
    go_enter Tryd.func17, Tryd.ntmps17
    go_wp2_with fail
    refine (xPow b _ w c0).mono ?_
    rintro x w' ⟨rfl, rfl⟩
    go_wp2_with fail
    refine (xHas b e a m.ext m.sec cap _ w' c1 c2).mono ?_
    rintro x w2 ⟨rfl, rfl⟩
    generalize (if 0 ≤ e ∧ e < (m.ext : Int) ∧ 0 ≤ a ∧ a < (m.sec : Int) then (0 : Int) else 1) = z
    go_wp2_with fail
    refine (xOr2 6 z 6 rfl _ _ _ (World.cell?_alloc_at _ _ _ _ rfl) (World.cell?_alloc_at _ _ _ _ rfl)).mono ?_
    rintro x w3 ⟨rfl, rfl⟩
    go_wp2_with fail
    go_ret2
    exact ⟨rfl, HB.out.alloc (Nat.le_refl _) _⟩
  have ho' : m.off = false := by simpa using ho
  rw [ho'] at c0
  by_cases hh : m.has e a
  · have hs : (m.secAt (m.pos e a)).dry.size ≤ 64 ∧ (m.secAt (m.pos e a)).now.size ≤ 64 := ⟨(hr.fine _).1, (hr.fine _).2.1⟩
    obtain ⟨en, an, rfl, rfl, hen, han⟩ := has_nat hh
    have hd' : m.read en an = ((m.secAt (en * m.sec + an)).now, 0) := by unfold Ext.read; rw [if_neg ho, if_pos hh, pos_nat]
    rw [hd']
    rw [pos_nat] at hs
    have R := Lib.hid (hr.drySec hen han)
    have c3 := hr.dc en hen
    have c4 := hr.mc en hen
    have HH := Lib.hid hh
    have HR := Lib.hid hr
    have i0 : (0 : Int) ≤ (en : Int) := by omega
    have i1 : (en : Int) < (m.ext : Int) := by omega
    have j0 : (0 : Int) ≤ (an : Int) := by omega
    have j1 : (an : Int) < (m.sec : Int) := by omega
    clear hd' ho ho' hh hr
    go_enter Tryd.func17, Tryd.ntmps17
    go_wp2_with fail
    refine (xPow b _ w c0).mono ?_
    rintro x w' ⟨rfl, rfl⟩
    go_wp2_with fail
    refine (xHasYes b m _ _ cap _ w' HH.out c1 c2).mono ?_
    rintro x w2 ⟨rfl, rfl⟩
    go_wp2_with fail
    refine (xOr2 0 0 0 rfl _ _ _ (World.cell?_alloc_at _ _ _ _ rfl) (World.cell?_alloc_at _ _ _ _ rfl)).mono ?_
    rintro x w3 ⟨rfl, rfl⟩
    clear R c0 c1 c2 c3 c4
    obtain ⟨W, hW⟩ : ∃ W, W = w2.alloc (.cells #[.int .i64 0, .int .i64 0] 25) := ⟨_, rfl⟩
    rw [← hW]
    have B := Lib.hid (show Below w2.heap.size w2 W by rw [hW]; exact (Below.refl _ _).alloc (Nat.le_refl _) _)
    have HS := Lib.hid (show w2.heap.size ≤ W.heap.size by rw [hW]; simp)
    have hr := HR.out.below B.out
    have c2 := hr.ext
    have c3 := hr.dc en hen
    have c4 := hr.mc en hen
    have l2 := hr.lt_b
    have l3 := hr.lt_g
    clear hW HR
    obtain ⟨W2, hW2⟩ : ∃ W2, W2 = W.alloc (.cells #[.slice (some ⟨ds en, 0, none⟩) m.sec m.sec, .map (some (ms en))] 70) := ⟨_, rfl⟩
    have B2 := Lib.hid (show Below W.heap.size W W2 by rw [hW2]; exact (Below.refl _ _).alloc (Nat.le_refl _) _)
    have hr2 := hr.below B2.out
    have LK := look_run (hr2.map en hen) (hr2.says en hen) han hr2.ok.2.2.2.1
    have R := Lib.hid (hr2.drySec hen han)
    have FI := Lib.hid (hr2.fine (en * m.sec + an)).2.2
    rw [hW2] at LK
    have g2 := Lib.hid (show W2.heap.size = W.heap.size + 1 by rw [hW2]; simp)
    have HW2 := Lib.hid hW2
    obtain ⟨Z, hZ⟩ : ∃ Z, Z = (rawL 0).toArray := ⟨_, rfl⟩
    have z74 : ∀ W, (zeroValue 85).run Tryd.prog W = .ok (.agg Z) W := fun W => by rw [hZ]; exact zeroS74 W
    have HZ := Lib.hid hZ
    clear hr hr2 hW2 hZ
    generalize hx : m.secAt (en * m.sec + an) = x at *
    obtain ⟨xd, xn, xw⟩ := x
    have HX := Lib.hid hx
    clear hx
    obtain ⟨hs1, hs2⟩ := hs
    cases xw with
    | true =>
      simp only [if_true] at LK
      have RN := Lib.hid (RowAt.new W2 (secL xn) 85)
      go_wp2_with (first
        | ((with_reducible refine wp_storeN (op := ⟨none, _, _, _, _, _⟩) rfl (.tmp 10) (.tmp 35) rfl W2 (rawL 0) (secL xn) ?c1 ?c2 ?c3 ?c4 ?c5 ?c6 ?_); (case c1 => (rw [← HZ.out, HW2.out])); (case c2 => (rw [g2.out]; rfl)); (case c3 => rfl); (case c4 => exact rawL_len _); (case c5 => exact secL_len _); (case c6 => exact secL_one _))
        | ((with_reducible refine wp_loadS (op := ⟨some 38, _, _, _, _, _⟩) rfl (.tmp 10) rfl (W.heap.size + 1) 0 ?d1 (secL xn) ?d2 ?d3 ?_); (case d1 => rfl); (case d2 => (rw [← g2.out]; exact RN.out.mid (fun j v hv => by rw [Nat.zero_add]; exact hv))); (case d3 => exact secL_len _)))
      refine (xText xn _ hs2).mono ?_
      rintro x w9 ⟨rfl, hb⟩
      go_wp2_with fail
      go_ret2
      exact ⟨by rw [HX.out]; rfl, below_then (below_then (below_then B.out B2.out) ((Below.refl _ _).alloc (Nat.le_refl _) _)) hb⟩
    | false =>
      obtain rfl : xn = xd := FI.out rfl
      have cA : W2.cell? ⟨W.heap.size, 0, none⟩ = some (.slice (some ⟨ds en, 0, none⟩) m.sec m.sec) := by rw [HW2.out, World.cell?_alloc_at _ _ _ _ rfl]; rfl
      have lA : W.heap.size < W2.heap.size := by rw [g2.out]; omega
      have R2 := Lib.hid (rangeAt_below R.out ((Below.refl _ _).alloc (Nat.le_refl _) (.cells (secL ⟨#[]⟩).toArray 85)))
      simp only [if_false, Bool.false_eq_true] at LK
      obtain ⟨E, hE⟩ : ∃ E : ByteArray, E = ⟨#[]⟩ := ⟨_, rfl⟩
      rw [← hE] at LK R2
      clear hE
      have RN := Lib.hid (RowAt.new W2 (secL E) 85)
      go_wp2_with (first
        | ((with_reducible refine wp_storeN (op := ⟨none, _, _, _, _, _⟩) rfl (.tmp 10) (.tmp 35) rfl W2 (rawL 0) (secL E) ?c1 ?c2 ?c3 ?c4 ?c5 ?c6 ?_); (case c1 => (rw [← HZ.out, HW2.out])); (case c2 => (rw [g2.out]; rfl)); (case c3 => rfl); (case c4 => exact rawL_len _); (case c5 => exact secL_len _); (case c6 => exact secL_one _))
        | ((with_reducible refine wp_loadS (op := ⟨some 44, _, _, _, _, _⟩) rfl (.tmp 43) rfl (ds en) (an * 65) ?d1 (secL xn) ?d2 ?d3 ?_); (case d1 => rfl); (case d2 => exact R2.out); (case d3 => exact secL_len _)))
      refine (xText xn _ hs2).mono ?_
      rintro x w9 ⟨rfl, hb⟩
      go_wp2_with fail
      go_ret2
      exact ⟨by rw [HX.out]; rfl, below_then (below_then (below_then B.out B2.out) ((Below.refl _ _).alloc (Nat.le_refl _) _)) hb⟩
  · have hd' : m.read e a = (⟨#[]⟩, 1) := by unfold Ext.read; rw [if_neg ho, if_neg hh]
    rw [hd']
    have HH := Lib.hid hh
    have HB := Lib.hid (Below.refl w.heap.size w)
    clear hd' hr ho hh ho'
    go_enter Tryd.func17, Tryd.ntmps17
    go_wp2_with fail
    refine (xPow b _ w c0).mono ?_
    rintro x w' ⟨rfl, rfl⟩
    go_wp2_with fail
    refine (xHasNo b m e a cap _ w' HH.out c1 c2).mono ?_
    rintro x w2 ⟨rfl, rfl⟩
    go_wp2_with fail
    refine (xOr2 0 1 1 rfl _ _ _ (World.cell?_alloc_at _ _ _ _ rfl) (World.cell?_alloc_at _ _ _ _ rfl)).mono ?_
    rintro x w3 ⟨rfl, rfl⟩
    go_wp2_with fail
    go_ret2
    exact ⟨rfl, HB.out.alloc (Nat.le_refl _) _⟩

theorem xRead (b : Nat) (F : Nat → Prop) (m : Ext) (e a : Int) (w : World) (h : RelX w b F m) (_ : In64 e) (_ : In64 a) :
    Calls Tryd.prog 17 #[.pointer (some ⟨b, 0, none⟩), .int .i64 e, .int .i64 a] w fun x w' => x = .returned (.tuple #[.string (m.read e a).1, .int .i64 (m.read e a).2]) ∧ LeftE RelX b F w m w' :=
  (xReadB b F m e a w h).mono fun _ _ hq => ⟨hq.1, h.left_below hq.2⟩

end Go.Proofs.YtfodclafkdkjbaaDoor

namespace Go.Proofs.YtfodclafkdkjbaaDoor
open Go.RowKit Go.Maps

theorem secAt_put {m : Ext} {i : Nat} (hi : i < m.l.length) (x : Sec) (j : Nat) : (m.put i x).secAt j = if i = j then x else m.secAt j := by
  unfold Ext.secAt Ext.put
  show (m.l.set i x).getD j Sec0 = _
  rw [List.getD_eq_getElem?_getD, List.getElem?_set]
  by_cases e : i = j
  · subst e; rw [if_pos rfl, if_pos rfl, if_pos hi]; rfl
  · rw [if_neg e, if_neg e, List.getD_eq_getElem?_getD]
theorem pos_ne {n e a e' a' : Nat} (ha : a < n) (ha' : a' < n) (h : e * n + a = e' * n + a') : e = e' ∧ a = a' := by
  have h1 : (e * n + a) / n = e := by rw [Nat.mul_comm, Nat.mul_add_div (by omega), Nat.div_eq_of_lt ha]; rfl
  have h2 : (e' * n + a') / n = e' := by rw [Nat.mul_comm, Nat.mul_add_div (by omega), Nat.div_eq_of_lt ha']; rfl
  have h3 : e = e' := by rw [← h1, ← h2, h]
  subst h3
  exact ⟨rfl, by omega⟩
theorem lit_ne {a a' : Nat} (h : a ≠ a') : Lit.int .i64 (a : Int) ≠ Lit.int .i64 (a' : Int) := fun q => h (by simp only [Lit.int.injEq, true_and] at q; omega)
theorem litKey (a : Int) : WideAt.IsKeyLit (.int .i64 a) := trivial
theorem pos_lt_nat {m : Ext} (ho : m.Ok) {e a : Nat} (he : e < m.ext) (ha : a < m.sec) : e * m.sec + a < m.l.length := by
  have := Ext.pos_lt ho (has_of he ha); rwa [pos_nat] at this

section
variable {D : DataW Unit} {m : Ext} {e a : Nat}
theorem Says.put (h : Says D m e) (ho : m.Ok) (he : e < m.ext) (ha : a < m.sec) (hD : IsMap D) (s d : ByteArray) : Says (D.put (.int .i64 a) (.lit (.string s.data.toList))) (m.put (e * m.sec + a) ⟨d, s, true⟩) e where
  key x hx := by
    show 0 ≤ x ∧ x < m.sec
    by_cases q : x = a
    · subst q; exact ⟨by omega, by omega⟩
    · rw [has_put_other (by intro k; simp only [Lit.int.injEq, true_and] at k; exact q k)] at hx
      exact h.key x hx
  wet a' ha' := by
    have ha2 : a' < m.sec := ha'
    show _ = ((m.put _ _).secAt (e * m.sec + a')).wet
    rw [secAt_put (pos_lt_nat ho he ha)]
    by_cases q : a = a'
    · subst q; rw [if_pos rfl, has_put_same hD (litKey _)]
    · rw [if_neg (fun k => q (pos_ne ha ha2 k).2), has_put_other (lit_ne (Ne.symm q)), h.wet a' ha2]
  now a' ha' hw z := by
    have ha2 : a' < m.sec := ha'
    change ((m.put _ _).secAt (e * m.sec + a')).wet = true at hw
    show _ = DataW.lit (.string ((m.put _ _).secAt (e * m.sec + a')).now.data.toList)
    rw [secAt_put (pos_lt_nat ho he ha)] at hw ⊢
    by_cases q : a = a'
    · subst q; rw [if_pos rfl, atKey_put_same hD (litKey _)]
    · have q2 : ¬ (e * m.sec + a = e * m.sec + a') := fun k => q (pos_ne ha ha2 k).2
      rw [if_neg q2] at hw ⊢
      rw [atKey_put_other (lit_ne (Ne.symm q)), h.now a' ha2 hw]
theorem Says.del (h : Says D m e) (ho : m.Ok) (he : e < m.ext) (ha : a < m.sec) (s d : ByteArray) : Says (D.del (.int .i64 a)) (m.put (e * m.sec + a) ⟨d, s, false⟩) e where
  key x hx := by
    show 0 ≤ x ∧ x < m.sec
    by_cases q : x = a
    · subst q; exact ⟨by omega, by omega⟩
    · rw [has_del_other (by intro k; simp only [Lit.int.injEq, true_and] at k; exact q k)] at hx
      exact h.key x hx
  wet a' ha' := by
    have ha2 : a' < m.sec := ha'
    show _ = ((m.put _ _).secAt (e * m.sec + a')).wet
    rw [secAt_put (pos_lt_nat ho he ha)]
    by_cases q : a = a'
    · subst q; rw [if_pos rfl, has_del_same]
    · rw [if_neg (fun k => q (pos_ne ha ha2 k).2), has_del_other (lit_ne (Ne.symm q)), h.wet a' ha2]
  now a' ha' hw z := by
    have ha2 : a' < m.sec := ha'
    change ((m.put _ _).secAt (e * m.sec + a')).wet = true at hw
    show _ = DataW.lit (.string ((m.put _ _).secAt (e * m.sec + a')).now.data.toList)
    rw [secAt_put (pos_lt_nat ho he ha)] at hw ⊢
    by_cases q : a = a'
    · subst q; rw [if_pos rfl] at hw; cases hw
    · have q2 : ¬ (e * m.sec + a = e * m.sec + a') := fun k => q (pos_ne ha ha2 k).2
      rw [if_neg q2] at hw ⊢
      rw [atKey_del_other (lit_ne (Ne.symm q)), h.now a' ha2 hw]
theorem Fine.put (h : Fine m) (ho : m.Ok) (he : e < m.ext) (ha : a < m.sec) (x : Sec) (hx : x.dry.size ≤ 64 ∧ x.now.size ≤ 64 ∧ (x.wet = false → x.now = x.dry)) : Fine (m.put (e * m.sec + a) x) := fun i => by
  rw [secAt_put (pos_lt_nat ho he ha)]
  split
  · exact hx
  · exact h i
theorem drys_put (ho : m.Ok) (he : e < m.ext) (ha : a < m.sec) (x : Sec) : drys (m.put (e * m.sec + a) x) e = (drys m e).set a x.dry := by
  apply List.ext_getElem (by rw [List.length_set, drys_len, drys_len]; rfl)
  intro j h1 h2
  rw [List.length_set, drys_len] at h2
  rw [drys_get _ e j (by show j < m.sec; exact h2), List.getElem_set]
  show ((m.put _ _).secAt (e * m.sec + j)).dry = _
  rw [secAt_put (pos_lt_nat ho he ha)]
  by_cases q : a = j
  · subst q; rw [if_pos rfl, if_pos rfl]
  · rw [if_neg (fun k => q (pos_ne ha h2 k).2), if_neg q, drys_get m e j h2]
theorem drys_same (ho : m.Ok) (he : e < m.ext) (ha : a < m.sec) (s : ByteArray) (b : Bool) : drys (m.put (e * m.sec + a) ⟨(m.secAt (e * m.sec + a)).dry, s, b⟩) e = drys m e := by
  rw [drys_put ho he ha]
  apply List.ext_getElem (by rw [List.length_set])
  intro j h1 h2
  rw [List.getElem_set]
  split
  · rename_i q; subst q; rw [drys_get m e a ha]
  · rfl
end

section
variable {P : Program} {o : Oper} {a : Act} {w w' : World} {K : Act → World → Prop} {Q : Exit → Act → World → Prop}
/-- a store into a map, at the operation -/
theorem oper_mapUpdate (t : TypeId) (m x v : Operand) (hop : o.op = Op.mapUpdate t m x v) (c : Nat) (key val : Value) (hm : a.eval m = .map (some c)) (hx : a.eval x = key) (hv : a.eval v = val)
    (hrun : (Instr.mapUpdate t (.map (some c)) key val).run P w = .ok () w') (hK : K (a.put o.dst undef) w') : Oper.wp P o a w K Q := by
  unfold Oper.wp
  simp [execOp, hop, hm, hx, hv, hrun, Result.andThen]
  exact hK
end

end Go.Proofs.YtfodclafkdkjbaaDoor
