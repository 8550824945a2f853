/- Proved parts: E5fl. Conditions: each theorem's own. -/
import Derived.Test.YtfodclafkdkjbaaDoorM38
namespace Go.Proofs.YtfodclafkdkjbaaDoor
open Go.RowKit Go.Maps

set_option maxRecDepth 100000 in
set_option maxHeartbeats 2000000 in
/-- Flush: what it answers, where nothing is done -/
theorem xFlushNo (b : Nat) (F : Nat → Prop) (m : Ext) (e : Int) (w : World) (h : RelX w b F m) (r : Int) (hr0 : r ≠ 0) (he : m.flush e = (m, r)) :
    Calls Tryd.prog 60 #[.pointer (some ⟨b, 0, none⟩), .int .i64 e] w fun x w' => x = .returned (.int .i64 (m.flush e).2) ∧ LeftE RelX b F w (m.flush e).1 w' := by
  rw [he]
  refine Calls.mono (R := fun x w' => x = .returned (.int .i64 r) ∧ Below w.heap.size w w') ?_ fun x w' hq => ⟨hq.1, h.left_below hq.2⟩
  obtain ⟨g, cap, ds, ms, Ds, hr, hb', hg, hd, hF⟩ := h
  clear hb' hg hd hF
  have c0 := hr.on
  have c1 := hr.sec
  have c2 := hr.ext
  obtain ⟨x0, h0⟩ : ∃ x0 : Int, x0 = (if (!m.off) = true then 0 else 6) := ⟨_, rfl⟩
  obtain ⟨x1, h1⟩ : ∃ x1 : Int, x1 = (if 0 ≤ e ∧ e < m.ext ∧ (0 : Int) ≤ 0 ∧ (0 : Int) < m.sec then 0 else 1) := ⟨_, rfl⟩
  have OR := Lib.hid (show (if x0 = 0 then x1 else x0) = r by
    unfold Ext.flush at he
    rw [h0, h1]
    cases ho : m.off with
    | true => rw [ho, if_pos rfl] at he; simp at he; simp; exact he
    | false =>
      rw [ho, if_neg (by decide)] at he
      by_cases k : m.has e 0
      · rw [if_pos k] at he; simp at he; exact absurd he.2.symm hr0
      · have k' : ¬ (0 ≤ e ∧ e < m.ext ∧ (0 : Int) ≤ 0 ∧ (0 : Int) < m.sec) := k
        rw [if_neg k] at he
        rw [if_neg k']; simp at he; simp; exact he)
  have C1 := Lib.hid (xPow b (!m.off) w c0)
  have C2 := Lib.hid (xHas b e 0 m.ext m.sec cap (some ⟨g, 0, none⟩) w c1 c2)
  rw [← h0] at C1
  rw [← h1] at C2
  clear h0 h1 hr he c0 c1 c2
  have HB := Lib.hid (Below.refl w.heap.size w)
  have hrb : (r == 0) = false := beq_eq_false_iff_ne.2 hr0
  have hrb2 : (r != 0) = true := by simp [bne, hrb]
  clear hr0
  go_enter Tryd.func60, Tryd.ntmps60
  go_wp2_with fail
  refine C1.out.mono ?_
  rintro x w' ⟨rfl, rfl⟩
  go_wp2_with fail
  refine C2.out.mono ?_
  rintro x w' ⟨rfl, rfl⟩
  go_wp2_with fail
  refine (xOr2 x0 x1 r OR.out _ _ _ (World.cell?_alloc_at _ _ _ _ rfl) (World.cell?_alloc_at _ _ _ _ rfl)).mono ?_
  rintro x w3 ⟨rfl, rfl⟩
  go_wp2_with fail
  go_ret
  exact ⟨rfl, HB.out.alloc (Nat.le_refl _) _⟩

/-- the row while what is left is still to be made dry -/
def drysTo (m : Ext) (e : Nat) (left : Lit → Bool) : List ByteArray := (List.range m.sec).map fun a => if (m.secAt (e * m.sec + a)).wet = true ∧ left (.int .i64 (a : Int)) = false then (m.secAt (e * m.sec + a)).now else (m.secAt (e * m.sec + a)).dry
theorem drysTo_len (m : Ext) (e : Nat) (left : Lit → Bool) : (drysTo m e left).length = m.sec := by unfold drysTo; simp
theorem drysTo_get (m : Ext) (e : Nat) (left : Lit → Bool) (a : Nat) (h : a < m.sec) : (drysTo m e left)[a]'(by rw [drysTo_len]; exact h) = if (m.secAt (e * m.sec + a)).wet = true ∧ left (.int .i64 (a : Int)) = false then (m.secAt (e * m.sec + a)).now else (m.secAt (e * m.sec + a)).dry := by
  unfold drysTo
  rw [List.getElem_map, List.getElem_range]
theorem drysTo_start {D : DataW Unit} {m : Ext} {e : Nat} (h : Says D m e) : drysTo m e (Maps.has D) = drys m e := by
  apply List.ext_getElem (by rw [drysTo_len, drys_len])
  intro a h1 h2
  rw [drysTo_len] at h1
  rw [drysTo_get m e _ a h1, drys_get m e a h1, if_neg]
  rintro ⟨q1, q2⟩
  rw [h.wet a h1, q1] at q2
  cases q2
theorem drysTo_step {m : Ext} {e a : Nat} {left : Lit → Bool} (hw : (m.secAt (e * m.sec + a)).wet = true) : (drysTo m e left).set a (m.secAt (e * m.sec + a)).now = drysTo m e (fun z => left z && !z.sameKey (.int .i64 (a : Int))) := by
  apply List.ext_getElem (by rw [List.length_set, drysTo_len, drysTo_len])
  intro j h1 h2
  rw [List.length_set, drysTo_len] at h1
  rw [List.getElem_set, drysTo_get m e _ j h1, drysTo_get m e _ j h1]
  by_cases q : a = j
  · subst q
    rw [if_pos rfl, if_pos ⟨hw, by simp [Lit.sameKey]⟩]
  · rw [if_neg q]
    have : (Lit.int .i64 (j : Int)).sameKey (.int .i64 (a : Int)) = false := sameKey_ne (lit_ne (Ne.symm q))
    simp only [this, Bool.not_false, Bool.and_true]

/-- the sectors behind a flush -/
theorem dried_secAt {m : Ext} {i k : Nat} (hk : k ≤ m.l.length) (j : Nat) : ({ m with l := Ext.dried m.l i k } : Ext).secAt j = if i ≤ j ∧ j < k then ⟨(m.secAt j).now, (m.secAt j).now, false⟩ else m.secAt j := by
  unfold Ext.secAt
  show (Ext.dried m.l i k).getD j Sec0 = _
  rw [List.getD_eq_getElem?_getD]
  by_cases q : j < m.l.length
  · rw [List.getElem?_eq_getElem (by rw [Ext.dried_len]; exact q), Ext.dried_get]
    rw [List.getD_eq_getElem?_getD, List.getElem?_eq_getElem q]
    rfl
  · rw [List.getElem?_eq_none (by rw [Ext.dried_len]; omega), if_neg (by omega), List.getD_eq_getElem?_getD, List.getElem?_eq_none (by omega)]
theorem flush_at {m : Ext} (ho : m.Ok) {e : Nat} (he : e < m.ext) (e' a : Nat) (ha : a < m.sec) : ({ m with l := Ext.dried m.l (e * m.sec) (e * m.sec + m.sec) } : Ext).secAt (e' * m.sec + a) = if e' = e then ⟨(m.secAt (e' * m.sec + a)).now, (m.secAt (e' * m.sec + a)).now, false⟩ else m.secAt (e' * m.sec + a) := by
  rw [dried_secAt (by
    rw [ho.2.2.2.2]
    have := Nat.mul_le_mul_right m.sec (show e + 1 ≤ m.ext from he)
    rw [Nat.add_mul] at this; omega)]
  by_cases q : e' = e
  · subst q; rw [if_pos rfl, if_pos ⟨by omega, by omega⟩]
  · rw [if_neg q, if_neg]
    rintro ⟨q1, q2⟩
    have h1 : e' * m.sec + a = e * m.sec + (e' * m.sec + a - e * m.sec) := by omega
    exact q (pos_ne ha (by omega) h1).1
theorem drysTo_end {m : Ext} (ho : m.Ok) (hf : Fine m) {e : Nat} (he : e < m.ext) {left : Lit → Bool} (hl : ∀ kl, left kl = false) : drysTo m e left = drys { m with l := Ext.dried m.l (e * m.sec) (e * m.sec + m.sec) } e := by
  apply List.ext_getElem (by rw [drysTo_len, drys_len])
  intro a h1 h2
  rw [drysTo_len] at h1
  rw [drysTo_get m e _ a h1, drys_get { m with l := Ext.dried m.l (e * m.sec) (e * m.sec + m.sec) } e a h1]
  show _ = (({ m with l := Ext.dried m.l (e * m.sec) (e * m.sec + m.sec) } : Ext).secAt (e * m.sec + a)).dry
  rw [flush_at ho he e a h1, if_pos rfl, hl]
  cases hw : (m.secAt (e * m.sec + a)).wet with
  | true => rw [if_pos ⟨rfl, rfl⟩]
  | false => rw [if_neg (fun q => by cases q.1)]; exact ((hf _).2.2 hw).symm
theorem fine_flush {m : Ext} (ho : m.Ok) {e : Nat} (he : e < m.ext) (hf : Fine m) : Fine { m with l := Ext.dried m.l (e * m.sec) (e * m.sec + m.sec) } := fun i => by
  rw [dried_secAt (by
    rw [ho.2.2.2.2]
    have := Nat.mul_le_mul_right m.sec (show e + 1 ≤ m.ext from he)
    rw [Nat.add_mul] at this; omega)]
  split
  · exact ⟨(hf i).2.1, (hf i).2.1, fun _ => rfl⟩
  · exact hf i
theorem Says.nil {m m' : Ext} {e : Nat} (hs : m'.sec = m.sec) (h : ∀ a, a < m.sec → (m'.secAt (e * m.sec + a)).wet = false) : Says (.map []) m' e where
  key x hx := by cases hx
  wet a ha := by rw [hs] at ha ⊢; rw [h a ha]; rfl
  now a ha hw := by rw [hs] at ha hw; rw [h a ha] at hw; cases hw

set_option maxRecDepth 100000 in
set_option maxHeartbeats 2000000 in
/-- Flush, where it is done -/
theorem xFlushYes (b : Nat) (F : Nat → Prop) (m : Ext) (e : Nat) (w : World) (h : RelX w b F m) (ho : m.off = false) (he : e < m.ext) :
    Calls Tryd.prog 60 #[.pointer (some ⟨b, 0, none⟩), .int .i64 e] w fun x w' => x = .returned (.int .i64 0) ∧ LeftE RelX b F w { m with l := Ext.dried m.l (e * m.sec) (e * m.sec + m.sec) } w' := by
  obtain ⟨g, cap, ds, ms, Ds, hr, hb', hg, hd, hF⟩ := h
  have c0 := hr.on
  have c1 := hr.sec
  have c2 := hr.ext
  rw [ho] at c0
  have HR := Lib.hid hr
  have i0 : (0 : Int) ≤ (e : Int) := by omega
  have i1 : (e : Int) < (m.ext : Int) := by omega
  have C1 := Lib.hid (xPow b true w c0)
  have C2 := Lib.hid (xHasYes b m e (0 : Nat) cap (some ⟨g, 0, none⟩) w (has_of he hr.ok.2.2.1) c1 c2)
  have HB := Lib.hid hb'
  have HG := Lib.hid hg
  have HD := Lib.hid hd
  have HF := Lib.hid hF
  clear hr c0 c1 c2 hb' hg hd hF ho
  go_enter Tryd.func60, Tryd.ntmps60
  go_wp2_with fail
  refine C1.out.mono ?_
  rintro x w' ⟨rfl, rfl⟩
  go_wp2_with fail
  refine C2.out.mono ?_
  rintro x w' ⟨rfl, rfl⟩
  go_wp2_with fail
  refine (xOr2 0 0 0 rfl _ _ _ (World.cell?_alloc_at _ _ _ _ rfl) (World.cell?_alloc_at _ _ _ _ rfl)).mono ?_
  rintro x w3 ⟨rfl, rfl⟩
  obtain ⟨W, hW⟩ : ∃ W, W = w'.alloc (.cells #[.int .i64 0, .int .i64 0] 25) := ⟨_, rfl⟩
  rw [← hW]
  have B := Lib.hid (show Below w'.heap.size w' W by rw [hW]; exact (Below.refl _ _).alloc (Nat.le_refl _) _)
  have HR2 := Lib.hid (HR.out.below B.out)
  have c2 := HR2.out.ext
  have c3 := HR2.out.dc e he
  have c4 := HR2.out.mc e he
  have l2 := HR2.out.lt_b
  have l3 := HR2.out.lt_g
  clear hW HR
  obtain ⟨W2, hW2⟩ : ∃ W2, W2 = W.alloc (.cells #[.slice (some ⟨ds e, 0, none⟩) m.sec m.sec, .map (some (ms e))] 70) := ⟨_, rfl⟩
  have B2 := Lib.hid (show Below W.heap.size W W2 by rw [hW2]; exact (Below.refl _ _).alloc (Nat.le_refl _) _)
  have CC := Lib.hid (show W2.cell? ⟨W.heap.size, 0, none⟩ = some (.slice (some ⟨ds e, 0, none⟩) m.sec m.sec) by rw [hW2, World.cell?_alloc_at _ _ _ _ rfl]; rfl)
  have CD := Lib.hid (show W2.cell? ⟨W.heap.size, 1, none⟩ = some (.map (some (ms e))) by rw [hW2, World.cell?_alloc_at _ _ _ _ rfl]; rfl)
  have HS := Lib.hid (show W2.heap.size = W.heap.size + 1 by rw [hW2]; simp)
  have NB := Lib.hid (show W.heap.size ≠ ds e ∧ W.heap.size ≠ ms e from ⟨fun q => by have := HR2.out.lt_row he; omega, fun q => by have := HR2.out.lt_map he; omega⟩)
  have HR3 := Lib.hid (HR2.out.below B2.out)
  have HM := Lib.hid (HR3.out.map e he)
  rw [hW2] at HM
  have HW2 := Lib.hid hW2
  clear hW2
  go_wp2_with (first
    | (at_range; refine wpList_range_own _ rfl _ 68 rfl 3 85 keyI Tryd.underlying68 secElem (ms e) (Maps.size (Ds e)) (Ds e) rfl HM.out ?_; intro w0 hrg0 hg0 hs0))
  go_frame
  rw [← HW2.out] at hrg0 hg0 hs0 ⊢
  obtain ⟨r, hr⟩ : ∃ r, r = W2.heap.size := ⟨_, rfl⟩
  rw [← hr] at hrg0 ⊢
  have HRr := Lib.hid hr
  have N1 := Lib.hid (show r ≠ ds e ∧ r ≠ W.heap.size from ⟨fun q => by have := HR3.out.lt_row he; omega, fun q => by have := HS.out; omega⟩)
  have C0 := Lib.hid (show Chg (fun k => k = ds e) W2 w0 from (Chg.refl _ _).grown hg0 (fun k q => by cases q))
  have RW0 := Lib.hid ((HR3.out.row e he).keep ((Chg.refl (fun _ => False) W2).grown hg0 (fun k q => by cases q)) id)
  rw [← drysTo_start (HR3.out.says e he)] at RW0
  obtain ⟨Z, hZ⟩ : ∃ Z, Z = (rawL 0).toArray := ⟨_, rfl⟩
  have z74 : ∀ W, (zeroValue 85).run Tryd.prog W = .ok (.agg Z) W := fun W => by rw [hZ]; exact zeroS74 W
  have HZ := Lib.hid hZ
  clear hg0 hs0 hr c2 c3 c4 l2 l3 hZ
  go_loopw [7] (fun _ wr => ∃ (left : Lit → Bool) (cnt : Nat), wr.ranges Tryd.prog 3 secElem (ms e) r (Maps.size (Ds e)) (Ds e) left cnt ∧ RowAt wr (ds e) ((drysTo m e left).flatMap secL) 85 ∧ Chg (fun k => k = ds e) W2 wr)
    (fun _ wr => wr.rangeLeft (ms e) r)
  case atStart => exact ⟨_, _, hrg0, RW0.out, C0.out⟩
  case round =>
    obtain ⟨left, cnt, hrg, hrow, hch⟩ := hrel
    have RG := Lib.hid hrg
    have RO := Lib.hid hrow
    have CH := Lib.hid hch
    have cA := hch.cell (p := ⟨W.heap.size, 0, none⟩) CC.out NB.out.1
    have cB := hch.cell (p := ⟨W.heap.size, 1, none⟩) CD.out NB.out.1
    have lA : W.heap.size < wr.heap.size := by have := hch.size; have := HS.out; omega
    clear hrg hrow hch hrg0
    go_wp2_with (first
      | (at_next; refine wpList_next_ranges _ rfl _ rfl 3 keyI secElem (Value.int .i64) (fun s : ByteArray => .agg (secL s).toArray) (fun key kl hk => by obtain ⟨x, hx, _⟩ := Maps.keyOf_i64 Tryd.underlying3 hk; exact ⟨x, hx⟩) (fun v y hy => by obtain ⟨s, _, hs, _⟩ := secElem_inv hy; exact ⟨s, hs⟩) (ms e) r (Maps.size (Ds e)) _ _ _ rfl RG.out ?_ ?_))
    · intro hc0 hl0
      have HL := Lib.hid hl0
      clear hl0 hc0
      have HMr := Lib.hid RG.out.owns
      go_wp2_with (
        (with_reducible refine wp_clearM rfl (.tmp 40) rfl (ms e) (Maps.size (Ds e)) (Ds e) rfl HMr.out ?_); intro w6 hown6 hg6 hs6)
      have C6 := Lib.hid (show Chg (fun k => k = ds e ∨ k = ms e) W2 w6 from (CH.out.mono fun i q => .inl q).grown hg6 (fun k hk => by cases hk; exact .inl (.inr rfl)))
      have hr6 : RepE w6 b g cap ds ms _ { m with l := Ext.dried m.l (e * m.sec) (e * m.sec + m.sec) } := HR3.out.step he C6.out (by
          rw [← drysTo_end HR3.out.ok HR3.out.fine he HL.out]; exact RO.out.keep ((Chg.refl (fun k => k = ms e) wr).grown hg6 (fun k hk => by cases hk; exact .inl rfl)) (fun q => HR3.out.d_m he he q.symm)) hown6
        (Says.nil rfl fun a ha => by rw [flush_at HR3.out.ok he e a ha, if_pos rfl]) rfl rfl rfl ⟨HR3.out.ok.1, HR3.out.ok.2.1, HR3.out.ok.2.2.1, HR3.out.ok.2.2.2.1, by show (Ext.dried _ _ _).length = _; rw [Ext.dried_len]; exact HR3.out.ok.2.2.2.2⟩
        (fine_flush HR3.out.ok he HR3.out.fine)
        (fun e' a' he' ha' hne => by rw [flush_at HR3.out.ok he e' a' ha', if_neg hne])
      have HR6 := Lib.hid hr6
      have HC6 := Lib.hid (show Chg (fun k => k = ds e ∨ k = ms e) w' w6 from ((Chg.of_below B.out).trans (Chg.of_below (F := fun _ => False) B2.out) (fun _ q => q.elim)).trans C6.out (fun i q => .inl q))
      clear hr6 hown6 hg6 hs6
      go_ret
      exact ⟨rfl, RelX.left HC6.out (fun k hk => by
        rcases hk with rfl | rfl
        · exact .inl (HD.out e he).1
        · exact .inl (HD.out e he).2) HR6.out HB.out HG.out HD.out HF.out⟩
    · intro x c kl yd yp w1 cnt1 hkey hlk hv hat hrg1 hlt hg1 hs1 hen
      obtain ⟨x', ex, rfl, _⟩ := Maps.keyOf_i64 Tryd.underlying3 hkey
      obtain rfl : x = x' := encZ_inj ex
      have hx := (HR3.out.says e he).key x (has_true_of_atKey hat)
      obtain ⟨a, rfl⟩ : ∃ a : Nat, x = a := ⟨x.toNat, by omega⟩
      have ha : a < m.sec := by omega
      have hwet : (m.secAt (e * m.sec + a)).wet = true := by rw [← (HR3.out.says e he).wet a ha]; exact has_true_of_atKey hat
      obtain ⟨s', hs64, hse, hye⟩ := secElem_inv hv
      have hcs : s' = c := by
        simp only [Value.agg.injEq] at hse
        exact secL_inj hs64 (by have := congrArg Array.toList hse; simpa using this.symm)
      subst hcs
      have hnow : s' = (m.secAt (e * m.sec + a)).now := by
        have q := (HR3.out.says e he).now a ha hwet (.lit (.bool true))
        have hyd := congrArg Prod.fst hye
        simp only at hyd
        rw [hat, hyd] at q
        simp only [DataW.lit.injEq, Lit.string.injEq] at q
        exact str_inj q
      have HNOW := Lib.hid hnow
      have HWET := Lib.hid hwet
      have RG1 := Lib.hid hrg1
      have LT := Lib.hid hlt
      have RO1 := Lib.hid (RO.out.keep ((Chg.refl (fun k => k = r) wr).grown hg1 (fun k hk => by cases hk; exact .inl rfl)) (fun q => N1.out.1 q.symm))
      have CH1 := Lib.hid (show Chg (fun k => k = ds e) W2 w1 from CH.out.grown hg1 (fun k hk => by cases hk; exact .inr (Nat.le_of_eq HRr.out.symm)))
      have cA := CH1.out.cell (p := ⟨W.heap.size, 0, none⟩) CC.out NB.out.1
      have lA : W.heap.size < w1.heap.size := by have := CH1.out.size; have := HS.out; omega
      have i0 : (0 : Int) ≤ (a : Int) := by omega
      have i1 : (a : Int) < (m.sec : Int) := by omega
      have RN := Lib.hid (RowAt.new w1 (secL s') 85)
      have LD := Lib.hid (HR3.out.lt_row he)
      have LN := Lib.hid (show a * 65 + 65 ≤ ((drysTo m e left).flatMap secL).length by
        rw [flat_len secL_len, drysTo_len]
        have := Nat.mul_le_mul_right 65 (show a + 1 ≤ m.sec from ha)
        rw [Nat.add_mul] at this; omega)
      have RO2 := Lib.hid (RO1.out.alloc (.cells (secL s').toArray 85))
      have TH := Lib.hid (RowAt.there RO2.out (o := a * 65) (n := 65) LN.out)
      clear hkey hlk hv hat hrg1 hlt hg1 hs1 hse hye hs64 hnow hwet hx ex cB
      go_wp2_with (first
        | ((with_reducible refine wp_storeN (op := ⟨none, _, _, _, _, _⟩) rfl (.tmp 8) (.tmp 33) rfl w1 (rawL 0) (secL s') ?c1 ?c2 ?c3 ?c4 ?c5 ?c6 ?_); (case c1 => (rw [← HZ.out])); (case c2 => rfl); (case c3 => rfl); (case c4 => exact rawL_len _); (case c5 => exact secL_len _); (case c6 => exact secL_one _))
        | ((with_reducible refine wp_loadS (op := ⟨some 37, _, _, _, _, _⟩) rfl (.tmp 8) rfl w1.heap.size 0 ?d1 (secL s') ?d2 ?d3 ?_); (case d1 => rfl); (case d2 => exact RN.out.mid (fun j v hv => by rw [Nat.zero_add]; exact hv)); (case d3 => exact secL_len _))
        | ((with_reducible refine wp_storeS (op := ⟨none, _, _, _, _, _⟩) rfl (.tmp 38) (.tmp 37) rfl (ds e) (a * 65) (secL s') ?e1 ?e2 ?e3 ?e4 ?e5 ?_); (case e1 => rfl); (case e2 => rfl); (case e3 => exact TH.out); (case e4 => exact secL_len _); (case e5 => exact secL_one _)))
      have RG3 := Lib.hid ((RG1.out.alloc (.cells (secL s').toArray 85)).kept (setCells_grown _ (ds e) (a * 65) (secL s')) (fun q => HR3.out.d_m he he (Option.some.inj q)) (fun q => N1.out.1 (Option.some.inj q)))
      have RO3 := Lib.hid (RowAt.setCells (secL s') (a * 65) _ _ RO2.out (by rw [secL_len]; exact LN.out))
      rw [flat_seg secL_len s' (drysTo m e left) a (by rw [drysTo_len]; exact ha), HNOW.out, drysTo_step HWET.out, ← HNOW.out] at RO3
      have CH3 := Lib.hid ((CH1.out.alloc (.cells (secL s').toArray 85)).setCells (g := ds e) (.inl rfl) (a * 65) (secL s'))
      go_roundw
      case rel => first | exact ⟨_, _, RG3.out, RO3.out, CH3.out⟩ | ((repeat apply Exists.intro); exact ⟨⟨_, _, RG3.out, RO3.out, CH3.out⟩, rfl⟩)
      case measure => rw [RG3.out.left_eq, RG.out.left_eq]; exact LT.out

/-- Flush -/
theorem xFlush (b : Nat) (F : Nat → Prop) (m : Ext) (e : Int) (w : World) (h : RelX w b F m) (_ : In64 e) :
    Calls Tryd.prog 60 #[.pointer (some ⟨b, 0, none⟩), .int .i64 e] w fun x w' => x = .returned (.int .i64 (m.flush e).2) ∧ LeftE RelX b F w (m.flush e).1 w' := by
  cases ho : m.off with
  | true => exact xFlushNo b F m e w h 6 (by decide) (by unfold Ext.flush; rw [if_pos ho])
  | false =>
    by_cases hh : m.has e 0
    · obtain ⟨en, an, rfl, _, hen, _⟩ := has_nat hh
      rw [show m.flush (en : Int) = ({ m with l := Ext.dried m.l (en * m.sec) (en * m.sec + m.sec) }, 0) by
        unfold Ext.flush; rw [ho, if_neg (by decide), if_pos hh, show m.pos (en : Int) 0 = en * m.sec from pos_nat m en 0]]
      exact xFlushYes b F m en w h ho hen
    · exact xFlushNo b F m e w h 1 (by decide) (by unfold Ext.flush; rw [ho, if_neg (by decide), if_neg hh])

end Go.Proofs.YtfodclafkdkjbaaDoor
