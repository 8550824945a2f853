/- expr's behind: walked. -/
import Derived.Test.YtjahaegdmfgmgaaDoorG1d
import Derived.Test.YtjahaegdmfgmgaaDoorRgn
namespace Go.Proofs.YtjahaegdmfgmgaaDoor
open Go.RowKit Ex Fl

theorem len1 {t : List Nat} (h : t.length = 1) : ∃ a, t = [a] := by
  match t, h with
  | [a], _ => exact ⟨a, rfl⟩
theorem len2 {t : List Nat} (h : t.length = 2) : ∃ a b, t = [a, b] := by
  match t, h with
  | [a, b], _ => exact ⟨a, b, rfl⟩
theorem len3 {t : List Nat} (h : t.length = 3) : ∃ a b c, t = [a, b, c] := by
  match t, h with
  | [a, b, c], _ => exact ⟨a, b, c, rfl⟩
/-- made -/
theorem xmade (op : Int) (own x : Nat) (t : List Nat) (w : World) (A : Option Addr) (cc : Nat) (h : SlF w A t) (ht : Ok t) (hl : t.length = tk op) (o1 : 1 ≤ op) (o2 : op ≤ 16) (ho : bitsOf own = own) :
    Calls Tryd.prog 37 #[.agg #[.int .i64 op, .int .u64 (own : Int)], .float .f64 x, .slice A t.length cc] w (MadeP (mk op own x (t.getD 0 0) (t.getD 1 0) (t.getD 2 0)) w) := by
  have two : (op = 3 ∨ op = 4 ∨ op = 5 ∨ op = 6 ∨ op = 7 ∨ op = 8) → Calls Tryd.prog 37 #[.agg #[.int .i64 op, .int .u64 (own : Int)], .float .f64 x, .slice A t.length cc] w (MadeP (mk op own x (t.getD 0 0) (t.getD 1 0) (t.getD 2 0)) w) := by
    intro q
    have e2 : tk op = 2 := by rcases q with rfl | rfl | rfl | rfl | rfl | rfl <;> rfl
    obtain ⟨a, b, rfl⟩ := len2 (hl.trans e2)
    obtain ⟨l, hm⟩ := mk_some own x a b 0 (show op ≠ 15 by rcases q with rfl | rfl | rfl | rfl | rfl | rfl <;> decide)
    have hll := mk_len o1 o2 l hm
    obtain ⟨y, rfl⟩ := len1 (hll.trans (by rcases q with rfl | rfl | rfl | rfl | rfl | rfl <;> rfl))
    have ha := ht a (by simp)
    have hb := ht b (by simp)
    show Calls _ _ _ w (MadeP (mk op own x a b 0) w)
    rw [hm]
    rcases q with rfl | rfl | rfl | rfl | rfl | rfl
    · exact xmade3 a b 0 y own x w A _ cc h rfl ha hb hm
    · exact xmade4 a b 0 y own x w A _ cc h rfl ha hb hm
    · exact xmade5 a b 0 y own x w A _ cc h rfl ha hb hm
    · exact xmade6 a b 0 y own x w A _ cc h rfl ha hb hm
    · exact xmade7 a b 0 y own x w A _ cc h rfl ha hb hm
    · exact xmade8 a b 0 y own x w A _ cc h rfl ha hb hm
  have one : (op = 9 ∨ op = 10 ∨ op = 11) → Calls Tryd.prog 37 #[.agg #[.int .i64 op, .int .u64 (own : Int)], .float .f64 x, .slice A t.length cc] w (MadeP (mk op own x (t.getD 0 0) (t.getD 1 0) (t.getD 2 0)) w) := by
    intro q
    have e2 : tk op = 1 := by rcases q with rfl | rfl | rfl <;> rfl
    obtain ⟨a, rfl⟩ := len1 (hl.trans e2)
    obtain ⟨l, hm⟩ := mk_some own x a 0 0 (show op ≠ 15 by rcases q with rfl | rfl | rfl <;> decide)
    have hll := mk_len o1 o2 l hm
    obtain ⟨y, rfl⟩ := len1 (hll.trans (by rcases q with rfl | rfl | rfl <;> rfl))
    have ha := ht a (by simp)
    show Calls _ _ _ w (MadeP (mk op own x a 0 0) w)
    rw [hm]
    rcases q with rfl | rfl | rfl
    · exact xmade9 a 0 0 y own x w A _ cc h rfl ha hm
    · exact xmade10 a 0 0 y own x w A _ cc h rfl ha hm
    · exact xmade11 a 0 0 y own x w A _ cc h rfl ha hm
  have cases16 : op = 1 ∨ op = 2 ∨ (op = 3 ∨ op = 4 ∨ op = 5 ∨ op = 6 ∨ op = 7 ∨ op = 8) ∨ (op = 9 ∨ op = 10 ∨ op = 11) ∨ op = 12 ∨ op = 13 ∨ op = 14 ∨ op = 15 ∨ op = 16 := by omega
  rcases cases16 with rfl | rfl | q | q | rfl | rfl | rfl | rfl | rfl
  · exact xmade1 own x w A _ cc
  · exact xmade2 own x w A _ cc ho
  · exact two q
  · exact one q
  · obtain ⟨a, rfl⟩ := len1 hl
    exact xmade12 a own x w A _ cc h rfl (ht a (by simp)).2
  · obtain ⟨a, b, rfl⟩ := len2 hl
    exact xmade13 a b own x w A _ cc h rfl (ht a (by simp)).2 (ht b (by simp)).2
  · exact xmade14 own x w A _ cc
  · obtain ⟨a, rfl⟩ := len1 hl
    show Calls _ _ _ w (MadeP (if fin a then some [a] else none) w)
    cases hf : fin a
    · exact xmade15n a own x w A _ cc h rfl (ht a (by simp)).1 hf
    · exact xmade15y a own x w A _ cc h rfl (ht a (by simp)) hf
  · obtain ⟨a, b, c, rfl⟩ := len3 hl
    exact xmade16 a b c own x w A _ cc h rfl (ht a (by simp)).2 (ht b (by simp)).2 (ht c (by simp)).1

/-- what behind leaves -/
def BehP (r : Option (List Nat)) (w : World) (e : Ending) (w' : World) : Prop :=
  Below w.heap.size w w' ∧ (∀ l, r = some l → ∃ v, e = .returned v ∧ OwnF w' w.heap.size v l) ∧ (r = none → e = .panicked oddE)
theorem stp_none {c : Cd} {x : Nat} {s : List Nat} (h : ¬ bad c.op s.length) : stp c x s = (mk c.op c.b x ((s.drop (s.length - tk c.op)).getD 0 0) ((s.drop (s.length - tk c.op)).getD 1 0) ((s.drop (s.length - tk c.op)).getD 2 0)).map (s.take (s.length - tk c.op) ++ ·) := by
  have e : ∀ i, (s.drop (s.length - tk c.op)).getD i 0 = s.getD (s.length - tk c.op + i) 0 := fun i => by
    rw [List.getD_eq_getElem?_getD, List.getElem?_drop, ← List.getD_eq_getElem?_getD]
  unfold stp
  rw [if_neg h, e, e, e]
  rfl
theorem cells2 {W : World} {g : Nat} {a b : Value} {T : TypeId} (h : RowAt W g [a, b] T) : W.cell? ⟨g, 0, none⟩ = some a ∧ W.cell? ⟨g, 1, none⟩ = some b := ⟨h.cell 0, h.cell 1⟩
theorem cell_newF (w : World) (y : Nat) (t : TypeId) : (w.alloc (.cells #[.float .f64 y] t)).cell? ⟨w.heap.size, 0, none⟩ = some (.float .f64 y) := by
  rw [World.cell?_alloc_at _ _ _ _ rfl]; rfl

/-- a row of the call's own beside a slice that is read -/
structure BesF (w : World) (B : Nat) (v : Value) (zs : List Nat) (A : Option Addr) (rs : List Nat) : Prop where
  own : OwnF w B v zs
  sl : SlF w A rs
  ne : 0 < rs.length → ∀ b o, A = some ⟨b, o, none⟩ → v.ownBlock ≠ some b
theorem BesF.alloc {w : World} {B : Nat} {v : Value} {zs : List Nat} {A : Option Addr} {rs : List Nat} (h : BesF w B v zs A rs) (o : Obj) : BesF (w.alloc o) B v zs A rs := ⟨h.own.alloc o, h.sl.alloc o, h.ne⟩
set_option maxRecDepth 100000 in
theorem wp_putBF {w : World} {ops : Array Oper} {rest : List Oper} {o : Oper} {a : Act} {Q : Exit → Act → World → Prop} (hgd : o.guard = none) (s x : Operand)
    (ho : o.op = .call { callee := .builtin .append, args := #[s, x], argTypes := #[34, 34] })
    (B : Nat) (v : Value) (zs : List Nat) (A : Option Addr) (rs : List Nat) (hs : a.eval s = v) (two : BesF w B v zs A rs) (g : Nat) (y : Nat) (hx : a.eval x = .slice (some ⟨g, 0, none⟩) 1 1)
    (hc : w.cell? ⟨g, 0, none⟩ = some (.float .f64 y)) (hl : zs.length + 1 ≤ 1099511627776) (hB : B ≤ w.heap.size)
    (h : ∀ v' w', BesF w' B v' (zs ++ [y]) A rs → Below B w w' → wpList Tryd.prog ops Q rest (a.put o.dst v') w') : wpList Tryd.prog ops Q (o :: rest) a w := by
  obtain ⟨i0, hi, hz0, hz1, hz2⟩ := info_parts infoF
  refine wpList_append_own_at w hgd s x 34 ho B 25 i0 _ 1 8 Tryd.underlying34 hi hz0 hz1 hz2 rfl (by decide) v zs.length _ hs two.own ⟨g, 0, none⟩ 1 1 [.float .f64 y] hx rfl ?_ ?_
    (by unfold maxLen; omega) (by omega) hB ?_
  · intro j u hj
    cases j with
    | zero => simp at hj; subst hj; exact hc
    | succ j => simp at hj
  · intro u hu; simp at hu; subst hu; rfl
  · intro v' w' h1 h2 _ hat
    have k1 : OwnF w' B v' (zs ++ [y]) := by unfold OwnF; simpa using h1
    have k2 : SlF w' A rs := fun h0 => by
      obtain ⟨b, o, e, hlt, hcc⟩ := two.sl h0
      exact ⟨b, o, e, Nat.lt_of_lt_of_le hlt h2.size, fun j hj => (World.cell?_of_block (w := w) (a := ⟨b, o + j, none⟩) (h2.block b hlt (fun q => two.ne h0 b o e q.symm))).trans (hcc j hj)⟩
    refine h v' w' ⟨k1, k2, fun h0 b o e => ?_⟩ ((Below.refl _ _).grown h2 hB (fun k hk => (World.ownsRow.lt two.own k hk).1))
    rcases hat with q | q
    · rw [q]; exact two.ne h0 b o e
    · rw [q]
      intro e2
      injection e2 with e2
      obtain ⟨b', o', e', hlt, _⟩ := two.sl h0
      rw [e] at e'
      injection e' with e'
      injection e' with e' _ _
      omega

set_option maxRecDepth 100000 in
set_option maxHeartbeats 4000000 in
/-- behind -/
theorem xbehind (c : Cd) (x : Nat) (s : List Nat) (A : Option Addr) (cc : Nat) (w : World) (h : SlF w A s) (hc : s.length ≤ cc) (hn : A = none → cc = 0) (h8 : s.length ≤ 8) (hs : Ok s) (hi : isC c = true) (ht : TabH w) :
    Calls Tryd.prog 35 #[.slice A s.length cc, .agg #[.int .i64 c.op, .int .u64 (c.b : Int)], .float .f64 x] w (BehP (stp c x s) w) := by
  obtain ⟨op, own⟩ := c
  obtain ⟨o1, o2, _, o4⟩ := (isC_iff _).1 hi
  change 1 ≤ op at o1
  change op ≤ 16 at o2
  change bitsOf own = own at o4
  show Calls Tryd.prog 35 #[.slice A s.length cc, .agg #[.int .i64 op, .int .u64 (own : Int)], .float .f64 x] w _
  obtain ⟨n, hnn⟩ : ∃ n, n = s.length := ⟨_, rfl⟩
  have XH := Lib.hid (fun W (hT : TabH W) => xheights n op (by omega) o1 o2 W hT)
  have r0 := RowAt.new w [.int .i64 op, .int .u64 (own : Int)] 42
  have hb0 := (Below.refl w.heap.size w).alloc (Nat.le_refl _) (.cells [.int .i64 op, .int .u64 (own : Int)].toArray 42)
  have B0 := Lib.hid hb0
  have R0 := Lib.hid r0
  have T0 := Lib.hid (ht.bel hb0)
  obtain ⟨c0, c1⟩ := cells2 r0
  by_cases bd : bad op n
  · have e : stp ⟨op, own⟩ x s = none := by unfold stp; rw [← hnn, if_pos bd]
    rw [e, ← hnn]
    rw [decide_eq_true bd] at XH
    clear h hc hn h8 hs hi ht o1 o2 o4 hnn r0 hb0 bd e
    go_enter Tryd.func35, Tryd.ntmps35
    go_wp2_with fail
    refine (XH.out _ T0.out).mono ?_
    rintro e w' ⟨rfl, rfl⟩
    go_wp2_with fail
    exact ⟨rfl, B0.out, (fun l e => by cases e), fun _ => rfl⟩
  · rw [decide_eq_false bd] at XH
    rw [stp_none (c := ⟨op, own⟩) (x := x) (s := s) (by rw [← hnn]; exact bd)]
    show Calls Tryd.prog 35 #[.slice A s.length cc, .agg #[.int .i64 op, .int .u64 (own : Int)], .float .f64 x] w (BehP ((mk op own x ((s.drop (s.length - tk op)).getD 0 0) ((s.drop (s.length - tk op)).getD 1 0) ((s.drop (s.length - tk op)).getD 2 0)).map (s.take (s.length - tk op) ++ ·)) w)
    rw [← hnn] at hc h8 ⊢
    obtain ⟨k, hk⟩ : ∃ k, k = n - tk op := ⟨_, rfl⟩
    have kn : k ≤ n := by omega
    have tl : tk op = n - k := by unfold bad at bd; omega
    have e1 : (n : Int) - (tk op : Int) = (k : Int) := by unfold bad at bd; omega
    rw [e1] at XH
    rw [← hk]
    have lt : (s.take k).length = k := by rw [List.length_take]; omega
    have ld : (s.drop k).length = n - k := by rw [List.length_drop]; omega
    have CL := Lib.hid (fun W (hS : SlF W A s) => xcloneF A cc (s.take k) W (hS.take k) (by omega) hn (by omega))
    simp only [lt] at CL
    have MD := Lib.hid (fun W A' c' (hS : SlF W A' (s.drop k)) => xmade op own x (s.drop k) W A' c' hS (hs.drop k) (by rw [ld, tl]) o1 o2 o4)
    simp only [ld] at MD
    obtain ⟨r, hr⟩ : ∃ r, r = mk op own x ((s.drop k).getD 0 0) ((s.drop k).getD 1 0) ((s.drop k).getD 2 0) := ⟨_, rfl⟩
    simp only [← hr] at MD
    rw [← hr]
    have HS := Lib.hid h
    have SP := Lib.hid (show ∀ W, SlF W A s → SlF W (Option.map (fun x => x.add k) A) (s.drop k) from fun W hS => hS.sliced k)
    have RL := Lib.hid (show ∀ l, r = some l → l.length ≤ 2 from fun l e => by
      have := mk_len o1 o2 l (hr.symm.trans e)
      have := pt_le op
      omega)
    have LT := Lib.hid lt
    have i0 : (0 : Int) ≤ (k : Int) := by omega
    have i1 : (k : Int) ≤ (cc : Int) := by omega
    have i2 : (k : Int) ≤ (n : Int) := by omega
    have i3 : n ≤ cc := hc
    have i4 : k ≤ n := kn
    have SZ := Lib.hid (show cc = k → ∀ W A', SlF W A' (s.drop k) from fun e W A' hp => by rw [ld] at hp; omega)
    clear h hn hs hi ht o1 o2 o4 hnn r0 hb0 bd e1 hk kn tl lt ld hr
    by_cases qc : cc = k
    · have SX := Lib.hid (fun W (_ : SlF W A s) => SZ.out qc W)
      rw [show n - k = 0 by omega] at MD
      have qk := qc.symm
      subst qk
      clear SP SZ
      go_enter Tryd.func35, Tryd.ntmps35
      go_wp2_with fail
      refine (XH.out _ T0.out).mono ?_
      rintro e w' ⟨rfl, rfl⟩
      go_wp2_with fail
      refine (CL.out _ (HS.out.below B0.out)).mono ?_
      rintro e w1 ⟨v, rfl, hown, hb1⟩
      have HO := Lib.hid (hown.more B0.out.size)
      have B1 := Lib.hid (B0.out.trans (hb1.mono B0.out.size))
      have R1 := Lib.hid (show RowAt w1.drew w.heap.size [.int .i64 op, .int .u64 (own : Int)] 42 from R0.out.below hb1.drew)
      have S1 := Lib.hid (show SlF w1.drew A s from HS.out.below B1.out.drew)
      clear hown hb1 c0 c1 CL XH T0 HS
      go_wp2_with fail
      refine wp_region_held_drew (S := fun W : World => RowAt W w.heap.size [.int .i64 op, .int .u64 (own : Int)] 42) (by kernel_rfl) (R1.out) (fun hHeld => ?_)
      refine rgnTake 0 rfl (by kernel_rfl) (by kernel_rfl) (by kernel_rfl) (fun _ _ _ h => h) (by rfl) (v := ?v1) ?hy1 hHeld ?rest1
      case hy1 => (intro v hSw; obtain ⟨x0, x1⟩ := cells2 hSw;first | (go_simp; done) | (go_simp; with_reducible rfl))
      try simp only [Act.put, List.setIfInBounds_toArray, List.set_cons_zero, List.set_cons_succ]
      refine rgnTake 1 rfl (by kernel_rfl) (by kernel_rfl) (by kernel_rfl) (fun _ _ _ h => h) (by rfl) (v := ?v2) ?hy2 hHeld ?rest2
      case hy2 => (intro v hSw; first | (go_simp; done) | (go_simp; with_reducible rfl))
      try simp only [Act.put, List.setIfInBounds_toArray, List.set_cons_zero, List.set_cons_succ]
      refine rgnTake 2 rfl (by kernel_rfl) (by kernel_rfl) (by kernel_rfl) (fun _ _ _ h => h) (by rfl) (v := ?v3) ?hy3 hHeld ?rest3
      case hy3 => (intro v hSw; first | (go_simp; done) | (go_simp; with_reducible rfl))
      try simp only [Act.put, List.setIfInBounds_toArray, List.set_cons_zero, List.set_cons_succ]
      refine rgnTake 3 rfl (by kernel_rfl) (by kernel_rfl) (by kernel_rfl) (fun _ _ _ h => h) (by rfl) (v := ?v4) ?hy4 hHeld ?rest4
      case hy4 => (intro v hSw; first | (go_simp; done) | (go_simp; with_reducible rfl))
      try simp only [Act.put, List.setIfInBounds_toArray, List.set_cons_zero, List.set_cons_succ]
      refine rgnTake 4 rfl (by kernel_rfl) (by kernel_rfl) (by kernel_rfl) (fun _ _ _ h => h) (by rfl) (v := ?v5) ?hy5 hHeld ?rest5
      case hy5 => (intro v hSw; first | (go_simp; done) | (go_simp; with_reducible rfl))
      try simp only [Act.put, List.setIfInBounds_toArray, List.set_cons_zero, List.set_cons_succ]
      refine rgnTake 7 rfl (by kernel_rfl) (by kernel_rfl) (by kernel_rfl) (fun _ _ _ h => h) (by rfl) (v := ?v6) ?hy6 hHeld ?rest6
      case hy6 => (intro v hSw; first | (go_simp; done) | (go_simp; with_reducible rfl))
      try simp only [Act.put, List.setIfInBounds_toArray, List.set_cons_zero, List.set_cons_succ]
      cases r with
      | none =>
        refine rgnOne 5 rfl (by kernel_rfl) (fun K hK => ?_)
        go_simp
        refine (MD.out _ _ _ (by first | exact SX.out _ S1.out _ | exact SX.out _ S1.out)).mono ?_
        rintro e w2 hp
        obtain rfl := hp.2.2 rfl
        exact ⟨rfl, B1.out.drew.trans (hp.1.mono B1.out.drew.size), (fun l e => by cases e), fun _ => rfl⟩
      | some l =>
        refine rgnOne 5 rfl (by kernel_rfl) (fun K hK => ?_)
        go_simp
        refine (MD.out _ _ _ (by first | exact SX.out _ S1.out _ | exact SX.out _ S1.out)).mono ?_
        rintro e w2 hp
        obtain ⟨A', c', rs, rfl, hrs, hmap, hfr⟩ := hp.2.1 l rfl
        have R2 := Lib.hid (show RowAt w2 w.heap.size [.int .i64 op, .int .u64 (own : Int)] 42 from R1.out.below hp.1)
        refine hK.out _ _ (R2.out) (fun hHeld => ?_)
        clear hK K
        try simp only [Act.put, List.setIfInBounds_toArray, List.set_cons_zero, List.set_cons_succ]
        refine rgnOne 6 rfl (by kernel_rfl) (fun K hK => ?_)
        go_simp
        refine hK.out _ _ (R2.out) (fun hHeld => ?_)
        clear hK K
        try simp only [Act.put, List.setIfInBounds_toArray, List.set_cons_zero, List.set_cons_succ]
        refine wpAnyH_done (by kernel_rfl) ?_ _
        have hlr : rs.length = l.length := by rw [← hmap, List.length_map]
        have l2 := RL.out l rfl
        have HB2 := Lib.hid (B1.out.drew.trans (hp.1.mono B1.out.drew.size))
        have BES := Lib.hid (show BesF w2 w.heap.size v (s.take k ++ l.take 0) A' rs from ⟨by rw [List.take_zero, List.append_nil]; exact OwnF.below (w := w1.drew) HO.out.drew hp.1, hrs, fun _ b o e q => by
          have : w1.heap.size ≤ b := hfr b o e
          have := (World.ownsRow.lt HO.out b q).2
          omega⟩)
        have MAP := Lib.hid (show ∀ j, j < rs.length → l.take (j + 1) = l.take j ++ [bitsOf (rs.getD j 0)] from fun j hj => by
          rw [List.take_succ_eq_append_getElem (by omega)]
          congr 2
          simp only [← hmap, List.getElem_map, List.getD_eq_getElem?_getD, List.getElem?_eq_getElem hj, Option.getD_some])
        obtain ⟨m, hm⟩ : ∃ m, m = l.length := ⟨_, rfl⟩
        rw [← hm] at hlr l2 ⊢
        have HM := Lib.hid hm
        have HLR := Lib.hid hlr
        clear hp hrs hmap hfr hlr hm R1 S1 R2 SX MD HO hHeld B1
        go_wp2_with fail
        go_loopw [10, 37] (fun vv vi wr => ∃ j : Nat, j ≤ m ∧ vi = .int .i64 j ∧ Hid (BesF wr w.heap.size vv (s.take k ++ l.take j) A' rs) ∧ Hid (Below w.heap.size w wr)) (fun _ vi _ => m - (intOf vi).toNat)
        case atStart => exact ⟨0, Nat.zero_le _, rfl, BES, HB2⟩
        case round =>
          obtain ⟨j, hj, rfl, HBE, HBB⟩ := hrel
          clear BES HB2
          by_cases q : j < m
          · obtain ⟨b, o, rfl, hb, hcj⟩ := HBE.out.sl.at_ (k := j) (by rw [HLR.out]; exact q)
            have cj := hcj j (by rw [HLR.out]; exact q)
            have MJ := MAP.out j (by rw [HLR.out]; exact q)
            obtain ⟨y, hy⟩ : ∃ y, y = rs.getD j 0 := ⟨_, rfl⟩
            rw [← hy] at cj MJ
            have MJ2 := Lib.hid MJ
            have NB := Lib.hid (nbits y)
            have NF := Lib.hid (nfrom (bitsOf y : Int))
            have NN := Lib.hid (show bitsOf ((bitsOf y : Int)).toNat = bitsOf y by rw [Int.toNat_natCast, bits_bits])
            have i5 : (0 : Int) ≤ (j : Int) := by omega
            have i6 : (j : Int) < (m : Int) := by omega
            have hsz := HBB.out.size
            have LL := Lib.hid (show (s.take k ++ l.take j).length ≤ 100 by rw [List.length_append, LT.out, List.length_take]; omega)
            clear hcj hy MJ hb
            go_wp2_with fail
            refine (NB.out _).mono ?_
            rintro e w' ⟨rfl, rfl⟩
            go_wp2_with fail
            refine (NF.out _).mono ?_
            rintro e w' ⟨rfl, rfl⟩
            rw [NN.out]
            go_wp2_with (at_builtin; refine wp_putBF rfl (.tmp 41) (.tmp 45) rfl w.heap.size _ (s.take k ++ l.take j) _ rs rfl (HBE.out.alloc _) _ _ rfl (cell_newF _ _ _) (by have := LL.out; omega) (by simp; omega) ?_; intro v3 w3 hbe3 hb3; have HBE3 := Lib.hid hbe3; have HB3 := Lib.hid ((HBB.out.alloc hsz _).trans hb3); clear hbe3 hb3)
            go_roundw
            case rel => exact ⟨j + 1, by omega, by go_num, Lib.hid (by rw [MJ2.out, ← List.append_assoc]; exact HBE3.out), HB3⟩
            case measure => simp [intOf]; omega
          · obtain rfl : j = m := by omega
            have own2 := HBE.out.own
            rw [show l.take j = l from List.take_of_length_le (by rw [← HM.out]; exact Nat.le_refl _)] at own2
            have HF := Lib.hid own2
            clear own2
            go_wp2_with fail
            go_ret
            exact ⟨HBB.out, (fun l' e => by injection e with e; subst e; exact ⟨_, rfl, HF.out⟩), fun e => by cases e⟩
    · have SX := Lib.hid (fun W (hS : SlF W A s) => SP.out W hS)
      clear SP SZ
      go_enter Tryd.func35, Tryd.ntmps35
      go_wp2_with fail
      refine (XH.out _ T0.out).mono ?_
      rintro e w' ⟨rfl, rfl⟩
      go_wp2_with fail
      refine (CL.out _ (HS.out.below B0.out)).mono ?_
      rintro e w1 ⟨v, rfl, hown, hb1⟩
      have HO := Lib.hid (hown.more B0.out.size)
      have B1 := Lib.hid (B0.out.trans (hb1.mono B0.out.size))
      have R1 := Lib.hid (show RowAt w1.drew w.heap.size [.int .i64 op, .int .u64 (own : Int)] 42 from R0.out.below hb1.drew)
      have S1 := Lib.hid (show SlF w1.drew A s from HS.out.below B1.out.drew)
      clear hown hb1 c0 c1 CL XH T0 HS
      go_wp2_with fail
      refine wp_region_held_drew (S := fun W : World => RowAt W w.heap.size [.int .i64 op, .int .u64 (own : Int)] 42) (by kernel_rfl) (R1.out) (fun hHeld => ?_)
      refine rgnTake 0 rfl (by kernel_rfl) (by kernel_rfl) (by kernel_rfl) (fun _ _ _ h => h) (by rfl) (v := ?v7) ?hy7 hHeld ?rest7
      case hy7 => (intro v hSw; obtain ⟨x0, x1⟩ := cells2 hSw;first | (go_simp; done) | (go_simp; with_reducible rfl))
      try simp only [Act.put, List.setIfInBounds_toArray, List.set_cons_zero, List.set_cons_succ]
      refine rgnTake 1 rfl (by kernel_rfl) (by kernel_rfl) (by kernel_rfl) (fun _ _ _ h => h) (by rfl) (v := ?v8) ?hy8 hHeld ?rest8
      case hy8 => (intro v hSw; first | (go_simp; done) | (go_simp; with_reducible rfl))
      try simp only [Act.put, List.setIfInBounds_toArray, List.set_cons_zero, List.set_cons_succ]
      refine rgnTake 2 rfl (by kernel_rfl) (by kernel_rfl) (by kernel_rfl) (fun _ _ _ h => h) (by rfl) (v := ?v9) ?hy9 hHeld ?rest9
      case hy9 => (intro v hSw; first | (go_simp; done) | (go_simp; with_reducible rfl))
      try simp only [Act.put, List.setIfInBounds_toArray, List.set_cons_zero, List.set_cons_succ]
      refine rgnTake 3 rfl (by kernel_rfl) (by kernel_rfl) (by kernel_rfl) (fun _ _ _ h => h) (by rfl) (v := ?v10) ?hy10 hHeld ?rest10
      case hy10 => (intro v hSw; first | (go_simp; done) | (go_simp; with_reducible rfl))
      try simp only [Act.put, List.setIfInBounds_toArray, List.set_cons_zero, List.set_cons_succ]
      refine rgnTake 4 rfl (by kernel_rfl) (by kernel_rfl) (by kernel_rfl) (fun _ _ _ h => h) (by rfl) (v := ?v11) ?hy11 hHeld ?rest11
      case hy11 => (intro v hSw; first | (go_simp; done) | (go_simp; with_reducible rfl))
      try simp only [Act.put, List.setIfInBounds_toArray, List.set_cons_zero, List.set_cons_succ]
      refine rgnTake 7 rfl (by kernel_rfl) (by kernel_rfl) (by kernel_rfl) (fun _ _ _ h => h) (by rfl) (v := ?v12) ?hy12 hHeld ?rest12
      case hy12 => (intro v hSw; first | (go_simp; done) | (go_simp; with_reducible rfl))
      try simp only [Act.put, List.setIfInBounds_toArray, List.set_cons_zero, List.set_cons_succ]
      cases r with
      | none =>
        refine rgnOne 5 rfl (by kernel_rfl) (fun K hK => ?_)
        go_simp
        refine (MD.out _ _ _ (by first | exact SX.out _ S1.out _ | exact SX.out _ S1.out)).mono ?_
        rintro e w2 hp
        obtain rfl := hp.2.2 rfl
        exact ⟨rfl, B1.out.drew.trans (hp.1.mono B1.out.drew.size), (fun l e => by cases e), fun _ => rfl⟩
      | some l =>
        refine rgnOne 5 rfl (by kernel_rfl) (fun K hK => ?_)
        go_simp
        refine (MD.out _ _ _ (by first | exact SX.out _ S1.out _ | exact SX.out _ S1.out)).mono ?_
        rintro e w2 hp
        obtain ⟨A', c', rs, rfl, hrs, hmap, hfr⟩ := hp.2.1 l rfl
        have R2 := Lib.hid (show RowAt w2 w.heap.size [.int .i64 op, .int .u64 (own : Int)] 42 from R1.out.below hp.1)
        refine hK.out _ _ (R2.out) (fun hHeld => ?_)
        clear hK K
        try simp only [Act.put, List.setIfInBounds_toArray, List.set_cons_zero, List.set_cons_succ]
        refine rgnOne 6 rfl (by kernel_rfl) (fun K hK => ?_)
        go_simp
        refine hK.out _ _ (R2.out) (fun hHeld => ?_)
        clear hK K
        try simp only [Act.put, List.setIfInBounds_toArray, List.set_cons_zero, List.set_cons_succ]
        refine wpAnyH_done (by kernel_rfl) ?_ _
        have hlr : rs.length = l.length := by rw [← hmap, List.length_map]
        have l2 := RL.out l rfl
        have HB2 := Lib.hid (B1.out.drew.trans (hp.1.mono B1.out.drew.size))
        have BES := Lib.hid (show BesF w2 w.heap.size v (s.take k ++ l.take 0) A' rs from ⟨by rw [List.take_zero, List.append_nil]; exact OwnF.below (w := w1.drew) HO.out.drew hp.1, hrs, fun _ b o e q => by
          have : w1.heap.size ≤ b := hfr b o e
          have := (World.ownsRow.lt HO.out b q).2
          omega⟩)
        have MAP := Lib.hid (show ∀ j, j < rs.length → l.take (j + 1) = l.take j ++ [bitsOf (rs.getD j 0)] from fun j hj => by
          rw [List.take_succ_eq_append_getElem (by omega)]
          congr 2
          simp only [← hmap, List.getElem_map, List.getD_eq_getElem?_getD, List.getElem?_eq_getElem hj, Option.getD_some])
        obtain ⟨m, hm⟩ : ∃ m, m = l.length := ⟨_, rfl⟩
        rw [← hm] at hlr l2 ⊢
        have HM := Lib.hid hm
        have HLR := Lib.hid hlr
        clear hp hrs hmap hfr hlr hm R1 S1 R2 SX MD HO hHeld B1
        go_wp2_with fail
        go_loopw [10, 37] (fun vv vi wr => ∃ j : Nat, j ≤ m ∧ vi = .int .i64 j ∧ Hid (BesF wr w.heap.size vv (s.take k ++ l.take j) A' rs) ∧ Hid (Below w.heap.size w wr)) (fun _ vi _ => m - (intOf vi).toNat)
        case atStart => exact ⟨0, Nat.zero_le _, rfl, BES, HB2⟩
        case round =>
          obtain ⟨j, hj, rfl, HBE, HBB⟩ := hrel
          clear BES HB2
          by_cases q : j < m
          · obtain ⟨b, o, rfl, hb, hcj⟩ := HBE.out.sl.at_ (k := j) (by rw [HLR.out]; exact q)
            have cj := hcj j (by rw [HLR.out]; exact q)
            have MJ := MAP.out j (by rw [HLR.out]; exact q)
            obtain ⟨y, hy⟩ : ∃ y, y = rs.getD j 0 := ⟨_, rfl⟩
            rw [← hy] at cj MJ
            have MJ2 := Lib.hid MJ
            have NB := Lib.hid (nbits y)
            have NF := Lib.hid (nfrom (bitsOf y : Int))
            have NN := Lib.hid (show bitsOf ((bitsOf y : Int)).toNat = bitsOf y by rw [Int.toNat_natCast, bits_bits])
            have i5 : (0 : Int) ≤ (j : Int) := by omega
            have i6 : (j : Int) < (m : Int) := by omega
            have hsz := HBB.out.size
            have LL := Lib.hid (show (s.take k ++ l.take j).length ≤ 100 by rw [List.length_append, LT.out, List.length_take]; omega)
            clear hcj hy MJ hb
            go_wp2_with fail
            refine (NB.out _).mono ?_
            rintro e w' ⟨rfl, rfl⟩
            go_wp2_with fail
            refine (NF.out _).mono ?_
            rintro e w' ⟨rfl, rfl⟩
            rw [NN.out]
            go_wp2_with (at_builtin; refine wp_putBF rfl (.tmp 41) (.tmp 45) rfl w.heap.size _ (s.take k ++ l.take j) _ rs rfl (HBE.out.alloc _) _ _ rfl (cell_newF _ _ _) (by have := LL.out; omega) (by simp; omega) ?_; intro v3 w3 hbe3 hb3; have HBE3 := Lib.hid hbe3; have HB3 := Lib.hid ((HBB.out.alloc hsz _).trans hb3); clear hbe3 hb3)
            go_roundw
            case rel => exact ⟨j + 1, by omega, by go_num, Lib.hid (by rw [MJ2.out, ← List.append_assoc]; exact HBE3.out), HB3⟩
            case measure => simp [intOf]; omega
          · obtain rfl : j = m := by omega
            have own2 := HBE.out.own
            rw [show l.take j = l from List.take_of_length_le (by rw [← HM.out]; exact Nat.le_refl _)] at own2
            have HF := Lib.hid own2
            clear own2
            go_wp2_with fail
            go_ret
            exact ⟨HBB.out, (fun l' e => by injection e with e; subst e; exact ⟨_, rfl, HF.out⟩), fun e => by cases e⟩

end Go.Proofs.YtjahaegdmfgmgaaDoor
