/- Proved parts: T9yw T9yx. Conditions: each theorem's own. -/
import Derived.Test.YtdcjckdhjfnnhaaM30
namespace Go.Proofs.Ytdcjckdhjfnnhaa
open Go.RowKit Go.Shelf

theorem t_room_of_none {F : Fence} (hd : F.depth = none) (k : Nat) : F.room k := fun d h => by rw [hd] at h; cases h
theorem round_anyDepth {F : Fence} (hd : F.depth = none) {m m' : Nat} {P : Program} {l : Nat} {f : FuncId} {tmps : Array Value} {assign body : Code} {w : World} {R : Ending → World → Prop}
    (h : RoundIn F m P l f tmps assign body w R) : RoundIn F m' P l f tmps assign body w R := ⟨h.1, fun c cs _ => h.2 c cs (t_room_of_none hd _)⟩
theorem yield_anyDepth {F : Fence} (hd : F.depth = none) {m : Nat} (m' : Nat) {P : Program} {l : Nat} {args : Array Value} {W : World} {R : Ending → World → Prop} (h : YieldAt F m P l args W R) : YieldAt F m' P l args W R := by
  obtain ⟨fn, tmps, assign, body, hy, hR⟩ := h
  exact ⟨fn, tmps, assign, body, hy, round_anyDepth hd hR⟩

/-- what walk gives of a node of level h -/
def Tab.give (s : Tab) (k : ByteArray) : Nat → Nat → KV
  | 0, p => (s.nd p).drop ((s.nd p).pos k)
  | h + 1, p => ((s.nd p).drop ((s.nd p).kid k)).flatMap fun x => s.give k h x.2.toNat
/-- nothing is amiss below a node -/
def Tab.Sound (s : Tab) : Nat → Nat → Prop
  | 0, p => p < s.nds.length ∧ (s.nd p).length ≤ 1000 ∧ ∀ x, x ∈ s.nd p → x.1.size ≤ 1000000
  | h + 1, p => p < s.nds.length ∧ (s.nd p).length ≤ 1000 ∧ ∀ x, x ∈ s.nd p → ∃ q : Nat, x.2 = q ∧ s.Sound h q
def toI (x : ByteArray × Int) : Itm := if h : x.1.size ≤ 1000000 then ⟨x, h⟩ else ⟨(⟨#[]⟩, 0), by decide⟩
theorem toI_val {x : ByteArray × Int} (h : x.1.size ≤ 1000000) : (toI x).1 = x := by unfold toI; rw [dif_pos h]
theorem encI_toI {x : ByteArray × Int} (h : x.1.size ≤ 1000000) : encI (toI x) = #[.agg #[.string x.1, .int .i64 x.2]] := by unfold encI; rw [toI_val h]
theorem take_snoc {z : KV} {i : Nat} (h : i < z.length) : (z.take (i + 1)).map toI = (z.take i).map toI ++ [toI z[i]] := by
  rw [List.take_succ_eq_append_getElem h, List.map_append]; rfl

attribute [local go_sem] Oper.semAt_some
set_option maxHeartbeats 2000000 in
set_option maxRecDepth 100000 in
/-- walk, of a leaf -/
theorem xWalk0 (w : World) (T : Nat) (E : Nat → Prop) (s : Tab) (rv fv : Value) (vs : List Value) (k : ByteArray) (hv : TabV w T E s rv fv vs) (l N B0 : Nat) (J Jx : List Itm → World → Prop)
    (hJ : AbidesFrom B0 J) (hY : ∀ m pre x W, J pre W → pre.length < N → YieldAt Fence.wide m Try.prog l (encI x) W fun e W' => (e = .returned (.bool true) ∧ J (pre ++ [x]) W' ∧ Below w.heap.size W W') ∨ (e = .returned (.bool false) ∧ Jx (pre ++ [x]) W'))
    (n p : Nat) (pre : List Itm) (W : World) (hs : s.Sound 0 p) (hb : Below w.heap.size w W) (h0 : J pre W) (hN : pre.length + (s.give k 0 p).length ≤ N) :
    CallsIn Fence.wide n Try.prog 41 #[Ptr T, .int .i64 p, .int .i64 1, .string k, .func (.yield l) #[] #[]] W fun e W' =>
      (e = .returned (.bool true) ∧ J (pre ++ (s.give k 0 p).map toI) W' ∧ Below w.heap.size W W') ∨ (e = .returned (.bool false) ∧ ∃ q, q <+: (s.give k 0 p).map toI ∧ Jx (pre ++ q) W') := by
  obtain ⟨hp, hlen, hsz⟩ := hs
  have hW := hv.below hb
  have hp' : p < vs.length := by rw [hv.len]; exact hp
  obtain ⟨g, c, hrv, _, _, _⟩ := hW.rowAt (by omega)
  obtain ⟨A, cp, ev, hi⟩ := (hW.node p hp').form
  have d0 := hW.row.cell 0
  simp only [List.getElem?_cons_zero] at d0
  have d1 := (hW.eq_win hrv hp').1
  rw [hrv] at d0
  rw [ev] at d1
  have BC := Lib.hid (xBelow W (.slice A (s.nd p).length cp) (s.nd p) k (by rw [← ev]; exact hW.node p hp') (by omega))
  have pl := KV.pos_le k (s.nd p)
  have gv : s.give k 0 p = (s.nd p).drop ((s.nd p).pos k) := rfl
  rw [gv] at hN ⊢
  obtain ⟨P, hP⟩ : ∃ P, P = (s.nd p).pos k := ⟨_, rfl⟩
  obtain ⟨Z, hZ⟩ : ∃ Z, Z = (s.nd p).length := ⟨_, rfl⟩
  obtain ⟨zs, hzs⟩ : ∃ zs, zs = s.nd p := ⟨_, rfl⟩
  obtain ⟨M, hM⟩ : ∃ M, M = vs.length := ⟨_, rfl⟩
  have hZc : Z ≤ cp := by
    rw [hZ]
    rcases hW.node p hp' with ⟨e, e0⟩ | ⟨b, o, c, e, k⟩
    · rw [e0]; exact Nat.zero_le _
    · rw [ev] at e
      injection e with _ _ e3
      rw [e3]; exact k.fit
  have IT := Lib.hid (show ∀ W', Below w.heap.size W W' → ∀ j, j < Z → ∃ b o, A = some ⟨b, o, none⟩ ∧ W'.cell? ⟨b, o + j * 2, none⟩ = some (.string (zs.key j)) ∧ W'.cell? ⟨b, o + j * 2 + 1, none⟩ = some (.int .i64 (zs.num j)) from fun W' hb' j hj => by
    obtain ⟨A', cp', ev', hi'⟩ := ((hv.below (hb.trans hb')).node p hp').form
    rw [ev] at ev'
    injection ev' with e1 _ _
    obtain ⟨b, o, e, a1, a2⟩ := hi' j (by rw [← hZ]; exact hj)
    exact ⟨b, o, by rw [e1]; exact e, by rw [hzs]; exact a1, by rw [hzs]; exact a2⟩)
  have SZ := Lib.hid (show ∀ j (hj : j < zs.length), (zs[j]).1.size ≤ 1000000 from fun j hj => by subst hzs; exact hsz _ (List.getElem_mem hj))
  have zl : zs.length = Z := by rw [hzs, hZ]
  rw [← hZ] at d1 BC pl hlen
  rw [← hP] at BC pl hN ⊢
  rw [← hzs] at hN ⊢
  rw [← hM] at d0 hp'
  have HB := Lib.hid hb
  have ZL := Lib.hid zl
  have HN := Lib.hid hN
  have H0 := Lib.hid h0
  have HY := Lib.hid hY
  have HJ := Lib.hid hJ
  have sb := hb.size
  clear hv hW hi hP hZ hzs hM hsz hb zl hN h0 hY hJ ev gv hrv hp
  have hJA : ∀ s' W' cs t, J s' W' → J s' (W'.alloc (.cells cs t)) := fun s' W' cs t h => HJ.out s' W' _ none h (World.grownBy_alloc W' _ none) (fun r e => by cases e)
  have HJA := Lib.hid hJA
  clear hJA
  refine callsIn_of_wp Try.func41 rfl trivial ?_ rfl
  simp only [Try.ntmps41, List.size_toArray, List.length_cons, List.length_nil, Nat.reduceAdd, Nat.reduceSub, Array.replicate_succ, Array.replicate_zero, List.push_toArray, List.append_toArray, List.nil_append, List.cons_append]
  have p0z : (0 : Int) ≤ (P : Int) := by omega
  have plz : (P : Int) ≤ (Z : Int) := by omega
  have plc : (P : Int) ≤ (cp : Int) := by omega
  have zcz : (Z : Int) ≤ (cp : Int) := by omega
  by_cases q : P < Z
  · obtain ⟨b, o, rfl, _⟩ := IT.out W (Below.refl _ _) P q
    have hcp : ¬ cp = P := by omega
    gi_wp2_with (refine ⟨trivial, (fun h => by cases h), ?_⟩; gi_at_call 30; refine (callsIn_wide.2 BC.out).mono ?_; rintro e w' ⟨rfl, rfl⟩)
    obtain ⟨m, hm⟩ : ∃ m, m = Z - P := ⟨_, rfl⟩
    rw [← hm]
    have mz : m ≤ 1000 := by omega
    have HM := Lib.hid hm
    clear hm
    gi_loopw [51] (fun vi wr => ∃ i : Nat, i ≤ m ∧ vi = .int .i64 i ∧ Hid (J (pre ++ ((zs.drop P).take i).map toI) wr) ∧ Hid (Below w.heap.size w' wr)) (fun vi _ => m - (intOf vi).toNat)
    case atStart => exact ⟨0, Nat.zero_le _, rfl, Lib.hid (by simpa using H0.out), Lib.hid (Below.refl _ _)⟩
    case round =>
      obtain ⟨i, him, rfl, HJi, HBi⟩ := hrel
      by_cases q2 : i < m
      · have hPi : P + i < Z := by have := HM.out; omega
        obtain ⟨b', o', e', a0, a1⟩ := IT.out wr HBi.out (P + i) hPi
        injection e' with e'
        injection e' with e1 e2 _
        subst e1; subst e2
        rw [show o + (P + i) * 2 = o + P * 2 + i * 2 by omega] at a0 a1
        have hzl : P + i < zs.length := by rw [ZL.out]; exact hPi
        have sx := SZ.out (P + i) hzl
        have hx : zs[P + i] = (zs.key (P + i), zs.num (P + i)) := KV.getE _ _ hzl
        have hdl : i < (zs.drop P).length := by rw [List.length_drop]; omega
        have hsn := take_snoc (z := zs.drop P) hdl
        have hgx : (zs.drop P)[i] = zs[P + i] := by rw [List.getElem_drop]
        rw [hgx] at hsn
        have hlt : (pre ++ ((zs.drop P).take i).map toI).length < N := by
          have := HN.out
          rw [List.length_drop] at this
          rw [List.length_append, List.length_map, List.length_take, List.length_drop]; omega
        obtain ⟨fn, tmps, assign, body, hy, hR⟩ := HY.out (n - 1) _ (toI zs[P + i]) (wr.alloc (.cells #[.string (zs.key (P + i)), .int .i64 (zs.num (P + i))] 56)) (HJA.out _ _ _ _ HJi.out) hlt
        rw [encI_toI sx, hx] at hy
        obtain ⟨X0, hX0⟩ : ∃ X0, X0 = zs.key (P + i) := ⟨_, rfl⟩
        obtain ⟨X1, hX1⟩ : ∃ X1, X1 = zs.num (P + i) := ⟨_, rfl⟩
        rw [← hX0] at a0 hy hR
        rw [← hX1] at a1 hy hR
        simp only at hy
        have HSN := Lib.hid hsn
        have bw := Below.then2 HBi.out ((Below.refl wr.heap.size wr).alloc (Nat.le_refl _) (.cells #[.string X0, .int .i64 X1] 56)) (Nat.le_trans sb HBi.out.size)
        have BW := Lib.hid bw
        have HR := Lib.hid hR
        clear hsn hgx hx hX0 hX1 sx hR bw hlt
        gi_wp2_with (refine ⟨(fun h => by cases h), ?_⟩; refine HR.out.mono ?_; rintro e W3 (⟨rfl, hJ3, hk3⟩ | ⟨rfl, hJx3⟩))
        · refine ⟨⟨i + 1, by omega, (by go_num), Lib.hid ?_, Lib.hid (BW.out.trans hk3)⟩, by simp [intOf]; omega⟩
          rw [HSN.out, ← List.append_assoc]; exact hJ3
        · go_ret
          refine .inr ⟨rfl, ((zs.drop P).take (i + 1)).map toI, ?_, ?_⟩
          · rw [List.map_take]; exact List.take_prefix _ _
          · rw [HSN.out, ← List.append_assoc]; exact hJx3
      · obtain rfl : i = m := by omega
        gi_wp2
        go_ret
        refine .inl ⟨rfl, ?_, HBi.out⟩
        have := HJi.out
        rw [List.take_of_length_le (by rw [List.length_drop, ZL.out, HM.out]; exact Nat.le_refl _)] at this
        exact this
  · obtain rfl : P = Z := by omega
    have hz : zs.drop P = [] := List.drop_of_length_le (by rw [ZL.out]; exact Nat.le_refl _)
    rw [hz]
    have HZ0 := Lib.hid hz
    by_cases hcp : cp = P
    · subst hcp
      gi_wp2_with (refine ⟨trivial, (fun h => by cases h), ?_⟩; gi_at_call 30; refine (callsIn_wide.2 BC.out).mono ?_; rintro e w' ⟨rfl, rfl⟩)
      gi_loopw [51] (fun vi wr => vi = .int .i64 0 ∧ Hid (J pre wr) ∧ Hid (Below w.heap.size w' wr)) (fun _ _ => 0)
      case atStart => exact ⟨rfl, H0, Lib.hid (Below.refl _ _)⟩
      case round =>
        obtain ⟨rfl, HJi, HBi⟩ := hrel
        gi_wp2
        go_ret
        exact .inl ⟨rfl, by simpa using HJi.out, HBi.out⟩
    · gi_wp2_with (refine ⟨trivial, (fun h => by cases h), ?_⟩; gi_at_call 30; refine (callsIn_wide.2 BC.out).mono ?_; rintro e w' ⟨rfl, rfl⟩)
      gi_loopw [51] (fun vi wr => vi = .int .i64 0 ∧ Hid (J pre wr) ∧ Hid (Below w.heap.size w' wr)) (fun _ _ => 0)
      case atStart => exact ⟨rfl, H0, Lib.hid (Below.refl _ _)⟩
      case round =>
        obtain ⟨rfl, HJi, HBi⟩ := hrel
        gi_wp2
        go_ret
        exact .inl ⟨rfl, by simpa using HJi.out, HBi.out⟩

end Go.Proofs.Ytdcjckdhjfnnhaa

namespace Go.Proofs.Ytdcjckdhjfnnhaa
open Go.RowKit Go.Shelf

theorem fm_take_le {G : ByteArray × Int → KV} (z : KV) (i : Nat) : ((z.take i).flatMap G).length ≤ (z.flatMap G).length := by
  have e : z.flatMap G = (z.take i).flatMap G ++ (z.drop i).flatMap G := by rw [← List.flatMap_append, List.take_append_drop]
  rw [e, List.length_append]; omega
theorem fm_take_prefix {G : ByteArray × Int → KV} (z : KV) (i : Nat) : ((z.take i).flatMap G).map toI <+: (z.flatMap G).map toI := by
  have e : z.flatMap G = (z.take i).flatMap G ++ (z.drop i).flatMap G := by rw [← List.flatMap_append, List.take_append_drop]
  rw [e, List.map_append]; exact ⟨_, rfl⟩
theorem fm_snoc {G : ByteArray × Int → KV} {z : KV} {i : Nat} (h : i < z.length) : (z.take (i + 1)).flatMap G = (z.take i).flatMap G ++ G z[i] := by
  rw [List.take_succ_eq_append_getElem h, List.flatMap_append]; simp
theorem kid_le {z : KV} {k : ByteArray} : z.kid k ≤ z.length := by
  have := KV.pos_le k z
  unfold KV.kid; split <;> omega

attribute [local go_sem] Oper.semAt_some
set_option maxHeartbeats 2000000 in
set_option maxRecDepth 100000 in
/-- walk, one level up -/
theorem xWalkS (w : World) (T : Nat) (E : Nat → Prop) (s : Tab) (rv fv : Value) (vs : List Value) (k : ByteArray) (hv : TabV w T E s rv fv vs) (l N B0 : Nat) (J Jx : List Itm → World → Prop)
    (hJ : AbidesFrom B0 J)
    (h : Nat) (IH : ∀ (n q : Nat) (pre : List Itm) (W : World), s.Sound h q → Below w.heap.size w W → J pre W → pre.length + (s.give k h q).length ≤ N → CallsIn Fence.wide n Try.prog 41 #[Ptr T, .int .i64 q, .int .i64 ((h : Int) + 1), .string k, .func (.yield l) #[] #[]] W fun e W' => (e = .returned (.bool true) ∧ J (pre ++ (s.give k h q).map toI) W' ∧ Below w.heap.size W W') ∨ (e = .returned (.bool false) ∧ ∃ q', q' <+: (s.give k h q).map toI ∧ Jx (pre ++ q') W'))
    (hh : h ≤ 1000) (n p : Nat) (pre : List Itm) (W : World) (hs : s.Sound (h + 1) p) (hb : Below w.heap.size w W) (h0 : J pre W) (hN : pre.length + (s.give k (h + 1) p).length ≤ N) :
    CallsIn Fence.wide n Try.prog 41 #[Ptr T, .int .i64 p, .int .i64 ((h : Int) + 1 + 1), .string k, .func (.yield l) #[] #[]] W fun e W' =>
      (e = .returned (.bool true) ∧ J (pre ++ (s.give k (h + 1) p).map toI) W' ∧ Below w.heap.size W W') ∨ (e = .returned (.bool false) ∧ ∃ q, q <+: (s.give k (h + 1) p).map toI ∧ Jx (pre ++ q) W') := by
  obtain ⟨hp, hlen, hsz⟩ := hs
  have hW := hv.below hb
  have hp' : p < vs.length := by rw [hv.len]; exact hp
  obtain ⟨g, c, hrv, _, _, _⟩ := hW.rowAt (by omega)
  obtain ⟨A, cp, ev, hi⟩ := (hW.node p hp').form
  have d0 := hW.row.cell 0
  simp only [List.getElem?_cons_zero] at d0
  have d1 := (hW.eq_win hrv hp').1
  rw [hrv] at d0
  rw [ev] at d1
  have BC := Lib.hid (xKid W (.slice A (s.nd p).length cp) (s.nd p) k (by rw [← ev]; exact hW.node p hp') (by omega))
  have pl := kid_le (z := s.nd p) (k := k)
  obtain ⟨G, hG⟩ : ∃ G : ByteArray × Int → KV, G = fun x => s.give k h x.2.toNat := ⟨_, rfl⟩
  have gv : s.give k (h + 1) p = ((s.nd p).drop ((s.nd p).kid k)).flatMap G := by rw [hG]; rfl
  rw [gv] at hN ⊢
  obtain ⟨P, hP⟩ : ∃ P, P = (s.nd p).kid k := ⟨_, rfl⟩
  obtain ⟨Z, hZ⟩ : ∃ Z, Z = (s.nd p).length := ⟨_, rfl⟩
  obtain ⟨zs, hzs⟩ : ∃ zs, zs = s.nd p := ⟨_, rfl⟩
  obtain ⟨M, hM⟩ : ∃ M, M = vs.length := ⟨_, rfl⟩
  have hZc : Z ≤ cp := by
    rw [hZ]
    rcases hW.node p hp' with ⟨e, e0⟩ | ⟨b, o, c, e, k⟩
    · rw [e0]; exact Nat.zero_le _
    · rw [ev] at e
      injection e with _ _ e3
      rw [e3]; exact k.fit
  have IT := Lib.hid (show ∀ W', Below w.heap.size W W' → ∀ j, j < Z → ∃ b o, A = some ⟨b, o, none⟩ ∧ W'.cell? ⟨b, o + j * 2, none⟩ = some (.string (zs.key j)) ∧ W'.cell? ⟨b, o + j * 2 + 1, none⟩ = some (.int .i64 (zs.num j)) from fun W' hb' j hj => by
    obtain ⟨A', cp', ev', hi'⟩ := ((hv.below (hb.trans hb')).node p hp').form
    rw [ev] at ev'
    injection ev' with e1 _ _
    obtain ⟨b, o, e, a1, a2⟩ := hi' j (by rw [← hZ]; exact hj)
    exact ⟨b, o, by rw [e1]; exact e, by rw [hzs]; exact a1, by rw [hzs]; exact a2⟩)
  have SZ := Lib.hid (show ∀ j, j < zs.length → ∃ q : Nat, zs.num j = q ∧ s.Sound h q from fun j hj => by
    subst hzs
    have := hsz _ (List.getElem_mem hj)
    rw [KV.getE _ _ hj] at this
    exact this)
  have zl : zs.length = Z := by rw [hzs, hZ]
  rw [← hZ] at d1 BC pl hlen
  rw [← hP] at BC pl hN ⊢
  rw [← hzs] at hN ⊢
  rw [← hM] at d0 hp'
  have HB := Lib.hid hb
  have ZL := Lib.hid zl
  have HN := Lib.hid hN
  have H0 := Lib.hid h0
  have HIH := Lib.hid IH
  have HGG := Lib.hid hG
  have HJ := Lib.hid hJ
  have sb := hb.size
  clear hv hW hi hP hZ hzs hM hsz hb zl hN h0 IH hJ ev gv hrv hp hG
  have hJA : ∀ s' W' cs t, J s' W' → J s' (W'.alloc (.cells cs t)) := fun s' W' cs t h => HJ.out s' W' _ none h (World.grownBy_alloc W' _ none) (fun r e => by cases e)
  have HJA := Lib.hid hJA
  clear hJA
  refine callsIn_of_wp Try.func41 rfl trivial ?_ rfl
  simp only [Try.ntmps41, List.size_toArray, List.length_cons, List.length_nil, Nat.reduceAdd, Nat.reduceSub, Array.replicate_succ, Array.replicate_zero, List.push_toArray, List.append_toArray, List.nil_append, List.cons_append]
  have hlv : (1 : Int) < (h : Int) + 1 + 1 := by omega
  have hlw : (h : Int) + 1 + 1 - 1 = (h : Int) + 1 := by omega
  have p0z : (0 : Int) ≤ (P : Int) := by omega
  have plz : (P : Int) ≤ (Z : Int) := by omega
  have plc : (P : Int) ≤ (cp : Int) := by omega
  have zcz : (Z : Int) ≤ (cp : Int) := by omega
  by_cases q : P < Z
  · obtain ⟨b, o, rfl, _⟩ := IT.out W (Below.refl _ _) P q
    have hcp : ¬ cp = P := by omega
    gi_wp2_with (refine ⟨trivial, (fun h => by cases h), ?_⟩; gi_at_call 31; refine (callsIn_wide.2 BC.out).mono ?_; rintro e w' ⟨rfl, rfl⟩)
    obtain ⟨m, hm⟩ : ∃ m, m = Z - P := ⟨_, rfl⟩
    rw [← hm]
    have mz : m ≤ 1000 := by omega
    have HM := Lib.hid hm
    clear hm
    gi_loopw [31] (fun vi wr => ∃ i : Nat, i ≤ m ∧ vi = .int .i64 i ∧ Hid (J (pre ++ (((zs.drop P).take i).flatMap G).map toI) wr) ∧ Hid (Below w.heap.size w' wr)) (fun vi _ => m - (intOf vi).toNat)
    case atStart => exact ⟨0, Nat.zero_le _, rfl, Lib.hid (by simpa using H0.out), Lib.hid (Below.refl _ _)⟩
    case round =>
      obtain ⟨i, him, rfl, HJi, HBi⟩ := hrel
      by_cases q2 : i < m
      · have hPi : P + i < Z := by have := HM.out; omega
        obtain ⟨b', o', e', a0, a1⟩ := IT.out wr HBi.out (P + i) hPi
        injection e' with e'
        injection e' with e1 e2 _
        subst e1; subst e2
        rw [show o + (P + i) * 2 = o + P * 2 + i * 2 by omega] at a0 a1
        have hzl : P + i < zs.length := by rw [ZL.out]; exact hPi
        obtain ⟨qn, hqn, hso⟩ := SZ.out (P + i) hzl
        have hx : zs[P + i] = (zs.key (P + i), zs.num (P + i)) := KV.getE _ _ hzl
        have hdl : i < (zs.drop P).length := by rw [List.length_drop]; omega
        have hgx : (zs.drop P)[i] = (zs.key (P + i), (qn : Int)) := by rw [List.getElem_drop, hx, hqn]
        have hGx : G ((zs.drop P)[i]) = s.give k h qn := by rw [hgx, HGG.out]; rfl
        have hsn := fm_snoc (G := G) hdl
        rw [hGx] at hsn
        have hlt : (pre ++ (((zs.drop P).take i).flatMap G).map toI).length + (s.give k h qn).length ≤ N := by
          have a1 := HN.out
          have a2 := fm_take_le (G := G) (zs.drop P) (i + 1)
          rw [hsn, List.length_append] at a2
          rw [List.length_append, List.length_map]; omega
        rw [hqn] at a1
        obtain ⟨X0, hX0⟩ : ∃ X0, X0 = zs.key (P + i) := ⟨_, rfl⟩
        rw [← hX0] at a0
        have bw := Below.then2 HBi.out ((Below.refl wr.heap.size wr).alloc (Nat.le_refl _) (.cells #[.string X0, .int .i64 qn] 56)) (Nat.le_trans sb HBi.out.size)
        have RC := Lib.hid (HIH.out (n - 1) qn _ (wr.alloc (.cells #[.string X0, .int .i64 qn] 56)) hso (HB.out.trans bw) (HJA.out _ _ _ _ HJi.out) hlt)
        have HSN := Lib.hid hsn
        have BW := Lib.hid bw
        clear hsn hgx hGx hx hX0 bw hlt hqn hso
        gi_wp2_with (refine ⟨trivial, (fun h => by cases h), ?_⟩; gi_at_call 41; refine RC.out.mono ?_; rintro e W3 (⟨rfl, hJ3, hk3⟩ | ⟨rfl, q', hq', hJx3⟩))
        · refine ⟨⟨i + 1, by omega, (by go_num), Lib.hid ?_, Lib.hid (BW.out.trans hk3)⟩, by simp [intOf]; omega⟩
          rw [HSN.out, List.map_append, ← List.append_assoc]; exact hJ3
        · go_ret
          refine .inr ⟨rfl, (((zs.drop P).take i).flatMap G).map toI ++ q', ?_, ?_⟩
          · refine List.IsPrefix.trans ?_ (fm_take_prefix (G := G) (zs.drop P) (i + 1))
            rw [HSN.out, List.map_append]
            exact (List.prefix_append_right_inj _).2 hq'
          · rw [← List.append_assoc]; exact hJx3
      · obtain rfl : i = m := by omega
        gi_wp2
        go_ret
        refine .inl ⟨rfl, ?_, HBi.out⟩
        have := HJi.out
        rw [List.take_of_length_le (by rw [List.length_drop, ZL.out, HM.out]; exact Nat.le_refl _)] at this
        exact this
  · obtain rfl : P = Z := by omega
    have hz : zs.drop P = [] := List.drop_of_length_le (by rw [ZL.out]; exact Nat.le_refl _)
    rw [hz]
    have HZ0 := Lib.hid hz
    by_cases hcp : cp = P
    · subst hcp
      gi_wp2_with (refine ⟨trivial, (fun h => by cases h), ?_⟩; gi_at_call 31; refine (callsIn_wide.2 BC.out).mono ?_; rintro e w' ⟨rfl, rfl⟩)
      gi_loopw [31] (fun vi wr => vi = .int .i64 0 ∧ Hid (J pre wr) ∧ Hid (Below w.heap.size w' wr)) (fun _ _ => 0)
      case atStart => exact ⟨rfl, H0, Lib.hid (Below.refl _ _)⟩
      case round =>
        obtain ⟨rfl, HJi, HBi⟩ := hrel
        gi_wp2
        go_ret
        exact .inl ⟨rfl, by simpa using HJi.out, HBi.out⟩
    · gi_wp2_with (refine ⟨trivial, (fun h => by cases h), ?_⟩; gi_at_call 31; refine (callsIn_wide.2 BC.out).mono ?_; rintro e w' ⟨rfl, rfl⟩)
      gi_loopw [31] (fun vi wr => vi = .int .i64 0 ∧ Hid (J pre wr) ∧ Hid (Below w.heap.size w' wr)) (fun _ _ => 0)
      case atStart => exact ⟨rfl, H0, Lib.hid (Below.refl _ _)⟩
      case round =>
        obtain ⟨rfl, HJi, HBi⟩ := hrel
        gi_wp2
        go_ret
        exact .inl ⟨rfl, by simpa using HJi.out, HBi.out⟩


end Go.Proofs.Ytdcjckdhjfnnhaa
