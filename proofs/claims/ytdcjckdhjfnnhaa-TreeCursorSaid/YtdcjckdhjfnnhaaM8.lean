/- Proved parts: T9x T8e. Conditions: each theorem's own. -/
import Derived.Test.YtdcjckdhjfnnhaaM7
import Derived.Test.YtdcjckdhjfnnhaaM5
import Derived.Deep.RegionLaw
namespace Go.Proofs.Ytdcjckdhjfnnhaa
open Go.RowKit

/-- clear, over elements of two cells -/
theorem run_clear2 (w : World) (t : TypeId) (ht : Try.prog.underlying t = some (.slice 56)) (b o n c : Nat)
    (hc : ∀ j, j < n * 2 → (w.cell? ⟨b, o + j, none⟩).isSome = true) (hf : ∀ j, w.frozen? ⟨b, j, none⟩ = false) :
    ∃ vs, vs.length = n * 2 ∧ ∀ ty, (Builtin.clear_ #[t] ty #[.slice (some ⟨b, o, none⟩) n c]).run Try.prog w = .ok (.tuple #[]) (w.setCells b o vs) := by
  obtain ⟨i0, hi, hz0, hz1, hz2⟩ := info_parts infoIt
  cases n with
  | zero => exact ⟨[], rfl, fun ty => by simp [Builtin.clear_, run_underlying ht, World.setCells]⟩
  | succ n =>
    obtain ⟨Z, hZ⟩ : ∃ Z : List Value, Z = (Builtin.zeroCells (Value.agg #[Value.string ⟨#[]⟩, Value.int .i64 0]).cells (n + 1)).toList := ⟨_, rfl⟩
    have hZl : Z.length = (n + 1) * 2 := by rw [hZ, Array.length_toList, size_zeroCells]; rfl
    have hZ1 : ∀ u ∈ Z, u.oneCell' = true := by
      intro u hu
      rw [hZ] at hu
      simp only [Builtin.zeroCells, Array.toList_map, List.mem_map] at hu
      obtain ⟨j, _, rfl⟩ := hu
      have : j % 2 = 0 ∨ j % 2 = 1 := by omega
      show Value.oneCell' ((#[Value.string ⟨#[]⟩, Value.int .i64 0] : Array Value)[j % 2]!) = true
      rcases this with e | e <;> rw [e] <;> rfl
    have hst := run_storeCells_cells (P := Try.prog) b o Z 0 w (by rw [hZl]; simpa using hc) (fun j _ => hf _) hZ1
    simp only [Nat.add_zero] at hst
    refine ⟨Z, hZl, fun ty => ?_⟩
    simp [Builtin.clear_, run_underlying ht, zeroValue, typeInfo, hi, hz0, ← hZ, hst]

set_option maxHeartbeats 1000000 in
set_option maxRecDepth 100000 in
/-- slices.Delete of one item -/
theorem xDelete (w : World) (b o c i : Nat) (zs : KV) (h : WinAt w b o c zs) (hi : i < zs.length) (hl : zs.length ≤ 100000) :
    Calls Try.prog 43 #[.slice (some ⟨b, o, none⟩) zs.length c, .int .i64 i, .int .i64 ((i : Int) + 1)] w (MvPost w (.slice (some ⟨b, o, none⟩) zs.length c) (zs.take i ++ zs.drop (i + 1))) := by
  obtain ⟨p1, p2⟩ := rangeAt_part h.row (i + 1) (by omega)
  obtain ⟨p0, _⟩ := rangeAt_part h.row i (by omega)
  have hfit := h.fit
  have hcm := h.cap
  unfold maxLen at hcm
  obtain ⟨n, hn⟩ : ∃ n, n = zs.length := ⟨_, rfl⟩
  obtain ⟨C1, hC1⟩ : ∃ C1, C1 = itc (zs.drop (i + 1)) := ⟨_, rfl⟩
  have c1o : ∀ u ∈ C1, u.oneCell' = true := by rw [hC1]; exact itc_one _
  have c1l : C1.length = (n - (i + 1)) * 2 := by rw [hC1, itc_len, List.length_drop, hn]
  rw [← hC1] at p2
  -- the place of the rest: at the row's head if it is empty there
  obtain ⟨q, hq, hsrc⟩ : ∃ q : Nat, (if c = i + 1 then (some ⟨b, o, none⟩ : Option Addr) else some ⟨b, o + (i + 1) * 2, none⟩) = some ⟨b, q, none⟩ ∧ w.rangeAt b q C1 := by
    by_cases e : c = i + 1
    · have l0 : C1.length = 0 := by rw [c1l]; omega
      exact ⟨o, by rw [if_pos e], by rw [List.eq_nil_of_length_eq_zero l0]; intro j v hj; simp at hj⟩
    · exact ⟨_, by rw [if_neg e], p2⟩
  have HW := Lib.hid h
  have P0 := Lib.hid p0
  have SRC := Lib.hid hsrc
  have C1O := Lib.hid c1o
  have C1L := Lib.hid c1l
  have HC1 := Lib.hid hC1
  have HN := Lib.hid hn
  rw [← hn] at hi hl hfit ⊢
  have hb1 : (0 : Int) ≤ (i : Int) + 1 := by omega
  have htn : ((i : Int) + 1).toNat = i + 1 := by omega
  have hic : i ≤ c := by omega
  have hin : i + 1 ≤ n := by omega
  have hin2 : (i : Int) + 1 ≤ (n : Int) := by omega
  clear h p1 p2 p0 hsrc c1o c1l hC1 hn
  go_enter Try.func43, Try.ntmps43
  go_wp2_with fail
  have th := Lib.hid (show ∀ j, j < C1.length → (w.drew.cell? ⟨b, o + i * 2 + j, none⟩).isSome = true ∧ w.drew.frozen? ⟨b, o + i * 2 + j, none⟩ = false from fun j hj => by
    have e := C1L.out
    have := HW.out.there (i * 2 + j) (by omega)
    rw [← Nat.add_assoc] at this; exact ⟨this, HW.out.plain.frozen _⟩)
  obtain ⟨i0, hi0, hz0, hz1, hz2⟩ := info_parts infoIt
  go_region_law (refine step_append_room rfl (.tmp 22) (.tmp 25) 66 rfl 56 i0 2 Try.underlying66 hi0 hz1 b o i c (by simp [Act.eval, Act.put]) ⟨b, q, none⟩ (n - (i + 1)) (c - (i + 1)) C1 (by simp [Act.eval, Act.put]) C1L.out (add_mid (by exact SRC.out)) C1O.out (by omega) th.out ?_)
  have r0 : (w.drew.setCells b (o + i * 2) C1).rangeAt b o (itc (zs.take i)) := World.rangeAt_setCells_apart (w := w.drew) P0.out _ _ _ (.inr (.inl (by rw [itc_len, List.length_take]; have := Nat.min_le_left i zs.length; omega)))
  have r1 : (w.drew.setCells b (o + i * 2) C1).rangeAt b (o + i * 2) C1 := setCells_at (fun j hj => (th.out j hj).1)
  have w1 : ∀ j, j < c * 2 → ((w.drew.setCells b (o + i * 2) C1).cell? ⟨b, o + j, none⟩).isSome = true := fun j hj => World.isSome_setCells _ _ _ _ _ (HW.out.there j hj)
  have pl : Plain (w.drew.setCells b (o + i * 2) C1) b := Plain.setCells _ _ _ _ (by exact HW.out.plain)
  have t1 : Turn (InWin (.slice (some ⟨b, o, none⟩) n c)) w w.drew := Turn.of_below (Below.refl _ w).drew
  have t2 := t1.trans (Turn.setCells w.drew b (o + i * 2) C1) (fun k j h => .inl (by
    obtain ⟨rfl, h1, h2⟩ := h
    have e := C1L.out
    exact ⟨o, _, c, rfl, by omega, by omega⟩))
  generalize w.drew.setCells b (o + i * 2) C1 = w2 at t2 r1 r0 w1 pl ⊢
  obtain ⟨m, hm⟩ : ∃ m, m = n - (i + 1) := ⟨_, rfl⟩
  rw [← hm]
  obtain ⟨vs, hvl, hcl⟩ := run_clear2 w2 66 Try.underlying66 b (o + (i + m) * 2) (n - (i + m)) (c - (i + m)) (fun j hj => by
    have := w1 ((i + m) * 2 + j) (by omega)
    rw [← Nat.add_assoc] at this; exact this) (fun j => pl.frozen _)
  have T2 := Lib.hid t2
  have R1 := Lib.hid r1
  have R0 := Lib.hid r0
  have W1 := Lib.hid w1
  have PL := Lib.hid pl
  have VL := Lib.hid hvl
  have HM := Lib.hid hm
  have mn : i + m ≤ n := by omega
  have hb4 : ¬ (c = i + m) := by omega
  clear t1 t2 r1 r0 w1 pl th hvl hm hi0 hz0 hz1 hz2 hq
  go_wp2_with fail
  go_ret
  have hn := HN.out
  have hm := HM.out
  have li : (zs.take i).length = i := by rw [List.length_take, Nat.min_eq_left (by omega)]
  have e1 : i + m = (zs.take i ++ zs.drop (i + 1)).length := by rw [List.length_append, li, List.length_drop]; omega
  have vl := VL.out
  refine ⟨_, rfl, ?_, ?_, fun k j hk => .inl ?_, by simp⟩
  · rw [e1]
    refine WinAt.node ⟨by omega, by unfold maxLen; omega, by omega, ?_, fun j hj => World.isSome_setCells _ _ _ _ _ (W1.out j hj), Plain.setCells _ _ _ _ PL.out⟩
    refine World.rangeAt_setCells_apart ?_ _ _ _ (.inr (.inl (by rw [itc_len, ← e1]; omega)))
    rw [itc_append, rangeAt_append, itc_len, li, ← HC1.out]
    exact ⟨R0.out, R1.out⟩
  · refine T2.out.trans (Turn.setCells w2 b _ vs) (fun k j h => .inl ?_)
    obtain ⟨rfl, h1, h2⟩ := h
    exact ⟨o, _, c, rfl, by omega, by omega⟩
  · obtain ⟨o', n', c', e, h1, h2⟩ := hk
    injection e with e1 e2 e3
    injection e1 with e1
    injection e1 with e1 e4 _
    subst e1; subst e4; subst e3
    exact ⟨o, _, c, rfl, h1, h2⟩

end Go.Proofs.Ytdcjckdhjfnnhaa

namespace Go.Proofs.Ytdcjckdhjfnnhaa
open Go.RowKit

theorem KV.put_ks {l : KV} {k : ByteArray} (n : Int) (h : l.has k = false) : (l.put k n).ks = l.ks.take (l.pos k) ++ [k] ++ l.ks.drop (l.pos k) ∧ (l.put k n).ns = l.ns.take (l.pos k) ++ [n] ++ l.ns.drop (l.pos k) := by
  unfold KV.put KV.ks KV.ns
  rw [if_neg (by rw [h]; decide)]
  simp [List.map_take, List.map_drop]
section
variable {ops : Array Oper} {o : Oper} {a : Act} {w : World} {K : Act → World → Prop} {Q : Exit → Act → World → Prop} {E : Prop}
theorem step_appSm (hg : o.guard = none) (s x : Operand) (hop : o.op = .call { callee := .builtin .append, args := #[s, x], argTypes := #[27, 27] })
    (B : Nat) (v : Value) (zs ys : List ByteArray) (hs : a.eval s = v) (hown : OwnS w B v zs) (A : Option Addr) (c m : Nat) (hm : m = ys.length) (hx : a.eval x = .slice A m c) (hsl : SlS w A ys)
    (hl : zs.length + ys.length ≤ 1000000) (hB : B ≤ w.heap.size)
    (hK : ∀ v' w', OwnS w' B v' (zs ++ ys) → w.grownBy w' v.ownBlock → Below B w w' → K (a.put o.dst v') w') : if Region.wanted o (yielded ops a.tmps) = true then Oper.wp Try.prog o a w K Q else E := by
  subst hm
  exact step_appS hg s x hop B v zs ys hs hown A c hx hsl hl hB hK
theorem step_appJm (hg : o.guard = none) (s x : Operand) (hop : o.op = .call { callee := .builtin .append, args := #[s, x], argTypes := #[28, 28] })
    (B : Nat) (v : Value) (zs ys : List Int) (hs : a.eval s = v) (hown : OwnJ w B v zs) (A : Option Addr) (c m : Nat) (hm : m = ys.length) (hx : a.eval x = .slice A m c) (hsl : SlJ w A ys)
    (hl : zs.length + ys.length ≤ 1000000) (hB : B ≤ w.heap.size)
    (hK : ∀ v' w', OwnJ w' B v' (zs ++ ys) → w.grownBy w' v.ownBlock → Below B w w' → K (a.put o.dst v') w') : if Region.wanted o (yielded ops a.tmps) = true then Oper.wp Try.prog o a w K Q else E := by
  subst hm
  exact step_appJ hg s x hop B v zs ys hs hown A c hx hsl hl hB hK
end
theorem slJ_one (w : World) (y : Int) (t : TypeId) : SlJ (w.alloc (.cells #[.int .i64 y] t)) (some ⟨w.heap.size, 0, none⟩) [y] := fun _ =>
  ⟨w.heap.size, 0, rfl, by simp, fun j hj => by
    obtain rfl : j = 0 := by simpa using hj
    exact cell_new1 w (.int .i64 y) t⟩

set_option maxRecDepth 100000 in
set_option maxHeartbeats 4000000 in
/-- Put of a key that isn't there, into a tree of one key at least -/
theorem rPutNew (p : Nat) (G : Nat → Prop) (l : KV) (k : ByteArray) (y : Int) (w : World) (h : RefT w G p l) (hl : l.length ≤ 100000) (h0 : 0 < l.length) (hh : l.has k = false) :
    Calls Try.prog 9 #[.pointer (some ⟨p, 0, none⟩), .string k, .int .i64 y] w fun x w' => x = .returned (.tuple #[.int .i64 0, .bool false]) ∧ LeftT w G p (l.put k y) w' := by
  have AT := Lib.hid (rAt p G l k w h (by omega))
  rw [hh] at AT
  have hp := KV.pos_le k l
  obtain ⟨DK, DN⟩ := KV.put_ks y hh
  obtain ⟨g, c, g2, c2, h1, h2, h3, h4, h2', hg, hg2, Gp, Gg, Gg2, n1, n2, nc1, nc2⟩ := h.opened h0
  obtain ⟨P, hP⟩ : ∃ P, P = l.pos k := ⟨_, rfl⟩
  obtain ⟨n, hn⟩ : ∃ n, n = l.length := ⟨_, rfl⟩
  rw [← hP] at AT DK DN hp
  rw [← hn] at hp hl h1 nc1 nc2
  have lk : l.ks.length = n := by rw [KV.ks_len, hn]
  have ln : l.ns.length = n := by rw [KV.ns_len, hn]
  have R1 := Lib.hid h1
  have K1 := Lib.hid h2
  have J1 := Lib.hid h4
  have DK' := Lib.hid DK
  have DN' := Lib.hid DN
  have LT := Lib.hid (show g < w.heap.size ∧ g2 < w.heap.size ∧ p < w.heap.size from ⟨hg, hg2, h1.lt⟩)
  have GP := Lib.hid Gp
  have LK := Lib.hid lk
  have LN := Lib.hid ln
  clear hh DK DN h1 h2 h3 h4 h2' Gg Gg2 hP hn h lk ln h0
  go_enter Try.func9, Try.ntmps9
  go_wp2_with fail
  refine AT.out.mono ?_
  rintro x w1 ⟨rfl, m1, hw1⟩
  have B1 := Lib.hid (show Below w.heap.size w w1 by rw [hw1]; exact ⟨rfl, rfl, rfl, Nat.le_refl _, fun _ _ => rfl⟩)
  have Z1 := Lib.hid (show w1.heap.size = w.heap.size by rw [hw1]; rfl)
  have R2 := Lib.hid (R1.out.below B1.out)
  have K2 := Lib.hid (K1.out.below B1.out)
  have J2 := Lib.hid (J1.out.below B1.out)
  have d0 := R2.out.cell 0
  have d1 := R2.out.cell 1
  simp only [List.getElem?_cons_succ, List.getElem?_cons_zero] at d0 d1
  clear hw1
  have pl : p < w1.heap.size := by rw [Z1.out]; exact LT.out.2.2
  have gl : g < w1.heap.size ∧ g2 < w1.heap.size := by rw [Z1.out]; exact ⟨LT.out.1, LT.out.2.1⟩
  have GL := Lib.hid gl
  have PL := Lib.hid pl
  clear gl
  obtain ⟨B, hB⟩ : ∃ B, B = w1.heap.size := ⟨_, rfl⟩
  have OM := Lib.hid (show OwnS (w1.alloc (.cells #[] 9)) B (.slice (some ⟨w1.heap.size, 0, none⟩) 0 0) [] from OwnS.made w1 (by omega))
  have HB := Lib.hid hB
  clear hB
  have pc1 : P ≤ c := by omega
  have pc2 : P ≤ c2 := by omega
  have LB := Lib.hid (show g < B ∧ g2 < B ∧ p < B by rw [HB.out]; exact ⟨GL.out.1, GL.out.2, PL.out⟩)
  have NE := Lib.hid (show g2 ≠ p from n2)
  have NC := Lib.hid (show l.ks.length ≤ c ∧ l.ns.length ≤ c2 by rw [LK.out, LN.out]; exact ⟨nc1, nc2⟩)
  clear n1 n2 hg hg2 Gp
  go_wp2_with (at_builtin; first
      | (refine wp_appS rfl (.tmp 35) (.tmp 41) rfl B _ [] (l.ks.take P) rfl OM.out _ _ _ (by rw [List.length_take, LK.out]; omega) rfl ((K2.out.take P).alloc _) (by rw [List.length_take, LK.out]; simp; omega) (by rw [World.size_alloc, HB.out]; omega) ?_
         intro v1 w2 ho hg hb
         rw [List.nil_append] at ho
         have O2 := Lib.hid ho
         have B2 := Lib.hid (show Below B w1 w2 from ((Below.refl B w1).alloc (by rw [HB.out]; exact Nat.le_refl _) _).trans hb)
         have R3 := Lib.hid (show RowAt w2 p _ _ from (B2.out.block p LB.out.2.2).trans R2.out)
         have K3 := Lib.hid (K2.out.keptB B2.out LB.out.1)
         have J3 := Lib.hid (J2.out.keptB B2.out LB.out.2.1)
         have SB := Lib.hid (show B ≤ w2.heap.size by rw [HB.out]; exact B2.out.size)
         have pl := R3.out.lt
         have d0 := R3.out.cell 0
         have d1 := R3.out.cell 1
         simp only [List.getElem?_cons_succ, List.getElem?_cons_zero] at d0 d1
         clear ho hg hb)
      | (refine wp_appJ rfl (.tmp 43) (.tmp 49) rfl w2.heap.size _ [] (l.ns.take P) rfl (OwnJ.made w2 _ (Nat.le_refl _)) _ _ _ (by rw [List.length_take, LN.out]; omega) rfl ((J3.out.take P).alloc _) (by rw [List.length_take, LN.out]; simp; omega) (by rw [World.size_alloc]; omega) ?_
         intro v2 w3 ho hg hb
         rw [List.nil_append] at ho
         have O3 := Lib.hid ho
         have bb : Below w2.heap.size w2 w3 := ((Below.refl _ w2).alloc (Nat.le_refl _) _).trans hb
         have B3 := Lib.hid bb
         have O2' := Lib.hid (O2.out.below bb)
         have R4 := Lib.hid (R3.out.below bb)
         have K4 := Lib.hid (K3.out.below bb)
         have J4 := Lib.hid (J3.out.below bb)
         have SC := Lib.hid (show B ≤ w3.heap.size from Nat.le_trans SB.out bb.size)
         have pl := R4.out.lt
         have d0 := R4.out.cell 0
         have d1 := R4.out.cell 1
         have f0 := R4.out.frozen 0
         simp only [List.getElem?_cons_succ, List.getElem?_cons_zero] at d0 d1
         clear ho hg hb bb))
  go_region_law (first
      | (refine step_appS rfl (.tmp 52) (.tmp 54) rfl B v1 (l.ks.take P) [k] rfl (World.ownsRow.alloc (w := w3) O2'.out _) _ _ rfl (slS_one _ k _) (by rw [List.length_take, LK.out]; simp; omega) (by show B ≤ (w3.alloc _).heap.size; rw [World.size_alloc]; exact Nat.le_succ_of_le SC.out) ?_
         intro v3 w4 ho hg hb
         have bb : Below B w3 w4 := ((Below.refl B w3).alloc (by exact SC.out) _).drew.trans hb
         have oa := Lib.hid (show OwnJ (w3.alloc (.cells #[.string k] 9)).drew w2.heap.size v2 (l.ns.take P) from World.ownsRow.alloc (w := w3) O3.out _)
         have ob := Lib.hid (show OwnS (w3.alloc (.cells #[.string k] 9)).drew B v1 (l.ks.take P) from World.ownsRow.alloc (w := w3) O2'.out _)
         have O3s := Lib.hid (oa.out.keepB (w' := w4) fun j hj => hg.block j (oa.out.ltB j hj).2 (fun e => ownSJ_ne ob.out oa.out e.symm hj))
         have O4w := Lib.hid ho
         have B4 := Lib.hid bb
         have R5 := Lib.hid (show RowAt w4 p _ _ from (bb.block p LB.out.2.2).trans R4.out)
         have K5 := Lib.hid (K4.out.keptB bb LB.out.1)
         have J5 := Lib.hid (J4.out.keptB bb LB.out.2.1)
         have SD := Lib.hid (show B ≤ w4.heap.size from Nat.le_trans SC.out bb.size)
         have SX := Lib.hid (show w3.heap.size ≤ w4.heap.size from bb.size)
         have pl := R5.out.lt
         have d0 := R5.out.cell 0
         have d1 := R5.out.cell 1
         simp only [List.getElem?_cons_succ, List.getElem?_cons_zero] at d0 d1
         clear ho hg hb bb oa ob)
      | (refine step_appSm rfl (.tmp 55) (.tmp 61) rfl B v3 (l.ks.take P ++ [k]) (l.ks.drop P) rfl O4w.out _ _ _ (by rw [List.length_drop, LK.out]) rfl (K5.out.rest NC.out.1) (by rw [List.length_append, List.length_take, List.length_drop, LK.out]; simp; omega) SD.out ?_
         intro v4 w5 ho hg hb
         obtain ⟨A4, c4, ev, _⟩ := ho.sl
         obtain ⟨N4, hN4⟩ : ∃ N4, N4 = (l.ks.take P ++ [k] ++ l.ks.drop P).length := ⟨_, rfl⟩
         have O3t := Lib.hid ((O3s.out.keepB (w' := w5) fun j hj => hg.block j (O3s.out.ltB j hj).2 (fun e => ownSJ_ne O4w.out O3s.out e.symm hj)).setCell (p := ⟨p, 0, none⟩) (Nat.lt_of_lt_of_le LB.out.2.2 SB.out) v4)
         have O5 := Lib.hid (ho.setCell (p := ⟨p, 0, none⟩) LB.out.2.2 v4)
         have B5 := Lib.hid hb
         have R6 := Lib.hid (show RowAt w5 p _ _ from (hb.block p LB.out.2.2).trans R5.out)
         have R7 := Lib.hid (R6.out.set 0 v4)
         have J6 := Lib.hid ((J5.out.keptB hb LB.out.2.1).other (p := ⟨p, 0, none⟩) NE.out v4)
         have SE := Lib.hid (show w2.heap.size ≤ (w5.setCell ⟨p, 0, none⟩ v4).heap.size by rw [World.size_setCell]; exact Nat.le_trans B3.out.size (Nat.le_trans SX.out hb.size))
         have pl := R6.out.lt
         have d0 := R6.out.cell 0
         have d1 := R6.out.cell 1
         have f0 := R6.out.frozen 0
         have e0 := R7.out.cell 0
         have e1 := R7.out.cell 1
         have el := R7.out.lt
         simp only [List.getElem?_cons_succ, List.getElem?_cons_zero, List.set_cons_zero] at d0 d1 e0 e1
         rw [← hN4] at ev
         subst ev
         have HN := Lib.hid hN4
         clear ho hg hb hN4))
  all_goals (
    have C6 := Lib.hid (show Chg G w (w5.setCell ⟨p, 0, none⟩ (.slice A4 N4 c4)) from
      (((((Chg.of_below B1.out).belowB (by rw [HB.out, Z1.out]; exact Nat.le_refl _) B2.out).belowB (Nat.le_trans (by rw [HB.out, Z1.out]; exact Nat.le_refl _) SB.out) B3.out).belowB (by rw [HB.out, Z1.out]; exact Nat.le_refl _) B4.out).belowB (by rw [HB.out, Z1.out]; exact Nat.le_refl _) B5.out).setCell (.inl GP.out) _)
    obtain ⟨w6, hw6⟩ : ∃ w6, w6 = w5.setCell ⟨p, 0, none⟩ (.slice A4 N4 c4) := ⟨_, rfl⟩
    rw [← hw6] at O3t O5 R7 J6 SE e0 e1 el C6 ⊢
    have PB := Lib.hid (show p < w2.heap.size from Nat.lt_of_lt_of_le LB.out.2.2 SB.out)
    clear hw6 d0 d1 f0 pl
    have pl := el
    go_wp2_with fail)
  all_goals (
    go_region_law (first
      | (refine step_appJ rfl (.tmp 66) (.tmp 68) rfl w2.heap.size v2 (l.ns.take P) [y] rfl (World.ownsRow.alloc (w := w6) O3t.out _) _ _ rfl (slJ_one _ y _) (by rw [List.length_take, LN.out]; simp; omega) (by show w2.heap.size ≤ (w6.alloc _).heap.size; rw [World.size_alloc]; exact Nat.le_succ_of_le SE.out) ?_
         intro v5 w7 ho hg hb
         have bb : Below w2.heap.size w6 w7 := ((Below.refl _ w6).alloc SE.out _).drew.trans hb
         have oa := Lib.hid (show OwnJ (w6.alloc (.cells #[.int .i64 y] 3)).drew w2.heap.size v2 (l.ns.take P) from World.ownsRow.alloc (w := w6) O3t.out _)
         have ob := Lib.hid (show OwnS (w6.alloc (.cells #[.int .i64 y] 3)).drew B (.slice A4 N4 c4) (l.ks.take P ++ [k] ++ l.ks.drop P) from World.ownsRow.alloc (w := w6) O5.out _)
         have O5s := Lib.hid (ob.out.keepV (w' := w7) fun j hj => hg.block j (World.ownsRow.lt ob.out j hj).2 (fun e => ownSJ_ne ob.out oa.out hj e.symm))
         have O6w := Lib.hid ho
         have B7 := Lib.hid bb
         have R8 := Lib.hid (show RowAt w7 p _ _ from (bb.block p PB.out).trans R7.out)
         have J7 := Lib.hid (J6.out.keptB bb (Nat.lt_of_lt_of_le LB.out.2.1 SB.out))
         have SF := Lib.hid (show w2.heap.size ≤ w7.heap.size from Nat.le_trans SE.out bb.size)
         have pl := R8.out.lt
         have d0 := R8.out.cell 0
         have d1 := R8.out.cell 1
         simp only [List.getElem?_cons_succ, List.getElem?_cons_zero, List.set_cons_zero] at d0 d1
         clear ho hg hb bb oa ob)
      | (refine step_appJm rfl (.tmp 69) (.tmp 75) rfl w2.heap.size v5 (l.ns.take P ++ [y]) (l.ns.drop P) rfl O6w.out _ _ _ (by rw [List.length_drop, LN.out]) rfl (J7.out.rest NC.out.2) (by rw [List.length_append, List.length_take, List.length_drop, LN.out]; simp; omega) SF.out ?_
         intro v6 w8 ho hg hb
         obtain ⟨A6, c6, ev, _⟩ := ho.form
         obtain ⟨N6, hN6⟩ : ∃ N6, N6 = (l.ns.take P ++ [y] ++ l.ns.drop P).length := ⟨_, rfl⟩
         have O7 := Lib.hid (ho.setCell (p := ⟨p, 1, none⟩) PB.out v6)
         have O5t := Lib.hid ((O5s.out.keepV (w' := w8) fun j hj => hg.block j (World.ownsRow.lt O5s.out j hj).2 (fun e => ownSJ_ne O5s.out O6w.out hj e.symm)).setCell (p := ⟨p, 1, none⟩) LB.out.2.2 v6)
         have B8 := Lib.hid hb
         have R9 := Lib.hid (show RowAt w8 p _ _ from (hb.block p PB.out).trans R8.out)
         have R10 := Lib.hid (R9.out.set 1 v6)
         have pl := R9.out.lt
         have d0 := R9.out.cell 0
         have d1 := R9.out.cell 1
         have f1 := R9.out.frozen 1
         simp only [List.getElem?_cons_succ, List.getElem?_cons_zero, List.set_cons_zero] at d0 d1
         rw [← hN6] at ev
         subst ev
         have HM := Lib.hid hN6
         clear ho hg hb hN6)))
  all_goals go_wp2_with fail
  all_goals go_ret2
  all_goals exact ⟨rfl, LeftT.of (B := B) (C := w2.heap.size) (by rw [HB.out, Z1.out]; exact Nat.le_refl _) LB.out.2.2 GP.out O5t.out O7.out SB.out DK'.out DN'.out R10.out
      (((C6.out.belowB (Nat.le_trans (by rw [HB.out, Z1.out]; exact Nat.le_refl _) SB.out) B7.out).belowB (Nat.le_trans (by rw [HB.out, Z1.out]; exact Nat.le_refl _) SB.out) B8.out).setCell (.inl GP.out) _)⟩

end Go.Proofs.Ytdcjckdhjfnnhaa
