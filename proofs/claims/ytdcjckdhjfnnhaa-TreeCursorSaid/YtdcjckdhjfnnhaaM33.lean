/- Proved parts: T9yo. Conditions: each theorem's own. -/
import Derived.Test.YtdcjckdhjfnnhaaM32
import Derived.Test.YtdcjckdhjfnnhaaM1
import Derived.Maps.AppendAt
namespace Go.Proofs.Ytdcjckdhjfnnhaa
open Go.RowKit Go.Shelf

/-- the keys of what came -/
def keysI (xs : List Itm) : List ByteArray := xs.map fun x => x.1.1
attribute [local go_sem] Oper.semAt_some
set_option maxRecDepth 100000 in
/-- append(v, u) in a round of a range over a function -/
theorem stepIn_put1 {F : Fence} {n : Nat} {ops : Array Oper} {o : Oper} {a : Act} {w : World} {K : Act → World → Prop} {Q : Exit → Act → World → Prop} {E : Prop}
    (hg : o.guard = none) (s x : Operand) (hop : o.op = .call { callee := .builtin .append, args := #[s, x], argTypes := #[27, 27] })
    (B : Nat) (v : Value) (k : Nat) (xs : List Value) (hs : a.eval s = v) (hown : w.ownsRow B 9 1 v k xs) (g : Nat) (u : ByteArray) (hx : a.eval x = .slice (some ⟨g, 0, none⟩) 1 1) (hc : w.cell? ⟨g, 0, none⟩ = some (.string u))
    (hl : k + 1 ≤ 1000000) (hB : B ≤ w.heap.size)
    (hK : ∀ v' w', w'.ownsRow B 9 1 v' (k + 1) (xs ++ [.string u]) → w.grownBy w' v.ownBlock → K (a.put o.dst v') w') :
    if Region.wanted o (yielded ops a.tmps) = true then Oper.wpIn F n Try.prog o a w K Q else E := by
  rw [if_pos (by simp [Region.wanted, hg])]
  obtain ⟨i0, hi, hz0, hz1, hz2⟩ := info_parts infoStr
  obtain ⟨v', w', hrun, r1, r2, r3⟩ := run_append_own (P := Try.prog) w B 27 o.type 9 i0 _ 1 16 Try.underlying27 hi hz0 hz1 hz2 rfl (by decide) v k xs hown ⟨g, 0, none⟩ 1 1 [.string u] rfl (fun j y hj => by
    cases j with
    | zero => simp at hj; subst hj; exact hc
    | succ j => simp at hj) (fun y hy => by simp at hy; subst hy; rfl) (by unfold maxLen; omega) (by omega) hB
  unfold Oper.wpIn
  refine ⟨?_, ?_⟩
  · simp [Oper.about, hop, resolve, Target.leads, Sem.run_pure]
  · rw [Oper.semAt_plain F _ _ (by rw [hop]; intro c hc'; cases hc')]
    simp [execOp, hop, resolve, invoke, builtin, hs, hx, hrun, Result.andThen]
    exact hK _ _ r1 r2

theorem ownsRow_below' {w w' : World} {B n size : Nat} {e : TypeId} {v : Value} {xs : List Value} (h : w.ownsRow B e size v n xs) (hb : Below w.heap.size w w') : w'.ownsRow B e size v n xs := by
  rcases h with ⟨h1, h2⟩
  refine ⟨h1, ?_⟩
  rcases h2 with ⟨rfl, h0⟩ | ⟨g, cap, cur, rfl, hB, hg, r⟩
  · exact .inl ⟨rfl, h0⟩
  · refine .inr ⟨g, cap, cur, rfl, hB, ?_, r⟩
    have hl : g < w.heap.size := (Array.getElem?_eq_some_iff.1 hg).1
    rw [hb.block g hl]; exact hg
/-- behind the append and its store: what the round owes -/
theorem keys_appended {w1 w2 : World} {B N k2 : Nat} {v v2 : Value} {xs ys : List Value} {m : Int} {tmp : Obj} (h1 : Boxed w1 (B + 1) 27 v) (h2 : w1.ownsRow B 9 1 v N xs) (h3 : Boxed w1 B 3 (.int .i64 m)) (hs : B ≤ w1.heap.size) (hown : w2.ownsRow B 9 1 v2 k2 ys) (hg : (w1.alloc tmp).grownBy w2 v.ownBlock) :
    Boxed w2 (B + 1) 27 v ∧ Boxed (w2.setCell ⟨B + 1, 0, none⟩ v2) (B + 1) 27 v2 ∧ (w2.setCell ⟨B + 1, 0, none⟩ v2).ownsRow B 9 1 v2 k2 ys ∧ KeepsOthers w1 (w2.setCell ⟨B + 1, 0, none⟩ v2) ∧ Below B w1 (w2.setCell ⟨B + 1, 0, none⟩ v2) ∧ Boxed (w2.setCell ⟨B + 1, 0, none⟩ v2) B 3 (.int .i64 m) := by
  obtain ⟨a, b, c, d, e⟩ := h1.appended (by decide) h2 hs (by omega) hown hg
  exact ⟨a, b, c, d, e, ((h3.alloc tmp).kept hg (h3.not_row (by decide) h2)).other (by omega) _⟩
theorem keysI_snoc (pre : List Itm) (x : Itm) : keysI (pre ++ [x]) = keysI pre ++ [x.1.1] := by simp [keysI]

set_option maxHeartbeats 4000000 in
set_option maxRecDepth 100000 in
/-- Keys, over whatever comes -/
theorem xKeysI (w : World) (pt : Option Addr) (k : ByteArray) (m : Int) (xs : List Itm) (hI : Iter w pt k xs) (hxl : xs.length ≤ 1000) :
    Calls Try.prog 13 #[.pointer pt, .string k, .int .i64 m] w fun e w' => ∃ v, e = .returned v ∧ OwnS w' w.heap.size v ((xs.take m.toNat).map fun x => x.1.1) ∧ (v = .slice none 0 0 ↔ xs.take m.toNat = []) ∧ Below w.heap.size w w' := by
  obtain ⟨i0, hi, hz0, hz1, hz2⟩ := info_parts infoStr
  refine (callsIn_wide (n := 6)).1 ?_
  refine callsIn_of_wp_marks Try.func13 rfl trivial ?_ rfl
  simp only [Try.ntmps13, List.size_toArray, List.length_cons, List.length_nil, Nat.reduceAdd, Nat.reduceSub, Array.replicate_succ, Array.replicate_zero, List.push_toArray, List.append_toArray, List.nil_append, List.cons_append]
  gi_wp2_with (refine ⟨trivial, ?_⟩; gi_at_call 28; refine (callsIn_wide.2 (xFrom _ _ _)).mono ?_; rintro e w' ⟨rfl, rfl⟩)
  obtain ⟨B, hB⟩ : ∃ B, B = w.heap.size := ⟨_, rfl⟩
  have b0 := ((((Boxed.new w 3 (.int .i64 m)).alloc (.cells #[.slice none 0 0] 27)).alloc (.cells #[.pointer pt] 24)).alloc (.cells #[.string k] 9))
  have b1 := (((Boxed.new (w.alloc (.cells #[.int .i64 m] 3)) 27 (.slice none 0 0)).alloc (.cells #[.pointer pt] 24)).alloc (.cells #[.string k] 9))
  have b3 := ((Boxed.new ((w.alloc (.cells #[.int .i64 m] 3)).alloc (.cells #[.slice none 0 0] 27)) 24 (.pointer pt)).alloc (.cells #[.string k] 9))
  have b4 := (Boxed.new (((w.alloc (.cells #[.int .i64 m] 3)).alloc (.cells #[.slice none 0 0] 27)).alloc (.cells #[.pointer pt] 24)) 9 (.string k))
  have hb : Below w.heap.size w ((((w.alloc (.cells #[.int .i64 m] 3)).alloc (.cells #[.slice none 0 0] 27)).alloc (.cells #[.pointer pt] 24)).alloc (.cells #[.string k] 9)) := ((((Below.refl _ w).alloc (Nat.le_refl _) _).alloc (by simp) _).alloc (by simp; omega) _).alloc (by simp; omega) _
  have hsz : ((((w.alloc (.cells #[.int .i64 m] 3)).alloc (.cells #[.slice none 0 0] 27)).alloc (.cells #[.pointer pt] 24)).alloc (.cells #[.string k] 9)).heap.size = w.heap.size + 4 := by simp
  simp only [World.size_alloc] at b1 b3 b4
  obtain ⟨W0, hW0⟩ : ∃ W0, ((((w.alloc (.cells #[.int .i64 m] 3)).alloc (.cells #[.slice none 0 0] 27)).alloc (.cells #[.pointer pt] 24)).alloc (.cells #[.string k] 9)) = W0 := ⟨_, rfl⟩
  rw [hW0] at b0 b1 b3 b4 hb hsz ⊢
  clear hW0
  have hc := hI W0 (w.heap.size + 1 + 1) (6 - 1) hb (by omega) (by omega) b3.cell b4.cell (by decide)
  rw [← hB] at b0 b1 b3 b4 hb hsz hc ⊢
  have HBS := Lib.hid hB
  refine wpIn_rangeFunc_ownH rfl (by decide) (gf := 40) (lb := #[.pointer (some ⟨B + 1 + 1, 0, none⟩), .pointer (some ⟨B + 1 + 1 + 1, 0, none⟩)]) rfl trivial (enters_of Try.func40 (by kernel_rfl) rfl)
    hc belowK_t (belowK_b (by omega)) (Below.refl _ _) (fun _ => rfl)
    (fun pre W => ((∃ v, Boxed W (B + 1) 27 v ∧ W.ownsRow B 9 1 v (keysI pre).length ((keysI pre).map Value.string) ∧ (v = .slice none 0 0 ↔ pre = [])) ∧ (pre.length ≤ m.toNat ∧ B + 4 ≤ W.heap.size ∧ Boxed W B 3 (.int .i64 m))) ∧ Below B w W)
    (fun c pre W => (∃ ys x, c = .exit 0 ∧ pre = ys ++ [x] ∧ ys.length = m.toNat ∧ (∃ v, Boxed W (B + 1) 27 v ∧ W.ownsRow B 9 1 v (keysI ys).length ((keysI ys).map Value.string) ∧ (v = .slice none 0 0 ↔ ys = []))) ∧ Below B w W)
    (OwnFrom.and (Own.from (fun s X Y row hs hg hr => ⟨holdsRow_own B (B + 1) 27 9 1 (fun pre => (keysI pre).length) (fun pre => (keysI pre).map Value.string) (fun pre v => v = .slice none 0 0 ↔ pre = []) s X Y row hs.1 hg hr, hs.2.1, Nat.le_trans hs.2.2.1 hg.size, boxed_kept hs.2.2.2 hg hr⟩) _) (ownFrom_below (by omega) (by omega)))
    (fun c => OwnFrom.and (Own.from (fun s X Y row hs hg hr => by obtain ⟨ys, x, h1, h2, h3, h4⟩ := hs; exact ⟨ys, x, h1, h2, h3, holdsRow_own B (B + 1) 27 9 1 (fun pre => (keysI pre).length) (fun pre => (keysI pre).map Value.string) (fun pre v => v = .slice none 0 0 ↔ pre = []) ys X Y row h4 hg hr⟩) _) (ownFrom_below (by omega) (by omega)))
    ⟨⟨⟨_, b1, World.ownsRow_nil _ _ _ _, by simp⟩, by simp, by omega, b0⟩, hb⟩
    (fun x a' W => ∃ Bx, B + 3 < Bx ∧ RowAt W Bx [.string x.1.1, .int .i64 x.1.2] 56 ∧ a' = { tmps := #[.pointer pt, .string k, .int .i64 m, undef, undef, .pointer (some ⟨B, 0, none⟩), .slice none 0 0, .pointer (some ⟨B + 1, 0, none⟩), .pointer (some ⟨Bx, 0, none⟩), .pointer pt, .string k, .func (.func 40) #[] #[.pointer (some ⟨B + 1 + 1, 0, none⟩), .pointer (some ⟨B + 1 + 1 + 1, 0, none⟩)], .agg #[.string x.1.1, .int .i64 x.1.2], undef, undef, undef, undef, undef, undef, undef, undef, undef, undef, undef], defers := [] })
    (fun x a' _ X Y row hs hg hr => by obtain ⟨Bx, h1, h2, h3⟩ := hs; exact ⟨Bx, h1, rowAt_kept h2 hg (fun r e => (hr r e).2), h3⟩)
    ?assign ?body ?done ?stop
  case assign =>
    clear hB
    rintro l pre x W K ⟨⟨⟨v, bv, how, hnil⟩, hpm, hs5, c0⟩, hW⟩ hK
    dsimp only [encI]
    gi_wp2
    have hBW : B ≤ W.heap.size := by omega
    exact hK _ _ ((KeepsOthers.alloc _ _).from _) ((Below.refl _ W).alloc hBW _) ⟨⟨⟨v, bv.alloc _, how.alloc _, hnil⟩, hpm, by simp; omega, c0.alloc _⟩, hW.alloc hBW _⟩ ⟨W.heap.size, by omega, RowAt.new W _ _, rfl⟩
  case body =>
    clear hB
    rintro l pre x a' W hl ⟨r, hr⟩ ⟨⟨⟨v, bv, how, hnil⟩, hpm, hs5, c0⟩, hW⟩ ⟨Bx, hBx, bX, rfl⟩ hlt
    have h1' : 1 ≤ 6 - 1 - 1 := by decide
    clear b0 b1 b3 b4 hc
    have x0 := bX.cell 0
    simp only [List.getElem?_cons_zero] at x0
    have t0 := c0.cell
    have t1 := bv.cell
    obtain ⟨N, hN⟩ : ∃ N, N = pre.length := ⟨_, rfl⟩
    have hkl : (keysI pre).length = N := by rw [hN]; simp [keysI]
    rw [hkl] at how
    obtain ⟨A, c, rfl, _⟩ := OwnS.form (w := W) (B := B) (v := v) (zs := keysI pre) (by unfold OwnS; rw [hkl]; exact how)
    rw [hkl] at t1 how bv hnil
    have HB0 := Lib.hid hnil
    have HC0 := Lib.hid c0
    have HW := Lib.hid hW
    have HBV := Lib.hid bv
    have HOW := Lib.hid how
    have hNb : N ≤ 1000 := by omega
    have LC := Lib.hid (fun w => lclone x.1.1 w (by have := x.2; omega))
    have AF := Lib.hid (show ∀ w1, Below W.drew.heap.size W.drew w1 → w1.cell? ⟨B + 1, 0, none⟩ = some (.slice A N c) ∧ Hid (Boxed w1 (B + 1) 27 (.slice A N c) ∧ w1.ownsRow B 9 1 (.slice A N c) N ((keysI pre).map Value.string) ∧ Boxed w1 B 3 (.int .i64 m) ∧ B ≤ w1.heap.size ∧ Below W.heap.size W w1) from fun w1 hb1 => by
      have hb2 : Below W.heap.size W w1 := (Below.refl _ W).drew.trans hb1
      have e1 := boxed_below HBV.out hb2
      exact ⟨e1.cell, Lib.hid ⟨e1, ownsRow_below' HOW.out hb2, boxed_below HC0.out hb2, Nat.le_trans (by omega) hb2.size, hb2⟩⟩)
    clear hnil c0 hW bv how bX
    have HN := Lib.hid hN
    clear hN
    gi_wp2_with fail
    · exact ⟨KeepsFrom.refl _ _, ⟨pre, x, rfl, rfl, by have := HN.out; omega, ⟨_, HBV.out, by rw [hkl]; exact HOW.out, HB0.out⟩⟩, HW.out⟩
    refine wpIn_region_any (by kernel_rfl) ?_
    change wpAnyIn _ _ _ _ _ _ _ _ _ W.drew
    refine wpAnyIn_ready (rs := [0, 1]) (by kernel_rfl) (by simp) (AllReadyIn.cons rfl (fun K hK => ?_) (AllReadyIn.cons rfl (fun K hK => ?_) AllReadyIn.nil))
    · go_simp
      refine hK _ _ ?_
      clear hK K
      refine wpAnyIn_ready (rs := [1]) (by kernel_rfl) (by simp) (AllReadyIn.cons rfl (fun K hK => ?_) AllReadyIn.nil)
      go_simp
      refine hK _ _ ?_
      clear hK K
      refine wpAnyIn_ready (rs := [2]) (by kernel_rfl) (by simp) (AllReadyIn.cons rfl (fun K hK => ?_) AllReadyIn.nil)
      go_simp
      refine hK _ _ ?_
      clear hK K
      refine wpAnyIn_ready (rs := [3]) (by kernel_rfl) (by simp) (AllReadyIn.cons rfl (fun K hK => ?_) AllReadyIn.nil)
      go_simp
      refine ⟨trivial, (CallsIn.inRound l (callsIn_wide.2 (LC.out _))).mono ?_⟩
      rintro e w1 ⟨rfl, hb1⟩
      obtain ⟨t1, U1⟩ := AF.out w1 hb1; have t3 := (Boxed.alloc U1.out.1 (.cells #[.string x.1.1] 9)).cell
      clear hb1
      refine hK _ _ ?_
      clear hK K
      refine wpAnyIn_ready (rs := [4]) (by kernel_rfl) (by simp) (AllReadyIn.cons rfl (fun K hK => ?_) AllReadyIn.nil)
      go_simp
      refine hK _ _ ?_
      clear hK K
      refine wpAnyIn_ready (rs := [5]) (by kernel_rfl) (by simp) (AllReadyIn.cons rfl (fun K hK => ?_) AllReadyIn.nil)
      refine stepIn_put1 rfl (.tmp 17) (.tmp 21) rfl B (.slice A N c) N _ rfl (World.ownsRow.alloc U1.out.2.1 _) w1.heap.size x.1.1 rfl (Boxed.new _ _ _).cell (by omega) (by simp; exact Nat.le_succ_of_le U1.out.2.2.2.1) ?_
      intro v2 w2 hown2 hgrow2
      obtain ⟨g2, c2, rfl⟩ := ownsRow_succ hown2
      obtain ⟨hv1, V2⟩ := keys_appended U1.out.1 U1.out.2.1 U1.out.2.2.1 U1.out.2.2.2.1 hown2 hgrow2
      have hV2 := Lib.hid V2
      have hc1 := hv1.cell
      have hf1 := hv1.frozen
      clear hown2 hgrow2 hv1 V2 t1 t3
      refine hK _ _ ?_
      clear hK K
      refine wpAnyIn_ready (rs := [6]) (by kernel_rfl) (by simp) (AllReadyIn.cons rfl (fun K hK => ?_) AllReadyIn.nil)
      go_simp
      refine hK _ _ ?_
      clear hK K
      refine wpAnyIn_done (by kernel_rfl) ?_ _
      gi_wp2
      have hBW : B ≤ W.heap.size := by omega
      exact ⟨(keepsFrom_below U1.out.2.2.2.2).trans (hV2.out.2.2.1.from _), (U1.out.2.2.2.2.mono hBW).trans hV2.out.2.2.2.1, ⟨⟨_, hV2.out.1, by rw [keysI_snoc, List.length_append, hkl, List.map_append]; exact hV2.out.2.1, by simp⟩, by rw [List.length_append]; have := HN.out; simp; omega, by have := hV2.out.2.2.2.1.size; have := U1.out.2.2.2.2.size; omega, hV2.out.2.2.2.2⟩, HW.out.trans ((U1.out.2.2.2.2.mono hBW).trans hV2.out.2.2.2.1)⟩
    · go_simp
      refine hK _ _ ?_
      clear hK K
      refine wpAnyIn_ready (rs := [0, 2]) (by kernel_rfl) (by simp) (AllReadyIn.cons rfl (fun K hK => ?_) (AllReadyIn.cons rfl (fun K hK => ?_) AllReadyIn.nil))
      · go_simp
        refine hK _ _ ?_
        clear hK K
        refine wpAnyIn_ready (rs := [2]) (by kernel_rfl) (by simp) (AllReadyIn.cons rfl (fun K hK => ?_) AllReadyIn.nil)
        go_simp
        refine hK _ _ ?_
        clear hK K
        refine wpAnyIn_ready (rs := [3]) (by kernel_rfl) (by simp) (AllReadyIn.cons rfl (fun K hK => ?_) AllReadyIn.nil)
        go_simp
        refine ⟨trivial, (CallsIn.inRound l (callsIn_wide.2 (LC.out _))).mono ?_⟩
        rintro e w1 ⟨rfl, hb1⟩
        obtain ⟨t1, U1⟩ := AF.out w1 hb1; have t3 := (Boxed.alloc U1.out.1 (.cells #[.string x.1.1] 9)).cell
        clear hb1
        refine hK _ _ ?_
        clear hK K
        refine wpAnyIn_ready (rs := [4]) (by kernel_rfl) (by simp) (AllReadyIn.cons rfl (fun K hK => ?_) AllReadyIn.nil)
        go_simp
        refine hK _ _ ?_
        clear hK K
        refine wpAnyIn_ready (rs := [5]) (by kernel_rfl) (by simp) (AllReadyIn.cons rfl (fun K hK => ?_) AllReadyIn.nil)
        refine stepIn_put1 rfl (.tmp 17) (.tmp 21) rfl B (.slice A N c) N _ rfl (World.ownsRow.alloc U1.out.2.1 _) w1.heap.size x.1.1 rfl (Boxed.new _ _ _).cell (by omega) (by simp; exact Nat.le_succ_of_le U1.out.2.2.2.1) ?_
        intro v2 w2 hown2 hgrow2
        obtain ⟨g2, c2, rfl⟩ := ownsRow_succ hown2
        obtain ⟨hv1, V2⟩ := keys_appended U1.out.1 U1.out.2.1 U1.out.2.2.1 U1.out.2.2.2.1 hown2 hgrow2
        have hV2 := Lib.hid V2
        have hc1 := hv1.cell
        have hf1 := hv1.frozen
        clear hown2 hgrow2 hv1 V2 t1 t3
        refine hK _ _ ?_
        clear hK K
        refine wpAnyIn_ready (rs := [6]) (by kernel_rfl) (by simp) (AllReadyIn.cons rfl (fun K hK => ?_) AllReadyIn.nil)
        go_simp
        refine hK _ _ ?_
        clear hK K
        refine wpAnyIn_done (by kernel_rfl) ?_ _
        gi_wp2
        have hBW : B ≤ W.heap.size := by omega
        exact ⟨(keepsFrom_below U1.out.2.2.2.2).trans (hV2.out.2.2.1.from _), (U1.out.2.2.2.2.mono hBW).trans hV2.out.2.2.2.1, ⟨⟨_, hV2.out.1, by rw [keysI_snoc, List.length_append, hkl, List.map_append]; exact hV2.out.2.1, by simp⟩, by rw [List.length_append]; have := HN.out; simp; omega, by have := hV2.out.2.2.2.1.size; have := U1.out.2.2.2.2.size; omega, hV2.out.2.2.2.2⟩, HW.out.trans ((U1.out.2.2.2.2.mono hBW).trans hV2.out.2.2.2.1)⟩
      · go_simp
        refine hK _ _ ?_
        clear hK K
        refine wpAnyIn_ready (rs := [0, 3]) (by kernel_rfl) (by simp) (AllReadyIn.cons rfl (fun K hK => ?_) (AllReadyIn.cons rfl (fun K hK => ?_) AllReadyIn.nil))
        · go_simp
          refine hK _ _ ?_
          clear hK K
          refine wpAnyIn_ready (rs := [3]) (by kernel_rfl) (by simp) (AllReadyIn.cons rfl (fun K hK => ?_) AllReadyIn.nil)
          go_simp
          refine ⟨trivial, (CallsIn.inRound l (callsIn_wide.2 (LC.out _))).mono ?_⟩
          rintro e w1 ⟨rfl, hb1⟩
          obtain ⟨t1, U1⟩ := AF.out w1 hb1; have t3 := (Boxed.alloc U1.out.1 (.cells #[.string x.1.1] 9)).cell
          clear hb1
          refine hK _ _ ?_
          clear hK K
          refine wpAnyIn_ready (rs := [4]) (by kernel_rfl) (by simp) (AllReadyIn.cons rfl (fun K hK => ?_) AllReadyIn.nil)
          go_simp
          refine hK _ _ ?_
          clear hK K
          refine wpAnyIn_ready (rs := [5]) (by kernel_rfl) (by simp) (AllReadyIn.cons rfl (fun K hK => ?_) AllReadyIn.nil)
          refine stepIn_put1 rfl (.tmp 17) (.tmp 21) rfl B (.slice A N c) N _ rfl (World.ownsRow.alloc U1.out.2.1 _) w1.heap.size x.1.1 rfl (Boxed.new _ _ _).cell (by omega) (by simp; exact Nat.le_succ_of_le U1.out.2.2.2.1) ?_
          intro v2 w2 hown2 hgrow2
          obtain ⟨g2, c2, rfl⟩ := ownsRow_succ hown2
          obtain ⟨hv1, V2⟩ := keys_appended U1.out.1 U1.out.2.1 U1.out.2.2.1 U1.out.2.2.2.1 hown2 hgrow2
          have hV2 := Lib.hid V2
          have hc1 := hv1.cell
          have hf1 := hv1.frozen
          clear hown2 hgrow2 hv1 V2 t1 t3
          refine hK _ _ ?_
          clear hK K
          refine wpAnyIn_ready (rs := [6]) (by kernel_rfl) (by simp) (AllReadyIn.cons rfl (fun K hK => ?_) AllReadyIn.nil)
          go_simp
          refine hK _ _ ?_
          clear hK K
          refine wpAnyIn_done (by kernel_rfl) ?_ _
          gi_wp2
          have hBW : B ≤ W.heap.size := by omega
          exact ⟨(keepsFrom_below U1.out.2.2.2.2).trans (hV2.out.2.2.1.from _), (U1.out.2.2.2.2.mono hBW).trans hV2.out.2.2.2.1, ⟨⟨_, hV2.out.1, by rw [keysI_snoc, List.length_append, hkl, List.map_append]; exact hV2.out.2.1, by simp⟩, by rw [List.length_append]; have := HN.out; simp; omega, by have := hV2.out.2.2.2.1.size; have := U1.out.2.2.2.2.size; omega, hV2.out.2.2.2.2⟩, HW.out.trans ((U1.out.2.2.2.2.mono hBW).trans hV2.out.2.2.2.1)⟩
        · go_simp
          refine ⟨trivial, (CallsIn.inRound l (callsIn_wide.2 (LC.out _))).mono ?_⟩
          rintro e w1 ⟨rfl, hb1⟩
          obtain ⟨t1, U1⟩ := AF.out w1 hb1; have t3 := (Boxed.alloc U1.out.1 (.cells #[.string x.1.1] 9)).cell
          clear hb1
          refine hK _ _ ?_
          clear hK K
          refine wpAnyIn_ready (rs := [0, 4]) (by kernel_rfl) (by simp) (AllReadyIn.cons rfl (fun K hK => ?_) (AllReadyIn.cons rfl (fun K hK => ?_) AllReadyIn.nil))
          · go_simp
            refine hK _ _ ?_
            clear hK K
            refine wpAnyIn_ready (rs := [4]) (by kernel_rfl) (by simp) (AllReadyIn.cons rfl (fun K hK => ?_) AllReadyIn.nil)
            go_simp
            refine hK _ _ ?_
            clear hK K
            refine wpAnyIn_ready (rs := [5]) (by kernel_rfl) (by simp) (AllReadyIn.cons rfl (fun K hK => ?_) AllReadyIn.nil)
            refine stepIn_put1 rfl (.tmp 17) (.tmp 21) rfl B (.slice A N c) N _ rfl (World.ownsRow.alloc U1.out.2.1 _) w1.heap.size x.1.1 rfl (Boxed.new _ _ _).cell (by omega) (by simp; exact Nat.le_succ_of_le U1.out.2.2.2.1) ?_
            intro v2 w2 hown2 hgrow2
            obtain ⟨g2, c2, rfl⟩ := ownsRow_succ hown2
            obtain ⟨hv1, V2⟩ := keys_appended U1.out.1 U1.out.2.1 U1.out.2.2.1 U1.out.2.2.2.1 hown2 hgrow2
            have hV2 := Lib.hid V2
            have hc1 := hv1.cell
            have hf1 := hv1.frozen
            clear hown2 hgrow2 hv1 V2 t1 t3
            refine hK _ _ ?_
            clear hK K
            refine wpAnyIn_ready (rs := [6]) (by kernel_rfl) (by simp) (AllReadyIn.cons rfl (fun K hK => ?_) AllReadyIn.nil)
            go_simp
            refine hK _ _ ?_
            clear hK K
            refine wpAnyIn_done (by kernel_rfl) ?_ _
            gi_wp2
            have hBW : B ≤ W.heap.size := by omega
            exact ⟨(keepsFrom_below U1.out.2.2.2.2).trans (hV2.out.2.2.1.from _), (U1.out.2.2.2.2.mono hBW).trans hV2.out.2.2.2.1, ⟨⟨_, hV2.out.1, by rw [keysI_snoc, List.length_append, hkl, List.map_append]; exact hV2.out.2.1, by simp⟩, by rw [List.length_append]; have := HN.out; simp; omega, by have := hV2.out.2.2.2.1.size; have := U1.out.2.2.2.2.size; omega, hV2.out.2.2.2.2⟩, HW.out.trans ((U1.out.2.2.2.2.mono hBW).trans hV2.out.2.2.2.1)⟩
          · go_simp
            refine hK _ _ ?_
            clear hK K
            refine wpAnyIn_ready (rs := [0]) (by kernel_rfl) (by simp) (AllReadyIn.cons rfl (fun K hK => ?_) AllReadyIn.nil)
            go_simp
            refine hK _ _ ?_
            clear hK K
            refine wpAnyIn_ready (rs := [5]) (by kernel_rfl) (by simp) (AllReadyIn.cons rfl (fun K hK => ?_) AllReadyIn.nil)
            refine stepIn_put1 rfl (.tmp 17) (.tmp 21) rfl B (.slice A N c) N _ rfl (World.ownsRow.alloc U1.out.2.1 _) w1.heap.size x.1.1 rfl (Boxed.new _ _ _).cell (by omega) (by simp; exact Nat.le_succ_of_le U1.out.2.2.2.1) ?_
            intro v2 w2 hown2 hgrow2
            obtain ⟨g2, c2, rfl⟩ := ownsRow_succ hown2
            obtain ⟨hv1, V2⟩ := keys_appended U1.out.1 U1.out.2.1 U1.out.2.2.1 U1.out.2.2.2.1 hown2 hgrow2
            have hV2 := Lib.hid V2
            have hc1 := hv1.cell
            have hf1 := hv1.frozen
            clear hown2 hgrow2 hv1 V2 t1 t3
            refine hK _ _ ?_
            clear hK K
            refine wpAnyIn_ready (rs := [6]) (by kernel_rfl) (by simp) (AllReadyIn.cons rfl (fun K hK => ?_) AllReadyIn.nil)
            go_simp
            refine hK _ _ ?_
            clear hK K
            refine wpAnyIn_done (by kernel_rfl) ?_ _
            gi_wp2
            have hBW : B ≤ W.heap.size := by omega
            exact ⟨(keepsFrom_below U1.out.2.2.2.2).trans (hV2.out.2.2.1.from _), (U1.out.2.2.2.2.mono hBW).trans hV2.out.2.2.2.1, ⟨⟨_, hV2.out.1, by rw [keysI_snoc, List.length_append, hkl, List.map_append]; exact hV2.out.2.1, by simp⟩, by rw [List.length_append]; have := HN.out; simp; omega, by have := hV2.out.2.2.2.1.size; have := U1.out.2.2.2.2.size; omega, hV2.out.2.2.2.2⟩, HW.out.trans ((U1.out.2.2.2.2.mono hBW).trans hV2.out.2.2.2.1)⟩
  case done =>
    clear hB
    rintro D ys W hD rfl ⟨⟨⟨v, bv, how, hnil⟩, hpm, hs5, c0⟩, hW⟩ hK
    have t1 := bv.cell
    have et : ys.take m.toNat = ys := List.take_of_length_le hpm
    gi_wp2
    refine ⟨by simp, .inl ⟨_, _, rfl, run_takeDeferred hK, ?_⟩⟩
    refine ⟨v, by simp [results, Try.f13, go_sem], v, rfl, ?_, by rw [et]; exact hnil, by rw [← HBS.out]; exact hW.trans (belowK_b (w := W0) (n₀ := B) (by omega) _ D _ _ hD hK rfl rfl)⟩
    rw [et, ← HBS.out]
    exact ownsRow_putObj how _ hK rfl
  case stop =>
    clear hB
    rintro D c pre W hD hpre ⟨⟨ys, x, rfl, rfl, hym, v, bv, how, hnil⟩, hW⟩ hK
    have t1 := bv.cell
    have et : xs.take m.toNat = ys := by
      obtain ⟨z, rfl⟩ := hpre
      rw [← hym, List.append_assoc, List.take_left]
    gi_wp2
    refine ⟨by simp, .inl ⟨_, _, rfl, run_takeDeferred hK, ?_⟩⟩
    refine ⟨v, by simp [results, Try.f13, go_sem], v, rfl, ?_, by rw [et]; exact hnil, by rw [← HBS.out]; exact hW.trans (belowK_b (w := W0) (n₀ := B) (by omega) _ D _ _ hD hK rfl rfl)⟩
    rw [et, ← HBS.out]
    exact ownsRow_putObj how _ hK rfl

theorem keysI_to {l : KV} (hs : ∀ x, x ∈ l → x.1.size ≤ 1000000) (i n : Nat) : keysI (((l.drop i).map toI).take n) = (KV.ks l |>.drop i).take n := by
  unfold keysI KV.ks
  rw [← List.map_take, List.map_map, ← List.map_drop, ← List.map_take]
  refine List.map_congr_left fun x hx => ?_
  have := toI_val (hs x (List.mem_of_mem_drop (List.mem_of_mem_take hx)))
  show (toI x).1.1 = _
  rw [this]
/-- Keys -/
theorem xKeys (w : World) (T : Nat) (E : Nat → Prop) (l : KV) (b : Nat) (k : ByteArray) (m : Int) (h : Rep w T E l b) (hl : l.length ≤ 1000) (hs : ∀ x, x ∈ l → x.1.size ≤ 1000000) :
    Calls Try.prog 13 #[Ptr T, .string k, .int .i64 m] w fun e w' => ∃ v, e = .returned v ∧ OwnS w' w.heap.size v (((KV.ks l).drop (l.pos k)).take m.toNat) ∧ (v = .slice none 0 0 ↔ ((KV.ks l).drop (l.pos k)).take m.toNat = []) ∧ Below w.heap.size w w' := by
  refine (xKeysI w (some ⟨T, 0, none⟩) k m _ (iterRep w T E l b k h hl hs) (by simp; omega)).mono ?_
  rintro e w' ⟨v, rfl, h1, h2, h3⟩
  have e1 := keysI_to hs (l.pos k) m.toNat
  refine ⟨v, rfl, by rw [← e1]; exact h1, h2.trans ?_, h3⟩
  rw [← e1]
  simp [keysI]

end Go.Proofs.Ytdcjckdhjfnnhaa
