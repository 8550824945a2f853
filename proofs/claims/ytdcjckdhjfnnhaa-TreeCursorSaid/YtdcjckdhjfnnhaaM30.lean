/- Proved parts: T9ya. Conditions: each theorem's own. -/
import Derived.Test.YtdcjckdhjfnnhaaM29
namespace Go.Proofs.Ytdcjckdhjfnnhaa
open Go.RowKit Go.Shelf

/-- those above k, of items that aren't below it -/
def aftI (k : ByteArray) (xs : List Itm) : List Itm := xs.dropWhile fun y => decide (y.1.1 = k)
theorem aft_none {k : ByteArray} : ∀ {xs : List Itm}, (∀ y, y ∈ xs → y.1.1 = k) → aftI k xs = []
  | [], _ => rfl
  | y :: xs, h => by
    have e : aftI k (y :: xs) = if decide (y.1.1 = k) then aftI k xs else y :: xs := by unfold aftI; rw [List.dropWhile_cons]
    rw [e, if_pos (decide_eq_true (h y (by simp))), aft_none fun z hz => h z (by simp [hz])]
theorem aft_some {k : ByteArray} {x : Itm} : ∀ {p0 xs : List Itm}, (∀ y, y ∈ p0 → y.1.1 = k) → x.1.1 ≠ k → p0 ++ [x] <+: xs → ∃ z, aftI k xs = x :: z
  | [], xs, _, hx, hp => by
    obtain ⟨z, rfl⟩ := hp
    refine ⟨z, ?_⟩
    unfold aftI
    simp only [List.nil_append, List.cons_append]
    rw [List.dropWhile_cons, if_neg (by simp; exact hx)]
  | y :: p0, xs, h, hx, hp => by
    obtain ⟨z, rfl⟩ := hp
    obtain ⟨u, hu⟩ := aft_some (p0 := p0) (xs := p0 ++ [x] ++ z) (fun w hw => h w (by simp [hw])) hx ⟨z, rfl⟩
    refine ⟨u, ?_⟩
    rw [← hu]
    unfold aftI
    simp only [List.cons_append]
    rw [List.dropWhile_cons, if_pos (by simp; exact h y (by simp))]

attribute [local go_sem] Oper.semAt_some
set_option maxHeartbeats 4000000 in
set_option maxRecDepth 100000 in
/-- After -/
theorem xAfterI (w : World) (pt : Option Addr) (k : ByteArray) (xs : List Itm) (hI : Iter w pt k xs) :
    Calls Try.prog 16 #[.pointer pt, .string k] w fun e w' => e = .returned (.tuple #[.string (firstK (aftI k xs)), .int .i64 (firstN (aftI k xs)), .bool (decide (aftI k xs ≠ []))]) ∧ Below w.heap.size w w' := by
  refine (callsIn_wide (n := 6)).1 ?_
  refine callsIn_of_wp_marks Try.func16 rfl trivial ?_ rfl
  simp only [Try.ntmps16, List.size_toArray, List.length_cons, List.length_nil, Nat.reduceAdd, Nat.reduceSub, Array.replicate_succ, Array.replicate_zero, List.push_toArray, List.append_toArray, List.nil_append, List.cons_append]
  gi_wp2_with (refine ⟨trivial, ?_⟩; gi_at_call 28; refine (callsIn_wide.2 (xFrom _ _ _)).mono ?_; rintro e w' ⟨rfl, rfl⟩)
  obtain ⟨B, hB⟩ : ∃ B, B = w.heap.size := ⟨_, rfl⟩
  have bk := ((((((Boxed.new w 9 (.string k)).alloc (.cells #[.string ⟨#[]⟩] 9)).alloc (.cells #[.int .i64 0] 3)).alloc (.cells #[.bool false] 4)).alloc (.cells #[.pointer pt] 24)).alloc (.cells #[.string k] 9))
  have b0 := (((((Boxed.new (w.alloc (.cells #[.string k] 9)) 9 (.string ⟨#[]⟩)).alloc (.cells #[.int .i64 0] 3)).alloc (.cells #[.bool false] 4)).alloc (.cells #[.pointer pt] 24)).alloc (.cells #[.string k] 9))
  have b1 := ((((Boxed.new ((w.alloc (.cells #[.string k] 9)).alloc (.cells #[.string ⟨#[]⟩] 9)) 3 (.int .i64 0)).alloc (.cells #[.bool false] 4)).alloc (.cells #[.pointer pt] 24)).alloc (.cells #[.string k] 9))
  have b2 := (((Boxed.new (((w.alloc (.cells #[.string k] 9)).alloc (.cells #[.string ⟨#[]⟩] 9)).alloc (.cells #[.int .i64 0] 3)) 4 (.bool false)).alloc (.cells #[.pointer pt] 24)).alloc (.cells #[.string k] 9))
  have b3 := ((Boxed.new ((((w.alloc (.cells #[.string k] 9)).alloc (.cells #[.string ⟨#[]⟩] 9)).alloc (.cells #[.int .i64 0] 3)).alloc (.cells #[.bool false] 4)) 24 (.pointer pt)).alloc (.cells #[.string k] 9))
  have b4 := (Boxed.new (((((w.alloc (.cells #[.string k] 9)).alloc (.cells #[.string ⟨#[]⟩] 9)).alloc (.cells #[.int .i64 0] 3)).alloc (.cells #[.bool false] 4)).alloc (.cells #[.pointer pt] 24)) 9 (.string k))
  have hb : Below w.heap.size w ((((((w.alloc (.cells #[.string k] 9)).alloc (.cells #[.string ⟨#[]⟩] 9)).alloc (.cells #[.int .i64 0] 3)).alloc (.cells #[.bool false] 4)).alloc (.cells #[.pointer pt] 24)).alloc (.cells #[.string k] 9)) := ((((((Below.refl _ w).alloc (Nat.le_refl _) _).alloc (by simp) _).alloc (by simp; omega) _).alloc (by simp; omega) _).alloc (by simp; omega) _).alloc (by simp; omega) _
  have hsz : ((((((w.alloc (.cells #[.string k] 9)).alloc (.cells #[.string ⟨#[]⟩] 9)).alloc (.cells #[.int .i64 0] 3)).alloc (.cells #[.bool false] 4)).alloc (.cells #[.pointer pt] 24)).alloc (.cells #[.string k] 9)).heap.size = w.heap.size + 6 := by simp
  simp only [World.size_alloc] at b0 b1 b2 b3 b4
  obtain ⟨W0, hW0⟩ : ∃ W0, ((((((w.alloc (.cells #[.string k] 9)).alloc (.cells #[.string ⟨#[]⟩] 9)).alloc (.cells #[.int .i64 0] 3)).alloc (.cells #[.bool false] 4)).alloc (.cells #[.pointer pt] 24)).alloc (.cells #[.string k] 9)) = W0 := ⟨_, rfl⟩
  rw [hW0] at bk b0 b1 b2 b3 b4 hb hsz ⊢
  clear hW0
  have hc := hI W0 (w.heap.size + 1 + 1 + 1 + 1) (6 - 1) hb (by omega) (by omega) b3.cell b4.cell (by decide)
  rw [← hB] at bk b0 b1 b2 b3 b4 hb hsz hc ⊢
  have HBS := Lib.hid hB
  refine wpIn_rangeFunc_ownH rfl (by decide) (gf := 40) (lb := #[.pointer (some ⟨B + 1 + 1 + 1 + 1, 0, none⟩), .pointer (some ⟨B + 1 + 1 + 1 + 1 + 1, 0, none⟩)]) rfl trivial (enters_of Try.func40 (by kernel_rfl) rfl)
    hc belowK_t (belowK_b (by omega)) (Below.refl _ _) (fun _ => rfl)
    (fun pre W => ((∀ y, y ∈ pre → y.1.1 = k) ∧ B + 6 ≤ W.heap.size ∧ Boxed W B 9 (.string k) ∧ Boxed W (B + 1) 9 (.string ⟨#[]⟩) ∧ Boxed W (B + 1 + 1) 3 (.int .i64 0) ∧ Boxed W (B + 1 + 1 + 1) 4 (.bool false)) ∧ Below B w W)
    (fun c pre W => (∃ x : Itm, c = .ret ∧ (∃ p0 : List Itm, pre = p0 ++ [x] ∧ (∀ y, y ∈ p0 → y.1.1 = k) ∧ x.1.1 ≠ k) ∧ Boxed W (B + 1) 9 (.string x.1.1) ∧ Boxed W (B + 1 + 1) 3 (.int .i64 x.1.2) ∧ Boxed W (B + 1 + 1 + 1) 4 (.bool true)) ∧ Below B w W)
    (OwnFrom.and (Own.from (fun s X Y row hs hg hr => ⟨hs.1, Nat.le_trans hs.2.1 hg.size, boxed_kept hs.2.2.1 hg hr, boxed_kept hs.2.2.2.1 hg hr, boxed_kept hs.2.2.2.2.1 hg hr, boxed_kept hs.2.2.2.2.2 hg hr⟩) _) (ownFrom_below (by omega) (by omega)))
    (fun c => OwnFrom.and (Own.from (fun s X Y row hs hg hr => by obtain ⟨x, h1, h2, h3, h4, h5⟩ := hs; exact ⟨x, h1, h2, boxed_kept h3 hg hr, boxed_kept h4 hg hr, boxed_kept h5 hg hr⟩) _) (ownFrom_below (by omega) (by omega)))
    ⟨⟨(fun y hy => (by cases hy)), by omega, bk, b0, b1, b2⟩, hb⟩
    (fun x a' W => ∃ Bx, B + 5 < Bx ∧ RowAt W Bx [.string x.1.1, .int .i64 x.1.2] 56 ∧ a' = { tmps := #[.pointer pt, .string k, undef, .pointer (some ⟨B, 0, none⟩), .pointer (some ⟨B + 1, 0, none⟩), .pointer (some ⟨B + 1 + 1, 0, none⟩), .pointer (some ⟨B + 1 + 1 + 1, 0, none⟩), .pointer (some ⟨Bx, 0, none⟩), .pointer pt, .string k, .func (.func 40) #[] #[.pointer (some ⟨B + 1 + 1 + 1 + 1, 0, none⟩), .pointer (some ⟨B + 1 + 1 + 1 + 1 + 1, 0, none⟩)],   .agg #[.string x.1.1, .int .i64 x.1.2], undef, undef, undef, undef, undef, undef, undef, undef, undef], defers := [] })
    (fun x a' _ X Y row hs hg hr => by obtain ⟨Bx, h1, h2, h3⟩ := hs; exact ⟨Bx, h1, rowAt_kept h2 hg (fun r e => (hr r e).2), h3⟩)
    ?assign ?body ?done ?stop
  case assign =>
    clear hB
    rintro l pre x W K ⟨⟨hp, hs5, ck, c0, c1, c2⟩, hW⟩ hK
    dsimp only [encI]
    gi_wp2
    have hBW : B ≤ W.heap.size := by omega
    exact hK _ _ ((KeepsOthers.alloc _ _).from _) ((Below.refl _ W).alloc hBW _) ⟨⟨hp, by simp; omega, ck.alloc _, c0.alloc _, c1.alloc _, c2.alloc _⟩, hW.alloc hBW _⟩ ⟨W.heap.size, by omega, RowAt.new W _ _, rfl⟩
  case body =>
    clear hB
    rintro l pre x a' W hl ⟨r, hr⟩ ⟨⟨hp, hs5, ck, c0, c1, c2⟩, hW⟩ ⟨Bx, hBx, bX, rfl⟩ hlt
    have x0 := bX.cell 0
    have x1 := bX.cell 1
    simp only [List.getElem?_cons_zero, List.getElem?_cons_succ] at x0 x1
    have TC := Lib.hid (xTold W x.1 x.2)
    have C0 := Lib.hid c0
    have C1 := Lib.hid c1
    have C2 := Lib.hid c2
    have CK := Lib.hid ck
    have HP := Lib.hid hp
    have HW := Lib.hid hW
    have q0 := ck.cell
    have h1' : 1 ≤ 6 - 1 - 1 := by decide
    clear bk b0 b1 b2 b3 b4 c0 c1 c2 ck hW hc hp
    have hBW : B ≤ W.heap.size := by omega
    by_cases hx : x.1.1 = k
    · have hx' : (x.1.1.toList == k.toList) = true := str_eq hx
      have HX := Lib.hid hx
      clear hx
      gi_wp2
      refine ⟨KeepsFrom.refl _ _, Below.refl _ _, ⟨fun y hy => ?_, hs5, CK.out, C0.out, C1.out, C2.out⟩, HW.out⟩
      rcases List.mem_append.1 hy with t | t
      · exact HP.out y t
      · simp at t; rw [t]; exact HX.out
    have hx' : (x.1.1.toList == k.toList) = false := str_ne hx
    have HX := Lib.hid hx
    clear hx
    gi_wp2_with (refine ⟨trivial, ?_⟩; gi_at_call 29; refine (CallsIn.inRound l (callsIn_wide.2 TC.out)).mono ?_; rintro e w' ⟨rfl, hb'⟩; have HB' := Lib.hid hb'; have e0 := boxed_below C0.out hb'; have e1 := boxed_below C1.out hb'; have e2 := boxed_below C2.out hb'; have E0 := Lib.hid e0; have E1 := Lib.hid e1; have E2 := Lib.hid e2; have t0 := e0.cell; have t1 := e1.cell; have t2 := e2.cell; have f0 := e0.frozen; have f1 := e1.frozen; have f2 := e2.frozen; clear e0 e1 e2 hb')
    have hBo := Below.then2 HW.out HB'.out hBW
    refine ⟨(keepsFrom_below HB'.out).trans (((KeepsOthers.setCell _ _ _).from _).trans (((KeepsOthers.setCell _ _ _).from _).trans ((KeepsOthers.setCell _ _ _).from _))), ⟨x, rfl, ⟨_, rfl, HP.out, HX.out⟩, ?_, ?_, ?_⟩, ?_⟩
    · exact ((E0.out.set _).other (by omega) _).other (by omega) _
    · exact ((E1.out.other (by omega) _).set _).other (by omega) _
    · exact ((E2.out.other (by omega) _).other (by omega) _).set _
    · exact ((hBo.setCell (p := ⟨B + 1, 0, none⟩) (by show B ≤ B + 1; omega) _).setCell (p := ⟨B + 1 + 1, 0, none⟩) (by show B ≤ B + 1 + 1; omega) _).setCell (p := ⟨B + 1 + 1 + 1, 0, none⟩) (by show B ≤ B + 1 + 1 + 1; omega) _
  case done =>
    clear hB
    rintro D ys W hD rfl ⟨⟨hp, hs5, ck, c0, c1, c2⟩, hW⟩ hK
    have HA := Lib.hid (aft_none hp)
    have C0 := Lib.hid c0
    have C1 := Lib.hid c1
    have C2 := Lib.hid c2
    have HW := Lib.hid hW
    have t0 := c0.cell
    have t1 := c1.cell
    have t2 := c2.cell
    have f0 := c0.frozen
    have f1 := c1.frozen
    have f2 := c2.frozen
    clear bk b0 b1 b2 b3 b4 c0 c1 c2 ck hW hc hp
    gi_wp2
    obtain ⟨W3, hW3⟩ : ∃ W3, W3 = ((W.setCell ⟨B + 1, 0, none⟩ (.string ⟨#[]⟩)).setCell ⟨B + 1 + 1, 0, none⟩ (.int .i64 0)).setCell ⟨B + 1 + 1 + 1, 0, none⟩ (.bool false) := ⟨_, rfl⟩
    have e0 : Boxed W3 (B + 1) 9 (.string ⟨#[]⟩) := by rw [hW3]; exact ((C0.out.set _).other (by omega) _).other (by omega) _
    have e1 : Boxed W3 (B + 1 + 1) 3 (.int .i64 0) := by rw [hW3]; exact ((C1.out.other (by omega) _).set _).other (by omega) _
    have e2 : Boxed W3 (B + 1 + 1 + 1) 4 (.bool false) := by rw [hW3]; exact ((C2.out.other (by omega) _).other (by omega) _).set _
    have eb : Below B w W3 := by rw [hW3]; exact ((HW.out.setCell (p := ⟨B + 1, 0, none⟩) (by show B ≤ B + 1; omega) _).setCell (p := ⟨B + 1 + 1, 0, none⟩) (by show B ≤ B + 1 + 1; omega) _).setCell (p := ⟨B + 1 + 1 + 1, 0, none⟩) (by show B ≤ B + 1 + 1 + 1; omega) _
    have hK' : W3.heap[D]? = some (.deferred (some [])) := by rw [hW3]; exact (KeepsOthers.setCell _ _ _).same D _ ((KeepsOthers.setCell _ _ _).same D _ ((KeepsOthers.setCell _ _ _).same D _ hK rfl) rfl) rfl
    rw [← hW3]
    refine ⟨by simp, .inl ⟨_, _, rfl, run_takeDeferred hK', ?_⟩⟩
    have g0 := (boxed_kept e0 (grownBy_putObj' _ D (.deferred none)) (fun r e => by cases e; exact ⟨_, hK', rfl⟩)).cell
    have g1 := (boxed_kept e1 (grownBy_putObj' _ D (.deferred none)) (fun r e => by cases e; exact ⟨_, hK', rfl⟩)).cell
    have g2 := (boxed_kept e2 (grownBy_putObj' _ D (.deferred none)) (fun r e => by cases e; exact ⟨_, hK', rfl⟩)).cell
    refine ⟨.tuple #[.string ⟨#[]⟩, .int .i64 0, .bool false], ?_, by rw [HA.out]; rfl, by rw [← HBS.out]; exact eb.trans (belowK_b (w := W0) (n₀ := B) (by omega) _ D _ _ hD hK' rfl rfl)⟩
    simp [results, Try.f16, go_sem, g0, g1, g2]
  case stop =>
    clear hB
    rintro D c pre W hD hpre ⟨⟨x, rfl, ⟨p0, rfl, hp, hx⟩, c0, c1, c2⟩, hW⟩ hK
    obtain ⟨z, e⟩ := aft_some hp hx hpre
    gi_wp2
    refine ⟨by simp, .inl ⟨_, _, rfl, run_takeDeferred hK, ?_⟩⟩
    have g0 := (boxed_kept c0 (grownBy_putObj' _ D (.deferred none)) (fun r e => by cases e; exact ⟨_, hK, rfl⟩)).cell
    have g1 := (boxed_kept c1 (grownBy_putObj' _ D (.deferred none)) (fun r e => by cases e; exact ⟨_, hK, rfl⟩)).cell
    have g2 := (boxed_kept c2 (grownBy_putObj' _ D (.deferred none)) (fun r e => by cases e; exact ⟨_, hK, rfl⟩)).cell
    refine ⟨.tuple #[.string x.1.1, .int .i64 x.1.2, .bool true], ?_, ?_, by rw [← HBS.out]; exact hW.trans (belowK_b (w := W0) (n₀ := B) (by omega) _ D _ _ hD hK rfl rfl)⟩
    · simp [results, Try.f16, go_sem, g0, g1, g2]
    · rw [e]; rfl

end Go.Proofs.Ytdcjckdhjfnnhaa
