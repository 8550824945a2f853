/- A tree that isn't there: Seek, After, Keys, and all else. -/
import Derived.Test.YtdcjckdhjfnnhaaT9ya
namespace Go.Proofs.Ytdcjckdhjfnnhaa
open Go.RowKit Go.Shelf

attribute [local go_sem] Oper.semAt_some
set_option maxHeartbeats 1000000 in
set_option maxRecDepth 100000 in
/-- a tree that isn't there gives nothing -/
theorem iterNil (w : World) (k : ByteArray) : Iter w none k [] := by
  intro w2 q n hb hq hq2 c0 c1 hn l J Jx W hW hJ hJx hY h0
  have c0' : W.cell? ⟨q, 0, none⟩ = some (.pointer none) := (hW.cell (p := ⟨q, 0, none⟩) (by show q < w2.heap.size; omega)).trans c0
  refine callsIn_of_wp Try.func40 rfl trivial ?_ rfl
  simp only [Try.ntmps40, List.size_toArray, List.length_cons, List.length_nil, Nat.reduceAdd, Nat.reduceSub, Array.replicate_succ, Array.replicate_zero, List.push_toArray, List.append_toArray, List.nil_append, List.cons_append]
  gi_wp2
  go_end0
  exact ⟨⟨_, rfl⟩, .inl ⟨[], rfl, h0⟩⟩

set_option maxHeartbeats 4000000 in
set_option maxRecDepth 100000 in
/-- Keys, of a tree that isn't there -/
theorem xKeysNil (w : World) (k : ByteArray) (m : Int) :
    Calls Try.prog 13 #[.pointer none, .string k, .int .i64 m] w fun e w' => e = .returned (.slice none 0 0) ∧ Below w.heap.size w w' := by
  refine (callsIn_wide (n := 6)).1 ?_
  refine callsIn_of_wp_marks Try.func13 rfl trivial ?_ rfl
  simp only [Try.ntmps13, List.size_toArray, List.length_cons, List.length_nil, Nat.reduceAdd, Nat.reduceSub, Array.replicate_succ, Array.replicate_zero, List.push_toArray, List.append_toArray, List.nil_append, List.cons_append]
  gi_wp2_with (refine ⟨trivial, ?_⟩; gi_at_call 28; refine (callsIn_wide.2 (xFrom _ _ _)).mono ?_; rintro e w' ⟨rfl, rfl⟩)
  obtain ⟨B, hB⟩ : ∃ B, B = w.heap.size := ⟨_, rfl⟩
  have b0 := ((((Boxed.new w 3 (.int .i64 m)).alloc (.cells #[.slice none 0 0] 27)).alloc (.cells #[.pointer none] 24)).alloc (.cells #[.string k] 9))
  have b1 := (((Boxed.new (w.alloc (.cells #[.int .i64 m] 3)) 27 (.slice none 0 0)).alloc (.cells #[.pointer none] 24)).alloc (.cells #[.string k] 9))
  have b3 := ((Boxed.new ((w.alloc (.cells #[.int .i64 m] 3)).alloc (.cells #[.slice none 0 0] 27)) 24 (.pointer none)).alloc (.cells #[.string k] 9))
  have b4 := (Boxed.new (((w.alloc (.cells #[.int .i64 m] 3)).alloc (.cells #[.slice none 0 0] 27)).alloc (.cells #[.pointer none] 24)) 9 (.string k))
  have hb : Below w.heap.size w ((((w.alloc (.cells #[.int .i64 m] 3)).alloc (.cells #[.slice none 0 0] 27)).alloc (.cells #[.pointer none] 24)).alloc (.cells #[.string k] 9)) := ((((Below.refl _ w).alloc (Nat.le_refl _) _).alloc (by simp) _).alloc (by simp; omega) _).alloc (by simp; omega) _
  have hsz : ((((w.alloc (.cells #[.int .i64 m] 3)).alloc (.cells #[.slice none 0 0] 27)).alloc (.cells #[.pointer none] 24)).alloc (.cells #[.string k] 9)).heap.size = w.heap.size + 4 := by simp
  simp only [World.size_alloc] at b1 b3 b4
  obtain ⟨W0, hW0⟩ : ∃ W0, ((((w.alloc (.cells #[.int .i64 m] 3)).alloc (.cells #[.slice none 0 0] 27)).alloc (.cells #[.pointer none] 24)).alloc (.cells #[.string k] 9)) = W0 := ⟨_, rfl⟩
  rw [hW0] at b0 b1 b3 b4 hb hsz ⊢
  clear hW0
  have hc := iterNil w k W0 (w.heap.size + 1 + 1) (6 - 1) hb (by omega) (by omega) b3.cell b4.cell (by decide)
  rw [← hB] at b0 b1 b3 b4 hb hsz hc ⊢
  have HBS := Lib.hid hB
  refine wpIn_rangeFunc_ownH rfl (by decide) (gf := 40) (lb := #[.pointer (some ⟨B + 1 + 1, 0, none⟩), .pointer (some ⟨B + 1 + 1 + 1, 0, none⟩)]) rfl trivial (enters_of Try.func40 (by kernel_rfl) rfl)
    hc belowK_t (belowK_b (by omega)) (Below.refl _ _) (fun _ => rfl)
    (fun pre W => (pre = [] ∧ B + 4 ≤ W.heap.size ∧ Boxed W (B + 1) 27 (.slice none 0 0)) ∧ Below B w W)
    (fun _ _ _ => False)
    (OwnFrom.and (Own.from (fun s X Y row hs hg hr => ⟨hs.1, Nat.le_trans hs.2.1 hg.size, boxed_kept hs.2.2 hg hr⟩) _) (ownFrom_below (by omega) (by omega)))
    (fun _ _ _ _ _ hs _ _ => hs)
    ⟨⟨rfl, by omega, b1⟩, hb⟩
    (fun x a' W => ∃ Bx, B + 3 < Bx ∧ RowAt W Bx [.string x.1.1, .int .i64 x.1.2] 56 ∧ a' = { tmps := #[.pointer none, .string k, .int .i64 m, undef, undef, .pointer (some ⟨B, 0, none⟩), .slice none 0 0, .pointer (some ⟨B + 1, 0, none⟩), .pointer (some ⟨Bx, 0, none⟩), .pointer none, .string k, .func (.func 40) #[] #[.pointer (some ⟨B + 1 + 1, 0, none⟩), .pointer (some ⟨B + 1 + 1 + 1, 0, none⟩)], .agg #[.string x.1.1, .int .i64 x.1.2], undef, undef, undef, undef, undef, undef, undef, undef, undef, undef, undef], defers := [] })
    (fun x a' _ X Y row hs hg hr => by obtain ⟨Bx, h1, h2, h3⟩ := hs; exact ⟨Bx, h1, rowAt_kept h2 hg (fun r e => (hr r e).2), h3⟩)
    ?assign ?body ?done ?stop
  case assign =>
    clear hB
    rintro l pre x W K ⟨⟨hp, hs5, c1⟩, hW⟩ hK
    dsimp only [encI]
    gi_wp2
    have hBW : B ≤ W.heap.size := by omega
    exact hK _ _ ((KeepsOthers.alloc _ _).from _) ((Below.refl _ W).alloc hBW _) ⟨⟨hp, by simp; omega, c1.alloc _⟩, hW.alloc hBW _⟩ ⟨W.heap.size, by omega, RowAt.new W _ _, rfl⟩
  case body =>
    intro l pre x a' W _ _ _ _ hlt
    exact absurd hlt (by simp)
  case done =>
    clear hB
    rintro D ys W hD rfl ⟨⟨_, hs5, c1⟩, hW⟩ hK
    have t1 := c1.cell
    gi_wp2
    refine ⟨by simp, .inl ⟨_, _, rfl, run_takeDeferred hK, ?_⟩⟩
    refine ⟨.slice none 0 0, by simp [results, Try.f13, go_sem], rfl, by rw [← HBS.out]; exact hW.trans (belowK_b (w := W0) (n₀ := B) (by omega) _ D _ _ hD hK rfl rfl)⟩
  case stop =>
    rintro D c pre W _ _ h _
    exact h.elim

end Go.Proofs.Ytdcjckdhjfnnhaa
