/- The program's ring in memory: its New, Seq, Size, Floor, Clone, ahead and Push: walked. -/
import Derived.Test.YtagodofcjnlnbaaA0p
import Derived.Test.YtagodofcjnlnbaaA0o
import Derived.Test.YtagodofcjnlnbaaCl
namespace Go.Proofs.Ytagodofcjnlnbaa
open Go.RowKit

/-- the program's ring: its struct at b, its row v -/
structure PrW (w : World) (b : Nat) (v : Value) (z g q : Nat) (zs : List Int) : Prop where
  row : RowAt w b [.int .i64 z, .int .i64 g, .int .i64 q, v] 42
  own : Own w (b + 1) v zs
  nil : zs = [] → v = .slice none 0 0
/-- what a step leaves -/
def StepP (b : Nat) (v : Value) (w : World) (v' : Value) (w' : World) : Prop := Chg (rfoot b v) w w' ∧ ∀ k, rfoot b v' k → rfoot b v k ∨ w.heap.size ≤ k
section
variable {w w' w4 : World} {b z g q : Nat} {v v' v2 : Value} {zs zs' : List Int}
theorem StepP.refl (b : Nat) (v : Value) (w : World) : StepP b v w v w := ⟨Chg.refl _ _, fun _ e => .inl e⟩
theorem StepP.trans {w2 : World} (h : StepP b v w v' w') (k : StepP b v' w' v2 w2) : StepP b v w v2 w2 := by
  have sz := h.1.size
  refine ⟨h.1.trans k.1 h.2, fun i e => ?_⟩
  rcases k.2 i e with q | q
  · exact h.2 i q
  · exact .inr (by omega)
theorem StepP.below (h : Below w.heap.size w w') : StepP b v w v w' := ⟨Chg.of_below h, fun _ e => .inl e⟩
theorem PrW.lt (h : PrW w b v z g q zs) : ∀ k, rfoot b v k → k < w.heap.size := fun k e => by
  rcases e with rfl | e
  · exact h.row.lt
  · exact (h.own.lt k e).2
theorem PrW.keep (h : PrW w b v z g q zs) (hk : ∀ k, rfoot b v k → w'.heap[k]? = w.heap[k]?) : PrW w' b v z g q zs := by
  refine ⟨(hk b (.inl rfl)).trans h.row, ⟨h.own.1, ?_⟩, h.nil⟩
  rcases h.own.2 with hn | ⟨c, cap, cur, rfl, hB, hg, r⟩
  · exact .inl hn
  · exact .inr ⟨c, cap, cur, rfl, hB, (hk c (.inr rfl)).trans hg, r⟩
theorem PrW.below (h : PrW w b v z g q zs) (hb : Below w.heap.size w w') : PrW w' b v z g q zs := h.keep fun k e => hb.block k (h.lt k e)
theorem PrW.drewN (h : PrW w b v z g q zs) (n : Nat) : PrW (w.drewN n) b v z g q zs := ⟨h.row, h.own, h.nil⟩
theorem PrW.seq (h : PrW w b v z g q zs) (q' : Nat) : PrW (w.setCell ⟨b, 2, none⟩ (.int .i64 q')) b v z g q' zs ∧ StepP b v w v (w.setCell ⟨b, 2, none⟩ (.int .i64 q')) := by
  refine ⟨⟨h.row.set 2 _, ⟨h.own.1, ?_⟩, h.nil⟩, (Chg.refl _ w).setCell (.inl (.inl rfl)) _, fun _ e => .inl e⟩
  rcases h.own.2 with hn | ⟨c, cap, cur, rfl, hB, hg, r⟩
  · exact .inl hn
  · exact .inr ⟨c, cap, cur, rfl, hB, (Below.heap_setCell _ _ _ _ (by show c ≠ b; omega)).trans hg, r⟩
theorem Own.set_head {x : Value} {k : Nat} (h : Own w (b + 1) v zs) : Own (w.setCell ⟨b, k, none⟩ x) (b + 1) v zs := by
  refine ⟨h.1, ?_⟩
  rcases h.2 with hn | ⟨c, cap, cur, rfl, hB, hg, r⟩
  · exact .inl hn
  · exact .inr ⟨c, cap, cur, rfl, hB, (Below.heap_setCell _ _ _ _ (by show c ≠ b; omega)).trans hg, r⟩
/-- another row behind some calls that turned the old one alone -/
theorem PrW.row_new (h : PrW w b v z g q zs) (hc : Chg (fun k => v.ownBlock = some k) w w4) (ho : Own w4 (b + 1) v' zs') (hk : ∀ k, v'.ownBlock = some k → v.ownBlock = some k ∨ w.heap.size ≤ k) (hn : zs' ≠ []) :
    RowAt w4 b [.int .i64 z, .int .i64 g, .int .i64 q, v] 42 ∧ PrW (w4.setCell ⟨b, 3, none⟩ v') b v' z g q zs' ∧ StepP b v w v' (w4.setCell ⟨b, 3, none⟩ v') := by
  have r4 : RowAt w4 b [.int .i64 z, .int .i64 g, .int .i64 q, v] 42 := h.row.keep hc fun e => by have := h.own.lt b e; omega
  refine ⟨r4, ⟨r4.set 3 v', ho.set_head, fun e => absurd e hn⟩, (hc.mono fun k e => .inr e).setCell (.inl (.inl rfl)) v', fun k e => ?_⟩
  rcases e with e | e
  · exact .inl (.inl e)
  · rcases hk k e with q | q
    · exact .inl (.inr q)
    · exact .inr q
end

set_option maxRecDepth 100000 in
set_option maxHeartbeats 2000000 in
/-- ahead -/
theorem xAhead0 (b : Nat) (v : Value) (r : Rg) (w : World) (h : PrW w b v r.size r.beg r.seq r.kept) (ok : r.Ok) :
    Calls Try.prog 19 #[PtrR b] w fun e w' => e = .returned (.int .u64 r.last) ∧ ∃ n, w' = w.drewN n := by
  obtain ⟨A, c, hv, hc, hsl, _, _⟩ := h.own.form
  have c3 := h.row.cell 3
  rw [hv] at c3
  simp only [List.getElem?_cons_succ, List.getElem?_cons_zero] at c3
  obtain ⟨n, hn⟩ : ∃ n, n = r.kept.length := ⟨_, rfl⟩
  obtain ⟨L, hL⟩ : ∃ L, L = r.last := ⟨_, rfl⟩
  have kl := r.kept_len
  have s1 := ok.s1
  have s16 := ok.s16
  have nb : n ≤ 16 := by omega
  rw [← hn] at c3 hc
  rw [← hL]
  by_cases n0 : n = 0
  · have eL : L = 0 := by rw [hL]; unfold Rg.last; rw [if_pos (by omega)]
    subst eL
    clear hL hn kl s1 s16 nb hc hsl h ok hv
    subst n0
    go_enter Try.func19, Try.ntmps19
    go_wp2_with fail
    go_ret
    exact ⟨rfl, 0, rfl⟩
  · obtain ⟨i, hi⟩ : ∃ i, i = n - 1 := ⟨_, rfl⟩
    obtain ⟨bb, o, rfl, hbb, cc⟩ := hsl.at_ (k := i) (by omega)
    have cl := cc i (by omega)
    rw [show r.kept.getD i 0 = L by rw [hi, hn, hL]; exact Rg.kept_last ok (by omega)] at cl
    have i1 : (n : Int) - 1 = (i : Int) := by omega
    have i2 : (0 : Int) ≤ (i : Int) := by omega
    have i3 : (i : Int) < (n : Int) := by omega
    have n1 : ((n : Int) == 0) = false := by simp; omega
    clear hi hbb cc hL hn n0 kl s1 s16 h ok hv hsl
    go_enter Try.func19, Try.ntmps19
    go_wp2_with fail
    go_quiet (fail)
    go_wp2_with fail
    go_ret
    exact ⟨rfl, _, rfl⟩

end Go.Proofs.Ytagodofcjnlnbaa
