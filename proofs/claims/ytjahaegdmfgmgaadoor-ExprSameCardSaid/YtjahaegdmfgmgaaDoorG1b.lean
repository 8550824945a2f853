/- expr's table, heights, isStep, Right, Depth: walked. -/
import Derived.Test.YtjahaegdmfgmgaaDoorG1a
namespace Go.Proofs.YtjahaegdmfgmgaaDoor
open Go.RowKit Ex Fl

/-- the table of the steps' heights, as it lies in memory -/
def TabH (w : World) : Prop := 1 < w.heap.size ∧ ∀ k : Nat, k ≤ 16 → 1 ≤ k → w.cell? ⟨1, k * 2, none⟩ = some (.int .i64 ((tk k : Nat) : Int)) ∧ w.cell? ⟨1, k * 2 + 1, none⟩ = some (.int .i64 ((pt k : Nat) : Int))
theorem TabH.below {w w' : World} {B : Nat} (h : TabH w) (hb : Below B w w') (hB : 1 < B) : TabH w' :=
  ⟨Nat.lt_of_lt_of_le h.1 hb.size, fun k h1 h2 => ⟨(hb.cell (p := ⟨1, k * 2, none⟩) hB).trans (h.2 k h1 h2).1, (hb.cell (p := ⟨1, k * 2 + 1, none⟩) hB).trans (h.2 k h1 h2).2⟩⟩
theorem TabH.bel {w w' : World} (h : TabH w) (hb : Below w.heap.size w w') : TabH w' := h.below hb h.1

theorem tk_le (op : Int) : tk op ≤ 3 := by unfold tk; (repeat' split) <;> omega
theorem pt_le (op : Int) : pt op ≤ 2 := by unfold pt; (repeat' split) <;> omega

theorem ret_iib {a b : Int} {x y : Bool} (h : x = y) : Ending.returned (.tuple #[.int .i64 a, .int .i64 b, .bool x]) = .returned (.tuple #[.int .i64 a, .int .i64 b, .bool y]) := by rw [h]
set_option maxRecDepth 100000 in
/-- heights -/
theorem xheights (h : Nat) (op : Int) (h8 : h ≤ 8) (o1 : 1 ≤ op) (o2 : op ≤ 16) (w : World) (ht : TabH w) :
    Calls Tryd.prog 27 #[.int .i64 (h : Int), .int .i64 op] w fun e w' => e = .returned (.tuple #[.int .i64 ((h : Int) - (tk op : Int)), .int .i64 ((h : Int) - (tk op : Int) + (pt op : Int)), .bool (!decide (bad op h))]) ∧ w = w' := by
  obtain ⟨k, rfl⟩ : ∃ k : Nat, op = (k : Int) := ⟨op.toNat, by omega⟩
  obtain ⟨c0, c1⟩ := ht.2 k (by omega) (by omega)
  have t3 := tk_le (k : Int)
  have p2 := pt_le (k : Int)
  have bd : bad (k : Int) h ↔ ((h : Int) - (tk k : Int) < 0 ∨ 8 < (h : Int) - (tk k : Int) + (pt k : Int)) := by unfold bad; omega
  have BD := Lib.hid (show decide (bad (k : Int) h) = (decide ((h : Int) - (tk k : Int) < 0) || decide (8 < (h : Int) - (tk k : Int) + (pt k : Int))) by
    rw [Bool.eq_iff_iff, Bool.or_eq_true, decide_eq_true_eq, decide_eq_true_eq, decide_eq_true_eq]; exact bd)
  clear bd
  obtain ⟨t, ht2⟩ : ∃ t, t = tk (k : Int) := ⟨_, rfl⟩
  obtain ⟨p, hp2⟩ : ∃ p, p = pt (k : Int) := ⟨_, rfl⟩
  rw [← ht2] at c0 t3 BD ⊢
  rw [← hp2] at c1 p2 BD ⊢
  obtain ⟨D, hD⟩ : ∃ D, D = decide (bad (k : Int) h) := ⟨_, rfl⟩
  rw [← hD] at BD ⊢
  have ww : wrap64 ((h : Int) - (t : Int)) = (h : Int) - (t : Int) := by unfold wrap64; omega
  have ww2 : wrap64 ((h : Int) - (t : Int) + (p : Int)) = (h : Int) - (t : Int) + (p : Int) := by unfold wrap64; omega
  have i0 : (0 : Int) ≤ (k : Int) := by omega
  have i1 : (k : Int) < 17 := by omega
  clear ht ht2 hp2 hD
  by_cases q : 0 ≤ (h : Int) - (t : Int)
  · go_enter Tryd.func27, Tryd.ntmps27
    go_wp2
    go_ret3
    refine ⟨ret_iib ?_, rfl⟩
    rw [BD.out, decide_eq_false (show ¬ ((h : Int) - (t : Int) < 0) by omega), Bool.false_or, Bool.eq_iff_iff]
    simp
  · go_enter Tryd.func27, Tryd.ntmps27
    go_wp2
    go_ret3
    refine ⟨ret_iib ?_, rfl⟩
    rw [BD.out, decide_eq_true (show ((h : Int) - (t : Int) < 0) by omega)]
    rfl

set_option maxRecDepth 100000 in
/-- isStep -/
theorem xisStep (c : Cd) (hb : Fits c.b) (w : World) : Calls Tryd.prog 23 #[.agg #[.int .i64 c.op, .int .u64 (c.b : Int)]] w fun e w' => e = .returned (.bool (isC c)) ∧ Below w.heap.size w w' := by
  obtain ⟨op, b⟩ := c
  change Fits b at hb
  show Calls Tryd.prog 23 #[.agg #[.int .i64 op, .int .u64 (b : Int)]] w _
  obtain ⟨R, hR⟩ : ∃ R, R = isC ⟨op, b⟩ := ⟨_, rfl⟩
  rw [← hR]
  have hr : R = (decide (1 ≤ op) && (decide (op ≤ 16) && ((decide (op = 2) || decide (b = 0)) && decide (bitsOf b = b)))) := by rw [hR]; rfl
  have R2 := Lib.hid (show op = 2 → R = ((bitsOf b : Int) == (b : Int)) from fun e => by rw [hr, e, Bool.eq_iff_iff]; simp; omega)
  have R0 := Lib.hid (show op ≠ 2 → R = (decide (1 ≤ op) && (decide (op ≤ 16) && ((b : Int) == 0))) from fun e => by
    rw [hr, Bool.eq_iff_iff]
    simp [e]
    intro _ _ h0
    subst h0; decide)
  clear hr
  have r0 := RowAt.new w [.int .i64 op, .int .u64 (b : Int)] 42
  have BL := Lib.hid ((Below.refl w.heap.size w).alloc (Nat.le_refl _) (.cells [.int .i64 op, .int .u64 (b : Int)].toArray 42))
  have RW := Lib.hid r0
  have NF := Lib.hid (nfrom (b : Int))
  have NB := Lib.hid (nbits (bitsOf b))
  have BB := Lib.hid (bits_bits b)
  rw [bits_bits] at NB
  obtain ⟨c0, c1⟩ : (w.alloc (.cells [.int .i64 op, .int .u64 (b : Int)].toArray 42)).cell? ⟨w.heap.size, 0, none⟩ = some (.int .i64 op) ∧ (w.alloc (.cells [.int .i64 op, .int .u64 (b : Int)].toArray 42)).cell? ⟨w.heap.size, 1, none⟩ = some (.int .u64 (b : Int)) := ⟨r0.cell 0, r0.cell 1⟩
  clear hR r0
  by_cases q : op = 2
  · have R3 := Lib.hid (R2.out q)
    subst q
    clear R0 R2
    go_enter Tryd.func23, Tryd.ntmps23
    go_wp2_with fail
    go_quiet (first | (go_at_call 31; exact Calls.quiet_of_same ((NF.out _).mono fun _ _ hh => ⟨hh.1, hh.2.symm⟩)) | (go_at_call 22; exact Calls.quiet_of_same ((NB.out _).mono fun _ _ hh => ⟨hh.1, hh.2.symm⟩)))
    go_wp2
    go_ret
    exact ⟨ret_bool R3.out.symm, below_drewN BL.out _⟩
  · have q2 : (op == 2) = false := by simp [q]
    have R3 := Lib.hid (R0.out q)
    clear R0 R2
    go_enter Tryd.func23, Tryd.ntmps23
    go_wp2
    all_goals go_ret
    all_goals refine ⟨ret_bool ?_, BL.out⟩
    all_goals (rw [R3.out]; first | rfl | (simp; intros; omega) | (simp_all; done))

end Go.Proofs.YtjahaegdmfgmgaaDoor
