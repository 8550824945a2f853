/- Proved parts: E5w E5rel. Conditions: each theorem's own. -/
import Derived.Test.YtfodclafkdkjbaaDoorM3
import Derived.Laws.AppendOwn
import Derived.Laws.MakeOwn
namespace Go.Proofs.YtfodclafkdkjbaaDoor
open Go.RowKit

theorem infoJ : (Tryd.prog.info? 3).map (fun i => (i.zero, i.size, i.bytes)) = some (some (.int .i64 0), 1, 8) := by kernel_rfl
/-- the slice at A reads as the ints zs -/
def SlJ (w : World) (A : Option Addr) (zs : List Int) : Prop :=
  0 < zs.length → ∃ b o, A = some ⟨b, o, none⟩ ∧ b < w.heap.size ∧ ∀ j, j < zs.length → w.cell? ⟨b, o + j, none⟩ = some (.int .i64 (zs.getD j 0))
theorem SlJ.below {w w' : World} {A : Option Addr} {zs : List Int} (h : SlJ w A zs) (hb : Below w.heap.size w w') : SlJ w' A zs := fun hn => by
  obtain ⟨b, o, e, hlt, hc⟩ := h hn
  exact ⟨b, o, e, Nat.lt_of_lt_of_le hlt hb.size, fun j hj => (hb.cell (p := ⟨b, o + j, none⟩) hlt).trans (hc j hj)⟩
theorem SlJ.nil (w : World) (A : Option Addr) : SlJ w A [] := fun h => absurd h (by simp)
theorem SlJ.drewN {w : World} {A : Option Addr} {zs : List Int} (h : SlJ w A zs) (n : Nat) : SlJ (w.drewN n) A zs := h
/-- v is a row of ints of the call's own, from block B on -/
def OwnJ (w : World) (B : Nat) (v : Value) (zs : List Int) : Prop := w.ownsRow B 3 1 v zs.length (zs.map (Value.int .i64))
section
variable {w w' : World} {B : Nat} {v : Value} {zs : List Int}
theorem OwnJ.form (h : OwnJ w B v zs) : ∃ A c, v = .slice A zs.length c ∧ SlJ w A zs := by
  rcases h.2 with ⟨rfl, hn⟩ | ⟨g, cap, cur, rfl, hB, hg, hnc, _, hs, ht⟩
  · have hz : zs = [] := List.eq_nil_of_length_eq_zero hn
    subst hz
    exact ⟨none, 0, rfl, SlJ.nil _ _⟩
  · refine ⟨some ⟨g, 0, none⟩, cap, rfl, fun hp => ⟨g, 0, rfl, ?_, fun j hj => ?_⟩⟩
    · rcases Nat.lt_or_ge g w.heap.size with hlt | hge
      · exact hlt
      · rw [Array.getElem?_eq_none hge] at hg; cases hg
    · have hj2 : j < zs.length * 1 := by omega
      rw [Nat.zero_add, World.ownsRow.cellAt (w := w) (base := B) (e := 3) (size := 1) (xs := zs.map (Value.int .i64)) h j hj2, List.getElem?_map, List.getElem?_eq_getElem hj, List.getD, List.getElem?_eq_getElem hj]; rfl
theorem OwnJ.alloc (h : OwnJ w B v zs) (o : Obj) : OwnJ (w.alloc o) B v zs := World.ownsRow.alloc h o
theorem OwnJ.made (w : World) (B : Nat) (hB : B ≤ w.heap.size) : OwnJ (w.alloc (.cells #[] 3)) B (.slice (some ⟨w.heap.size, 0, none⟩) 0 0) [] :=
  World.ownsRow_made w #[] 0 hB (Nat.zero_le _) (by simp)
end

theorem wetTo_len (m : Ext) (e : Int) : ∀ k, (m.wetTo e k).length ≤ k
  | 0 => by simp [Ext.wetTo]
  | k + 1 => by
    rw [Ext.wetTo_succ, List.length_append]
    have := wetTo_len m e k
    split <;> simp <;> omega
theorem cell_new1 (w : World) (v : Value) (t : TypeId) : (w.alloc (.cells #[v] t)).cell? ⟨w.heap.size, 0, none⟩ = some v := by
  rw [World.cell?_alloc_at _ _ _ _ rfl]; rfl

theorem infoS5 : (Tryd.prog.info? 90).map (fun i => (i.zero, i.size, i.bytes)) = some (some (.agg #[.string ⟨#[]⟩, .string ⟨#[]⟩, .bool false]), 3, 40) := by kernel_rfl
theorem made_secs (n : Nat) : madeCells (Value.cells (.agg #[.string ⟨#[]⟩, .string ⟨#[]⟩, .bool false])) (n * 3) = ((List.replicate n Sec0).flatMap secCells).toArray := by
  apply Array.ext
  · rw [size_madeCells]; simp only [List.size_toArray]; rw [flat_len secCells_len]; simp
  intro i h1 h2
  rw [size_madeCells] at h1
  have e : i = i / 3 * 3 + i % 3 := by omega
  have hi : i / 3 < (List.replicate n Sec0).length := by rw [List.length_replicate]; omega
  have h3 := flat_at secCells_len (List.replicate n Sec0) (i / 3) (i % 3) hi (Nat.mod_lt _ (by omega))
  rw [← e, List.getElem_replicate] at h3
  have h4 : ((List.replicate n Sec0).flatMap secCells)[i]? = some (((List.replicate n Sec0).flatMap secCells)[i]'(by simpa using h2)) := List.getElem?_eq_getElem _
  rw [h4] at h3
  have h5 : (madeCells (Value.cells (.agg #[.string ⟨#[]⟩, .string ⟨#[]⟩, .bool false])) (n * 3))[i]'(by rw [size_madeCells]; exact h1) = #[Value.string ⟨#[]⟩, .string ⟨#[]⟩, .bool false][i % 3]! := by
    unfold madeCells; simp [Value.cells]
  rw [h5]
  have h6 : i % 3 = 0 ∨ i % 3 = 1 ∨ i % 3 = 2 := by omega
  have h7 : (((List.replicate n Sec0).flatMap secCells).toArray)[i]'h2 = ((List.replicate n Sec0).flatMap secCells)[i]'(by simpa using h2) := by simp
  rw [h7]
  rcases h6 with h6 | h6 | h6 <;> rw [h6] at h3 ⊢ <;> exact Option.some.inj h3.symm
/-- make([]Sector, n) -/
theorem make_secs (n : Nat) (hn : n ≤ 1000000) : ∀ W : World, (Instr.makeSlice 71 (.int .i64 (n : Int)) (.int .i64 (n : Int))).run Tryd.prog W = .ok (.slice (some ⟨W.heap.size, 0, none⟩) n n) (W.alloc (.cells ((List.replicate n Sec0).flatMap secCells).toArray 90)) := by
  obtain ⟨i0, hi, hz0, hz1, hz2⟩ := info_parts infoS5
  intro W
  have h := run_make (P := Tryd.prog) W 71 90 i0 _ Tryd.underlying71 hi hz0 .i64 .i64 (n : Int) (n : Int) (by omega) (by omega) (by rw [hz2]; omega) (by omega)
  rw [hz1] at h
  rw [← made_secs]
  simpa using h

/-- what it leaves -/
def NewPost (e s : Int) (w : World) (x : Ending) (w' : World) : Prop :=
  (Ext.fits e s = true ∧ x = .returned (.tuple #[.pointer (some ⟨w.heap.size + 1, 0, none⟩), .int .i64 0]) ∧ RefE w' (w.heap.size + 1) w.heap.size (Ext.new e.toNat s.toNat) ∧ Below w.heap.size w w') ∨
    (Ext.fits e s = false ∧ x = .returned (.tuple #[.pointer none, .int .i64 1]) ∧ w = w')

set_option maxRecDepth 100000 in
/-- cloisonneref05.New -/
theorem eNew (e s : Int) (w : World) : Calls Tryd.prog 9 #[.int .i64 e, .int .i64 s] w (NewPost e s w) := by
  cases hf : Ext.fits e s with
  | true =>
    have HF := Lib.hid hf
    unfold Ext.fits at hf
    simp only [Bool.and_eq_true, decide_eq_true_eq] at hf
    obtain ⟨⟨⟨h0, h1⟩, h2⟩, h3⟩ := hf
    obtain ⟨E, rfl⟩ := Int.eq_ofNat_of_zero_le (show 0 ≤ e by omega)
    obtain ⟨S, rfl⟩ := Int.eq_ofNat_of_zero_le (show 0 ≤ s by omega)
    obtain ⟨N, hN⟩ : ∃ N : Nat, E * S = N := ⟨_, rfl⟩
    have n4 : N ≤ 4096 := by rw [← hN]; exact Nat.mul_le_mul (show E ≤ 32 by omega) (show S ≤ 128 by omega)
    have hw : IntKind.i64.wrap ((E : Int) * (S : Int)) = (N : Int) := by
      have e1 : (E : Int) * (S : Int) = (N : Int) := by rw [← hN]; simp
      rw [e1, IntKind.wrap_i64]; omega
    have MK := make_secs N (by omega)
    obtain ⟨CS, hCS⟩ : ∃ CS, CS = ((List.replicate N Sec0).flatMap secCells).toArray := ⟨_, rfl⟩
    rw [← hCS] at MK
    have HCS := Lib.hid hCS
    have HNN := Lib.hid hN
    clear hCS hN
    go_enter Tryd.func9, Tryd.ntmps9
    go_wp2_with fail
    go_ret2
    have ln : (Ext.new E S).l.length = N := by show (List.replicate _ _).length = N; rw [List.length_replicate, HNN.out]
    refine .inl ⟨HF.out, rfl, ⟨by omega, ?_, ?_, ?_⟩, ((Below.refl w.heap.size w).alloc (Nat.le_refl _) _).alloc (by simp) _⟩
    · have h := RowAt.new (w.alloc (.cells CS 90)) (extCells w.heap.size (Ext.new E S)) 73
      rw [show (w.alloc (.cells CS 90)).heap.size = w.heap.size + 1 by simp] at h
      unfold extCells at h ⊢
      simp only [Int.toNat_natCast, ln] at h ⊢
      exact h
    · have h := (RowAt.new w ((List.replicate N Sec0).flatMap secCells) 90).alloc (.cells #[.bool false, .int .i64 (E : Int), .int .i64 (S : Int), .slice (some ⟨w.heap.size, 0, none⟩) N N] 73)
      rw [← HCS.out] at h
      simp only [Int.toNat_natCast]
      rw [show (Ext.new E S).l = List.replicate N Sec0 by show List.replicate _ _ = _; rw [HNN.out]]
      exact h
    · simp only [Int.toNat_natCast]
      exact Ext.new_ok HF.out
  | false =>
    have C : e < 1 ∨ (1 ≤ e ∧ 32 < e) ∨ (1 ≤ e ∧ e ≤ 32 ∧ s < 1) ∨ (1 ≤ e ∧ e ≤ 32 ∧ 1 ≤ s ∧ 128 < s) := by
      unfold Ext.fits at hf
      simp only [Bool.and_eq_false_iff, decide_eq_false_iff_not] at hf
      omega
    have HF := Lib.hid hf
    clear hf
    rcases C with C | ⟨C0, C⟩ | ⟨C0, C1, C⟩ | ⟨C0, C1, C2, C⟩
    all_goals
      go_enter Tryd.func9, Tryd.ntmps9
      go_wp2_with fail
      go_ret2
      exact .inr ⟨HF.out, rfl, rfl⟩

end Go.Proofs.YtfodclafkdkjbaaDoor

namespace Go.Proofs.YtfodclafkdkjbaaDoor
open Go.RowKit

/-- a relation: at block b lies a world, in the blocks of F, that is m -/
abbrev RelE := World → Nat → (Nat → Prop) → Ext → Prop
/-- what a call leaves -/
def LeftE (R : RelE) (b : Nat) (F : Nat → Prop) (w : World) (m : Ext) (w' : World) : Prop := Chg F w w' ∧ ∃ F', R w' b F' m ∧ ∀ k, F' k → F k ∨ w.heap.size ≤ k

/-- from block B on lies the world m of the program, and nothing else of it is known -/
def HasE (R : RelE) (B : Nat) (w : World) (b : Nat) (m : Ext) : Prop := ∃ F, R w b F m ∧ ∀ k, F k → B ≤ k
theorem LeftE.has {R : RelE} {b B : Nat} {F : Nat → Prop} {m' : Ext} {w w' : World} (h : LeftE R b F w m' w') (hF : ∀ k, F k → B ≤ k) (hB : B ≤ w.heap.size) : HasE R B w' b m' ∧ Below B w w' := by
  obtain ⟨hc, F', hr', hf⟩ := h
  exact ⟨⟨F', hr', fun k hk => by rcases hf k hk with q | q; exact hF k q; omega⟩, hc.below hF hB⟩

end Go.Proofs.YtfodclafkdkjbaaDoor
