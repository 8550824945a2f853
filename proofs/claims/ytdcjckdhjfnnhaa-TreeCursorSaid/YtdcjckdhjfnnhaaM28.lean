/- Proved parts: T9h. Conditions: each theorem's own. -/
import Derived.Test.YtdcjckdhjfnnhaaM27
namespace Go.Proofs.Ytdcjckdhjfnnhaa
open Go.RowKit

/-- New -/
theorem xNew (w : World) : Calls Try.prog 7 #[] w fun x w' => x = .returned (Ptr w.heap.size) ∧ TabG w' w.heap.size (fun k => k = w.heap.size) Tab.bare ∧ Below w.heap.size w w' := by
  have hb : Below w.heap.size w (w.alloc (.cells #[.slice none 0 0, .slice none 0 0, .int .i64 0, .int .i64 0, .int .i64 0] 50)) := (Below.refl _ _).alloc (Nat.le_refl _) _
  have r : RowAt (w.alloc (.cells #[.slice none 0 0, .slice none 0 0, .int .i64 0, .int .i64 0, .int .i64 0] 50)) w.heap.size [.slice none 0 0, .slice none 0 0, .int .i64 0, .int .i64 0, .int .i64 0] 50 := RowAt.new w _ _
  have R := Lib.hid r
  have HB := Lib.hid hb
  clear hb r
  go_enter Try.func7, Try.ntmps7
  go_wp2_with fail
  go_ret
  refine ⟨rfl, ⟨.slice none 0 0, .slice none 0 0, [], R.out, ⟨rfl, .inl ⟨rfl, rfl⟩⟩, ⟨rfl, .inl ⟨rfl, rfl⟩⟩, rfl, fun i hi => absurd hi (by simp), fun i _ _ _ hi => absurd hi (by simp), rfl, fun k e => (by cases e), fun k e => (by cases e), fun i _ _ hi => absurd hi (by simp), fun k e => ?_⟩, HB.out⟩
  rw [show k = w.heap.size from e]
  exact RowAt.lt R.out
/-- Len, Depth -/
theorem xLen (w : World) (T : Nat) (E : Nat → Prop) (s : Tab) (h : TabG w T E s) : Calls Try.prog 19 #[Ptr T] w fun x w' => x = .returned (.int .i64 s.count) ∧ w' = w := by
  obtain ⟨rv, fv, vs, h⟩ := h
  have c := h.row.cell 4
  simp only [List.getElem?_cons_zero, List.getElem?_cons_succ] at c
  obtain ⟨C, hC⟩ : ∃ C, C = s.count := ⟨_, rfl⟩
  rw [← hC] at c ⊢
  clear h hC
  go_enter Try.func19, Try.ntmps19
  go_wp2_with fail
  go_ret
  exact ⟨rfl, rfl⟩
theorem xDepth (w : World) (T : Nat) (E : Nat → Prop) (s : Tab) (h : TabG w T E s) : Calls Try.prog 20 #[Ptr T] w fun x w' => x = .returned (.int .i64 s.depth) ∧ w' = w := by
  obtain ⟨rv, fv, vs, h⟩ := h
  have c := h.row.cell 3
  simp only [List.getElem?_cons_zero, List.getElem?_cons_succ] at c
  obtain ⟨C, hC⟩ : ∃ C, C = s.depth := ⟨_, rfl⟩
  rw [← hC] at c ⊢
  clear h hC
  go_enter Try.func20, Try.ntmps20
  go_wp2_with fail
  go_ret
  exact ⟨rfl, rfl⟩
/-- Nodes, where none is free -/
theorem xNodes (w : World) (T : Nat) (E : Nat → Prop) (s : Tab) (h : TabG w T E s) (h3 : s.nds.length = 3) (hf : s.free = []) : Calls Try.prog 21 #[Ptr T] w fun x w' => x = .returned (.int .i64 3) ∧ Below w.heap.size w w' := by
  obtain ⟨rv, fv, vs, h⟩ := h
  have c0 := h.row.cell 0
  have c1 := h.row.cell 1
  simp only [List.getElem?_cons_zero, List.getElem?_cons_succ] at c0 c1
  obtain ⟨g, c, hrv, _, _, _⟩ := h.rowAt (by rw [h.len, h3]; decide)
  obtain ⟨A1, cf, hfv, _⟩ := h.free.form
  rw [hrv, h.len, h3] at c0
  rw [hfv, hf] at c1
  simp only [frees, List.map_nil, List.length_nil] at c1
  clear h
  go_enter Try.func21, Try.ntmps21
  go_wp2_with fail
  go_quiet (fail)
  go_wp2_with fail
  go_ret
  exact ⟨rfl, below_drewN (Below.refl _ _) _⟩

def kwa (i : Nat) : ByteArray := strOfNums [97 + (i : Int)]
theorem tconv1 (A : Nat) (v : Int) (w : World) (h : w.cell? ⟨A, 0, none⟩ = some (.int .u8 v)) : (convert 47 9 (.slice (some ⟨A, 0, none⟩) 1 1)).run Try.prog w = .ok (.string (strOfNums [v])) w :=
  run_convert_bytes_arg w 47 5 (by kernel_rfl) (by kernel_rfl) A 0 1 1 [v] rfl (by intro i hi; have e : i = 0 := (by omega); subst e; exact h) 9 (by kernel_rfl)
theorem kwa_size : ∀ i, i < 5 → (kwa i).size ≤ 1000000
  | 0, _ | 1, _ | 2, _ | 3, _ | 4, _ => by decide
def awk : Nat → Tab
  | 0 => Tab.bare
  | i + 1 => (awk i).putX (kwa i) i
def awl : Nat → KV
  | 0 => []
  | i + 1 => (awl i).put (kwa i) i
theorem aw_depth : (awk 5).depth = 2 := by kernel_rfl
theorem aw_len : (awk 5).nds.length = 3 := by kernel_rfl
theorem aw_free : (awk 5).free = [] := by kernel_rfl
theorem aw_has : (awl 0).has (kwa 0) = false ∧ (awl 1).has (kwa 1) = false ∧ (awl 2).has (kwa 2) = false ∧ (awl 3).has (kwa 3) = false ∧ (awl 4).has (kwa 4) = false := ⟨by kernel_rfl, by kernel_rfl, by kernel_rfl, by kernel_rfl, by kernel_rfl⟩
theorem aw_no : ∀ i, i < 5 → (awl i).has (kwa i) = false
  | 0, _ => aw_has.1
  | 1, _ => aw_has.2.1
  | 2, _ => aw_has.2.2.1
  | 3, _ => aw_has.2.2.2.1
  | 4, _ => aw_has.2.2.2.2
theorem aw_ok : ∀ i, i ≤ 5 → OkT (awk i) (awl i) ∧ (awk i).nds.length + (awk i).free.length ≤ 25 * i ∧ (awl i).length ≤ i
  | 0, _ => ⟨.inl ⟨rfl, rfl⟩, by decide, by decide⟩
  | i + 1, hi => by
    obtain ⟨h1, h2, h3⟩ := aw_ok i (by omega)
    have hn : (awl i).has (kwa i) = false := aw_no i (by omega)
    obtain ⟨h4, h5⟩ := h1.putX (kwa i) i hn (by omega) (by omega)
    refine ⟨h4, ?_, ?_⟩
    · show ((awk i).putX (kwa i) i).nds.length + ((awk i).putX (kwa i) i).free.length ≤ _
      omega
    · show ((awl i).put (kwa i) i).length ≤ _
      rw [put_length hn]; omega
set_option maxHeartbeats 1000000 in
set_option maxRecDepth 100000 in
/-- awake -/
theorem xAwake (w : World) : Calls Try.prog 6 #[] w fun x w' => x = .returned (.bool true) ∧ Below w.heap.size w w' := by
  have NC := Lib.hid (xNew w)
  go_enter Try.func6, Try.ntmps6
  go_wp2_with (go_at_call 7; refine NC.out.mono ?_; rintro x w1 ⟨rfl, ht, hb⟩; have HT := Lib.hid ht; have HB := Lib.hid hb; clear ht hb)
  obtain ⟨T, hT⟩ : ∃ T, T = w.heap.size := ⟨_, rfl⟩
  have TT := Lib.hid hT
  rw [← hT] at HT ⊢
  clear hT
  go_loopw [2] (fun vi wr => ∃ i : Nat, i ≤ 5 ∧ vi = .int .i64 i ∧ Hid (∃ E : Nat → Prop, TabG wr T E (awk i) ∧ (∀ k, E k → w.heap.size ≤ k)) ∧ Hid (Below w.heap.size w wr)) (fun vi _ => 5 - (intOf vi).toNat)
  case atStart => exact ⟨0, by decide, rfl, Lib.hid ⟨_, HT.out, fun k e => by rw [show k = T from e, TT.out]; exact Nat.le_refl _⟩, HB⟩
  case round =>
    obtain ⟨i, hi, rfl, HG, HW⟩ := hrel
    by_cases q : i < 5
    · obtain ⟨E, hg, hE⟩ := HG.out
      obtain ⟨ok, b1, b2⟩ := aw_ok i hi
      have hn : (awl i).has (kwa i) = false := aw_no i q
      have b0 : Below wr.heap.size wr (wr.alloc (.cells #[.int .u8 (97 + (i : Int))] 5)) := (Below.refl _ _).alloc (Nat.le_refl _) _
      have hcv := tconv1 wr.heap.size (97 + (i : Int)) (wr.alloc (.cells #[.int .u8 (97 + (i : Int))] 5)) (cell_new1 _ _ _)
      have PC := Lib.hid (xPutNew (wr.alloc (.cells #[.int .u8 (97 + (i : Int))] 5)) T E (awk i) (awl i) (kwa i) i (hg.below b0) ok hn (by omega) (by omega) (kwa_size i q))
      have BA := Lib.hid (show Below w.heap.size w (wr.alloc (.cells #[.int .u8 (97 + (i : Int))] 5)) from Below.then2 HW.out b0 HW.out.size)
      have HE := Lib.hid hE
      clear hg ok b1 b2 hn b0 hE
      go_wp2_with (go_at_call 8; refine PC.out.mono ?_; rintro x w3 ⟨rfl, hl⟩; have HL := Lib.hid hl; clear hl)
      go_roundw
      case rel =>
        obtain ⟨E3, g3, a3, c3⟩ := HL.out
        refine ⟨i + 1, by omega, by go_num, Lib.hid ⟨E3, g3, fun k e => ?_⟩, Lib.hid ?_⟩
        · rcases a3 k e with r | r
          · exact HE.out k r
          · exact Nat.le_trans BA.out.size r
        · have z := c3.below (B := w.heap.size) (fun k e => HE.out k e) BA.out.size
          exact ⟨z.os.trans BA.out.os, z.tape.trans BA.out.tape, z.output.trans BA.out.output, Nat.le_trans BA.out.size z.size, fun k hk => (z.block k hk).trans (BA.out.block k hk)⟩
      case measure => simp [intOf]; omega
    · obtain rfl : i = 5 := by omega
      obtain ⟨E, hg, hE⟩ := HG.out
      have DC := Lib.hid (xDepth wr T E (awk 5) hg)
      have OC := Lib.hid (xNodes wr T E (awk 5) hg aw_len aw_free)
      rw [aw_depth] at DC
      clear hg hE
      go_wp2_with (first | (go_at_call 20; refine DC.out.mono ?_; rintro x w3 ⟨rfl, h3⟩; subst h3) | (go_at_call 21; refine OC.out.mono ?_; rintro x w4 ⟨rfl, h4⟩; have H4 := Lib.hid h4; clear h4))
      go_ret
      exact ⟨rfl, Below.then2 HW.out H4.out HW.out.size⟩

end Go.Proofs.Ytdcjckdhjfnnhaa
