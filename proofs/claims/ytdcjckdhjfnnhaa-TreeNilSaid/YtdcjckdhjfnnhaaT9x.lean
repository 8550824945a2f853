/- slices.Delete of one item of a node, walked. -/
import Derived.Test.YtdcjckdhjfnnhaaT9i
namespace Go.Proofs.Ytdcjckdhjfnnhaa
open Go.RowKit

/-- clear, over elements of two cells -/
theorem run_clear2 (w : World) (t : TypeId) (ht : Try.prog.underlying t = some (.slice 56)) (b o n c : Nat)
    (hc : ∀ j, j < n * 2 → (w.cell? ⟨b, o + j, none⟩).isSome = true) (hf : ∀ j, w.frozen? ⟨b, j, none⟩ = false) :
    ∃ vs, vs.length = n * 2 ∧ ∀ ty, (Builtin.clear_ #[t] ty #[.slice (some ⟨b, o, none⟩) n c]).run Try.prog w = .ok (.tuple #[]) (w.setCells b o vs) := by
  obtain ⟨i0, hi, hz0, hz1, hz2⟩ := info_parts infoIt
  cases n with
  | zero => exact ⟨[], rfl, fun ty => by simp [Builtin.clear_, run_underlying ht, World.setCells]⟩
  | succ n =>
    obtain ⟨Z, hZ⟩ : ∃ Z : List Value, Z = (Builtin.zeroCells (Value.agg #[Value.string ⟨#[]⟩, Value.int .i64 0]).cells (n + 1)).toList := ⟨_, rfl⟩
    have hZl : Z.length = (n + 1) * 2 := by rw [hZ, Array.length_toList, size_zeroCells]; rfl
    have hZ1 : ∀ u ∈ Z, u.oneCell' = true := by
      intro u hu
      rw [hZ] at hu
      simp only [Builtin.zeroCells, Array.toList_map, List.mem_map] at hu
      obtain ⟨j, _, rfl⟩ := hu
      have : j % 2 = 0 ∨ j % 2 = 1 := by omega
      show Value.oneCell' ((#[Value.string ⟨#[]⟩, Value.int .i64 0] : Array Value)[j % 2]!) = true
      rcases this with e | e <;> rw [e] <;> rfl
    have hst := run_storeCells_cells (P := Try.prog) b o Z 0 w (by rw [hZl]; simpa using hc) (fun j _ => hf _) hZ1
    simp only [Nat.add_zero] at hst
    refine ⟨Z, hZl, fun ty => ?_⟩
    simp [Builtin.clear_, run_underlying ht, zeroValue, typeInfo, hi, hz0, ← hZ, hst]

set_option maxHeartbeats 1000000 in
set_option maxRecDepth 100000 in
/-- slices.Delete of one item -/
theorem xDelete (w : World) (b o c i : Nat) (zs : KV) (h : WinAt w b o c zs) (hi : i < zs.length) (hl : zs.length ≤ 100000) :
    Calls Try.prog 43 #[.slice (some ⟨b, o, none⟩) zs.length c, .int .i64 i, .int .i64 ((i : Int) + 1)] w (MvPost w (.slice (some ⟨b, o, none⟩) zs.length c) (zs.take i ++ zs.drop (i + 1))) := by
  obtain ⟨p1, p2⟩ := rangeAt_part h.row (i + 1) (by omega)
  obtain ⟨p0, _⟩ := rangeAt_part h.row i (by omega)
  have hfit := h.fit
  have hcm := h.cap
  unfold maxLen at hcm
  obtain ⟨n, hn⟩ : ∃ n, n = zs.length := ⟨_, rfl⟩
  obtain ⟨C1, hC1⟩ : ∃ C1, C1 = itc (zs.drop (i + 1)) := ⟨_, rfl⟩
  have c1o : ∀ u ∈ C1, u.oneCell' = true := by rw [hC1]; exact itc_one _
  have c1l : C1.length = (n - (i + 1)) * 2 := by rw [hC1, itc_len, List.length_drop, hn]
  rw [← hC1] at p2
  -- the place of the rest: at the row's head if it is empty there
  obtain ⟨q, hq, hsrc⟩ : ∃ q : Nat, (if c = i + 1 then (some ⟨b, o, none⟩ : Option Addr) else some ⟨b, o + (i + 1) * 2, none⟩) = some ⟨b, q, none⟩ ∧ w.rangeAt b q C1 := by
    by_cases e : c = i + 1
    · have l0 : C1.length = 0 := by rw [c1l]; omega
      exact ⟨o, by rw [if_pos e], by rw [List.eq_nil_of_length_eq_zero l0]; intro j v hj; simp at hj⟩
    · exact ⟨_, by rw [if_neg e], p2⟩
  have HW := Lib.hid h
  have P0 := Lib.hid p0
  have SRC := Lib.hid hsrc
  have C1O := Lib.hid c1o
  have C1L := Lib.hid c1l
  have HC1 := Lib.hid hC1
  have HN := Lib.hid hn
  rw [← hn] at hi hl hfit ⊢
  have hb1 : (0 : Int) ≤ (i : Int) + 1 := by omega
  have htn : ((i : Int) + 1).toNat = i + 1 := by omega
  have hic : i ≤ c := by omega
  have hin : i + 1 ≤ n := by omega
  have hin2 : (i : Int) + 1 ≤ (n : Int) := by omega
  clear h p1 p2 p0 hsrc c1o c1l hC1 hn
  go_enter Try.func43, Try.ntmps43
  go_wp2_with fail
  have th := Lib.hid (show ∀ j, j < C1.length → (w.drew.cell? ⟨b, o + i * 2 + j, none⟩).isSome = true ∧ w.drew.frozen? ⟨b, o + i * 2 + j, none⟩ = false from fun j hj => by
    have e := C1L.out
    have := HW.out.there (i * 2 + j) (by omega)
    rw [← Nat.add_assoc] at this; exact ⟨this, HW.out.plain.frozen _⟩)
  obtain ⟨i0, hi0, hz0, hz1, hz2⟩ := info_parts infoIt
  go_region_law (refine step_append_room rfl (.tmp 22) (.tmp 25) 66 rfl 56 i0 2 Try.underlying66 hi0 hz1 b o i c (by simp [Act.eval, Act.put]) ⟨b, q, none⟩ (n - (i + 1)) (c - (i + 1)) C1 (by simp [Act.eval, Act.put]) C1L.out (add_mid (by exact SRC.out)) C1O.out (by omega) th.out ?_)
  have r0 : (w.drew.setCells b (o + i * 2) C1).rangeAt b o (itc (zs.take i)) := World.rangeAt_setCells_apart (w := w.drew) P0.out _ _ _ (.inr (.inl (by rw [itc_len, List.length_take]; have := Nat.min_le_left i zs.length; omega)))
  have r1 : (w.drew.setCells b (o + i * 2) C1).rangeAt b (o + i * 2) C1 := setCells_at (fun j hj => (th.out j hj).1)
  have w1 : ∀ j, j < c * 2 → ((w.drew.setCells b (o + i * 2) C1).cell? ⟨b, o + j, none⟩).isSome = true := fun j hj => World.isSome_setCells _ _ _ _ _ (HW.out.there j hj)
  have pl : Plain (w.drew.setCells b (o + i * 2) C1) b := Plain.setCells _ _ _ _ (by exact HW.out.plain)
  have t1 : Turn (InWin (.slice (some ⟨b, o, none⟩) n c)) w w.drew := Turn.of_below (Below.refl _ w).drew
  have t2 := t1.trans (Turn.setCells w.drew b (o + i * 2) C1) (fun k j h => .inl (by
    obtain ⟨rfl, h1, h2⟩ := h
    have e := C1L.out
    exact ⟨o, _, c, rfl, by omega, by omega⟩))
  generalize w.drew.setCells b (o + i * 2) C1 = w2 at t2 r1 r0 w1 pl ⊢
  obtain ⟨m, hm⟩ : ∃ m, m = n - (i + 1) := ⟨_, rfl⟩
  rw [← hm]
  obtain ⟨vs, hvl, hcl⟩ := run_clear2 w2 66 Try.underlying66 b (o + (i + m) * 2) (n - (i + m)) (c - (i + m)) (fun j hj => by
    have := w1 ((i + m) * 2 + j) (by omega)
    rw [← Nat.add_assoc] at this; exact this) (fun j => pl.frozen _)
  have T2 := Lib.hid t2
  have R1 := Lib.hid r1
  have R0 := Lib.hid r0
  have W1 := Lib.hid w1
  have PL := Lib.hid pl
  have VL := Lib.hid hvl
  have HM := Lib.hid hm
  have mn : i + m ≤ n := by omega
  have hb4 : ¬ (c = i + m) := by omega
  clear t1 t2 r1 r0 w1 pl th hvl hm hi0 hz0 hz1 hz2 hq
  go_wp2_with fail
  go_ret
  have hn := HN.out
  have hm := HM.out
  have li : (zs.take i).length = i := by rw [List.length_take, Nat.min_eq_left (by omega)]
  have e1 : i + m = (zs.take i ++ zs.drop (i + 1)).length := by rw [List.length_append, li, List.length_drop]; omega
  have vl := VL.out
  refine ⟨_, rfl, ?_, ?_, fun k j hk => .inl ?_, by simp⟩
  · rw [e1]
    refine WinAt.node ⟨by omega, by unfold maxLen; omega, by omega, ?_, fun j hj => World.isSome_setCells _ _ _ _ _ (W1.out j hj), Plain.setCells _ _ _ _ PL.out⟩
    refine World.rangeAt_setCells_apart ?_ _ _ _ (.inr (.inl (by rw [itc_len, ← e1]; omega)))
    rw [itc_append, rangeAt_append, itc_len, li, ← HC1.out]
    exact ⟨R0.out, R1.out⟩
  · refine T2.out.trans (Turn.setCells w2 b _ vs) (fun k j h => .inl ?_)
    obtain ⟨rfl, h1, h2⟩ := h
    exact ⟨o, _, c, rfl, by omega, by omega⟩
  · obtain ⟨o', n', c', e, h1, h2⟩ := hk
    injection e with e1 e2 e3
    injection e1 with e1
    injection e1 with e1 e4 _
    subst e1; subst e4; subst e3
    exact ⟨o, _, c, rfl, h1, h2⟩

end Go.Proofs.Ytdcjckdhjfnnhaa
