/- Proved parts: T9x T9b. Conditions: each theorem's own. -/
import Derived.Test.YtbfgpdgiaclphaaM22
namespace Go.Proofs.Ytbfgpdgiaclphaa
open Go.RowKit

/-- clear, over elements of two cells -/
theorem run_clear2 (w : World) (t : TypeId) (ht : Try.prog.underlying t = some (.slice 123)) (b o n c : Nat)
    (hc : ∀ j, j < n * 2 → (w.cell? ⟨b, o + j, none⟩).isSome = true) (hf : ∀ j, w.frozen? ⟨b, j, none⟩ = false) :
    ∃ vs, vs.length = n * 2 ∧ ∀ ty, (Builtin.clear_ #[t] ty #[.slice (some ⟨b, o, none⟩) n c]).run Try.prog w = .ok (.tuple #[]) (w.setCells b o vs) := by
  obtain ⟨i0, hi, hz0, hz1, hz2⟩ := info_parts infoIt
  cases n with
  | zero => exact ⟨[], rfl, fun ty => by simp [Builtin.clear_, run_underlying ht, World.setCells]⟩
  | succ n =>
    obtain ⟨Z, hZ⟩ : ∃ Z : List Value, Z = (Builtin.zeroCells (Value.agg #[Value.string ⟨#[]⟩, Value.int .i64 0]).cells (n + 1)).toList := ⟨_, rfl⟩
    have hZl : Z.length = (n + 1) * 2 := by rw [hZ, Array.length_toList, size_zeroCells]; rfl
    have hZ1 : ∀ u ∈ Z, u.oneCell' = true := by
      intro u hu
      rw [hZ] at hu
      simp only [Builtin.zeroCells, Array.toList_map, List.mem_map] at hu
      obtain ⟨j, _, rfl⟩ := hu
      have : j % 2 = 0 ∨ j % 2 = 1 := by omega
      show Value.oneCell' ((#[Value.string ⟨#[]⟩, Value.int .i64 0] : Array Value)[j % 2]!) = true
      rcases this with e | e <;> rw [e] <;> rfl
    have hst := run_storeCells_cells (P := Try.prog) b o Z 0 w (by rw [hZl]; simpa using hc) (fun j _ => hf _) hZ1
    simp only [Nat.add_zero] at hst
    refine ⟨Z, hZl, fun ty => ?_⟩
    simp [Builtin.clear_, run_underlying ht, zeroValue, typeInfo, hi, hz0, ← hZ, hst]

set_option maxHeartbeats 4000000 in
set_option maxRecDepth 100000 in
/-- slices.Delete of one item -/
theorem xDelete (w : World) (b o c i : Nat) (zs : KV) (h : WinAt w b o c zs) (hi : i < zs.length) (hl : zs.length ≤ 100000) :
    Calls Try.prog 95 #[.slice (some ⟨b, o, none⟩) zs.length c, .int .i64 i, .int .i64 ((i : Int) + 1)] w (MvPost w (.slice (some ⟨b, o, none⟩) zs.length c) (zs.take i ++ zs.drop (i + 1))) := by
  obtain ⟨p1, p2⟩ := rangeAt_part h.row (i + 1) (by omega)
  obtain ⟨p0, _⟩ := rangeAt_part h.row i (by omega)
  have hfit := h.fit
  have hcm := h.cap
  unfold maxLen at hcm
  obtain ⟨n, hn⟩ : ∃ n, n = zs.length := ⟨_, rfl⟩
  obtain ⟨C1, hC1⟩ : ∃ C1, C1 = itc (zs.drop (i + 1)) := ⟨_, rfl⟩
  have c1o : ∀ u ∈ C1, u.oneCell' = true := by rw [hC1]; exact itc_one _
  have c1l : C1.length = (n - (i + 1)) * 2 := by rw [hC1, itc_len, List.length_drop, hn]
  rw [← hC1] at p2
  -- the place of the rest: at the row's head if it is empty there
  obtain ⟨q, hq, hsrc⟩ : ∃ q : Nat, (if c = i + 1 then (some ⟨b, o, none⟩ : Option Addr) else some ⟨b, o + (i + 1) * 2, none⟩) = some ⟨b, q, none⟩ ∧ w.rangeAt b q C1 := by
    by_cases e : c = i + 1
    · have l0 : C1.length = 0 := by rw [c1l]; omega
      exact ⟨o, by rw [if_pos e], by rw [List.eq_nil_of_length_eq_zero l0]; intro j v hj; simp at hj⟩
    · exact ⟨_, by rw [if_neg e], p2⟩
  have HW := Lib.hid h
  have P0 := Lib.hid p0
  have SRC := Lib.hid hsrc
  have C1O := Lib.hid c1o
  have C1L := Lib.hid c1l
  have HC1 := Lib.hid hC1
  have HN := Lib.hid hn
  rw [← hn] at hi hl hfit ⊢
  have hb1 : (0 : Int) ≤ (i : Int) + 1 := by omega
  have htn : ((i : Int) + 1).toNat = i + 1 := by omega
  have hic : i ≤ c := by omega
  have hin : i + 1 ≤ n := by omega
  have hin2 : (i : Int) + 1 ≤ (n : Int) := by omega
  clear h p1 p2 p0 hsrc c1o c1l hC1 hn
  go_enter Try.func95, Try.ntmps95
  go_wp2_with fail
  have th := Lib.hid (show ∀ j, j < C1.length → (w.drew.cell? ⟨b, o + i * 2 + j, none⟩).isSome = true ∧ w.drew.frozen? ⟨b, o + i * 2 + j, none⟩ = false from fun j hj => by
    have e := C1L.out
    have := HW.out.there (i * 2 + j) (by omega)
    rw [← Nat.add_assoc] at this; exact ⟨this, HW.out.plain.frozen _⟩)
  obtain ⟨i0, hi0, hz0, hz1, hz2⟩ := info_parts infoIt
  go_region_law (refine step_append_room rfl (.tmp 22) (.tmp 25) 148 rfl 123 i0 2 Try.underlying148 hi0 hz1 b o i c (by simp [Act.eval, Act.put]) ⟨b, q, none⟩ (n - (i + 1)) (c - (i + 1)) C1 (by simp [Act.eval, Act.put]) C1L.out (add_mid (by exact SRC.out)) C1O.out (by omega) th.out ?_)
  have r0 : (w.drew.setCells b (o + i * 2) C1).rangeAt b o (itc (zs.take i)) := World.rangeAt_setCells_apart (w := w.drew) P0.out _ _ _ (.inr (.inl (by rw [itc_len, List.length_take]; have := Nat.min_le_left i zs.length; omega)))
  have r1 : (w.drew.setCells b (o + i * 2) C1).rangeAt b (o + i * 2) C1 := setCells_at (fun j hj => (th.out j hj).1)
  have w1 : ∀ j, j < c * 2 → ((w.drew.setCells b (o + i * 2) C1).cell? ⟨b, o + j, none⟩).isSome = true := fun j hj => World.isSome_setCells _ _ _ _ _ (HW.out.there j hj)
  have pl : Plain (w.drew.setCells b (o + i * 2) C1) b := Plain.setCells _ _ _ _ (by exact HW.out.plain)
  have t1 : Turn (InWin (.slice (some ⟨b, o, none⟩) n c)) w w.drew := Turn.of_below (Below.refl _ w).drew
  have t2 := t1.trans (Turn.setCells w.drew b (o + i * 2) C1) (fun k j h => .inl (by
    obtain ⟨rfl, h1, h2⟩ := h
    have e := C1L.out
    exact ⟨o, _, c, rfl, by omega, by omega⟩))
  generalize w.drew.setCells b (o + i * 2) C1 = w2 at t2 r1 r0 w1 pl ⊢
  obtain ⟨m, hm⟩ : ∃ m, m = n - (i + 1) := ⟨_, rfl⟩
  rw [← hm]
  obtain ⟨vs, hvl, hcl⟩ := run_clear2 w2 148 Try.underlying148 b (o + (i + m) * 2) (n - (i + m)) (c - (i + m)) (fun j hj => by
    have := w1 ((i + m) * 2 + j) (by omega)
    rw [← Nat.add_assoc] at this; exact this) (fun j => pl.frozen _)
  have T2 := Lib.hid t2
  have R1 := Lib.hid r1
  have R0 := Lib.hid r0
  have W1 := Lib.hid w1
  have PL := Lib.hid pl
  have VL := Lib.hid hvl
  have HM := Lib.hid hm
  have mn : i + m ≤ n := by omega
  have hb4 : ¬ (c = i + m) := by omega
  clear t1 t2 r1 r0 w1 pl th hvl hm hi0 hz0 hz1 hz2 hq
  go_wp2_with fail
  go_ret
  have hn := HN.out
  have hm := HM.out
  have li : (zs.take i).length = i := by rw [List.length_take, Nat.min_eq_left (by omega)]
  have e1 : i + m = (zs.take i ++ zs.drop (i + 1)).length := by rw [List.length_append, li, List.length_drop]; omega
  have vl := VL.out
  refine ⟨_, rfl, ?_, ?_, fun k j hk => .inl ?_, by simp⟩
  · rw [e1]
    refine WinAt.node ⟨by omega, by unfold maxLen; omega, by omega, ?_, fun j hj => World.isSome_setCells _ _ _ _ _ (W1.out j hj), Plain.setCells _ _ _ _ PL.out⟩
    refine World.rangeAt_setCells_apart ?_ _ _ _ (.inr (.inl (by rw [itc_len, ← e1]; omega)))
    rw [itc_append, rangeAt_append, itc_len, li, ← HC1.out]
    exact ⟨R0.out, R1.out⟩
  · refine T2.out.trans (Turn.setCells w2 b _ vs) (fun k j h => .inl ?_)
    obtain ⟨rfl, h1, h2⟩ := h
    exact ⟨o, _, c, rfl, by omega, by omega⟩
  · obtain ⟨o', n', c', e, h1, h2⟩ := hk
    injection e with e1 e2 e3
    injection e1 with e1
    injection e1 with e1 e4 _
    subst e1; subst e4; subst e3
    exact ⟨o, _, c, rfl, h1, h2⟩

end Go.Proofs.Ytbfgpdgiaclphaa

namespace Go.Proofs.Ytbfgpdgiaclphaa
open Go.RowKit

theorem NodeAt.form {w : World} {v : Value} {zs : KV} (h : NodeAt w v zs) : ∃ A c, v = .slice A zs.length c ∧ ∀ j, j < zs.length → ∃ b o, A = some ⟨b, o, none⟩ ∧ w.cell? ⟨b, o + j * 2, none⟩ = some (.string (zs.key j)) ∧ w.cell? ⟨b, o + j * 2 + 1, none⟩ = some (.int .i64 (zs.num j)) := by
  rcases h with ⟨rfl, rfl⟩ | ⟨b, o, c, rfl, h⟩
  · exact ⟨none, 0, rfl, fun j hj => absurd hj (by simp)⟩
  · exact ⟨_, c, rfl, fun j hj => ⟨b, o, rfl, h.cells j hj⟩⟩

set_option maxRecDepth 100000 in
/-- below -/
theorem xBelow (w : World) (v : Value) (zs : KV) (k : ByteArray) (h : NodeAt w v zs) (hl : zs.length ≤ 1000000) :
    Calls Try.prog 85 #[v, .string k] w fun x w' => x = .returned (.int .i64 (zs.pos k : Nat)) ∧ w' = w := by
  obtain ⟨A, c, rfl, hc⟩ := h.form
  have PB := Lib.hid (fun j (hj : j < zs.pos k) => KV.pos_below k zs j hj)
  have PS := Lib.hid (KV.pos_stop k zs)
  have KC := Lib.hid hc
  have pl := KV.pos_le k zs
  obtain ⟨n, hn⟩ : ∃ n, n = zs.length := ⟨_, rfl⟩
  obtain ⟨P, hP⟩ : ∃ P, P = zs.pos k := ⟨_, rfl⟩
  rw [← hP] at PB PS pl ⊢
  rw [← hn] at PS KC pl hl ⊢
  clear hc h hn hP
  go_enter Try.func85, Try.ntmps85
  go_wp2_with fail
  go_loopw [5] (fun v wr => ∃ i : Nat, i ≤ P ∧ v = .int .i64 i ∧ wr = w) (fun v _ => P - (Go.RowKit.intOf v).toNat)
  case atStart => exact ⟨0, Nat.zero_le _, rfl, rfl⟩
  case round =>
    obtain ⟨i, hi, rfl, rfl⟩ := hrel
    by_cases q : i < P
    · obtain ⟨b, o, rfl, cc, _⟩ := KC.out i (by omega)
      have t := PB.out i q
      unfold ltB at t
      go_wp2_with fail
      go_roundw
      case rel => exact ⟨i + 1, by omega, by go_num, by first | trivial | rfl⟩
      case measure => simp [Go.RowKit.intOf]; omega
    · obtain rfl : i = P := by omega
      by_cases q2 : i < n
      · obtain ⟨b, o, rfl, cc, _⟩ := KC.out i q2
        have t := PS.out q2
        unfold ltB at t
        go_wp2_with fail
        go_ret
        exact ⟨rfl, rfl⟩
      · go_wp2_with fail
        go_ret
        exact ⟨rfl, rfl⟩

/-- which kid of a node has a key, if any has -/
def KV.kid (k : ByteArray) (l : KV) : Nat := if l.has k then l.pos k else l.pos k - 1

set_option maxRecDepth 100000 in
/-- kid -/
theorem xKid (w : World) (v : Value) (zs : KV) (k : ByteArray) (h : NodeAt w v zs) (hl : zs.length ≤ 1000000) :
    Calls Try.prog 84 #[v, .string k] w fun x w' => x = .returned (.int .i64 (zs.kid k : Nat)) ∧ w' = w := by
  have XB := Lib.hid (xBelow w v zs k h hl)
  obtain ⟨A, c, rfl, hc⟩ := h.form
  have KC := Lib.hid hc
  have pl := KV.pos_le k zs
  have HK : zs.kid k = if zs.has k then zs.pos k else zs.pos k - 1 := rfl
  have HH := KV.has_iff zs k
  obtain ⟨n, hn⟩ : ∃ n, n = zs.length := ⟨_, rfl⟩
  obtain ⟨P, hP⟩ : ∃ P, P = zs.pos k := ⟨_, rfl⟩
  obtain ⟨K, hK⟩ : ∃ K, K = zs.kid k := ⟨_, rfl⟩
  rw [← hP] at XB pl HK HH
  rw [← hn] at XB KC pl hl HH
  rw [← hn]
  rw [← hK] at HK ⊢
  have HH' := Lib.hid HH
  have HK' := Lib.hid HK
  clear hc h hn hP HH HK hK
  by_cases q : P < n
  · obtain ⟨b, o, rfl, cc, _⟩ := KC.out P q
    by_cases e : zs.key P = k
    · have HE := Lib.hid (show K = P by rw [HK'.out, if_pos (HH'.out.2 ⟨q, e⟩)])
      have ek : ((zs.key P).toList == k.toList) = true := str_eq e
      clear e HH' HK'
      go_enter Try.func84, Try.ntmps84
      go_wp2_with (go_at_call 85; refine XB.out.mono ?_; rintro x w1 ⟨rfl, rfl⟩)
      go_ret
      exact ⟨by rw [HE.out]; rfl, rfl⟩
    · have HE := Lib.hid (show K = P - 1 by rw [HK'.out, if_neg (fun t => e (HH'.out.1 t).2)])
      have ek : ((zs.key P).toList == k.toList) = false := str_ne e
      clear e HH' HK'
      go_enter Try.func84, Try.ntmps84
      go_wp2_with (go_at_call 85; refine XB.out.mono ?_; rintro x w1 ⟨rfl, rfl⟩)
      all_goals go_ret
      all_goals exact ⟨ret_int (by rw [HE.out]; omega), rfl⟩
  · have HE := Lib.hid (show K = P - 1 by rw [HK'.out, if_neg (fun t => q (HH'.out.1 t).1)])
    clear HH' HK'
    go_enter Try.func84, Try.ntmps84
    go_wp2_with (go_at_call 85; refine XB.out.mono ?_; rintro x w1 ⟨rfl, rfl⟩)
    all_goals go_ret
    all_goals exact ⟨ret_int (by rw [HE.out]; omega), rfl⟩

end Go.Proofs.Ytbfgpdgiaclphaa
