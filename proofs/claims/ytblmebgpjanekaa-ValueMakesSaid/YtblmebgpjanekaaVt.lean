/- What the program's value does, walked: Unpack. -/
import Derived.Test.YtblmebgpjanekaaVq
namespace Go.Proofs.Ytblmebgpjanekaa
open Go.RowKit

theorem first_size {s : ByteArray} (h : 0 < s.size) : (s.extract 0 1).toList = [Val.head s] := by
  rw [Val.toL]
  have e : (s.extract 0 1).data.toList = (s.data.toList.drop 0).take 1 := by simp [ByteArray.data_extract]
  rw [e]
  unfold Val.head
  have hl : s.data.toList.length = s.size := by simp
  cases hs : s.data.toList with
  | nil => rw [hs] at hl; simp at hl; omega
  | cons a t => rfl

set_option maxRecDepth 100000 in
set_option maxHeartbeats 1000000 in
theorem vpUnpack_none (s : ByteArray) (w : World) (h0 : s.size = 0) : Calls Try.prog 12 #[.string s] w fun e w' => e = .returned (.tuple #[(Val.un s).2.v, .int .i64 (Val.un s).1]) ∧ Below w.heap.size w w' := by
  have R := Lib.hid (show Val.un s = (3, Val.V0) by unfold Val.un; rw [if_pos h0])
  have T0 : (s.toList == []) = true := by rw [Val.nil_of h0, Val.toL]; rfl
  go_enter Try.func12, Try.ntmps12
  go_wp2_with fail
  refine bodyPost_ret (v := .tuple #[.agg #[.bool false, .string ⟨#[]⟩, .int .u64 0], .int .i64 3]) (by simp [results, Try.results12, go_sem]) rfl ?_
  exact ⟨by rw [R.out]; rfl, (Below.refl w.heap.size w).alloc (Nat.le_refl _) _⟩

set_option maxRecDepth 100000 in
set_option maxHeartbeats 1000000 in
theorem vpUnpack_text (s m r : ByteArray) (w : World) (hs : s.size ≤ 1000) (h1s : 1 ≤ s.size) (T0 : (s.toList == []) = false) (hm : s.extract 0 1 = m) (HE : s.extract 1 s.size = r) (hr1 : r.size + 1 = s.size) (TC : (m.toList == [0]) = true) (h65 : s.size ≤ 65) (R : Hid (Val.un s = (0, Val.text r))) :
    Calls Try.prog 12 #[.string s] w fun e w' => e = .returned (.tuple #[(Val.un s).2.v, .int .i64 (Val.un s).1]) ∧ Below w.heap.size w w' := by
  have BY := Lib.hid (show ∀ w, Calls Try.prog 18 #[.string r] w fun e w' => e = .returned (.tuple #[.agg #[.bool false, .string r, .int .u64 0], .int .i64 0]) ∧ Below w.heap.size w w' from fun w => by
    have h := vpBytes r w (by omega); rw [if_pos (by omega), if_pos (by omega)] at h; exact h)
  go_enter Try.func12, Try.ntmps12
  go_wp2_with fail
  go_quiet (fail)
  go_wp2_with fail
  refine (BY.out _).mono ?_
  rintro e w1 ⟨rfl, hb1⟩
  obtain ⟨a0, a1, a2, f0, f1, f2, hb2⟩ := vbox_drewN hb1
  have hlt := below_lt hb1
  have HB1 := Lib.hid hb2
  clear hb1 hb2
  go_wp2_with fail
  refine bodyPost_ret (v := .tuple #[.agg #[.bool false, .string r, .int .u64 0], .int .i64 0]) (by simp [results, Try.results12, go_sem, a0, a1, a2, hlt]) rfl ?_
  refine ⟨by rw [R.out]; rfl, ?_⟩
  exact (((HB1.out.setCell (by simp) _).setCell (by simp) _).setCell (by simp) _).alloc (by simp; omega) _

set_option maxRecDepth 100000 in
set_option maxHeartbeats 1000000 in
theorem vpUnpack_long (s m r : ByteArray) (w : World) (hs : s.size ≤ 1000) (h1s : 1 ≤ s.size) (T0 : (s.toList == []) = false) (hm : s.extract 0 1 = m) (HE : s.extract 1 s.size = r) (hr1 : r.size + 1 = s.size) (TC : (m.toList == [0]) = true) (h65 : s.size > 65) (R : Hid (Val.un s = (4, Val.V0))) :
    Calls Try.prog 12 #[.string s] w fun e w' => e = .returned (.tuple #[(Val.un s).2.v, .int .i64 (Val.un s).1]) ∧ Below w.heap.size w w' := by
  have BY := Lib.hid (show ∀ w, Calls Try.prog 18 #[.string r] w fun e w' => e = .returned (.tuple #[.agg #[.bool false, .string ⟨#[]⟩, .int .u64 0], .int .i64 5]) ∧ Below w.heap.size w w' from fun w => by
    have h := vpBytes r w (by omega); rw [if_neg (by omega), if_neg (by omega)] at h; exact h)
  go_enter Try.func12, Try.ntmps12
  go_wp2_with fail
  go_quiet (fail)
  go_wp2_with fail
  refine (BY.out _).mono ?_
  rintro e w1 ⟨rfl, hb1⟩
  obtain ⟨a0, a1, a2, f0, f1, f2, hb2⟩ := vbox_drewN hb1
  have hlt := below_lt hb1
  have HB1 := Lib.hid hb2
  clear hb1 hb2
  go_wp2_with fail
  refine bodyPost_ret (v := .tuple #[.agg #[.bool false, .string ⟨#[]⟩, .int .u64 0], .int .i64 4]) (by simp [results, Try.results12, go_sem, a0, a1, a2, hlt]) rfl ?_
  refine ⟨by rw [R.out]; rfl, ?_⟩
  exact (((HB1.out.setCell (by simp) _).setCell (by simp) _).setCell (by simp) _).alloc (by simp; omega) _

set_option maxRecDepth 100000 in
set_option maxHeartbeats 1000000 in
theorem vpUnpack_other (s m r : ByteArray) (w : World) (hs : s.size ≤ 1000) (h1s : 1 ≤ s.size) (T0 : (s.toList == []) = false) (hm : s.extract 0 1 = m) (HE : s.extract 1 s.size = r) (hr1 : r.size + 1 = s.size) (TC : (m.toList == [0]) = false) (TC1 : (m.toList == [1]) = false) (R : Hid (Val.un s = (4, Val.V0))) :
    Calls Try.prog 12 #[.string s] w fun e w' => e = .returned (.tuple #[(Val.un s).2.v, .int .i64 (Val.un s).1]) ∧ Below w.heap.size w w' := by
  go_enter Try.func12, Try.ntmps12
  go_wp2_with fail
  go_quiet (fail)
  go_wp2_with fail
  refine bodyPost_ret (v := .tuple #[.agg #[.bool false, .string ⟨#[]⟩, .int .u64 0], .int .i64 4]) (by simp [results, Try.results12, go_sem]) rfl ?_
  exact ⟨by rw [R.out]; rfl, (((below_drewN ((Below.refl w.heap.size w).alloc (Nat.le_refl _) _) _).setCell (by simp) _).setCell (by simp) _).setCell (by simp) _⟩

set_option maxRecDepth 100000 in
set_option maxHeartbeats 1000000 in
theorem vpUnpack_short (s m r : ByteArray) (w : World) (hs : s.size ≤ 1000) (h1s : 1 ≤ s.size) (T0 : (s.toList == []) = false) (hm : s.extract 0 1 = m) (HE : s.extract 1 s.size = r) (hr1 : r.size + 1 = s.size) (TC : (m.toList == [0]) = false) (TC1 : (m.toList == [1]) = true) (UK : Hid (∀ w, Calls Try.prog 26 #[.string r] w fun e w' => e = .returned (.tuple #[.float .f64 0, .int .i64 4]) ∧ w = w')) (R : Hid (Val.un s = (4, Val.V0))) :
    Calls Try.prog 12 #[.string s] w fun e w' => e = .returned (.tuple #[(Val.un s).2.v, .int .i64 (Val.un s).1]) ∧ Below w.heap.size w w' := by
  go_enter Try.func12, Try.ntmps12
  go_wp2_with fail
  go_quiet (fail)
  go_wp2_with fail
  refine (UK.out _).mono ?_
  rintro e w1 ⟨rfl, rfl⟩
  go_wp2_with fail
  refine bodyPost_ret (v := .tuple #[.agg #[.bool false, .string ⟨#[]⟩, .int .u64 0], .int .i64 4]) (by simp [results, Try.results12, go_sem]) rfl ?_
  exact ⟨by rw [R.out]; rfl, (((below_drewN ((Below.refl w.heap.size w).alloc (Nat.le_refl _) _) _).setCell (by simp) _).setCell (by simp) _).setCell (by simp) _⟩

set_option maxRecDepth 100000 in
set_option maxHeartbeats 1000000 in
theorem vpUnpack_num (s m r : ByteArray) (w : World) (hs : s.size ≤ 1000) (h1s : 1 ≤ s.size) (T0 : (s.toList == []) = false) (hm : s.extract 0 1 = m) (HE : s.extract 1 s.size = r) (hr1 : r.size + 1 = s.size) (b : Nat) (TC : (m.toList == [0]) = false) (TC1 : (m.toList == [1]) = true) (UK : Hid (∀ w, Calls Try.prog 26 #[.string r] w fun e w' => e = .returned (.tuple #[.float .f64 b, .int .i64 0]) ∧ w = w')) (R : Hid (Val.un s = (0, Val.number b))) :
    Calls Try.prog 12 #[.string s] w fun e w' => e = .returned (.tuple #[(Val.un s).2.v, .int .i64 (Val.un s).1]) ∧ Below w.heap.size w w' := by
  have NU := Lib.hid (show ∀ w, Calls Try.prog 16 #[.float .f64 b] w fun e w' => e = .returned (.agg #[.bool true, .string ⟨#[]⟩, .int .u64 (Fl.bitsOf b : Nat)]) ∧ Below w.heap.size w w' from vpNumber b)
  go_enter Try.func12, Try.ntmps12
  go_wp2_with fail
  go_quiet (fail)
  go_wp2_with fail
  refine (UK.out _).mono ?_
  rintro e w1 ⟨rfl, rfl⟩
  go_wp2_with fail
  refine (NU.out _).mono ?_
  rintro e w1 ⟨rfl, hb1⟩
  obtain ⟨a0, a1, a2, f0, f1, f2, hb2⟩ := vbox_drewN hb1
  have HB1 := Lib.hid hb2
  clear hb1 hb2
  go_wp2_with fail
  refine bodyPost_ret (v := .tuple #[.agg #[.bool true, .string ⟨#[]⟩, .int .u64 (Fl.bitsOf b : Nat)], .int .i64 0]) (by simp [results, Try.results12, go_sem, a0, a1, a2]) rfl ?_
  refine ⟨by rw [R.out]; rfl, ?_⟩
  exact ((HB1.out.setCell (by simp) _).setCell (by simp) _).setCell (by simp) _

/-- value.Unpack -/
theorem vpUnpack (s : ByteArray) (w : World) (hs : s.size ≤ 1000) : Calls Try.prog 12 #[.string s] w fun e w' => e = .returned (.tuple #[(Val.un s).2.v, .int .i64 (Val.un s).1]) ∧ Below w.heap.size w w' := by
  by_cases h0 : s.size = 0
  · exact vpUnpack_none s w h0
  have T0 : (s.toList == []) = false := by
    rw [beq_eq_false_iff_ne]; intro e; apply h0; rw [Val.toL] at e
    have := congrArg List.length e; simpa using this
  have hp : 0 < s.size := by omega
  have h1s : 1 ≤ s.size := hp
  obtain ⟨m, hm⟩ : ∃ m, s.extract 0 1 = m := ⟨_, rfl⟩
  have hml : m.toList = [Val.head s] := by rw [← hm]; exact first_size hp
  obtain ⟨c, hc⟩ : ∃ c, Val.head s = c := ⟨_, rfl⟩
  rw [hc] at hml
  obtain ⟨r, hr⟩ : ∃ r, r = Val.rest s := ⟨_, rfl⟩
  have hr1 : r.size + 1 = s.size := by rw [hr]; exact Val.rest_size h0
  have HE : s.extract 1 s.size = r := hr.symm
  by_cases c0 : c = 0
  · have TC : (m.toList == [0]) = true := by rw [hml, c0]; rfl
    by_cases h65 : s.size ≤ 65
    · exact vpUnpack_text s m r w hs h1s T0 hm HE hr1 TC h65 (Lib.hid (by unfold Val.un; rw [if_neg h0, if_pos ⟨hc.trans c0, h65⟩, hr]))
    · exact vpUnpack_long s m r w hs h1s T0 hm HE hr1 TC (by omega) (Lib.hid (by
        unfold Val.un; rw [if_neg h0, if_neg (fun k => h65 k.2), if_neg (fun k => by have q := hc.symm.trans k.1; rw [c0] at q; exact absurd q (by decide))]))
  have TC : (m.toList == [0]) = false := by rw [hml, beq_eq_false_iff_ne]; intro e; injection e with e1 _; exact c0 e1
  by_cases c1 : c = 1
  case neg =>
    have TC1 : (m.toList == [1]) = false := by rw [hml, beq_eq_false_iff_ne]; intro e; injection e with e1 _; exact c1 e1
    exact vpUnpack_other s m r w hs h1s T0 hm HE hr1 TC TC1 (Lib.hid (by unfold Val.un; rw [if_neg h0, if_neg (fun k => c0 (hc.symm.trans k.1)), if_neg (fun k => c1 (hc.symm.trans k.1))]))
  have TC1 : (m.toList == [1]) = true := by rw [hml, c1]; rfl
  have RN : Val.un s = if s.size = 9 ∧ unOk r = true then (0, Val.number (unB r)) else (4, Val.V0) := by
    unfold Val.un
    rw [if_neg h0, if_neg (fun k => c0 (hc.symm.trans k.1)), hr]
    by_cases k : s.size = 9 ∧ unOk (Val.rest s) = true
    · rw [if_pos ⟨hc.trans c1, k⟩, if_pos k]
    · rw [if_neg (fun q => k q.2), if_neg k]
  by_cases h9 : r.size = 8
  · cases hk : unOk r with
    | false =>
      have e1 := unE_no hk
      have e2 : unB r = 0 := by unfold unB; rw [if_neg (of_decide_eq_false hk)]
      exact vpUnpack_short s m r w hs h1s T0 hm HE hr1 TC TC1 (Lib.hid (fun w => by have h := nunkey r h9 w; rw [e1, e2] at h; exact h)) (Lib.hid (by rw [RN, if_neg (fun k => by rw [hk] at k; cases k.2)]))
    | true =>
      have e1 := unE_yes hk
      exact vpUnpack_num s m r w hs h1s T0 hm HE hr1 (unB r) TC TC1 (Lib.hid (fun w => by have h := nunkey r h9 w; rw [e1] at h; exact h)) (Lib.hid (by rw [RN, if_pos ⟨by omega, hk⟩]))
  · exact vpUnpack_short s m r w hs h1s T0 hm HE hr1 TC TC1 (Lib.hid (nunkey_len r h9)) (Lib.hid (by rw [RN, if_neg (fun k => by have := k.1; omega)]))

end Go.Proofs.Ytblmebgpjanekaa
