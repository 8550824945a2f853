/- What is flushed stays: plain. -/
import Derived.Test.YtjghpacpeojejaaE5i
namespace Go.Proofs.Ytjghpacpeojejaa
open Go.RowKit

/-- four extents of six sectors -/
def Shape (m : Ext) : Prop := m.ext = 4 ∧ m.sec = 6
theorem play_shape {m : Ext} (h : Shape m) (x : Act5) : Shape (m.play x) := by
  unfold Ext.play Ext.write Ext.flush Ext.crash Ext.start Ext.lay Ext.put
  repeat' split
  all_goals exact h
theorem start_shape {m : Ext} (h : Shape m) : Shape m.start.1 := by
  unfold Ext.start; split <;> exact h
theorem flush_shape {m : Ext} (h : Shape m) (e : Int) : Shape (m.flush e).1 := by
  unfold Ext.flush
  repeat' split
  all_goals exact h
theorem crash_shape {m : Ext} (h : Shape m) (ps : List (Int × Int)) : Shape (m.crash ps).1 := by
  unfold Ext.crash; split <;> exact h
/-- the extent o holds f, dry -/
def Sits (m : Ext) (o : Nat) (f : Nat → ByteArray) : Prop := ∀ a, a < 6 → m.secAt (o * 6 + a) = ⟨f a, f a, false⟩
theorem pos_six {m : Ext} (h : Shape m) (e a : Int) : m.pos e a = e.toNat * 6 + a.toNat := by unfold Ext.pos; rw [h.2]
theorem has_six {m : Ext} (h : Shape m) (e a : Int) : m.has e a ↔ 0 ≤ e ∧ e < 4 ∧ 0 ≤ a ∧ a < 6 := by
  unfold Ext.has; rw [h.1, h.2]; exact Iff.rfl
theorem len_six {m : Ext} (h : Shape m) (ho : m.Ok) : m.l.length = 24 := by rw [ho.2.2.2.2, h.1, h.2]
theorem put_other {m : Ext} {i j : Nat} (h : i ≠ j) (y : Sec) : (m.put i y).secAt j = m.secAt j := by
  unfold Ext.secAt Ext.put
  simp only [List.getD_eq_getElem?_getD]
  rw [List.getElem?_set_ne h]
theorem Sits.put {m : Ext} {o : Nat} {f : Nat → ByteArray} (h : Sits m o f) (hs : Shape m) {e a : Int} (hh : m.has e a) (he : e ≠ (o : Int)) (y : Sec) : Sits (m.put (m.pos e a) y) o f := by
  intro b hb
  rw [has_six hs] at hh
  rw [pos_six hs, put_other (by omega), h b hb]
theorem Sits.write {m : Ext} {o : Nat} {f : Nat → ByteArray} (h : Sits m o f) (hs : Shape m) {e a : Int} (he : e ≠ (o : Int)) (s : ByteArray) : Sits (m.write e a s).1 o f := by
  unfold Ext.write
  split
  · exact h
  split
  · rename_i hh
    split
    · exact h
    · exact h.put hs hh he _
  · exact h
theorem Sits.lay {m : Ext} {o : Nat} {f : Nat → ByteArray} (h : Sits m o f) (hs : Shape m) {e a : Int} (he : e ≠ (o : Int)) (s : ByteArray) : Sits (m.lay e a s).1 o f := by
  unfold Ext.lay
  split
  · rename_i hh
    split
    · exact h
    · exact h.put hs hh he _
  · exact h
theorem dried_sec (m : Ext) (i k j : Nat) (hj : j < m.l.length) : ({ m with l := Ext.dried m.l i k } : Ext).secAt j = if i ≤ j ∧ j < k then ⟨(m.secAt j).now, (m.secAt j).now, false⟩ else m.secAt j := by
  rw [secAt_eq _ (show j < (Ext.dried m.l i k).length by rw [Ext.dried_len]; exact hj), secAt_eq m hj]
  exact Ext.dried_get _ _ _ _ _
theorem Sits.flush {m : Ext} {o : Nat} {f : Nat → ByteArray} (h : Sits m o f) (hs : Shape m) (ho : m.Ok) (h4 : o < 4) (e : Int) : Sits (m.flush e).1 o f := by
  unfold Ext.flush
  split
  · exact h
  split
  · intro b hb
    rw [dried_sec m _ _ _ (by rw [len_six hs ho]; omega), h b hb]
    split <;> rfl
  · exact h
theorem Sits.crash {m : Ext} {o : Nat} {f : Nat → ByteArray} (h : Sits m o f) (hs : Shape m) (ho : m.Ok) (h4 : o < 4) (ps : List (Int × Int)) : Sits (m.crash ps).1 o f := by
  unfold Ext.crash
  split
  · exact h
  · intro b hb
    have hj : o * 6 + b < m.l.length := by rw [len_six hs ho]; omega
    rw [secAt_eq _ (show o * 6 + b < (m.crashed ps m.l.length).length by rw [Ext.crashed_len]; exact hj)]
    have h1 := h b hb
    rw [secAt_eq m hj] at h1
    show (m.crashed ps m.l.length)[o * 6 + b]'_ = _
    rw [Ext.crashed_get, if_pos hj, h1]
    unfold Ext.gone
    split <;> rfl
theorem Sits.start {m : Ext} {o : Nat} {f : Nat → ByteArray} (h : Sits m o f) : Sits m.start.1 o f := by
  unfold Ext.start; split <;> exact h
theorem Sits.play {m : Ext} {o : Nat} {f : Nat → ByteArray} (h : Sits m o f) (hs : Shape m) (ho : m.Ok) (h4 : o < 4) {x : Act5} (hx : (x.k ≠ 1 ∧ x.k ≠ 5) ∨ x.e ≠ (o : Int)) : Sits (m.play x) o f := by
  unfold Ext.play
  split
  · rename_i k1
    exact h.write hs (by rcases hx with q | q; exact absurd k1 q.1; exact q) _
  split
  · exact h.flush hs ho h4 _
  split
  · split
    · exact h.crash hs ho h4 _
    · exact h
  split
  · exact h.start
  split
  · rename_i k5
    exact h.lay hs (by rcases hx with q | q; exact absurd k5 q.2; exact q) _
  · exact h
/-- behind a flush of its own -/
theorem flush_sits {m : Ext} (hs : Shape m) (ho : m.Ok) {o : Nat} (h4 : o < 4) (hoff : m.off = false) : (m.flush (o : Int)).2 = 0 ∧ (m.flush (o : Int)).1.off = false ∧ Sits (m.flush (o : Int)).1 o (fun a => (m.secAt (o * 6 + a)).now) := by
  have hh : m.has (o : Int) 0 := (has_six hs _ _).2 ⟨by omega, by omega, by omega, by omega⟩
  unfold Ext.flush
  rw [if_neg (by rw [hoff]; simp), if_pos hh]
  refine ⟨rfl, hoff, fun b hb => ?_⟩
  show ({ m with l := Ext.dried m.l (m.pos (o : Int) 0) (m.pos (o : Int) 0 + m.sec) } : Ext).secAt _ = _
  rw [dried_sec m _ _ _ (by rw [len_six hs ho]; omega), pos_six hs, hs.2, if_pos (by simp only [Int.toNat_natCast]; omega)]
theorem Sits.read {m : Ext} {o : Nat} {f : Nat → ByteArray} (h : Sits m o f) (hs : Shape m) (h4 : o < 4) (hoff : m.off = false) {a : Nat} (ha : a < 6) : m.read (o : Int) (a : Int) = (f a, 0) := by
  have hh : m.has (o : Int) (a : Int) := (has_six hs _ _).2 ⟨by omega, by omega, by omega, by omega⟩
  unfold Ext.read
  rw [if_neg (by rw [hoff]; simp), if_pos hh, pos_six hs]
  simp only [Int.toNat_natCast]
  rw [h a ha]
theorem Sits.dryOf {m : Ext} {o : Nat} {f : Nat → ByteArray} (h : Sits m o f) (hs : Shape m) (h4 : o < 4) {a : Nat} (ha : a < 6) : m.dryOf (o : Int) (a : Int) = (f a, 0) := by
  have hh : m.has (o : Int) (a : Int) := (has_six hs _ _).2 ⟨by omega, by omega, by omega, by omega⟩
  unfold Ext.dryOf
  rw [if_pos hh, pos_six hs]
  simp only [Int.toNat_natCast]
  rw [h a ha]
theorem start_on (m : Ext) : m.start.1.off = false := by
  unfold Ext.start
  split
  · rfl
  · rename_i h; simpa using h
theorem and3 (z : Int) : ∃ o : Nat, o < 4 ∧ bits .and .i64 z 3 = (o : Int) := by
  refine ⟨(z % 18446744073709551616).toNat % 4, Nat.mod_lt _ (by omega), ?_⟩
  unfold bits
  simp only [BitVec.toNat_and, BitVec.toNat_ofInt]
  rw [show ((3 : Int) % ((2 ^ IntKind.i64.bits : Nat) : Int)).toNat = 2 ^ 2 - 1 from rfl, Nat.and_two_pow_sub_one_eq_mod]
  show IntKind.i64.wrap (((z % 18446744073709551616).toNat % 4 : Nat) : Int) = _
  rw [IntKind.wrap_i64]; omega

end Go.Proofs.Ytjghpacpeojejaa
