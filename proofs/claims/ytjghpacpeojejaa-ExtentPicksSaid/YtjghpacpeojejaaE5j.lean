/- Just what is picked stays: plain. -/
import Derived.Test.YtjghpacpeojejaaE5t
namespace Go.Proofs.Ytjghpacpeojejaa
open Go.RowKit

/-- what isn't wet is as it is dry -/
def Calm (m : Ext) : Prop := ∀ i, (m.secAt i).wet = false → (m.secAt i).now = (m.secAt i).dry
theorem Calm.put {m : Ext} (h : Calm m) (i : Nat) (y : Sec) (hy : y.wet = false → y.now = y.dry) : Calm (m.put i y) := by
  intro j
  by_cases e : i = j
  · subst e
    unfold Ext.secAt Ext.put
    simp only [List.getD_eq_getElem?_getD]
    by_cases hl : i < m.l.length
    · rw [List.getElem?_set_self hl]; exact hy
    · rw [List.getElem?_eq_none (by simp; omega)]; exact fun _ => rfl
  · rw [put_other e]; exact h j
theorem Calm.write {m : Ext} (h : Calm m) (e a : Int) (s : ByteArray) : Calm (m.write e a s).1 := by
  unfold Ext.write
  repeat' split
  · exact h
  · exact h
  · exact h.put _ _ (fun q => by cases q)
  · exact h
theorem Calm.lay {m : Ext} (h : Calm m) (e a : Int) (s : ByteArray) : Calm (m.lay e a s).1 := by
  unfold Ext.lay
  repeat' split
  · exact h
  · exact h.put _ _ (fun _ => rfl)
  · exact h
theorem Calm.flush {m : Ext} (h : Calm m) (e : Int) : Calm (m.flush e).1 := by
  unfold Ext.flush
  repeat' split
  · exact h
  · intro j
    by_cases hl : j < m.l.length
    · rw [dried_sec m _ _ _ hl]
      split
      · exact fun _ => rfl
      · exact h j
    · unfold Ext.secAt
      simp only [List.getD_eq_getElem?_getD]
      rw [List.getElem?_eq_none (by rw [Ext.dried_len]; omega)]; exact fun _ => rfl
  · exact h
theorem crash_sec (m : Ext) (ps : List (Int × Int)) (hoff : m.off = false) (j : Nat) (hj : j < m.l.length) : (m.crash ps).1.secAt j = Ext.gone (m.secAt j) (!(m.secAt j).wet || m.named ps j) := by
  unfold Ext.crash
  rw [if_neg (by rw [hoff]; simp)]
  rw [secAt_eq _ (show j < (m.crashed ps m.l.length).length by rw [Ext.crashed_len]; exact hj), secAt_eq m hj]
  show (m.crashed ps m.l.length)[j]'_ = _
  rw [Ext.crashed_get, if_pos hj]
theorem Calm.crash {m : Ext} (h : Calm m) (ps : List (Int × Int)) : Calm (m.crash ps).1 := by
  cases hoff : m.off with
  | true => unfold Ext.crash; rw [if_pos hoff]; exact h
  | false =>
    intro j
    by_cases hl : j < m.l.length
    · rw [crash_sec m ps hoff j hl]
      unfold Ext.gone; split <;> exact fun _ => rfl
    · unfold Ext.secAt Ext.crash
      rw [if_neg (by rw [hoff]; simp)]
      simp only [List.getD_eq_getElem?_getD]
      rw [List.getElem?_eq_none (by rw [Ext.crashed_len]; omega)]; exact fun _ => rfl
theorem Calm.start {m : Ext} (h : Calm m) : Calm m.start.1 := by
  unfold Ext.start; split <;> exact h
theorem Calm.play {m : Ext} (h : Calm m) (x : Act5) : Calm (m.play x) := by
  unfold Ext.play
  repeat' split
  · exact h.write _ _ _
  · exact h.flush _
  · exact h.crash _
  · exact h
  · exact h.start
  · exact h.lay _ _ _
  · exact h
theorem calm_new (e s : Nat) : Calm (Ext.new e s) := by
  intro i
  unfold Ext.secAt Ext.new
  simp only [List.getD_eq_getElem?_getD]
  by_cases hi : i < e * s
  · rw [List.getElem?_replicate_of_lt hi]; exact fun _ => rfl
  · rw [List.getElem?_eq_none (by simp; omega)]; exact fun _ => rfl

/-- is the k-th sector of four times six named by p? -/
def names (k : Nat) (p : Int × Int) : Bool := decide (p.1 = (k : Int) / 6) && decide (p.2 = (k : Int) % 6)
/-- what it should have behind the first j picks -/
def wantTo (m : Ext) (ps : List (Int × Int)) (k j : Nat) : ByteArray := if (ps.take j).any (names k) then (m.secAt k).now else (m.secAt k).dry
theorem wantTo_zero (m : Ext) (ps : List (Int × Int)) (k : Nat) : wantTo m ps k 0 = (m.secAt k).dry := by unfold wantTo; simp
theorem wantTo_succ (m : Ext) (ps : List (Int × Int)) (k j : Nat) (hj : j < ps.length) : wantTo m ps k (j + 1) = if names k (ps.getD j (0, 0)) then (m.secAt k).now else wantTo m ps k j := by
  unfold wantTo
  rw [List.take_succ_eq_append_getElem hj, List.any_append]
  have e : ps.getD j (0, 0) = ps[j] := by rw [List.getD_eq_getElem?_getD, List.getElem?_eq_getElem hj]; rfl
  rw [e]
  simp only [List.any_cons, List.any_nil, Bool.or_false]
  cases h1 : (ps.take j).any (names k) <;> cases h2 : names k ps[j] <;> simp
theorem has24 {m : Ext} (h : Shape m) {k : Nat} (hk : k < 24) : m.has ((k : Int) / 6) ((k : Int) % 6) := (has_six h _ _).2 ⟨by omega, by omega, by omega, by omega⟩
theorem pos24 {m : Ext} (h : Shape m) {k : Nat} : m.pos ((k : Int) / 6) ((k : Int) % 6) = k := by rw [pos_six h]; omega
theorem dry24 {m : Ext} (h : Shape m) {k : Nat} (hk : k < 24) : m.dryOf ((k : Int) / 6) ((k : Int) % 6) = ((m.secAt k).dry, 0) := by
  unfold Ext.dryOf; rw [if_pos (has24 h hk), pos24 h]
theorem read24 {m : Ext} (h : Shape m) (hoff : m.off = false) {k : Nat} (hk : k < 24) : m.read ((k : Int) / 6) ((k : Int) % 6) = ((m.secAt k).now, 0) := by
  unfold Ext.read; rw [if_neg (by rw [hoff]; simp), if_pos (has24 h hk), pos24 h]
theorem named24 {m : Ext} (h : Shape m) (ps : List (Int × Int)) {k : Nat} (hk : k < 24) : m.named ps k = ps.any (names k) := by
  unfold Ext.named
  congr 1
  funext p
  unfold names Ext.atI
  rw [Bool.eq_iff_iff]
  simp only [Bool.and_eq_true, decide_eq_true_eq]
  by_cases hh : m.has p.1 p.2
  · rw [if_pos hh, pos_six h]
    obtain ⟨q0, q1, q2, q3⟩ := (has_six h _ _).1 hh
    omega
  · rw [if_neg hh]
    constructor
    · intro e; omega
    · rintro ⟨e1, e2⟩
      exfalso; apply hh
      rw [e1, e2]; exact has24 h hk
/-- behind the crash and the start -/
theorem picked {m : Ext} (h : Shape m) (ho : m.Ok) (hc : Calm m) (hoff : m.off = false) (ps : List (Int × Int)) :
    (m.crash ps).2 = 0 ∧ (m.crash ps).1.start.2 = 0 ∧ (m.crash ps).1.start.1.off = false ∧ Shape (m.crash ps).1.start.1 ∧ ∀ k, k < 24 → ((m.crash ps).1.start.1.secAt k).now = wantTo m ps k ps.length ∧ ((m.crash ps).1.start.1.secAt k).wet = false := by
  have e1 : (m.crash ps).2 = 0 ∧ (m.crash ps).1.off = true := by unfold Ext.crash; rw [if_neg (by rw [hoff]; simp)]; exact ⟨rfl, rfl⟩
  have e2 : (m.crash ps).1.start.2 = 0 ∧ ∀ k, (m.crash ps).1.start.1.secAt k = (m.crash ps).1.secAt k := by unfold Ext.start; rw [if_pos e1.2]; exact ⟨rfl, fun _ => rfl⟩
  refine ⟨e1.1, e2.1, start_on _, start_shape (crash_shape h ps), fun k hk => ?_⟩
  rw [e2.2, crash_sec m ps hoff k (by rw [len_six h ho]; exact hk), named24 h ps hk]
  unfold wantTo
  rw [List.take_length]
  cases hn : ps.any (names k) with
  | true => rw [Bool.or_true]; exact ⟨rfl, rfl⟩
  | false =>
    cases hw : (m.secAt k).wet with
    | true => exact ⟨rfl, rfl⟩
    | false => exact ⟨hc k hw, rfl⟩
theorem wet24 {m : Ext} (h : Shape m) (hw : ∀ k, k < 24 → (m.secAt k).wet = false) (k : Nat) : m.wet ((k : Int) / 6) = [] := by
  unfold Ext.wet
  have : ∀ j, m.wetTo ((k : Int) / 6) j = [] := by
    intro j
    induction j with
    | zero => simp [Ext.wetTo]
    | succ j ih =>
      rw [Ext.wetTo_succ, ih, if_neg]
      · rfl
      · rintro ⟨q1, q2⟩
        obtain ⟨a0, a1, a2, a3⟩ := (has_six h _ _).1 q1
        rw [hw _ (by rw [pos_six h]; omega)] at q2
        cases q2
  exact this _

end Go.Proofs.Ytjghpacpeojejaa
