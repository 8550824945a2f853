/- Extents of sectors, in plain words. -/
import Derived.Test.YtjghpacpeojejaaChg
namespace Go.Proofs.Ytjghpacpeojejaa
open Go.RowKit

structure Sec where
  dry : ByteArray
  now : ByteArray
  wet : Bool
def Sec0 : Sec := ⟨⟨#[]⟩, ⟨#[]⟩, false⟩
structure Ext where
  off : Bool
  ext : Nat
  sec : Nat
  l : List Sec
namespace Ext
def Ok (m : Ext) : Prop := 1 ≤ m.ext ∧ m.ext ≤ 32 ∧ 1 ≤ m.sec ∧ m.sec ≤ 128 ∧ m.l.length = m.ext * m.sec
/-- New -/
def new (e s : Nat) : Ext := ⟨false, e, s, List.replicate (e * s) Sec0⟩
/-- may a world have so many? -/
def fits (e s : Int) : Bool := decide (1 ≤ e) && decide (e ≤ 32) && decide (1 ≤ s) && decide (s ≤ 128)
theorem new_ok {e s : Nat} (h : fits e s = true) : Ok (new e s) := by
  unfold fits at h
  simp only [Bool.and_eq_true, decide_eq_true_eq] at h
  exact ⟨by show 1 ≤ e; omega, by show e ≤ 32; omega, by show 1 ≤ s; omega, by show s ≤ 128; omega, by show (List.replicate _ _).length = _; simp [new]⟩
/-- is there such a sector? -/
def has (m : Ext) (e a : Int) : Prop := 0 ≤ e ∧ e < m.ext ∧ 0 ≤ a ∧ a < m.sec
instance (m : Ext) (e a : Int) : Decidable (has m e a) := by unfold has; exact inferInstance
/-- where it stands -/
def pos (m : Ext) (e a : Int) : Nat := e.toNat * m.sec + a.toNat
def atI (m : Ext) (e a : Int) : Int := if m.has e a then (m.pos e a : Int) else -1
theorem pos_lt {m : Ext} {e a : Int} (ho : m.Ok) (h : m.has e a) : m.pos e a < m.l.length := by
  obtain ⟨h0, h1, h2, h3⟩ := h
  rw [ho.2.2.2.2]
  unfold pos
  have h4 : e.toNat + 1 ≤ m.ext := by omega
  have h5 := Nat.mul_le_mul_right m.sec h4
  rw [Nat.add_mul] at h5
  omega
theorem len_le {m : Ext} (ho : m.Ok) : m.l.length ≤ 4096 := by
  rw [ho.2.2.2.2]
  exact Nat.mul_le_mul ho.2.1 ho.2.2.2.1
def secAt (m : Ext) (i : Nat) : Sec := m.l.getD i Sec0
def put (m : Ext) (i : Nat) (s : Sec) : Ext := { m with l := m.l.set i s }
theorem put_ok {m : Ext} (ho : m.Ok) (i : Nat) (s : Sec) : (m.put i s).Ok := ⟨ho.1, ho.2.1, ho.2.2.1, ho.2.2.2.1, by show (m.l.set i s).length = _; rw [List.length_set]; exact ho.2.2.2.2⟩
def write (m : Ext) (e a : Int) (s : ByteArray) : Ext × Int :=
  if m.off then (m, 6) else if m.has e a then (if 64 < s.size then (m, 5) else (m.put (m.pos e a) ⟨(m.secAt (m.pos e a)).dry, s, true⟩, 0)) else (m, 1)
def read (m : Ext) (e a : Int) : ByteArray × Int := if m.off then (⟨#[]⟩, 6) else if m.has e a then ((m.secAt (m.pos e a)).now, 0) else (⟨#[]⟩, 1)
def dryOf (m : Ext) (e a : Int) : ByteArray × Int := if m.has e a then ((m.secAt (m.pos e a)).dry, 0) else (⟨#[]⟩, 1)
/-- the sectors from i to k are dry -/
def dried (l : List Sec) (i k : Nat) : List Sec := l.mapIdx fun j x => if i ≤ j ∧ j < k then ⟨x.now, x.now, false⟩ else x
def flush (m : Ext) (e : Int) : Ext × Int := if m.off then (m, 6) else if m.has e 0 then ({ m with l := dried m.l (m.pos e 0) (m.pos e 0 + m.sec) }, 0) else (m, 1)
/-- does a pick name the sector i? -/
def named (m : Ext) (ps : List (Int × Int)) (i : Nat) : Bool := ps.any fun p => decide (m.atI p.1 p.2 = (i : Int))
def gone (x : Sec) (kept : Bool) : Sec := if kept then ⟨x.now, x.now, false⟩ else ⟨x.dry, x.dry, false⟩
/-- the first k sectors when the power went -/
def crashed (m : Ext) (ps : List (Int × Int)) (k : Nat) : List Sec := m.l.mapIdx fun j x => if j < k then gone x (!x.wet || m.named ps j) else x
def crash (m : Ext) (ps : List (Int × Int)) : Ext × Int := if m.off then (m, 6) else ({ m with l := m.crashed ps m.l.length, off := true }, 0)
def start (m : Ext) : Ext × Int := if m.off then ({ m with off := false }, 0) else (m, 8)
def lay (m : Ext) (e a : Int) (s : ByteArray) : Ext × Int := if m.has e a then (if 64 < s.size then (m, 5) else (m.put (m.pos e a) ⟨s, s, false⟩, 0)) else (m, 1)
/-- the wet ones of the first k -/
def wetTo (m : Ext) (e : Int) (k : Nat) : List Int := ((List.range k).filter fun (a : Nat) => decide (m.has e (a : Int)) && (m.secAt (m.pos e (a : Int))).wet).map fun (a : Nat) => (a : Int)
def wet (m : Ext) (e : Int) : List Int := m.wetTo e m.sec

theorem dried_len (l : List Sec) (i k : Nat) : (dried l i k).length = l.length := by unfold dried; simp
theorem dried_get (l : List Sec) (i k j : Nat) (h : j < (dried l i k).length) : (dried l i k)[j] = if i ≤ j ∧ j < k then ⟨(l[j]'(by rw [dried_len] at h; exact h)).now, (l[j]'(by rw [dried_len] at h; exact h)).now, false⟩ else l[j]'(by rw [dried_len] at h; exact h) := by
  simp only [dried, List.getElem_mapIdx]
theorem dried_none (l : List Sec) (i : Nat) : dried l i i = l := by
  apply List.ext_getElem (dried_len _ _ _)
  intro j h1 h2
  rw [dried_get, if_neg (by omega)]
theorem dried_at (l : List Sec) (i k : Nat) (hk : k < l.length) : (dried l i k)[k]'(by rw [dried_len]; exact hk) = l[k] := by
  rw [dried_get, if_neg (by omega)]
theorem dried_step (l : List Sec) (i k : Nat) (hi : i ≤ k) (hk : k < l.length) : (dried l i k).set k ⟨l[k].now, l[k].now, false⟩ = dried l i (k + 1) := by
  apply List.ext_getElem (by rw [List.length_set, dried_len, dried_len])
  intro j h1 h2
  rw [List.getElem_set, dried_get, dried_get]
  by_cases e : k = j
  · subst e; rw [if_pos rfl, if_pos ⟨hi, by omega⟩]
  · rw [if_neg e]
    by_cases c : i ≤ j ∧ j < k
    · rw [if_pos c, if_pos ⟨c.1, by omega⟩]
    · rw [if_neg c, if_neg (by omega)]
theorem crashed_len (m : Ext) (ps : List (Int × Int)) (k : Nat) : (m.crashed ps k).length = m.l.length := by unfold crashed; simp
theorem crashed_get (m : Ext) (ps : List (Int × Int)) (k j : Nat) (h : j < (m.crashed ps k).length) : (m.crashed ps k)[j] = if j < k then gone (m.l[j]'(by rw [crashed_len] at h; exact h)) (!(m.l[j]'(by rw [crashed_len] at h; exact h)).wet || m.named ps j) else m.l[j]'(by rw [crashed_len] at h; exact h) := by
  simp only [crashed, List.getElem_mapIdx]
theorem crashed_none (m : Ext) (ps : List (Int × Int)) : m.crashed ps 0 = m.l := by
  apply List.ext_getElem (crashed_len _ _ _)
  intro j h1 h2
  rw [crashed_get, if_neg (by omega)]
theorem crashed_at (m : Ext) (ps : List (Int × Int)) (k : Nat) (hk : k < m.l.length) : (m.crashed ps k)[k]'(by rw [crashed_len]; exact hk) = m.l[k] := by
  rw [crashed_get, if_neg (by omega)]
theorem crashed_step (m : Ext) (ps : List (Int × Int)) (k : Nat) (hk : k < m.l.length) : (m.crashed ps k).set k (gone m.l[k] (!m.l[k].wet || m.named ps k)) = m.crashed ps (k + 1) := by
  apply List.ext_getElem (by rw [List.length_set, crashed_len, crashed_len])
  intro j h1 h2
  rw [List.getElem_set, crashed_get, crashed_get]
  by_cases e : k = j
  · subst e; rw [if_pos rfl, if_pos (by omega)]
  · rw [if_neg e]
    by_cases c : j < k
    · rw [if_pos c, if_pos (by omega)]
    · rw [if_neg c, if_neg (by omega)]
theorem wetTo_succ (m : Ext) (e : Int) (k : Nat) : m.wetTo e (k + 1) = m.wetTo e k ++ (if m.has e (k : Int) ∧ (m.secAt (m.pos e (k : Int))).wet = true then [(k : Int)] else []) := by
  unfold wetTo
  rw [List.range_succ, List.filter_append, List.map_append]
  congr 1
  by_cases h : m.has e (k : Int) ∧ (m.secAt (m.pos e (k : Int))).wet = true
  · rw [if_pos h]; simp [h.1, h.2]
  · rw [if_neg h]
    by_cases h1 : m.has e (k : Int)
    · have h2 : (m.secAt (m.pos e (k : Int))).wet = false := by
        cases hw : (m.secAt (m.pos e (k : Int))).wet with
        | false => rfl
        | true => exact absurd ⟨h1, hw⟩ h
      simp [h2]
    · simp [h1]
theorem flush_ok {m : Ext} (ho : m.Ok) (e : Int) : (m.flush e).1.Ok := by
  unfold flush; split
  · exact ho
  split
  · exact ⟨ho.1, ho.2.1, ho.2.2.1, ho.2.2.2.1, by show (dried _ _ _).length = _; rw [dried_len]; exact ho.2.2.2.2⟩
  · exact ho
theorem write_ok {m : Ext} (ho : m.Ok) (e a : Int) (s : ByteArray) : (m.write e a s).1.Ok := by
  unfold write; split
  · exact ho
  split
  · split
    · exact ho
    · exact put_ok ho _ _
  · exact ho
theorem lay_ok {m : Ext} (ho : m.Ok) (e a : Int) (s : ByteArray) : (m.lay e a s).1.Ok := by
  unfold lay; split
  · split
    · exact ho
    · exact put_ok ho _ _
  · exact ho
theorem crash_ok {m : Ext} (ho : m.Ok) (ps : List (Int × Int)) : (m.crash ps).1.Ok := by
  unfold crash; split
  · exact ho
  · exact ⟨ho.1, ho.2.1, ho.2.2.1, ho.2.2.2.1, by show (m.crashed _ _).length = _; rw [crashed_len]; exact ho.2.2.2.2⟩
theorem start_ok {m : Ext} (ho : m.Ok) : m.start.1.Ok := by
  unfold start; split
  · exact ho
  · exact ho
end Ext

end Go.Proofs.Ytjghpacpeojejaa
