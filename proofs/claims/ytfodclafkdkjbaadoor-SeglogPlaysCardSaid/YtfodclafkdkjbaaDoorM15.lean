/- Proved parts: S6e S7n. Conditions: each theorem's own. -/
import Derived.Test.YtfodclafkdkjbaaDoorM12
import Derived.Test.YtfodclafkdkjbaaDoorM13
import Derived.Test.YtfodclafkdkjbaaDoorM14
import Derived.Test.YtfodclafkdkjbaaDoorM11
namespace Go.Proofs.YtfodclafkdkjbaaDoor
open Go.RowKit

theorem extract_twice (s : ByteArray) (a b c d : Nat) (hd : a + d ≤ b) : (s.extract a b).extract c d = s.extract (a + c) (a + d) := by
  rw [ByteArray.extract_extract]; congr 1; omega
theorem cntN_end (n i : Nat) (h0 : 50 * i ≤ n) (h1 : n - 50 * i ≤ 50) (h2 : i = 0 ∨ 50 * i < n) : cntN n = i + 1 := by
  unfold cntN
  by_cases h : n = 0
  · rw [if_pos h]; omega
  · rw [if_neg h]; omega
/-- the first i parts -/
def firstOf (s : ByteArray) (i : Nat) : List ByteArray := (List.range i).map (partAt s)
theorem firstOf_len (s : ByteArray) (i : Nat) : (firstOf s i).length = i := by unfold firstOf; simp
theorem firstOf_step (s : ByteArray) (i : Nat) : firstOf s i ++ [partAt s i] = firstOf s (i + 1) := by
  unfold firstOf; rw [List.range_succ, List.map_append]; rfl
/-- what is cut so far -/
structure CutAt (s T : ByteArray) (i : Nat) : Prop where
  le : 50 * i ≤ s.size
  more : i = 0 ∨ 50 * i < s.size
  rest : T = s.extract (50 * i) s.size
theorem CutAt.start (s : ByteArray) : CutAt s s 0 := ⟨by omega, .inl rfl, by simp⟩
theorem CutAt.size {s T : ByteArray} {i : Nat} (h : CutAt s T i) : T.size = s.size - 50 * i := by rw [h.rest, size_extract _ _ _ (Nat.le_refl _)]
theorem CutAt.step {s T : ByteArray} {i : Nat} (h : CutAt s T i) (hT : 50 < T.size) : CutAt s (T.extract 50 T.size) (i + 1) ∧ T.extract 0 50 = partAt s i := by
  have hs := h.size
  have hl := h.le
  refine ⟨⟨by omega, .inr (by omega), ?_⟩, ?_⟩
  · rw [hs, h.rest, extract_twice _ _ _ _ _ (by omega)]
    congr 1; omega
  · unfold partAt
    rw [if_pos (by omega), h.rest, extract_twice _ _ _ _ _ (by omega)]
    congr 1
theorem CutAt.last {s T : ByteArray} {i : Nat} (h : CutAt s T i) (hT : T.size ≤ 50) : firstOf s i ++ [T] = partsOf s := by
  have hs := h.size
  have hl := h.le
  have e : T = partAt s i := by
    unfold partAt
    by_cases q : 50 * (i + 1) ≤ s.size
    · rw [if_pos q, h.rest]; congr 1; omega
    · rw [if_neg q]; exact h.rest
  rw [e, firstOf_step]
  unfold firstOf partsOf
  rw [cntN_end s.size i hl (by omega) h.more]

set_option maxRecDepth 100000 in
set_option maxHeartbeats 1000000 in
/-- cloisonneref06.Parts -/
theorem srParts (s : ByteArray) (w : World) (hs : s.size ≤ 5000) : Calls Tryd.prog 15 #[.string s] w fun e w' => ∃ v, e = .returned v ∧ OwnS w' w.heap.size v (partsOf s) ∧ Below w.heap.size w w' := by
  have O0 := Lib.hid (OwnS.made w (Nat.le_refl w.heap.size))
  have B0 := Lib.hid ((Below.refl w.heap.size w).alloc (Nat.le_refl _) (.cells #[] 9))
  go_enter Tryd.func15, Tryd.ntmps15
  go_wp2_with fail
  go_loopw [0, 3] (fun vs vo wr => ∃ (i : Nat) (T : ByteArray), vs = .string T ∧ CutAt s T i ∧ Hid (OwnS wr w.heap.size vo (firstOf s i)) ∧ Hid (Below w.heap.size w wr)) (fun vs _ _ => strLen vs)
  case atStart => exact ⟨0, s, rfl, CutAt.start s, O0, B0⟩
  case round =>
    obtain ⟨i, T, rfl, hC, HO, HB⟩ := hrel
    have SZ := Lib.hid (hC.size)
    have T5 : T.size ≤ 5000 := by have := SZ.out; omega
    have LN := Lib.hid (show (firstOf s i).length ≤ 5000 by rw [firstOf_len]; have := hC.le; omega)
    by_cases h50 : 50 < T.size
    · obtain ⟨hC2, hP⟩ := hC.step h50
      have TS := Lib.hid (show (T.extract 50 T.size).size < T.size by rw [size_extract _ _ _ (Nat.le_refl _)]; omega)
      obtain ⟨y, hy⟩ : ∃ y, y = T.extract 0 50 := ⟨_, rfl⟩
      have CW := Lib.hid (show ∀ w : World, (w.alloc (.cells #[.string (T.extract 0 50)] 9)).cell? ⟨w.heap.size, 0, none⟩ = some (.string y) from fun w => by rw [World.cell?_alloc_at _ _ _ _ rfl, hy]; rfl)
      have FS := Lib.hid (show firstOf s i ++ [y] = firstOf s (i + 1) by rw [hy, hP, firstOf_step])
      clear hy hP hC
      have C2 := Lib.hid hC2
      clear hC2
      go_wp2_with (at_builtin; refine wp_putS rfl (.tmp 8) (.tmp 11) rfl w.heap.size _ _ rfl (HO.out.alloc _) _ y rfl (CW.out _) (by have := LN.out; omega) (by have := HB.out.size; simp; omega) ?_; intro v1 w2 hown1 hb1; rw [FS.out] at hown1; have HO1 := Lib.hid hown1; have HB1 := Lib.hid ((HB.out.alloc HB.out.size _).trans hb1); clear hown1 hb1)
      go_roundw
      case rel => exact ⟨i + 1, _, rfl, C2.out, HO1, HB1⟩
      case measure => exact TS.out
    · have L := Lib.hid (hC.last (by omega))
      have CW := Lib.hid (show ∀ w : World, (w.alloc (.cells #[.string T] 9)).cell? ⟨w.heap.size, 0, none⟩ = some (.string T) from fun w => by rw [World.cell?_alloc_at _ _ _ _ rfl]; rfl)
      clear hC
      go_wp2_with (at_builtin; refine wp_putS rfl (.tmp 15) (.tmp 17) rfl w.heap.size _ _ rfl (HO.out.alloc _) _ T rfl (CW.out _) (by have := LN.out; omega) (by have := HB.out.size; simp; omega) ?_; intro v1 w2 hown1 hb1; rw [L.out] at hown1; have HO1 := Lib.hid hown1; have HB1 := Lib.hid ((HB.out.alloc HB.out.size _).trans hb1); clear hown1 hb1)
      show bodyPost Tryd.prog Tryd.f15 _ .ret _ _
      go_ret
      exact ⟨_, rfl, HO1.out, HB1.out⟩

set_option maxRecDepth 100000 in
set_option maxHeartbeats 1000000 in
/-- sector.Parts -/
theorem pParts (s : ByteArray) (w : World) (hs : s.size ≤ 50000) : Calls Tryd.prog 59 #[.string s] w fun e w' => ∃ v, e = .returned v ∧ OwnS w' w.heap.size v (partsOf s) ∧ Below w.heap.size w w' := by
  have CC := Lib.hid (fun w => lclone s w (by omega))
  obtain ⟨c, hc⟩ : ∃ c, c = cntN s.size := ⟨_, rfl⟩
  have c1 : c ≤ 50000 := by rw [hc]; unfold cntN; split <;> omega
  have CN := Lib.hid (show ∀ w, Calls Tryd.prog 33 #[.int .i64 (s.size : Int)] w fun e w' => e = .returned (.int .i64 (c : Int)) ∧ w' = w from fun w => by
    have k := pCount s.size w (by omega) (by omega)
    rw [cnt_nat, ← hc] at k; exact k)
  clear hc
  go_enter Tryd.func59, Tryd.ntmps59
  go_wp2_with fail
  refine (CC.out _).mono ?_
  rintro e w1 ⟨rfl, hb1⟩
  have B1 := Lib.hid hb1
  clear hb1
  go_wp2_with fail
  refine (CN.out _).mono ?_
  rintro e wx ⟨rfl, rfl⟩
  obtain ⟨w2, MK, hO, hB⟩ := makeS wx c (by omega)
  have O0 := Lib.hid (hO.mono (B1.out.size))
  have B0 := Lib.hid (below_then B1.out hB)
  clear hO hB
  go_wp2_with fail
  clear MK
  go_loopw [3, 4] (fun vs vo wr => ∃ (i : Nat) (T : ByteArray), vs = .string T ∧ CutAt s T i ∧ Hid (OwnS wr w.heap.size vo (firstOf s i)) ∧ Hid (Below w.heap.size w wr)) (fun vs _ _ => strLen vs)
  case atStart => exact ⟨0, s, rfl, CutAt.start s, O0, B0⟩
  case round =>
    obtain ⟨i, T, rfl, hC, HO, HB⟩ := hrel
    have SZ := Lib.hid (hC.size)
    have T5 : T.size ≤ 50000 := by have := SZ.out; omega
    have LN := Lib.hid (show (firstOf s i).length ≤ 50000 by rw [firstOf_len]; have := hC.le; omega)
    by_cases h50 : 50 < T.size
    · obtain ⟨hC2, hP⟩ := hC.step h50
      have TS := Lib.hid (show (T.extract 50 T.size).size < T.size by rw [size_extract _ _ _ (Nat.le_refl _)]; omega)
      obtain ⟨y, hy⟩ : ∃ y, y = T.extract 0 50 := ⟨_, rfl⟩
      have CW := Lib.hid (show ∀ w : World, (w.alloc (.cells #[.string (T.extract 0 50)] 9)).cell? ⟨w.heap.size, 0, none⟩ = some (.string y) from fun w => by rw [World.cell?_alloc_at _ _ _ _ rfl, hy]; rfl)
      have FS := Lib.hid (show firstOf s i ++ [y] = firstOf s (i + 1) by rw [hy, hP, firstOf_step])
      clear hy hP hC
      have C2 := Lib.hid hC2
      clear hC2
      go_wp2_with (at_builtin; refine wp_putS rfl (.tmp 14) (.tmp 17) rfl w.heap.size _ _ rfl (HO.out.alloc _) _ y rfl (CW.out _) (by have := LN.out; omega) (by have := HB.out.size; simp; omega) ?_; intro v1 w2 hown1 hb1; rw [FS.out] at hown1; have HO1 := Lib.hid hown1; have HB1 := Lib.hid ((HB.out.alloc HB.out.size _).trans hb1); clear hown1 hb1)
      go_roundw
      case rel => exact ⟨i + 1, _, rfl, C2.out, HO1, HB1⟩
      case measure => exact TS.out
    · have L := Lib.hid (hC.last (by omega))
      have CW := Lib.hid (show ∀ w : World, (w.alloc (.cells #[.string T] 9)).cell? ⟨w.heap.size, 0, none⟩ = some (.string T) from fun w => by rw [World.cell?_alloc_at _ _ _ _ rfl]; rfl)
      clear hC
      go_wp2_with (at_builtin; refine wp_putS rfl (.tmp 21) (.tmp 23) rfl w.heap.size _ _ rfl (HO.out.alloc _) _ T rfl (CW.out _) (by have := LN.out; omega) (by have := HB.out.size; simp; omega) ?_; intro v1 w2 hown1 hb1; rw [L.out] at hown1; have HO1 := Lib.hid hown1; have HB1 := Lib.hid ((HB.out.alloc HB.out.size _).trans hb1); clear hown1 hb1)
      show bodyPost Tryd.prog Tryd.f59 _ .ret _ _
      go_ret
      exact ⟨_, rfl, HO1.out, HB1.out⟩

end Go.Proofs.YtfodclafkdkjbaaDoor

namespace Go.Proofs.YtfodclafkdkjbaaDoor
open Go.RowKit

def nowC (m : Ext) (e : Nat) : Cont := fun i => (m.secAt (m.pos (e : Int) (i : Int))).now
def dryC (m : Ext) (e : Nat) : Cont := fun i => (m.secAt (m.pos (e : Int) (i : Int))).dry
def Lg.to (l : Lg) (b : Bool) : Nat := if b then (if l.at_ = l.first then l.first + 1 else l.first) else l.at_
def Lg.gn (l : Lg) (b : Bool) : Int := if b then l.gen + 1 else l.gen
def Lg.fr (l : Lg) (b : Bool) : Nat := if b then 0 else l.used
/-- Write -/
def Lg.write (l : Lg) (S : Nat) (s : ByteArray) (b : Bool) : Lg × Option Wr × Int :=
  if l.busy then (l, none, 9) else if !b && decide (l.gen = 0) then (l, none, 7) else if decide (S < l.fr b + cntN s.size) then (l, none, 16)
  else if decide (2147483647 < l.life) || (b && decide (2147483647 ≤ l.gen)) then (l, none, 17) else ({ l with busy := true }, some ⟨b, partsOf s, 0⟩, 0)
/-- the sector of the next move -/
def Wr.sector (x : Wr) (l : Lg) : ByteArray := newS (l.gn x.base) (l.fr x.base) l.life x.parts x.moves
/-- Move -/
def move (m : Ext) (l : Lg) (x : Wr) : Ext × Lg × Wr × Int × Int :=
  if x.moves = x.parts.length + 2 then (m, l, x, 2, 0)
  else if x.moves < x.parts.length then
    (if (m.write (l.to x.base : Nat) (l.fr x.base + x.moves : Nat) (x.sector l)).2 = 0 then ((m.write (l.to x.base : Nat) (l.fr x.base + x.moves : Nat) (x.sector l)).1, l, { x with moves := x.moves + 1 }, 1, 0)
     else (m, l, x, 0, (m.write (l.to x.base : Nat) (l.fr x.base + x.moves : Nat) (x.sector l)).2))
  else if x.moves = x.parts.length then
    (if (m.flush (l.to x.base : Nat)).2 = 0 then ((m.flush (l.to x.base : Nat)).1, l, { x with moves := x.moves + 1 }, 1, 0) else (m, l, x, 0, (m.flush (l.to x.base : Nat)).2))
  else (m, { l with at_ := l.to x.base, gen := l.gn x.base, used := l.fr x.base + x.parts.length, busy := false }, { x with moves := x.moves + 1 }, 2, 0)

section
variable {m : Ext} {e i : Nat}
theorem Ext.has_of (he : e < m.ext) (hi : i < m.sec) : m.has (e : Int) (i : Int) := by unfold Ext.has; omega
theorem Ext.pos_inj {e' i' : Nat} (hi : i < m.sec) (hi' : i' < m.sec) (h : m.pos (e : Int) (i : Int) = m.pos (e' : Int) (i' : Int)) : e = e' ∧ i = i' := by
  unfold Ext.pos at h
  simp only [Int.toNat_natCast] at h
  have k : e = e' := by
    rcases Nat.lt_trichotomy e e' with q | q | q
    · have := Nat.mul_le_mul_right m.sec (show e + 1 ≤ e' from q)
      rw [Nat.add_mul] at this; omega
    · exact q
    · have := Nat.mul_le_mul_right m.sec (show e' + 1 ≤ e from q)
      rw [Nat.add_mul] at this; omega
  subst k
  exact ⟨rfl, by omega⟩
theorem Ext.secAt_put (m : Ext) (p q : Nat) (s : Sec) (hp : p < m.l.length) : (m.put p s).secAt q = if p = q then s else m.secAt q := by
  unfold Ext.put Ext.secAt
  simp only
  rw [List.getD_eq_getElem?_getD, List.getD_eq_getElem?_getD, List.getElem?_set]
  by_cases h : p = q
  · subst h; rw [if_pos rfl, if_pos rfl, if_pos hp]; rfl
  · rw [if_neg h, if_neg h]
/-- a sector is written -/
theorem Ext.write_there (ho : m.Ok) (hoff : m.off = false) (he : e < m.ext) (hi : i < m.sec) (s : ByteArray) (hs : s.size ≤ 64) :
    (m.write (e : Int) (i : Int) s).2 = 0 ∧ (m.write (e : Int) (i : Int) s).1.off = false ∧ (m.write (e : Int) (i : Int) s).1.ext = m.ext ∧ (m.write (e : Int) (i : Int) s).1.sec = m.sec ∧
    ∀ e' i', i' < m.sec → dryC (m.write (e : Int) (i : Int) s).1 e' i' = dryC m e' i' ∧ nowC (m.write (e : Int) (i : Int) s).1 e' i' = if e' = e ∧ i' = i then s else nowC m e' i' := by
  have hh := Ext.has_of he hi
  have hp := Ext.pos_lt ho hh
  have w : m.write (e : Int) (i : Int) s = (m.put (m.pos (e : Int) (i : Int)) ⟨(m.secAt (m.pos (e : Int) (i : Int))).dry, s, true⟩, 0) := by
    unfold Ext.write; rw [hoff, if_neg (by simp), if_pos hh, if_neg (by omega)]
  rw [w]
  refine ⟨rfl, hoff, rfl, rfl, fun e' i' hi' => ?_⟩
  unfold dryC nowC
  show ((m.put _ _).secAt (m.pos (e' : Int) (i' : Int))).dry = _ ∧ ((m.put _ _).secAt (m.pos (e' : Int) (i' : Int))).now = _
  rw [Ext.secAt_put m _ _ _ hp]
  by_cases k : m.pos (e : Int) (i : Int) = m.pos (e' : Int) (i' : Int)
  · obtain ⟨rfl, rfl⟩ := Ext.pos_inj hi hi' k
    rw [if_pos rfl, if_pos ⟨rfl, rfl⟩]; exact ⟨rfl, rfl⟩
  · rw [if_neg k, if_neg (fun q => k (by rw [q.1, q.2]))]; exact ⟨rfl, rfl⟩
/-- an extent is flushed -/
theorem Ext.flush_there (ho : m.Ok) (hoff : m.off = false) (he : e < m.ext) :
    (m.flush (e : Int)).2 = 0 ∧ (m.flush (e : Int)).1.off = false ∧ (m.flush (e : Int)).1.ext = m.ext ∧ (m.flush (e : Int)).1.sec = m.sec ∧
    ∀ e' i', e' < m.ext → i' < m.sec → nowC (m.flush (e : Int)).1 e' i' = nowC m e' i' ∧ dryC (m.flush (e : Int)).1 e' i' = if e' = e then nowC m e' i' else dryC m e' i' := by
  have s0 := ho.2.2.1
  have hh : m.has (e : Int) 0 := by unfold Ext.has; omega
  have w : m.flush (e : Int) = ({ m with l := Ext.dried m.l (m.pos (e : Int) 0) (m.pos (e : Int) 0 + m.sec) }, 0) := by
    unfold Ext.flush; rw [hoff, if_neg (by simp), if_pos hh]
  rw [w]
  refine ⟨rfl, hoff, rfl, rfl, fun e' i' he' hi' => ?_⟩
  have hp := Ext.pos_lt ho (Ext.has_of he' hi')
  have g : ({ m with l := Ext.dried m.l (m.pos (e : Int) 0) (m.pos (e : Int) 0 + m.sec) } : Ext).secAt (m.pos (e' : Int) (i' : Int)) = if e' = e then ⟨(m.secAt (m.pos (e' : Int) (i' : Int))).now, (m.secAt (m.pos (e' : Int) (i' : Int))).now, false⟩ else m.secAt (m.pos (e' : Int) (i' : Int)) := by
    unfold Ext.secAt
    simp only
    rw [List.getD_eq_getElem?_getD, List.getElem?_eq_getElem (by rw [Ext.dried_len]; exact hp), Ext.dried_get, List.getD_eq_getElem?_getD, List.getElem?_eq_getElem hp]
    simp only [Option.getD_some]
    have k : (m.pos (e : Int) 0 ≤ m.pos (e' : Int) (i' : Int) ∧ m.pos (e' : Int) (i' : Int) < m.pos (e : Int) 0 + m.sec) ↔ e' = e := by
      unfold Ext.pos
      simp only [Int.toNat_natCast, Int.toNat_zero, Nat.add_zero]
      constructor
      · rintro ⟨h1, h2⟩
        rcases Nat.lt_trichotomy e' e with q | q | q
        · have := Nat.mul_le_mul_right m.sec (show e' + 1 ≤ e from q)
          rw [Nat.add_mul] at this; omega
        · exact q
        · have := Nat.mul_le_mul_right m.sec (show e + 1 ≤ e' from q)
          rw [Nat.add_mul] at this; omega
      · rintro rfl; omega
    by_cases q : e' = e
    · rw [if_pos q, if_pos (k.2 q)]
    · rw [if_neg q, if_neg (fun h => q (k.1 h))]
  unfold nowC dryC
  show (Ext.secAt _ (m.pos (e' : Int) (i' : Int))).now = _ ∧ (Ext.secAt _ (m.pos (e' : Int) (i' : Int))).dry = _
  rw [g]
  by_cases q : e' = e
  · rw [if_pos q, if_pos q]; exact ⟨rfl, rfl⟩
  · rw [if_neg q, if_neg q]; exact ⟨rfl, rfl⟩
/-- the power goes, and comes: each sector is one of both -/
theorem Ext.crash_start (ho : m.Ok) (hoff : m.off = false) (ps : List (Int × Int)) :
    ((m.crash ps).1.start).1.off = false ∧ ((m.crash ps).1.start).1.ext = m.ext ∧ ((m.crash ps).1.start).1.sec = m.sec ∧ ((m.crash ps).1.start).1.Ok ∧
    ∀ e' i', e' < m.ext → i' < m.sec → nowC ((m.crash ps).1.start).1 e' i' = dryC ((m.crash ps).1.start).1 e' i' ∧ (nowC ((m.crash ps).1.start).1 e' i' = nowC m e' i' ∨ nowC ((m.crash ps).1.start).1 e' i' = dryC m e' i') := by
  have hok := Ext.start_ok (Ext.crash_ok ho ps)
  have w : ((m.crash ps).1.start).1 = { m with l := m.crashed ps m.l.length, off := false } := by
    unfold Ext.crash; rw [hoff, if_neg (by simp)]; rfl
  refine ⟨by rw [w], by rw [w], by rw [w], hok, fun e' i' he' hi' => ?_⟩
  rw [w]
  have hp := Ext.pos_lt ho (Ext.has_of he' hi')
  have g : ({ m with l := m.crashed ps m.l.length, off := false } : Ext).secAt (m.pos (e' : Int) (i' : Int)) = Ext.gone (m.secAt (m.pos (e' : Int) (i' : Int))) (!(m.secAt (m.pos (e' : Int) (i' : Int))).wet || m.named ps (m.pos (e' : Int) (i' : Int))) := by
    unfold Ext.secAt
    simp only
    rw [List.getD_eq_getElem?_getD, List.getElem?_eq_getElem (by rw [Ext.crashed_len]; exact hp), Ext.crashed_get, List.getD_eq_getElem?_getD, List.getElem?_eq_getElem hp, if_pos hp]
    rfl
  unfold nowC dryC
  show (Ext.secAt _ (m.pos (e' : Int) (i' : Int))).now = (Ext.secAt _ (m.pos (e' : Int) (i' : Int))).dry ∧ ((Ext.secAt _ (m.pos (e' : Int) (i' : Int))).now = _ ∨ (Ext.secAt _ (m.pos (e' : Int) (i' : Int))).now = _)
  rw [g]
  unfold Ext.gone
  split <;> exact ⟨rfl, by first | exact .inl rfl | exact .inr rfl⟩
end

end Go.Proofs.YtfodclafkdkjbaaDoor
