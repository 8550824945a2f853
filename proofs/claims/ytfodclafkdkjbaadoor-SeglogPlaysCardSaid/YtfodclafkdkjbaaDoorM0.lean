/- Proved parts: Sl Chg E5m. Conditions: each theorem's own. -/
import Derived.WalkKit
import Derived.WalkLawsBesides
import Derived.Handy
import Derived.Below
import Derived.OwnWalk
import Derived.Laws.OwnMore
import Derived.Deep.Draws
import Derived.Deep.AppendLies
import Derived.Lib.Hide
import Derived.Laws.BitsLemmas
import Derived.WideShapes
namespace Go.Proofs.YtfodclafkdkjbaaDoor
open Go.RowKit

theorem ret_int {k : IntKind} {a b : Int} (h : a = b) : Ending.returned (.int k a) = .returned (.int k b) := by rw [h]
theorem ret_bool {a b : Bool} (h : a = b) : Ending.returned (.bool a) = .returned (.bool b) := by rw [h]

/-- The slice at A reads as zs. -/
def Sl (w : World) (A : Option Addr) (zs : List Int) : Prop :=
  0 < zs.length → ∃ b o, A = some ⟨b, o, none⟩ ∧ b < w.heap.size ∧ ∀ j, j < zs.length → w.cell? ⟨b, o + j, none⟩ = some (.int .u64 (zs.getD j 0))

section
variable {w w' : World} {A : Option Addr} {zs : List Int}
theorem Sl.nil (w : World) (A : Option Addr) : Sl w A [] := fun h => absurd h (by simp)
theorem Sl.at_ {k : Nat} (h : Sl w A zs) (hk : k < zs.length) : ∃ b o, A = some ⟨b, o, none⟩ ∧ b < w.heap.size ∧ ∀ j, j < zs.length → w.cell? ⟨b, o + j, none⟩ = some (.int .u64 (zs.getD j 0)) := h (by omega)
theorem Sl.below (h : Sl w A zs) (hb : Below w.heap.size w w') : Sl w' A zs := fun hn => by
  obtain ⟨b, o, e, hlt, hc⟩ := h hn
  exact ⟨b, o, e, Nat.lt_of_lt_of_le hlt hb.size, fun j hj => (hb.cell (p := ⟨b, o + j, none⟩) hlt).trans (hc j hj)⟩
theorem Sl.drewN (h : Sl w A zs) (n : Nat) : Sl (w.drewN n) A zs := h
theorem Sl.drew (h : Sl w A zs) : Sl w.drew A zs := h
theorem Sl.alloc (h : Sl w A zs) (o : Obj) : Sl (w.alloc o) A zs := h.below ((Below.refl _ _).alloc (Nat.le_refl _) o)
end

theorem drewN2 (w : World) (n m : Nat) : ∃ k, (w.drewN n).drewN m = w.drewN k := ⟨n + m, World.drewN_drewN w n m⟩
theorem drewN3 (w : World) (n m l : Nat) : ∃ k, ((w.drewN n).drewN m).drewN l = w.drewN k := ⟨n + m + l, by rw [World.drewN_drewN, World.drewN_drewN, Nat.add_assoc]⟩
theorem below_drewN {B : Nat} {a w : World} (h : Below B a w) (n : Nat) : Below B a (w.drewN n) := ⟨h.os, h.tape, h.output, h.size, h.block⟩
theorem below_drew {B : Nat} {a w : World} (h : Below B a w) : Below B a w.drew := ⟨h.os, h.tape, h.output, h.size, h.block⟩
/-- two calls, one behind the other -/
theorem below_then {W w w' : World} (h : Below W.heap.size W w) (k : Below w.heap.size w w') : Below W.heap.size W w' := h.trans (k.mono h.size)
theorem byte_at (s : ByteArray) (k : Nat) (h : k < s.size) : s[k] = s.data.toList.getD k 0 := by
  have h' : k < s.data.toList.length := by simpa using h
  rw [List.getD_eq_getElem?_getD, List.getElem?_eq_getElem h']
  rfl
theorem or_join (x y : Nat) (hx : x < 72057594037927936) (hy : y < 256) : bits .or .u64 (IntKind.u64.wrap ((x : Int) * 256)) (IntKind.u64.wrap (y : Int)) = ((x * 256 + y : Nat) : Int) := by
  have e1 : IntKind.u64.wrap ((x : Int) * 256) = (x : Int) * 256 := by rw [IntKind.wrap_u64]; omega
  have e2 : IntKind.u64.wrap (y : Int) = y := by rw [IntKind.wrap_u64]; omega
  have h := bits_join .u64 64 (by decide) (fun n h0 h1 => by rw [IntKind.wrap_u64]; omega) 8 ((x : Int) * 256) y (by omega) (by omega) (by omega) (by omega) (by omega) (by omega)
  rw [e1, e2, h]
  omega
theorem toList_inj {a b : ByteArray} (h : a.toList = b.toList) : a = b := by
  rw [ByteArray.toList_eq, ByteArray.toList_eq] at h
  exact WideShapes.bytes_inj h
theorem str_ne {a b : ByteArray} (h : a ≠ b) : (a.toList == b.toList) = false := by
  rw [beq_eq_false_iff_ne]; exact fun k => h (toList_inj k)
theorem str_eq {a b : ByteArray} (h : a = b) : (a.toList == b.toList) = true := by rw [h]; exact beq_self_eq_true _

end Go.Proofs.YtfodclafkdkjbaaDoor

namespace Go.Proofs.YtfodclafkdkjbaaDoor
open Go.RowKit

/-- all blocks but F's, and but new ones, are as they were -/
structure Chg (F : Nat → Prop) (w w' : World) : Prop where
  os : w'.os = w.os
  tape : w'.tape = w.tape
  output : w'.output = w.output
  size : w.heap.size ≤ w'.heap.size
  block : ∀ k, k < w.heap.size → ¬ F k → w'.heap[k]? = w.heap[k]?
section
variable {F G : Nat → Prop} {a b c w w' : World}
theorem Chg.refl (F : Nat → Prop) (w : World) : Chg F w w := ⟨rfl, rfl, rfl, Nat.le_refl _, fun _ _ _ => rfl⟩
/-- two steps; the second one may turn what the first one made -/
theorem Chg.trans (h : Chg F a b) (k : Chg G b c) (hg : ∀ i, G i → F i ∨ a.heap.size ≤ i) : Chg F a c :=
  ⟨k.os.trans h.os, k.tape.trans h.tape, k.output.trans h.output, Nat.le_trans h.size k.size, fun i hi hn => (k.block i (Nat.lt_of_lt_of_le hi h.size) (fun e => by
    rcases hg i e with q | q
    · exact hn q
    · omega)).trans (h.block i hi hn)⟩
theorem Chg.then (h : Chg F a b) (k : Chg F b c) : Chg F a c := h.trans k fun _ e => .inl e
theorem Chg.mono (h : Chg F w w') (hg : ∀ i, F i → G i) : Chg G w w' := ⟨h.os, h.tape, h.output, h.size, fun i hi hn => h.block i hi fun e => hn (hg i e)⟩
theorem Chg.of_below (h : Below w.heap.size w w') : Chg F w w' := ⟨h.os, h.tape, h.output, h.size, fun i hi _ => h.block i hi⟩
theorem Chg.below {B : Nat} (h : Chg F w w') (hF : ∀ i, F i → B ≤ i) (hB : B ≤ w.heap.size) : Below B w w' := ⟨h.os, h.tape, h.output, h.size, fun i hi => h.block i (by omega) fun e => by have := hF i e; omega⟩
theorem Chg.drew (h : Chg F a w) : Chg F a w.drew := ⟨h.os, h.tape, h.output, h.size, h.block⟩
theorem Chg.drewN (h : Chg F a w) (n : Nat) : Chg F a (w.drewN n) := ⟨h.os, h.tape, h.output, h.size, h.block⟩
theorem Chg.alloc (h : Chg F a w) (o : Obj) : Chg F a (w.alloc o) :=
  h.trans (G := fun _ => False) ⟨rfl, rfl, rfl, by simp, fun k hk _ => Below.heap_alloc _ _ _ hk⟩ (fun _ e => e.elim)
theorem Chg.setCell (h : Chg F a w) {p : Addr} (hp : F p.block ∨ a.heap.size ≤ p.block) (u : Value) : Chg F a (w.setCell p u) :=
  h.trans (G := fun i => i = p.block) ⟨rfl, rfl, rfl, by simp [World.setCell], fun k _ hk => Below.heap_setCell _ _ _ _ hk⟩ (fun i e => by subst e; exact hp)
theorem Chg.grown {row : Option Nat} (h : Chg F a w) (hg : w.grownBy w' row) (hr : ∀ k, row = some k → F k ∨ a.heap.size ≤ k) : Chg F a w' :=
  h.trans (G := fun i => row = some i) ⟨hg.os, hg.tape, hg.output, hg.size, fun k hk hn => hg.block k hk fun e => hn e.symm⟩ (fun i e => hr i e)
theorem Chg.cell (h : Chg F w w') {p : Addr} {v : Value} (hc : w.cell? p = some v) (hn : ¬ F p.block) : w'.cell? p = some v :=
  (World.cell?_of_block (w := w) (h.block p.block (World.block_lt_of_cell? w p hc) hn)).trans hc
end

/-- block g holds cs -/
def RowAt (w : World) (g : Nat) (cs : List Value) (t : TypeId) : Prop := w.heap[g]? = some (.cells cs.toArray t)
section
variable {F : Nat → Prop} {w w' : World} {g : Nat} {cs : List Value} {t : TypeId}
theorem RowAt.lt (h : RowAt w g cs t) : g < w.heap.size := (Array.getElem?_eq_some_iff.1 h).1
theorem RowAt.cell (h : RowAt w g cs t) (i : Nat) : w.cell? ⟨g, i, none⟩ = cs[i]? := by
  unfold World.cell?
  rw [show w.heap[(⟨g, i, none⟩ : Addr).block]? = some (.cells cs.toArray t) from h]
  simp
theorem RowAt.frozen (h : RowAt w g cs t) (i : Nat) : w.frozen? ⟨g, i, none⟩ = false := by
  unfold World.frozen?
  rw [show w.heap[(⟨g, i, none⟩ : Addr).block]? = some (.cells cs.toArray t) from h]
  simp
theorem RowAt.keep (h : RowAt w g cs t) (hc : Chg F w w') (hn : ¬ F g) : RowAt w' g cs t := (hc.block g h.lt hn).trans h
theorem RowAt.below (h : RowAt w g cs t) (hb : Below w.heap.size w w') : RowAt w' g cs t := (hb.block g h.lt).trans h
theorem RowAt.drewN (h : RowAt w g cs t) (n : Nat) : RowAt (w.drewN n) g cs t := h
theorem RowAt.new (w : World) (cs : List Value) (t : TypeId) : RowAt (w.alloc (.cells cs.toArray t)) w.heap.size cs t := heap_alloc_new w _
theorem RowAt.alloc (h : RowAt w g cs t) (o : Obj) : RowAt (w.alloc o) g cs t := h.below ((Below.refl _ _).alloc (Nat.le_refl _) o)
theorem RowAt.set (h : RowAt w g cs t) (i : Nat) (v : Value) : RowAt (w.setCell ⟨g, i, none⟩ v) g (cs.set i v) t := by
  unfold RowAt World.setCell
  simp only [Array.getElem?_modify]
  rw [show w.heap[g]? = some (.cells cs.toArray t) from h]
  simp
theorem RowAt.other (h : RowAt w g cs t) {p : Addr} (hp : p.block ≠ g) (v : Value) : RowAt (w.setCell p v) g cs t := (Below.heap_setCell _ _ _ _ (Ne.symm hp)).trans h
end

section
variable {α : Type} {f : α → List Value} {n : Nat}
theorem flat_len (hf : ∀ x, (f x).length = n) : ∀ l : List α, (l.flatMap f).length = l.length * n
  | [] => by simp
  | x :: l => by rw [List.flatMap_cons, List.length_append, hf, flat_len hf l, List.length_cons, Nat.add_mul]; omega
theorem flat_at (hf : ∀ x, (f x).length = n) : ∀ (l : List α) (i j : Nat) (hi : i < l.length), j < n → (l.flatMap f)[i * n + j]? = (f l[i])[j]?
  | [], i, j, hi, _ => by simp at hi
  | x :: l, 0, j, _, hj => by
    rw [List.flatMap_cons, Nat.zero_mul, Nat.zero_add, List.getElem?_append_left (by rw [hf]; exact hj)]; rfl
  | x :: l, i + 1, j, hi, hj => by
    have h := flat_at hf l i j (by simpa using hi) hj
    rw [List.flatMap_cons, List.getElem?_append_right (by rw [hf, Nat.add_mul]; omega), hf, show (i + 1) * n + j - n = i * n + j by rw [Nat.add_mul]; omega, h]
    rfl
theorem flat_set (hf : ∀ x, (f x).length = n) : ∀ (l : List α) (i j : Nat) (v : Value) (y : α) (hi : i < l.length), j < n → (f l[i]).set j v = f y → (l.flatMap f).set (i * n + j) v = (l.set i y).flatMap f
  | [], i, j, v, y, hi, _, _ => by simp at hi
  | x :: l, 0, j, v, y, _, hj, hy => by
    rw [List.flatMap_cons, Nat.zero_mul, Nat.zero_add, List.set_append_left _ _ (by rw [hf]; exact hj)]
    rw [show (f x).set j v = f y from hy]
    rfl
  | x :: l, i + 1, j, v, y, hi, hj, hy => by
    have h := flat_set hf l i j v y (by simpa using hi) hj hy
    rw [List.flatMap_cons, List.set_append_right _ _ (by rw [hf, Nat.add_mul]; omega), hf, show (i + 1) * n + j - n = i * n + j by rw [Nat.add_mul]; omega, h]
    rfl
end

end Go.Proofs.YtfodclafkdkjbaaDoor

namespace Go.Proofs.YtfodclafkdkjbaaDoor
open Go.RowKit

structure Sec where
  dry : ByteArray
  now : ByteArray
  wet : Bool
def Sec0 : Sec := ⟨⟨#[]⟩, ⟨#[]⟩, false⟩
structure Ext where
  off : Bool
  ext : Nat
  sec : Nat
  l : List Sec
namespace Ext
def Ok (m : Ext) : Prop := 1 ≤ m.ext ∧ m.ext ≤ 32 ∧ 1 ≤ m.sec ∧ m.sec ≤ 128 ∧ m.l.length = m.ext * m.sec
/-- New -/
def new (e s : Nat) : Ext := ⟨false, e, s, List.replicate (e * s) Sec0⟩
/-- may a world have so many? -/
def fits (e s : Int) : Bool := decide (1 ≤ e) && decide (e ≤ 32) && decide (1 ≤ s) && decide (s ≤ 128)
theorem new_ok {e s : Nat} (h : fits e s = true) : Ok (new e s) := by
  unfold fits at h
  simp only [Bool.and_eq_true, decide_eq_true_eq] at h
  exact ⟨by show 1 ≤ e; omega, by show e ≤ 32; omega, by show 1 ≤ s; omega, by show s ≤ 128; omega, by show (List.replicate _ _).length = _; simp [new]⟩
/-- is there such a sector? -/
def has (m : Ext) (e a : Int) : Prop := 0 ≤ e ∧ e < m.ext ∧ 0 ≤ a ∧ a < m.sec
instance (m : Ext) (e a : Int) : Decidable (has m e a) := by unfold has; exact inferInstance
/-- where it stands -/
def pos (m : Ext) (e a : Int) : Nat := e.toNat * m.sec + a.toNat
def atI (m : Ext) (e a : Int) : Int := if m.has e a then (m.pos e a : Int) else -1
theorem pos_lt {m : Ext} {e a : Int} (ho : m.Ok) (h : m.has e a) : m.pos e a < m.l.length := by
  obtain ⟨h0, h1, h2, h3⟩ := h
  rw [ho.2.2.2.2]
  unfold pos
  have h4 : e.toNat + 1 ≤ m.ext := by omega
  have h5 := Nat.mul_le_mul_right m.sec h4
  rw [Nat.add_mul] at h5
  omega
theorem len_le {m : Ext} (ho : m.Ok) : m.l.length ≤ 4096 := by
  rw [ho.2.2.2.2]
  exact Nat.mul_le_mul ho.2.1 ho.2.2.2.1
def secAt (m : Ext) (i : Nat) : Sec := m.l.getD i Sec0
def put (m : Ext) (i : Nat) (s : Sec) : Ext := { m with l := m.l.set i s }
theorem put_ok {m : Ext} (ho : m.Ok) (i : Nat) (s : Sec) : (m.put i s).Ok := ⟨ho.1, ho.2.1, ho.2.2.1, ho.2.2.2.1, by show (m.l.set i s).length = _; rw [List.length_set]; exact ho.2.2.2.2⟩
def write (m : Ext) (e a : Int) (s : ByteArray) : Ext × Int :=
  if m.off then (m, 6) else if m.has e a then (if 64 < s.size then (m, 5) else (m.put (m.pos e a) ⟨(m.secAt (m.pos e a)).dry, s, true⟩, 0)) else (m, 1)
def read (m : Ext) (e a : Int) : ByteArray × Int := if m.off then (⟨#[]⟩, 6) else if m.has e a then ((m.secAt (m.pos e a)).now, 0) else (⟨#[]⟩, 1)
def dryOf (m : Ext) (e a : Int) : ByteArray × Int := if m.has e a then ((m.secAt (m.pos e a)).dry, 0) else (⟨#[]⟩, 1)
/-- the sectors from i to k are dry -/
def dried (l : List Sec) (i k : Nat) : List Sec := l.mapIdx fun j x => if i ≤ j ∧ j < k then ⟨x.now, x.now, false⟩ else x
def flush (m : Ext) (e : Int) : Ext × Int := if m.off then (m, 6) else if m.has e 0 then ({ m with l := dried m.l (m.pos e 0) (m.pos e 0 + m.sec) }, 0) else (m, 1)
/-- does a pick name the sector i? -/
def named (m : Ext) (ps : List (Int × Int)) (i : Nat) : Bool := ps.any fun p => decide (m.atI p.1 p.2 = (i : Int))
def gone (x : Sec) (kept : Bool) : Sec := if kept then ⟨x.now, x.now, false⟩ else ⟨x.dry, x.dry, false⟩
/-- the first k sectors when the power went -/
def crashed (m : Ext) (ps : List (Int × Int)) (k : Nat) : List Sec := m.l.mapIdx fun j x => if j < k then gone x (!x.wet || m.named ps j) else x
def crash (m : Ext) (ps : List (Int × Int)) : Ext × Int := if m.off then (m, 6) else ({ m with l := m.crashed ps m.l.length, off := true }, 0)
def start (m : Ext) : Ext × Int := if m.off then ({ m with off := false }, 0) else (m, 8)
def lay (m : Ext) (e a : Int) (s : ByteArray) : Ext × Int := if m.has e a then (if 64 < s.size then (m, 5) else (m.put (m.pos e a) ⟨s, s, false⟩, 0)) else (m, 1)
/-- the wet ones of the first k -/
def wetTo (m : Ext) (e : Int) (k : Nat) : List Int := ((List.range k).filter fun (a : Nat) => decide (m.has e (a : Int)) && (m.secAt (m.pos e (a : Int))).wet).map fun (a : Nat) => (a : Int)
def wet (m : Ext) (e : Int) : List Int := m.wetTo e m.sec

theorem dried_len (l : List Sec) (i k : Nat) : (dried l i k).length = l.length := by unfold dried; simp
theorem dried_get (l : List Sec) (i k j : Nat) (h : j < (dried l i k).length) : (dried l i k)[j] = if i ≤ j ∧ j < k then ⟨(l[j]'(by rw [dried_len] at h; exact h)).now, (l[j]'(by rw [dried_len] at h; exact h)).now, false⟩ else l[j]'(by rw [dried_len] at h; exact h) := by
  simp only [dried, List.getElem_mapIdx]
theorem dried_none (l : List Sec) (i : Nat) : dried l i i = l := by
  apply List.ext_getElem (dried_len _ _ _)
  intro j h1 h2
  rw [dried_get, if_neg (by omega)]
theorem dried_at (l : List Sec) (i k : Nat) (hk : k < l.length) : (dried l i k)[k]'(by rw [dried_len]; exact hk) = l[k] := by
  rw [dried_get, if_neg (by omega)]
theorem dried_step (l : List Sec) (i k : Nat) (hi : i ≤ k) (hk : k < l.length) : (dried l i k).set k ⟨l[k].now, l[k].now, false⟩ = dried l i (k + 1) := by
  apply List.ext_getElem (by rw [List.length_set, dried_len, dried_len])
  intro j h1 h2
  rw [List.getElem_set, dried_get, dried_get]
  by_cases e : k = j
  · subst e; rw [if_pos rfl, if_pos ⟨hi, by omega⟩]
  · rw [if_neg e]
    by_cases c : i ≤ j ∧ j < k
    · rw [if_pos c, if_pos ⟨c.1, by omega⟩]
    · rw [if_neg c, if_neg (by omega)]
theorem crashed_len (m : Ext) (ps : List (Int × Int)) (k : Nat) : (m.crashed ps k).length = m.l.length := by unfold crashed; simp
theorem crashed_get (m : Ext) (ps : List (Int × Int)) (k j : Nat) (h : j < (m.crashed ps k).length) : (m.crashed ps k)[j] = if j < k then gone (m.l[j]'(by rw [crashed_len] at h; exact h)) (!(m.l[j]'(by rw [crashed_len] at h; exact h)).wet || m.named ps j) else m.l[j]'(by rw [crashed_len] at h; exact h) := by
  simp only [crashed, List.getElem_mapIdx]
theorem crashed_none (m : Ext) (ps : List (Int × Int)) : m.crashed ps 0 = m.l := by
  apply List.ext_getElem (crashed_len _ _ _)
  intro j h1 h2
  rw [crashed_get, if_neg (by omega)]
theorem crashed_at (m : Ext) (ps : List (Int × Int)) (k : Nat) (hk : k < m.l.length) : (m.crashed ps k)[k]'(by rw [crashed_len]; exact hk) = m.l[k] := by
  rw [crashed_get, if_neg (by omega)]
theorem crashed_step (m : Ext) (ps : List (Int × Int)) (k : Nat) (hk : k < m.l.length) : (m.crashed ps k).set k (gone m.l[k] (!m.l[k].wet || m.named ps k)) = m.crashed ps (k + 1) := by
  apply List.ext_getElem (by rw [List.length_set, crashed_len, crashed_len])
  intro j h1 h2
  rw [List.getElem_set, crashed_get, crashed_get]
  by_cases e : k = j
  · subst e; rw [if_pos rfl, if_pos (by omega)]
  · rw [if_neg e]
    by_cases c : j < k
    · rw [if_pos c, if_pos (by omega)]
    · rw [if_neg c, if_neg (by omega)]
theorem wetTo_succ (m : Ext) (e : Int) (k : Nat) : m.wetTo e (k + 1) = m.wetTo e k ++ (if m.has e (k : Int) ∧ (m.secAt (m.pos e (k : Int))).wet = true then [(k : Int)] else []) := by
  unfold wetTo
  rw [List.range_succ, List.filter_append, List.map_append]
  congr 1
  by_cases h : m.has e (k : Int) ∧ (m.secAt (m.pos e (k : Int))).wet = true
  · rw [if_pos h]; simp [h.1, h.2]
  · rw [if_neg h]
    by_cases h1 : m.has e (k : Int)
    · have h2 : (m.secAt (m.pos e (k : Int))).wet = false := by
        cases hw : (m.secAt (m.pos e (k : Int))).wet with
        | false => rfl
        | true => exact absurd ⟨h1, hw⟩ h
      simp [h2]
    · simp [h1]
theorem flush_ok {m : Ext} (ho : m.Ok) (e : Int) : (m.flush e).1.Ok := by
  unfold flush; split
  · exact ho
  split
  · exact ⟨ho.1, ho.2.1, ho.2.2.1, ho.2.2.2.1, by show (dried _ _ _).length = _; rw [dried_len]; exact ho.2.2.2.2⟩
  · exact ho
theorem write_ok {m : Ext} (ho : m.Ok) (e a : Int) (s : ByteArray) : (m.write e a s).1.Ok := by
  unfold write; split
  · exact ho
  split
  · split
    · exact ho
    · exact put_ok ho _ _
  · exact ho
theorem lay_ok {m : Ext} (ho : m.Ok) (e a : Int) (s : ByteArray) : (m.lay e a s).1.Ok := by
  unfold lay; split
  · split
    · exact ho
    · exact put_ok ho _ _
  · exact ho
theorem crash_ok {m : Ext} (ho : m.Ok) (ps : List (Int × Int)) : (m.crash ps).1.Ok := by
  unfold crash; split
  · exact ho
  · exact ⟨ho.1, ho.2.1, ho.2.2.1, ho.2.2.2.1, by show (m.crashed _ _).length = _; rw [crashed_len]; exact ho.2.2.2.2⟩
theorem start_ok {m : Ext} (ho : m.Ok) : m.start.1.Ok := by
  unfold start; split
  · exact ho
  · exact ho
end Ext

end Go.Proofs.YtfodclafkdkjbaaDoor
