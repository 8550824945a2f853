/- Proved parts: S7op S7po S7pb S7pc. Conditions: each theorem's own. -/
import Derived.Test.YtfodclafkdkjbaaDoorM48
namespace Go.Proofs.YtfodclafkdkjbaaDoor
open Go.RowKit

/-- the calls on a world that is there -/
structure SegOps (P : RelP) (Q : RelQ) : Prop where
  pKeep : ∀ {w w' : World} {N M : Nat → Prop} {b : Nat} {m : Ext}, P w N b m → (∀ k, k < w.heap.size → ¬ N k → w'.heap[k]? = w.heap[k]?) → w.heap.size ≤ w'.heap.size → (∀ k, M k → N k ∨ w.heap.size ≤ k) → (∀ k, M k → k < w'.heap.size) → P w' M b m
  pLt : ∀ {w : World} {N : Nat → Prop} {b : Nat} {m : Ext}, P w N b m → ∀ k, N k → k < w.heap.size
  qKeep : ∀ {w w' : World} {N M : Nat → Prop} {b bl : Nat} {bx : Option Nat} {m : Ext} {l : Lg} {ox : Option Wr}, Q w N b bl bx m l ox → (∀ k, k < w.heap.size → ¬ N k → w'.heap[k]? = w.heap[k]?) → w.heap.size ≤ w'.heap.size → (∀ k, M k → N k ∨ w.heap.size ≤ k) → (∀ k, M k → k < w'.heap.size) → Q w' M b bl bx m l ox
  pOk : ∀ {w : World} {N : Nat → Prop} {b : Nat} {m : Ext}, P w N b m → m.Ok ∧ m.Small
  qP : ∀ {w : World} {N : Nat → Prop} {b bl : Nat} {bx : Option Nat} {m : Ext} {l : Lg} {ox : Option Wr}, Q w N b bl bx m l ox → P w N b m
  qWorld : ∀ {w : World} {N : Nat → Prop} {b bl : Nat} {bx : Option Nat} {m : Ext} {l : Lg} {ox : Option Wr}, Q w N b bl bx m l ox → ∃ N2 : Nat → Prop, P w N2 b m ∧ (∀ k, N k → N2 k) ∧ ∀ w' m', Kept N2 w w' → P w' N2 b m' → m'.sec = m.sec → Q w' N b bl bx m' l ox
  read : ∀ (N : Nat → Prop) (b : Nat) (m : Ext) (e a : Int) (w : World), P w N b m → In64 e → In64 a →
    Calls Tryd.prog 17 #[.pointer (some ⟨b, 0, none⟩), .int .i64 e, .int .i64 a] w fun x w' => x = .returned (.tuple #[.string (m.read e a).1, .int .i64 (m.read e a).2]) ∧ P w' N b m ∧ Kept N w w'
  crash : ∀ (N : Nat → Prop) (b : Nat) (m : Ext) (A : Option Addr) (c : Nat) (ps : List (Int × Int)) (w : World), P w N b m → SlPk w A ps → (0 < ps.length → ∀ g o, A = some ⟨g, o, none⟩ → N g) → PkOk ps → (A = none → ps = [] ∧ c = 0) →
    Calls Tryd.prog 23 #[.pointer (some ⟨b, 0, none⟩), .slice A ps.length c] w fun x w' => x = .returned (.int .i64 (m.crash ps).2) ∧ P w' N b (m.crash ps).1 ∧ Kept N w w'
  start : ∀ (N : Nat → Prop) (b : Nat) (m : Ext) (w : World), P w N b m →
    Calls Tryd.prog 24 #[.pointer (some ⟨b, 0, none⟩)] w fun x w' => x = .returned (.int .i64 m.start.2) ∧ P w' N b m.start.1 ∧ Kept N w w'
  lay : ∀ (N : Nat → Prop) (b : Nat) (m : Ext) (e a : Int) (s : ByteArray) (w : World), P w N b m → In64 e → In64 a → s.size ≤ 9223372036854775807 →
    Calls Tryd.prog 26 #[.pointer (some ⟨b, 0, none⟩), .int .i64 e, .int .i64 a, .string s] w fun x w' => x = .returned (.int .i64 (m.lay e a s).2) ∧ P w' N b (m.lay e a s).1 ∧ Kept N w w'
  openYes : ∀ (N : Nat → Prop) (b : Nat) (m : Ext) (f : Nat) (w : World), P w N b m → m.off = false → f + 1 < m.ext → Calls Tryd.prog 19 #[.pointer (some ⟨b, 0, none⟩), .int .i64 (f : Int)] w fun x w' =>
    (∃ bl v, x = .returned (.tuple #[.pointer (some ⟨bl, 0, none⟩), v, .int .i64 0]) ∧ OwnS w' w.heap.size v (openP (nowC m f) (nowC m (f + 1)) m.sec f).2 ∧
      Q w' (fun k => N k ∨ v.ownBlock = some k) b bl none m (openP (nowC m f) (nowC m (f + 1)) m.sec f).1 none) ∧ Kept N w w'
  used : ∀ (N : Nat → Prop) (b bl : Nat) (bx : Option Nat) (m : Ext) (l : Lg) (ox : Option Wr) (w : World), Q w N b bl bx m l ox → Calls Tryd.prog 12 #[.pointer (some ⟨bl, 0, none⟩)] w fun x w' => x = .returned (.int .i64 (l.used : Int)) ∧ Q w' N b bl bx m l ox ∧ Kept N w w'
  gen : ∀ (N : Nat → Prop) (b bl : Nat) (bx : Option Nat) (m : Ext) (l : Lg) (ox : Option Wr) (w : World), Q w N b bl bx m l ox → Calls Tryd.prog 13 #[.pointer (some ⟨bl, 0, none⟩)] w fun x w' => x = .returned (.int .i64 l.gen) ∧ Q w' N b bl bx m l ox ∧ Kept N w w'
  busy : ∀ (N : Nat → Prop) (b bl : Nat) (bx : Option Nat) (m : Ext) (l : Lg) (ox : Option Wr) (w : World), Q w N b bl bx m l ox → Calls Tryd.prog 14 #[.pointer (some ⟨bl, 0, none⟩)] w fun x w' => x = .returned (.bool l.busy) ∧ Q w' N b bl bx m l ox ∧ Kept N w w'
  room : ∀ (N : Nat → Prop) (b bl : Nat) (bx : Option Nat) (m : Ext) (l : Lg) (ox : Option Wr) (n : Int) (w : World), Q w N b bl bx m l ox → In64 n → Calls Tryd.prog 16 #[.pointer (some ⟨bl, 0, none⟩), .int .i64 n] w fun x w' =>
    x = .returned (.bool (decide (0 < l.gen) && decide (0 ≤ n) && decide ((l.used : Int) + cnt n ≤ m.sec))) ∧ Q w' N b bl bx m l ox ∧ Kept N w w'
  record : ∀ (N : Nat → Prop) (b bl : Nat) (bx : Option Nat) (m : Ext) (l : Lg) (ox : Option Wr) (s : ByteArray) (w : World), Q w N b bl bx m l ox → s.size ≤ 5000 → Calls Tryd.prog 20 #[.pointer (some ⟨bl, 0, none⟩), .string s] w fun x w' =>
    (match (l.write m.sec s false).2.1 with
      | none => x = .returned (.tuple #[.pointer none, .int .i64 (l.write m.sec s false).2.2]) ∧ Q w' N b bl bx m l ox
      | some y => ∃ px, x = .returned (.tuple #[.pointer (some ⟨px, 0, none⟩), .int .i64 0]) ∧ Q w' N b bl (some px) m (l.write m.sec s false).1 (some y)) ∧ Kept N w w'
  base : ∀ (N : Nat → Prop) (b bl : Nat) (bx : Option Nat) (m : Ext) (l : Lg) (ox : Option Wr) (s : ByteArray) (w : World), Q w N b bl bx m l ox → s.size ≤ 5000 → Calls Tryd.prog 21 #[.pointer (some ⟨bl, 0, none⟩), .string s] w fun x w' =>
    (match (l.write m.sec s true).2.1 with
      | none => x = .returned (.tuple #[.pointer none, .int .i64 (l.write m.sec s true).2.2]) ∧ Q w' N b bl bx m l ox
      | some y => ∃ px, x = .returned (.tuple #[.pointer (some ⟨px, 0, none⟩), .int .i64 0]) ∧ Q w' N b bl (some px) m (l.write m.sec s true).1 (some y)) ∧ Kept N w w'
  move : ∀ (N : Nat → Prop) (b bl px : Nat) (m : Ext) (l : Lg) (y : Wr) (w : World), Q w N b bl (some px) m l (some y) → MvOk m.sec l y → Calls Tryd.prog 22 #[.pointer (some ⟨px, 0, none⟩)] w fun x w' =>
    x = .returned (.tuple #[.int .i64 (Go.Proofs.YtfodclafkdkjbaaDoor.move m l y).2.2.2.1, .int .i64 (Go.Proofs.YtfodclafkdkjbaaDoor.move m l y).2.2.2.2]) ∧ Q w' N b bl (some px) (Go.Proofs.YtfodclafkdkjbaaDoor.move m l y).1 (Go.Proofs.YtfodclafkdkjbaaDoor.move m l y).2.1 (some (Go.Proofs.YtfodclafkdkjbaaDoor.move m l y).2.2.1) ∧ Kept N w w'
  moveNil : ∀ (w : World), Calls Tryd.prog 22 #[.pointer none] w fun x w' => x = .returned (.tuple #[.int .i64 0, .int .i64 2]) ∧ Below w.heap.size w w'

theorem SegAt.ops {P : RelP} {Q : RelQ} (X : SegAt P Q) : SegOps P Q where
  pKeep := X.pKeep
  pLt := X.pLt
  qKeep := X.qKeep
  pOk := X.pOk
  qP := X.qP
  qWorld := X.qWorld
  read := X.read
  crash := X.crash
  start := X.start
  lay := X.lay
  openYes := X.openYes
  used := X.used
  gen := X.gen
  busy := X.busy
  room := X.room
  record := X.record
  base := X.base
  move := X.move
  moveNil := X.moveNil
theorem SegOps.qLt {P : RelP} {Q : RelQ} (X : SegOps P Q) {w : World} {N : Nat → Prop} {b bl : Nat} {bx : Option Nat} {m : Ext} {l : Lg} {ox : Option Wr} (h : Q w N b bl bx m l ox) : ∀ k, N k → k < w.heap.size := X.pLt (X.qP h)

/-- beside the world lies o at block q -/
def PQ (P : RelP) (q : Nat) (o : Obj) : RelP := fun w N b m => ¬ N q ∧ w.heap[q]? = some o ∧ P w (fun k => N k ∨ k = q) b m
def QQ (Q : RelQ) (q : Nat) (o : Obj) : RelQ := fun w N b bl bx m l ox => ¬ N q ∧ w.heap[q]? = some o ∧ Q w (fun k => N k ∨ k = q) b bl bx m l ox
theorem heap_lt {w : World} {q : Nat} {o : Obj} (h : w.heap[q]? = some o) : q < w.heap.size := (Array.getElem?_eq_some_iff.1 h).1
section
variable {P : RelP} {Q : RelQ} {q : Nat} {o : Obj} {N : Nat → Prop} {w w' : World}
theorem kept_q (hc : w.heap[q]? = some o) (h : Kept (fun k => N k ∨ k = q) w w') : w'.heap[q]? = some o ∧ Kept N w w' :=
  ⟨(h.block (.inr rfl) (heap_lt hc)).trans hc, h.mono fun _ hn h' => hn (.inl h')⟩
theorem pq_left {b : Nat} {m : Ext} (hn : ¬ N q) (hc : w.heap[q]? = some o) (hp : P w' (fun k => N k ∨ k = q) b m) (hk : Kept (fun k => N k ∨ k = q) w w') : PQ P q o w' N b m ∧ Kept N w w' :=
  ⟨⟨hn, (kept_q hc hk).1, hp⟩, (kept_q hc hk).2⟩
theorem qq_left {b bl : Nat} {bx : Option Nat} {m : Ext} {l : Lg} {ox : Option Wr} (hn : ¬ N q) (hc : w.heap[q]? = some o) (hp : Q w' (fun k => N k ∨ k = q) b bl bx m l ox) (hk : Kept (fun k => N k ∨ k = q) w w') : QQ Q q o w' N b bl bx m l ox ∧ Kept N w w' :=
  ⟨⟨hn, (kept_q hc hk).1, hp⟩, (kept_q hc hk).2⟩
end
theorem SegOps.withQ {P : RelP} {Q : RelQ} (X : SegOps P Q) (q : Nat) (o : Obj) : SegOps (PQ P q o) (QQ Q q o) where
  pKeep := by
    rintro w w' N M b m ⟨hn, hc, h⟩ hk hs hm hl
    have hq := heap_lt hc
    have hc' : w'.heap[q]? = some o := (hk q hq hn).trans hc
    refine ⟨fun e => (hm q e).elim hn (fun z => by omega), hc', X.pKeep h (fun k h1 h2 => hk k h1 (fun e => h2 (.inl e))) hs (fun k e => e.elim (fun e => (hm k e).imp .inl id) (fun e => .inl (.inr e))) (fun k e => e.elim (hl k) (fun e => e ▸ heap_lt hc'))⟩
  pLt := fun ⟨_, _, h⟩ k hk => X.pLt h k (.inl hk)
  qKeep := by
    rintro w w' N M b bl bx m l ox ⟨hn, hc, h⟩ hk hs hm hl
    have hq := heap_lt hc
    have hc' : w'.heap[q]? = some o := (hk q hq hn).trans hc
    refine ⟨fun e => (hm q e).elim hn (fun z => by omega), hc', X.qKeep h (fun k h1 h2 => hk k h1 (fun e => h2 (.inl e))) hs (fun k e => e.elim (fun e => (hm k e).imp .inl id) (fun e => .inl (.inr e))) (fun k e => e.elim (hl k) (fun e => e ▸ heap_lt hc'))⟩
  pOk := fun ⟨_, _, h⟩ => X.pOk h
  qP := fun ⟨hn, hc, h⟩ => ⟨hn, hc, X.qP h⟩
  qWorld := by
    rintro w N b bl bx m l ox ⟨hn, hc, h⟩
    obtain ⟨N2, hp, hs, hb⟩ := X.qWorld h
    have hq := heap_lt hc
    refine ⟨fun k => N2 k ∧ k ≠ q, ⟨fun e => e.2 rfl, hc, X.pKeep hp (fun _ _ _ => rfl) (Nat.le_refl _) (fun k e => e.elim (fun e => .inl e.1) (fun e => .inl (hs k (.inr e)))) (fun k e => e.elim (fun e => X.pLt hp k e.1) (fun e => e ▸ hq))⟩, fun k hk => ⟨hs k (.inl hk), fun e => hn (e ▸ hk)⟩, ?_⟩
    rintro w' m' hk ⟨_, hc', hp'⟩ hsec
    have hk2 : Kept N2 w w' := ⟨hk.os, hk.tape, hk.output, hk.size, fun k h1 h2 => by
      have h2 : N2 k := Classical.not_not.1 h2
      by_cases e : k = q
      · subst e; exact hc'.trans hc.symm
      · exact hk.block (show N2 k ∧ k ≠ q from ⟨h2, e⟩) h1⟩
    exact ⟨hn, hc', hb w' m' hk2 (X.pKeep hp' (fun _ _ _ => rfl) (Nat.le_refl _) (fun k e => .inl (by
      by_cases z : k = q
      · exact .inr z
      · exact .inl ⟨e, z⟩)) (fun k e => Nat.lt_of_lt_of_le (X.pLt hp k e) hk.size)) hsec⟩
  read := fun N b m e a w ⟨hn, hc, h⟩ he ha => (X.read _ b m e a w h he ha).mono fun x w' k => ⟨k.1, pq_left hn hc k.2.1 k.2.2⟩
  crash := fun N b m A c ps w ⟨hn, hc, h⟩ hs hd hk hA => (X.crash _ b m A c ps w h hs (fun h0 g o' e => .inl (hd h0 g o' e)) hk hA).mono fun x w' k => ⟨k.1, pq_left hn hc k.2.1 k.2.2⟩
  start := fun N b m w ⟨hn, hc, h⟩ => (X.start _ b m w h).mono fun x w' k => ⟨k.1, pq_left hn hc k.2.1 k.2.2⟩
  lay := fun N b m e a s w ⟨hn, hc, h⟩ he ha hs => (X.lay _ b m e a s w h he ha hs).mono fun x w' k => ⟨k.1, pq_left hn hc k.2.1 k.2.2⟩
  openYes := fun N b m f w ⟨hn, hc, h⟩ ho hf => (X.openYes _ b m f w h ho hf).mono fun x w' k => by
    obtain ⟨⟨bl, v, k1, k2, k3⟩, k4⟩ := k
    obtain ⟨q1, q2⟩ := kept_q hc k4
    have hq := heap_lt hc
    refine ⟨⟨bl, v, k1, k2, fun e => e.elim hn (fun e => by have := (k2.lt q e).1; omega), q1, X.qKeep k3 (fun _ _ _ => rfl) (Nat.le_refl _) (fun k e => .inl ?_) (fun k e => ?_)⟩, q2⟩
    · rcases e with (e | e) | e
      · exact .inl (.inl e)
      · exact .inr e
      · exact .inl (.inr e)
    · rcases e with (e | e) | e
      · exact X.qLt k3 k (.inl (.inl e))
      · exact X.qLt k3 k (.inr e)
      · exact X.qLt k3 k (.inl (.inr e))
  used := fun N b bl bx m l ox w ⟨hn, hc, h⟩ => (X.used _ b bl bx m l ox w h).mono fun x w' k => ⟨k.1, qq_left hn hc k.2.1 k.2.2⟩
  gen := fun N b bl bx m l ox w ⟨hn, hc, h⟩ => (X.gen _ b bl bx m l ox w h).mono fun x w' k => ⟨k.1, qq_left hn hc k.2.1 k.2.2⟩
  busy := fun N b bl bx m l ox w ⟨hn, hc, h⟩ => (X.busy _ b bl bx m l ox w h).mono fun x w' k => ⟨k.1, qq_left hn hc k.2.1 k.2.2⟩
  room := fun N b bl bx m l ox n w ⟨hn, hc, h⟩ hN => (X.room _ b bl bx m l ox n w h hN).mono fun x w' k => ⟨k.1, qq_left hn hc k.2.1 k.2.2⟩
  record := fun N b bl bx m l ox s w ⟨hn, hc, h⟩ hs => (X.record _ b bl bx m l ox s w h hs).mono fun x w' k => by
    obtain ⟨k1, k2⟩ := k
    refine ⟨?_, (kept_q hc k2).2⟩
    revert k1
    cases (l.write m.sec s false).2.1 with
    | none => exact fun k1 => ⟨k1.1, (qq_left hn hc k1.2 k2).1⟩
    | some y => exact fun ⟨px, e1, e2⟩ => ⟨px, e1, (qq_left hn hc e2 k2).1⟩
  base := fun N b bl bx m l ox s w ⟨hn, hc, h⟩ hs => (X.base _ b bl bx m l ox s w h hs).mono fun x w' k => by
    obtain ⟨k1, k2⟩ := k
    refine ⟨?_, (kept_q hc k2).2⟩
    revert k1
    cases (l.write m.sec s true).2.1 with
    | none => exact fun k1 => ⟨k1.1, (qq_left hn hc k1.2 k2).1⟩
    | some y => exact fun ⟨px, e1, e2⟩ => ⟨px, e1, (qq_left hn hc e2 k2).1⟩
  move := fun N b bl px m l y w ⟨hn, hc, h⟩ ok => (X.move _ b bl px m l y w h ok).mono fun x w' k => ⟨k.1, qq_left hn hc k.2.1 k.2.2⟩
  moveNil := X.moveNil

end Go.Proofs.YtfodclafkdkjbaaDoor

namespace Go.Proofs.YtfodclafkdkjbaaDoor
open Go.RowKit

/-- a log and its writer, on both sides -/
def pairCells (b p : Nat) (vl vx vn vy : Value) : List Value := [.pointer (some ⟨b, 0, none⟩), vl, vx, .pointer (some ⟨p, 0, none⟩), vn, vy]
abbrev PairAt (w : World) (pp b p : Nat) (vl vx vn vy : Value) : Prop := RowAt w pp (pairCells b p vl vx vn vy) 37
/-- what open leaves -/
structure Opened (Q : RelQ) (N : Nat → Prop) (pp b p g f : Nat) (m : Ext) (w w' : World) (o : Lg × List ByteArray) (bl pl : Nat) : Prop where
  q : ∃ M : Nat → Prop, (∀ k, N k → M k) ∧ M pl ∧ Q w' M b bl none m o.1 none
  r : RefE w' p g m
  l : RefL w' pl p o.1
  c : PairAt w' pp b p (.pointer (some ⟨bl, 0, none⟩)) (.pointer none) (.pointer (some ⟨pl, 0, none⟩)) (.pointer none)
  n : w.heap.size ≤ pl
  k : Chg (fun k => ¬ N k ∨ k = pp) w w'

set_option maxRecDepth 100000 in
set_option maxHeartbeats 2000000 in
theorem pOpen {P : RelP} {Q : RelQ} (X : SegOps P Q) (N : Nat → Prop) (pp b p g : Nat) (m : Ext) (vl vx vn vy : Value) (w : World) (hp : P w N b m) (hN : N pp ∧ N p ∧ N g) (hr : RefE w p g m) (hd : pp ≠ p ∧ pp ≠ g)
    (hc : PairAt w pp b p vl vx vn vy) (hoff : m.off = false) (hext : 2 < m.ext) :
    Calls Tryd.prog 10 #[.pointer (some ⟨pp, 0, none⟩)] w fun e w' => e = .returned (.bool true) ∧
      ∃ bl pl, Opened Q N pp b p g 1 m w w' (openP (nowC m 1) (nowC m 2) m.sec 1) bl pl := by
  have OY := Lib.hid (X.openYes N b m 1 w hp hoff (by omega))
  have SM := Lib.hid (X.pOk hp)
  have RY := Lib.hid (fun w' (h : RefE w' p g m) => rOpen_yes p g m 1 w' h hoff (by omega) SM.out.2)
  obtain ⟨o, ho⟩ : ∃ o, o = openP (nowC m 1) (nowC m 2) m.sec 1 := ⟨_, rfl⟩
  have OL := Lib.hid (show o.2.length ≤ 1000000 by rw [ho]; have := openP_len (nowC m 1) (nowC m 2) m.sec 1; have := SM.out.1.2.2.2.1; omega)
  have OE : openP (nowC m 1) (nowC m (1 + 1)) m.sec 1 = o := ho.symm
  rw [OE] at OY RY
  rw [← ho]
  have X' := Lib.hid X
  have HR := Lib.hid hr
  have HC := Lib.hid hc
  have HN := Lib.hid hN
  have HD := Lib.hid hd
  have c0 : w.cell? ⟨pp, 0, none⟩ = some (.pointer (some ⟨b, 0, none⟩)) := hc.cell 0
  clear X hp hN hr hd hc ho OE SM
  go_enter Tryd.func10, Tryd.ntmps10
  go_wp2_with fail
  refine OY.out.mono ?_
  rintro e w4 ⟨⟨bl, v4, rfl, ho4, hq⟩, hk4⟩
  have R4 := Lib.hid (HR.out.keep hk4 (fun q => q HN.out.2.1) (fun q => q HN.out.2.2))
  have C4 := Lib.hid (hk4.row HC.out HN.out.1)
  have K4 := Lib.hid hk4
  have Q4 := Lib.hid hq
  obtain ⟨A4, c4, rfl, hs4⟩ := ho4.rowN (N := fun k => k ≠ pp) (fun k q e => by have := ho4.lt k q; have := HC.out.lt; omega)
  have S4 := Lib.hid hs4
  have d3 : w4.cell? ⟨pp, 3, none⟩ = some (.pointer (some ⟨p, 0, none⟩)) := C4.out.cell 3
  clear hq hk4 ho4 hs4 c0
  go_wp2_with fail
  refine (RY.out w4 R4.out).mono ?_
  rintro e w5 ⟨⟨pl, v5, rfl, hl5, hlt5, ho5⟩, hb5⟩
  have PP := Lib.hid (show pp < w4.heap.size from C4.out.lt)
  obtain ⟨A5, c5, rfl, hs5⟩ := ho5.rowN (N := fun k => k ≠ pp) (fun k q e => by have := ho5.lt k q; have := PP.out; omega)
  have S5 := Lib.hid hs5
  have S45 := Lib.hid (S4.out.below hb5)
  have C5 := Lib.hid (C4.out.below hb5)
  have R5 := Lib.hid (R4.out.below hb5)
  have RL := Lib.hid hl5
  have B5 := Lib.hid hb5
  have PL := Lib.hid (show w4.heap.size ≤ pl from hlt5)
  have e1 : w5.cell? ⟨pp, 1, none⟩ = some vl := C5.out.cell 1
  have e2 : w5.cell? ⟨pp, 2, none⟩ = some vx := C5.out.cell 2
  have e4 : w5.cell? ⟨pp, 4, none⟩ = some vn := C5.out.cell 4
  have e5 : w5.cell? ⟨pp, 5, none⟩ = some vy := C5.out.cell 5
  have f1 := C5.out.frozen 1
  have f2 := C5.out.frozen 2
  have f4 := C5.out.frozen 4
  have f5 := C5.out.frozen 5
  obtain ⟨q5, hq5⟩ : ∃ q5, q5 = o.2.length := ⟨_, rfl⟩
  have HQ5 := Lib.hid hq5
  rw [← hq5]
  clear hq5 hs5 ho5 hb5 hl5 hlt5 d3
  go_upto_region 4 with fail
  obtain ⟨w6, hw6⟩ : ∃ w6, w6 = (((w5.setCell ⟨pp, 1, none⟩ (.pointer (some ⟨bl, 0, none⟩))).setCell ⟨pp, 4, none⟩ (.pointer (some ⟨pl, 0, none⟩))).setCell ⟨pp, 2, none⟩ (.pointer none)).setCell ⟨pp, 5, none⟩ (.pointer none) := ⟨_, rfl⟩
  have CH : Chg (fun k => k = pp) w5 w6 := by
    rw [hw6]
    exact ((((Chg.refl (fun k => k = pp) w5).setCell (p := ⟨pp, 1, none⟩) (.inl rfl) _).setCell (p := ⟨pp, 4, none⟩) (.inl rfl) _).setCell (p := ⟨pp, 2, none⟩) (.inl rfl) _).setCell (p := ⟨pp, 5, none⟩) (.inl rfl) _
  have C6 := Lib.hid (show PairAt w6 pp b p (.pointer (some ⟨bl, 0, none⟩)) (.pointer none) (.pointer (some ⟨pl, 0, none⟩)) (.pointer none) by
    rw [hw6]
    exact (((C5.out.set 1 (.pointer (some ⟨bl, 0, none⟩))).set 4 (.pointer (some ⟨pl, 0, none⟩))).set 2 (.pointer none)).set 5 (.pointer none))
  rw [← hw6]
  have KE : Kept (fun k => k ≠ pp) w5 w6 := CH.mono (fun i e q => q e)
  have S6 := Lib.hid (S45.out.keep KE).1
  have S7 := Lib.hid (S5.out.keep KE).1
  have R6 := Lib.hid (R5.out.keep CH (fun e => HD.out.1 e.symm) (fun e => HD.out.2 e.symm))
  have L6 := Lib.hid (show RefL w6 pl p o.1 from RowAt.keep RL.out CH (fun e => by have := PL.out; have := PP.out; omega))
  have K6 := Lib.hid (show Chg (fun k => ¬ N k ∨ k = pp) w w6 from ((K4.out.mono (fun i e => .inl e)).then (Chg.of_below B5.out)).then (CH.mono (fun i e => .inr e)))
  have Q6 := Lib.hid (X'.out.qKeep (M := fun k => (N k ∨ (Value.slice A4 o.2.length c4).ownBlock = some k) ∨ k = pl) Q4.out
    (fun k hk hn => (CH.block k (Nat.lt_of_lt_of_le hk B5.out.size) (fun e => hn (.inl (by rw [e]; exact HN.out.1)))).trans (B5.out.block k hk)) (Nat.le_trans B5.out.size CH.size)
    (fun k q => q.elim .inl (fun e => .inr (by have := PL.out; omega)))
    (fun k q => q.elim (fun q => Nat.lt_of_lt_of_le (X'.out.qLt Q4.out k q) (Nat.le_trans B5.out.size CH.size)) (fun e => by rw [e]; exact L6.out.lt)))
  have SZ := Lib.hid (show w.heap.size ≤ pl from Nat.le_trans K4.out.size PL.out)
  have SA := Lib.hid (show Calls Tryd.prog 25 #[.slice A4 q5 c4, .slice A5 q5 c5] w6 (fun e w' => e = .returned (.bool true) ∧ Below w6.heap.size w6 w') by
    rw [HQ5.out]
    exact (same7 A4 A5 c4 c5 o.2 o.2 w6 S6.out S7.out OL.out OL.out).mono fun _ _ h => ⟨by rw [h.1]; simp, h.2⟩)
  clear hw6 CH KE e1 e2 e4 e5 f1 f2 f4 f5
  go_wp2_with fail
  refine SA.out.mono ?_
  rintro e w7 ⟨rfl, hb7⟩
  have B7 := Lib.hid hb7
  clear hb7
  go_wp2_with fail
  go_ret
  refine ⟨by first | rfl | simp, bl, pl, ⟨_, fun k q => .inl (.inl q), .inr rfl, X'.out.qKeep Q6.out (fun k hk _ => B7.out.block k hk) B7.out.size (fun _ q => .inl q) (fun k q => Nat.lt_of_lt_of_le (X'.out.qLt Q6.out k q) B7.out.size)⟩, R6.out.below B7.out, RowAt.below L6.out B7.out, C6.out.below B7.out, SZ.out, K6.out.then (Chg.of_below B7.out)⟩

end Go.Proofs.YtfodclafkdkjbaaDoor

namespace Go.Proofs.YtfodclafkdkjbaaDoor
open Go.RowKit

/-- the reference's side, and the pair -/
structure RefS (B : Nat) (N : Nat → Prop) (pp b p g pl : Nat) (ry : Option (Nat × Nat)) (vl vx : Value) (m : Ext) (l : Lg) (ox : Option Wr) (w : World) : Prop where
  r : RefE w p g m
  l : RefL w pl p l
  c : PairAt w pp b p vl vx (.pointer (some ⟨pl, 0, none⟩)) (ptrOf (ry.map Prod.fst))
  y : ∀ x, ox = some x → ∃ px gp, ry = some (px, gp) ∧ RefW w px gp pl x ∧ Apart p g pl px gp ∧ pp ≠ px ∧ pp ≠ gp ∧ N px ∧ N gp ∧ B ≤ px ∧ B ≤ gp
  z : ox = none → ry = none
  n : N pp ∧ N p ∧ N g ∧ N pl
  d : pp ≠ p ∧ pp ≠ g ∧ pp ≠ pl ∧ pl ≠ p ∧ pl ≠ g
  lo : B ≤ pp ∧ B ≤ p ∧ B ≤ g ∧ B ≤ pl
  all : ∀ k, k < B → N k
section
variable {B : Nat} {N M : Nat → Prop} {pp b p g pl : Nat} {ry : Option (Nat × Nat)} {vl vx : Value} {m : Ext} {l : Lg} {ox : Option Wr} {w w' : World}
theorem RefS.keep (h : RefS B N pp b p g pl ry vl vx m l ox w) (hk : Kept N w w') : RefS B N pp b p g pl ry vl vx m l ox w' :=
  ⟨h.r.keep hk (fun q => q h.n.2.1) (fun q => q h.n.2.2.1), RowAt.keep h.l hk (fun q => q h.n.2.2.2), hk.row h.c h.n.1, fun x e => by
    obtain ⟨px, gp, e1, e2, e3, e4, e5, e6, e7, e8⟩ := h.y x e
    exact ⟨px, gp, e1, e2.keep hk (fun q => q e6) (fun q => q e7), e3, e4, e5, e6, e7, e8⟩, h.z, h.n, h.d, h.lo, h.all⟩
theorem RefS.more (h : RefS B N pp b p g pl ry vl vx m l ox w) (hM : ∀ k, N k → M k) : RefS B M pp b p g pl ry vl vx m l ox w :=
  ⟨h.r, h.l, h.c, fun x e => by
    obtain ⟨px, gp, e1, e2, e3, e4, e5, e6, e7, e8⟩ := h.y x e
    exact ⟨px, gp, e1, e2, e3, e4, e5, hM _ e6, hM _ e7, e8⟩, h.z, ⟨hM _ h.n.1, hM _ h.n.2.1, hM _ h.n.2.2.1, hM _ h.n.2.2.2⟩, h.d, h.lo, fun k hk => hM k (h.all k hk)⟩
theorem RefS.size (h : RefS B N pp b p g pl ry vl vx m l ox w) : B ≤ w.heap.size := Nat.le_of_lt (Nat.lt_of_le_of_lt h.lo.1 (RowAt.lt h.c))
end
/-- between two steps -/
def Pl7 (Q : RelQ) (B S pp b p g : Nat) (w : World) : Prop :=
  ∃ N bl bx m l ox pl ry, Q w N b bl bx m l ox ∧ RefS B N pp b p g pl ry (.pointer (some ⟨bl, 0, none⟩)) (ptrOf bx) m l ox w ∧ (bx = none ↔ ox = none) ∧ GOk S l ox ∧ m.sec = S ∧ m.ext = 4 ∧ m.off = false
theorem move_more (m : Ext) (l : Lg) (x : Wr) : (Go.Proofs.YtfodclafkdkjbaaDoor.move m l x).1.ext = m.ext ∧ (Go.Proofs.YtfodclafkdkjbaaDoor.move m l x).1.off = m.off := by
  unfold Go.Proofs.YtfodclafkdkjbaaDoor.move Ext.write Ext.flush
  repeat' split
  all_goals exact ⟨rfl, rfl⟩

set_option maxRecDepth 100000 in
set_option maxHeartbeats 4000000 in
/-- cloisonnelaw07.pair.does: a move -/
theorem pDoes_3 {P : RelP} {Q : RelQ} (X : SegOps P Q) (B S pp b p g : Nat) (s : ByteArray) (e a : Int) (vp : Value) (w : World) (h : Pl7 Q B S pp b p g w) :
    Calls Tryd.prog 11 #[.pointer (some ⟨pp, 0, none⟩), .agg #[.int .i64 3, .string s, .int .i64 e, .int .i64 a, vp]] w fun r w' => r = .returned (.bool true) ∧ Pl7 Q B S pp b p g w' ∧ Below B w w' := by
  obtain ⟨N, bl, bx, m, l, ox, pl, ry, hq, hs, hx, hg, h1, h2, h3⟩ := h
  have AB : Below w.heap.size w (w.alloc (.cells #[.int .i64 3, .string s, .int .i64 e, .int .i64 a, vp] 40)) := (Below.refl _ _).alloc (Nat.le_refl _) _
  have Q1 := Lib.hid (X.qKeep (M := fun k => N k ∨ k = w.heap.size) hq (fun k hk _ => AB.block k hk) AB.size (fun k q => q.elim .inl (fun q => .inr (by omega))) (fun k q => by
    have : (w.alloc (.cells #[.int .i64 3, .string s, .int .i64 e, .int .i64 a, vp] 40)).heap.size = w.heap.size + 1 := by simp
    rcases q with q | q
    · have := X.qLt hq k q; omega
    · omega))
  have S1 := Lib.hid ((hs.keep (Kept.of_below AB)).more (M := fun k => N k ∨ k = w.heap.size) (fun _ q => .inl q))
  have RB := Lib.hid (RowAt.new w [.int .i64 3, .string s, .int .i64 e, .int .i64 a, vp] 40)
  have BW := Lib.hid ((Below.refl B w).alloc hs.size (.cells #[.int .i64 3, .string s, .int .i64 e, .int .i64 a, vp] 40))
  have HG := Lib.hid hg
  have D := Lib.hid (And.intro h1 (And.intro h2 h3))
  have X' := Lib.hid X
  have PPL := Lib.hid (show pp < w.heap.size from RowAt.lt hs.c)
  cases bx with
  | none =>
    obtain rfl := hx.1 rfl
    obtain rfl := hs.z rfl
    have c2 : (w.alloc (.cells #[.int .i64 3, .string s, .int .i64 e, .int .i64 a, vp] 40)).cell? ⟨pp, 2, none⟩ = some (.pointer none) := RowAt.cell S1.out.c 2
    clear hq hs hx hg h1 h2 h3 AB X
    go_enter Tryd.func11, Tryd.ntmps11
    go_wp2_with fail
    refine (X'.out.moveNil _).mono ?_
    rintro r w2 ⟨rfl, hb⟩
    have B2 := Lib.hid hb
    have S2 := Lib.hid (S1.out.keep (Kept.of_below hb))
    have c5 : w2.cell? ⟨pp, 5, none⟩ = some (.pointer none) := RowAt.cell S2.out.c 5
    clear hb
    go_wp2_with fail
    go_ret
    exact ⟨by first | rfl | simp, ⟨_, bl, none, m, l, none, pl, none, X'.out.qKeep Q1.out (fun k hk _ => B2.out.block k hk) B2.out.size (fun _ q => .inl q) (fun k q => Nat.lt_of_lt_of_le (X'.out.qLt Q1.out k q) B2.out.size), S2.out, ⟨fun _ => rfl, fun _ => rfl⟩, HG.out, D.out.1, D.out.2.1, D.out.2.2⟩, BW.out.trans ((Kept.of_below B2.out).below (B := B) S1.out.all S1.out.size)⟩
  | some qx =>
    cases ox with
    | none => exact absurd (hx.2 rfl) (by simp)
    | some x =>
      obtain ⟨px, gp, e1, e2, ap, n1, n2, N1, N2, L1, L2⟩ := S1.out.y x rfl
      subst e1
      have AP := Lib.hid ap
      have NN := Lib.hid (And.intro n1 (And.intro n2 (And.intro N1 (And.intro N2 (And.intro L1 L2)))))
      have MK := Lib.hid (show MvOk m.sec l x by rw [h1]; exact hg.mv)
      have RW := Lib.hid e2
      have c2 : (w.alloc (.cells #[.int .i64 3, .string s, .int .i64 e, .int .i64 a, vp] 40)).cell? ⟨pp, 2, none⟩ = some (.pointer (some ⟨qx, 0, none⟩)) := RowAt.cell S1.out.c 2
      clear hq hs hx hg h1 h2 h3 AB X ap n1 n2 N1 N2 L1 L2 e2
      go_enter Tryd.func11, Tryd.ntmps11
      go_wp2_with fail
      refine (X'.out.move _ b bl qx m l x _ Q1.out MK.out).mono ?_
      rintro r w2 ⟨rfl, hq2, hk2⟩
      have Q2 := Lib.hid hq2
      have S2 := Lib.hid (S1.out.keep hk2)
      have R2 := Lib.hid (RW.out.keep hk2 (fun q => q NN.out.2.2.1) (fun q => q NN.out.2.2.2.1))
      have B2 := Lib.hid (BW.out.trans (hk2.below (B := B) S1.out.all S1.out.size))
      have c5 : w2.cell? ⟨pp, 5, none⟩ = some (.pointer (some ⟨px, 0, none⟩)) := RowAt.cell S2.out.c 5
      have RM := Lib.hid (rMove p g pl px gp m.sec m l x w2 S2.out.r S2.out.l R2.out AP.out MK.out)
      obtain ⟨o, ho⟩ : ∃ o, o = Go.Proofs.YtfodclafkdkjbaaDoor.move m l x := ⟨_, rfl⟩
      have MG := Lib.hid (show GOk S o.2.1 (some o.2.2.1) by rw [ho]; exact HG.out.move)
      have MM := Lib.hid (show o.1.sec = S ∧ o.1.ext = 4 ∧ o.1.off = false by rw [ho]; exact ⟨(move_sec m l x).trans D.out.1, (move_more m l x).1.trans D.out.2.1, (move_more m l x).2.trans D.out.2.2⟩)
      rw [← ho] at Q2 RM ⊢
      obtain ⟨om, ol, ox', mv, me⟩ := o
      clear hq2 hk2 ho
      simp only at Q2 RM MG MM ⊢
      go_wp2_with fail
      refine RM.out.mono ?_
      rintro r w3 ⟨rfl, r3, l3, x3, ch3⟩
      have D1 := S2.out.d
      have N0 := S2.out.n
      have C3 := Lib.hid (show PairAt w3 pp b p _ _ _ _ from RowAt.keep S2.out.c ch3 (fun q => q.elim D1.1 (fun q => q.elim D1.2.1 (fun q => q.elim D1.2.2.1 NN.out.1))))
      have Q3 := Lib.hid (X'.out.qKeep (M := fun k => N k ∨ k = w.heap.size) Q2.out (fun k hk hn => ch3.block k hk (fun q => hn (q.elim (fun e => by subst e; exact N0.2.1) (fun q => q.elim (fun e => by subst e; exact N0.2.2.1) (fun q => q.elim (fun e => by subst e; exact N0.2.2.2) (fun e => by subst e; exact NN.out.2.2.1)))))) ch3.size (fun _ q => .inl q) (fun k q => Nat.lt_of_lt_of_le (X'.out.qLt Q2.out k q) ch3.size))
      have LO := S2.out.lo
      have B3 := Lib.hid (B2.out.trans (ch3.below (fun k q => by have := NN.out.2.2.2.2.1; rcases q with q | q | q | q <;> omega) S2.out.size))
      have S3 := Lib.hid (show RefS B (fun k => N k ∨ k = w.heap.size) pp b p g pl (some (px, gp)) (.pointer (some ⟨bl, 0, none⟩)) (ptrOf (some qx)) om ol (some ox') w3 from
        ⟨r3, l3, C3.out, fun z ez => by
          injection ez with ez
          subst ez
          exact ⟨px, gp, rfl, x3, AP.out, NN.out.1, NN.out.2.1, NN.out.2.2.1, NN.out.2.2.2.1, NN.out.2.2.2.2.1, NN.out.2.2.2.2.2⟩, fun q => (by cases q), N0, D1, LO, S2.out.all⟩)
      clear r3 l3 x3 ch3 D1 N0 LO
      go_wp2_with fail
      go_ret
      exact ⟨by first | rfl | simp, ⟨_, bl, some qx, om, ol, some ox', pl, some (px, gp), Q3.out, S3.out, ⟨(fun q => by cases q), (fun q => by cases q)⟩, MG.out, MM.out.1, MM.out.2.1, MM.out.2.2⟩, B3.out⟩

end Go.Proofs.YtfodclafkdkjbaaDoor

namespace Go.Proofs.YtfodclafkdkjbaaDoor
open Go.RowKit

set_option maxRecDepth 100000 in
set_option maxHeartbeats 4000000 in
/-- cloisonnelaw07.pair.does: a crash by picks, a start, and the log anew -/
theorem pDoes_5 {P : RelP} {Q : RelQ} (X : SegOps P Q) (B S pp b p g : Nat) (s : ByteArray) (e a : Int) (AP : Option Addr) (cP PL : Nat) (ps : List (Int × Int)) (w : World) (h : Pl7 Q B S pp b p g w) (hS : 1 ≤ S ∧ S ≤ 128)
    (hsp : SlPk w AP ps) (hpk : PkOk ps) (hN : AP = none → ps = [] ∧ cP = 0) (hA : 0 < ps.length → ∀ q o, AP = some ⟨q, o, none⟩ → q < B) (hPL : PL = ps.length) :
    Calls Tryd.prog 11 #[.pointer (some ⟨pp, 0, none⟩), .agg #[.int .i64 5, .string s, .int .i64 e, .int .i64 a, .slice AP PL cP]] w fun r w' => r = .returned (.bool true) ∧ Pl7 Q B S pp b p g w' ∧ Below B w w' := by
  obtain ⟨N, bl, bx, m, l, ox, pl, ry, hq, hs, hx, hg, h1, h2, h3⟩ := h
  have AB : Below w.heap.size w (w.alloc (.cells #[.int .i64 5, .string s, .int .i64 e, .int .i64 a, .slice AP PL cP] 40)) := (Below.refl _ _).alloc (Nat.le_refl _) _
  have P1 := Lib.hid (X.pKeep (M := fun k => N k ∨ k = w.heap.size) (X.qP hq) (fun k hk _ => AB.block k hk) AB.size (fun k q => q.elim .inl (fun q => .inr (by omega))) (fun k q => by
    have : (w.alloc (.cells #[.int .i64 5, .string s, .int .i64 e, .int .i64 a, .slice AP PL cP] 40)).heap.size = w.heap.size + 1 := by simp
    rcases q with q | q
    · have := X.qLt hq k q; omega
    · omega))
  have S1 := Lib.hid ((hs.keep (Kept.of_below AB)).more (M := fun k => N k ∨ k = w.heap.size) (fun _ q => .inl q))
  have RB := Lib.hid (RowAt.new w [.int .i64 5, .string s, .int .i64 e, .int .i64 a, .slice AP PL cP] 40)
  have BW := Lib.hid ((Below.refl B w).alloc hs.size (.cells #[.int .i64 5, .string s, .int .i64 e, .int .i64 a, .slice AP PL cP] 40))
  have D := Lib.hid (And.intro h1 (And.intro h2 h3))
  have X' := Lib.hid X
  have SP1 := Lib.hid (hsp.belowB7 BW.out hA)
  have HA := Lib.hid hA
  have PK := Lib.hid hpk
  have HN := Lib.hid hN
  have QL := Lib.hid (show w.heap.size ≠ p ∧ w.heap.size ≠ g from by have := hs.r.a.lt; have := hs.r.b.lt; omega)
  have HPL := Lib.hid hPL
  clear hPL
  obtain ⟨w1, hw1⟩ : ∃ w1, w1 = w.alloc (.cells #[.int .i64 5, .string s, .int .i64 e, .int .i64 a, .slice AP PL cP] 40) := ⟨_, rfl⟩
  obtain ⟨q, hq0⟩ : ∃ q, q = w.heap.size := ⟨_, rfl⟩
  have HC1 := Lib.hid (show w1.cell? ⟨pp, 0, none⟩ = some (.pointer (some ⟨b, 0, none⟩)) ∧ w1.cell? ⟨q, 4, none⟩ = some (.slice AP PL cP) from by rw [hw1, hq0]; exact ⟨RowAt.cell S1.out.c 0, RB.out.cell 4⟩)
  clear hq hs hx hg h1 h2 h3 AB X hsp hpk hN hA
  go_enter Tryd.func11, Tryd.ntmps11
  go_upto_region 22 with fail
  rw [← hw1, ← hq0]
  rw [← hw1, ← hq0] at P1 S1 RB
  rw [← hw1] at BW SP1
  rw [← hq0] at QL
  clear hw1 hq0
  have c0 := HC1.out.1
  have c4 := HC1.out.2
  have CR := Lib.hid (fun (wx : World) (hp : P wx (fun k => N k ∨ k = q) b m) (hsx : SlPk wx AP ps) => show Calls Tryd.prog 23 #[.pointer (some ⟨b, 0, none⟩), .slice AP PL cP] wx (fun x w' => x = .returned (.int .i64 (m.crash ps).2) ∧ P w' (fun k => N k ∨ k = q) b (m.crash ps).1 ∧ Kept (fun k => N k ∨ k = q) wx w') from by
    rw [HPL.out]; exact X'.out.crash _ b m AP cP ps wx hp hsx (fun h g o e => S1.out.all g (HA.out h g o e)) PK.out HN.out)
  have EC := Lib.hid (fun (wx : World) (hr : RefE wx p g m) (hsx : SlPk wx AP ps) => show Calls Tryd.prog 31 #[.pointer (some ⟨p, 0, none⟩), .slice AP PL cP] wx (RefPost p g wx (m.crash ps)) from by
    rw [HPL.out]; exact eCrash p g m AP cP ps wx hr hsx (fun h g' o e => by have := HA.out h g' o e; have := S1.out.lo; omega) PK.out)
  have P1d := Lib.hid (show P w1.drew (fun k => N k ∨ k = q) b m from X'.out.pKeep P1.out (fun _ _ _ => rfl) (Nat.le_refl _) (fun _ q => .inl q) (fun k q => X'.out.pLt P1.out k q))
  have SP1d := Lib.hid (show SlPk w1.drew AP ps from SP1.out)
  go_region_held3 (fun w' => w'.cell? ⟨pp, 0, none⟩ = some (.pointer (some ⟨b, 0, none⟩)) ∧ w'.cell? ⟨q, 4, none⟩ = some (.slice AP PL cP))
    (first
      | go_keep
      | exact HC2.out
      | exact HC1.out)
    (first
      | (go_at_call 23; (with_reducible refine (CR.out _ P1d.out SP1d.out).mono ?_); rintro r w2 ⟨rfl, hp2, hk2⟩; have P2 := Lib.hid hp2; have K2 := Lib.hid (show Kept (fun k => N k ∨ k = q) w1 w2 from (Chg.refl _ w1).drew.then hk2); have RB2 := Lib.hid (K2.out.row RB.out (.inr rfl)); have S2 := Lib.hid (S1.out.keep K2.out); have HC2 := Lib.hid (show w2.cell? ⟨pp, 0, none⟩ = some (.pointer (some ⟨b, 0, none⟩)) ∧ w2.cell? ⟨q, 4, none⟩ = some (.slice AP PL cP) from ⟨RowAt.cell S2.out.c 0, RB2.out.cell 4⟩); clear hp2 hk2))
  have D1 := Lib.hid S2.out.d
  have N0 := Lib.hid S2.out.n
  have B2 := Lib.hid (K2.out.below (B := B) S1.out.all S1.out.size)
  have SP2 := Lib.hid (show SlPk w2.drew AP ps from SP1.out.belowB7 B2.out.drew HA.out)
  have R2d := Lib.hid (show RefE w2.drew p g m from ⟨S2.out.r.ne, S2.out.r.a, S2.out.r.b, S2.out.r.ok⟩)
  have HC3 := Lib.hid (show w2.cell? ⟨pp, 3, none⟩ = some (.pointer (some ⟨p, 0, none⟩)) ∧ w2.cell? ⟨q, 4, none⟩ = some (.slice AP PL cP) from ⟨RowAt.cell S2.out.c 3, HC2.out.2⟩)
  have d3 := HC3.out.1
  have d4 := HC3.out.2
  have QN := Lib.hid (show ∀ k, k = p ∨ k = g → N k ∨ k = q from fun k h => h.elim (fun e => by subst e; exact N0.out.2.1) (fun e => by subst e; exact N0.out.2.2.1))
  clear c0 c4
  go_wp2_with fail
  go_region_held3 (fun w' => w'.cell? ⟨pp, 3, none⟩ = some (.pointer (some ⟨p, 0, none⟩)) ∧ w'.cell? ⟨q, 4, none⟩ = some (.slice AP PL cP))
    (first
      | go_keep
      | exact HC4.out
      | exact HC3.out)
    (first
      | (go_at_call 31; (with_reducible refine (EC.out _ R2d.out SP2.out).mono ?_); rintro r w3 ⟨rfl, hr3, hc3⟩; have R3 := Lib.hid hr3; have K3 := Lib.hid (show Chg (fun k => k = p ∨ k = g) w2 w3 from (Chg.refl _ w2).drew.then hc3); have C3 := Lib.hid (show PairAt w3 pp b p _ _ _ _ from RowAt.keep S2.out.c K3.out (fun h => h.elim D1.out.1 D1.out.2.1)); have RB2 := Lib.hid (K2.out.row RB.out (.inr rfl)); have RB3 := Lib.hid (RowAt.keep RB2.out K3.out (fun h => h.elim QL.out.1 QL.out.2)); have HC4 := Lib.hid (show w3.cell? ⟨pp, 3, none⟩ = some (.pointer (some ⟨p, 0, none⟩)) ∧ w3.cell? ⟨q, 4, none⟩ = some (.slice AP PL cP) from ⟨RowAt.cell C3.out 3, RB3.out.cell 4⟩); clear hr3 hc3))
  have P3 := Lib.hid (X'.out.pKeep P2.out (fun k hk hn => K3.out.block k hk (fun h => hn (QN.out k h))) K3.out.size (fun _ q => .inl q) (fun k q => Nat.lt_of_lt_of_le (X'.out.pLt P2.out k q) K3.out.size))
  have a0 : w3.cell? ⟨pp, 0, none⟩ = some (.pointer (some ⟨b, 0, none⟩)) := RowAt.cell C3.out 0
  have LO := Lib.hid S2.out.lo
  have B3 := Lib.hid (B2.out.trans (K3.out.below (B := B) (fun k h => by have := LO.out; rcases h with h | h <;> omega) S2.out.size))
  clear d3 d4
  go_wp2_with fail
  refine (X'.out.start _ b _ w3 P3.out).mono ?_
  rintro r w4 ⟨rfl, hp4, hk4⟩
  have P4 := Lib.hid hp4
  have R4 := Lib.hid (R3.out.keep hk4 (fun h => h N0.out.2.1) (fun h => h N0.out.2.2.1))
  have C4 := Lib.hid (hk4.row C3.out N0.out.1)
  have B4 := Lib.hid (B3.out.trans (hk4.below (B := B) S1.out.all (Nat.le_trans S2.out.size K3.out.size)))
  have a3 : w4.cell? ⟨pp, 3, none⟩ = some (.pointer (some ⟨p, 0, none⟩)) := RowAt.cell C4.out 3
  have L4 := Lib.hid (show B ≤ w4.heap.size from Nat.le_trans (Nat.le_trans S2.out.size K3.out.size) hk4.size)
  clear a0 hp4 hk4
  go_wp2_with fail
  refine (eStart p g _ w4 R4.out).mono ?_
  rintro r w5 ⟨rfl, hr5, hc5⟩
  obtain ⟨m', hm'⟩ : ∃ m', m' = (m.crash ps).1.start.1 := ⟨_, rfl⟩
  have R5 := Lib.hid (show RefE w5 p g m' by rw [hm']; exact hr5)
  have P5 := Lib.hid (show P w5 (fun k => N k ∨ k = q) b m' by rw [hm']; exact X'.out.pKeep P4.out (fun k hk hn => hc5.block k hk (fun h => hn (QN.out k h))) hc5.size (fun _ q => .inl q) (fun k q => Nat.lt_of_lt_of_le (X'.out.pLt P4.out k q) hc5.size))
  have C5 := Lib.hid (show PairAt w5 pp b p _ _ _ _ from RowAt.keep C4.out hc5 (fun h => h.elim D1.out.1 D1.out.2.1))
  have B5 := Lib.hid (B4.out.trans (hc5.below (B := B) (fun k h => by have := LO.out; rcases h with h | h <;> omega) L4.out))
  have MM := Lib.hid (show m'.sec = S ∧ m'.ext = 4 ∧ m'.off = false by
    rw [hm']
    refine ⟨(crash_sec m ps).trans D.out.1, ?_, ?_⟩
    · rw [show (m.crash ps).1.start.1.ext = m.ext by unfold Ext.crash Ext.start; repeat' split; all_goals rfl]; exact D.out.2.1
    · unfold Ext.crash Ext.start; rw [D.out.2.2]; rfl)
  have OP := Lib.hid (pOpen X'.out _ pp b p g m' _ _ _ _ w5 P5.out ⟨N0.out.1, N0.out.2.1, N0.out.2.2.1⟩ R5.out ⟨D1.out.1, D1.out.2.1⟩ C5.out MM.out.2.2 (by rw [MM.out.2.1]; omega))
  have L5 := Lib.hid (show B ≤ w5.heap.size from Nat.le_trans L4.out hc5.size)
  have GO := Lib.hid (show GOk S (openP (nowC m' 1) (nowC m' 2) m'.sec 1).1 none by rw [MM.out.1]; exact GOk.open_ hS.1 hS.2 (by omega))
  clear hr5 hc5 a3 hm'
  go_wp2_with fail
  refine OP.out.mono ?_
  rintro r w6 ⟨rfl, bl', pl', ho⟩
  have HO := Lib.hid ho
  clear ho
  go_wp2_with fail
  go_ret
  obtain ⟨M, hM, hMl, hQ⟩ := HO.out.q
  have lp := R5.out.a.lt
  have lg := R5.out.b.lt
  have lpp := RowAt.lt C5.out
  have lpl := HO.out.n
  have lo := LO.out
  have nn := N0.out
  have dd := D1.out
  refine ⟨by first | rfl | simp, ⟨M, bl', none, m', (openP (nowC m' 1) (nowC m' 2) m'.sec 1).1, none, pl', none, hQ, ⟨HO.out.r, HO.out.l, HO.out.c, fun z ez => (by cases ez), fun _ => rfl, ⟨hM _ nn.1, hM _ nn.2.1, hM _ nn.2.2.1, hMl⟩, ⟨dd.1, dd.2.1, by omega, by omega, by omega⟩, ⟨lo.1, lo.2.1, lo.2.2.1, by have := L5.out; omega⟩, fun k hk => hM k (S1.out.all k hk)⟩, ⟨fun _ => rfl, fun _ => rfl⟩, GO.out, MM.out.1, MM.out.2.1, MM.out.2.2⟩,
    BW.out.trans (B5.out.trans (HO.out.k.below (B := B) (fun k h => by
      rcases h with h | h
      · exact Nat.le_of_not_lt (fun hl => h (S1.out.all k hl))
      · omega) L5.out))⟩

end Go.Proofs.YtfodclafkdkjbaaDoor
