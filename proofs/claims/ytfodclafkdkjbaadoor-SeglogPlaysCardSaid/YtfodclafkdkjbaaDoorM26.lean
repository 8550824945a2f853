/- Proved parts: S7y S7o S7sa. Conditions: each theorem's own. -/
import Derived.Test.YtfodclafkdkjbaaDoorM20
import Derived.Test.YtfodclafkdkjbaaDoorM21
import Derived.Test.YtfodclafkdkjbaaDoorM22
import Derived.Test.YtfodclafkdkjbaaDoorM23
import Derived.Test.YtfodclafkdkjbaaDoorM24
import Derived.Test.YtfodclafkdkjbaaDoorM25
namespace Go.Proofs.YtfodclafkdkjbaaDoor
open Go.RowKit

/-- a log and its writer that may go on -/
structure MvOk (S : Nat) (l : Lg) (x : Wr) : Prop where
  f : l.first ≤ 100
  a : l.at_ ≤ 100
  u : l.used ≤ 1000
  g0 : 0 ≤ l.gen
  g1 : l.gen ≤ 2147483647
  n : x.parts.length ≤ 1000
  k : x.moves ≤ x.parts.length + 2
  may : x.moves < x.parts.length → May S (l.gn x.base) (l.fr x.base) l.life x.parts
/-- cloisonneref07.Move -/
theorem rMove (p g pl px gp S : Nat) (m : Ext) (l : Lg) (x : Wr) (w : World) (h : RefE w p g m) (hl : RefL w pl p l) (hx : RefW w px gp pl x) (ap : Apart p g pl px gp) (ok : MvOk S l x) :
    Calls Tryd.prog 30 #[.pointer (some ⟨px, 0, none⟩)] w (MvPost p g pl px gp (Go.Proofs.YtfodclafkdkjbaaDoor.move m l x) w) := by
  by_cases hk : x.moves = x.parts.length + 2
  · exact rMove_end p g pl px gp m l x w h hl hx hk ok.n
  obtain ⟨cp, hr, ho⟩ := hx.row
  have bd : l.first ≤ 100 ∧ l.at_ ≤ 100 ∧ l.used ≤ 1000 ∧ 0 ≤ l.gen ∧ l.gen ≤ 2147483647 ∧ x.parts.length ≤ 1000 := ⟨ok.f, ok.a, ok.u, ok.g0, ok.g1, ok.n⟩
  have k := ok.k
  have may := ok.may
  obtain ⟨lf, la, lg, lu, ll, lb⟩ := l
  obtain ⟨b, LZ, kk⟩ := x
  simp only at bd hk k may
  rcases (show kk < LZ.length ∨ kk = LZ.length ∨ kk = LZ.length + 1 by omega) with q | q | q
  all_goals
    cases b with
    | false =>
      have hM : kk < LZ.length → (⟨lg, (lu + kk : Nat), ll, kk, LZ.length⟩ : Stp).ok = true ∧ (LZ.getD kk ⟨#[]⟩).size ≤ 50 := fun z => ⟨(may z).stamp z, (may z).small kk z⟩
      first | exact rMove_a1 p g pl px gp cp m lf la lu kk lg ll lb LZ w h hl hr ho ap bd q hM | exact rMove_a2 p g pl px gp cp m lf la lu kk lg ll lb LZ w h hl hr ho ap bd q hM | exact rMove_a3 p g pl px gp cp m lf la lu kk lg ll lb LZ w h hl hr ho ap bd q hM
    | true =>
      have hM : kk < LZ.length → (⟨lg + 1, (0 + kk : Nat), ll, kk, LZ.length⟩ : Stp).ok = true ∧ (LZ.getD kk ⟨#[]⟩).size ≤ 50 := fun z => ⟨(may z).stamp z, (may z).small kk z⟩
      by_cases hat : la = lf
      · first | exact rMove_b1 p g pl px gp cp m lf la lu kk lg ll lb LZ w hat h hl hr ho ap bd q hM | exact rMove_b2 p g pl px gp cp m lf la lu kk lg ll lb LZ w hat h hl hr ho ap bd q hM | exact rMove_b3 p g pl px gp cp m lf la lu kk lg ll lb LZ w hat h hl hr ho ap bd q hM
      · first | exact rMove_c1 p g pl px gp cp m lf la lu kk lg ll lb LZ w hat h hl hr ho ap bd q hM | exact rMove_c2 p g pl px gp cp m lf la lu kk lg ll lb LZ w hat h hl hr ho ap bd q hM | exact rMove_c3 p g pl px gp cp m lf la lu kk lg ll lb LZ w hat h hl hr ho ap bd q hM

end Go.Proofs.YtfodclafkdkjbaaDoor

namespace Go.Proofs.YtfodclafkdkjbaaDoor
open Go.RowKit

/-- at b lies the program's world m; the blocks of N are none of its -/
abbrev RelP := World → (Nat → Prop) → Nat → Ext → Prop
/-- .. and at bl a log of it, at bx the writer of that log -/
abbrev RelQ := World → (Nat → Prop) → Nat → Nat → Option Nat → Ext → Lg → Option Wr → Prop
/-- the blocks of N are as they were -/
def Kept (N : Nat → Prop) (w w' : World) : Prop := Chg (fun k => ¬ N k) w w'
theorem Kept.refl (N : Nat → Prop) (w : World) : Kept N w w := Chg.refl _ w
theorem Kept.then {N : Nat → Prop} {a b c : World} (h : Kept N a b) (k : Kept N b c) : Kept N a c := Chg.then h k
theorem Kept.of_below {N : Nat → Prop} {a b : World} (h : Below a.heap.size a b) : Kept N a b := Chg.of_below h
theorem Kept.block {N : Nat → Prop} {a b : World} (h : Kept N a b) {k : Nat} (hk : N k) (hl : k < a.heap.size) : b.heap[k]? = a.heap[k]? := Chg.block h k hl (fun e => e hk)
theorem Kept.below {N : Nat → Prop} {a b : World} {B : Nat} (h : Kept N a b) (hB : ∀ k, k < B → N k) (hl : B ≤ a.heap.size) : Below B a b := ⟨h.os, h.tape, h.output, h.size, fun k hk => h.block (hB k hk) (by omega)⟩
theorem Kept.row {N : Nat → Prop} {a b : World} (h : Kept N a b) {g : Nat} {cs : List Value} {t : TypeId} (hr : RowAt a g cs t) (hg : N g) : RowAt b g cs t := RowAt.keep hr h (fun e => e hg)
def Wr.okFor (m : Ext) (l : Lg) : Option Wr → Prop
  | none => True
  | some x => MvOk m.sec l x
/-- what the program's seglog does -/
structure SegAt (P : RelP) (Q : RelQ) : Prop where
  pKeep : ∀ {w w' : World} {N M : Nat → Prop} {b : Nat} {m : Ext}, P w N b m → (∀ k, k < w.heap.size → ¬ N k → w'.heap[k]? = w.heap[k]?) → w.heap.size ≤ w'.heap.size → (∀ k, M k → N k ∨ w.heap.size ≤ k) → (∀ k, M k → k < w'.heap.size) → P w' M b m
  /-- N's blocks are there -/
  pLt : ∀ {w : World} {N : Nat → Prop} {b : Nat} {m : Ext}, P w N b m → ∀ k, N k → k < w.heap.size
  qKeep : ∀ {w w' : World} {N M : Nat → Prop} {b bl : Nat} {bx : Option Nat} {m : Ext} {l : Lg} {ox : Option Wr}, Q w N b bl bx m l ox → (∀ k, k < w.heap.size → ¬ N k → w'.heap[k]? = w.heap[k]?) → w.heap.size ≤ w'.heap.size → (∀ k, M k → N k ∨ w.heap.size ≤ k) → (∀ k, M k → k < w'.heap.size) → Q w' M b bl bx m l ox
  pOk : ∀ {w : World} {N : Nat → Prop} {b : Nat} {m : Ext}, P w N b m → m.Ok ∧ m.Small
  qP : ∀ {w : World} {N : Nat → Prop} {b bl : Nat} {bx : Option Nat} {m : Ext} {l : Lg} {ox : Option Wr}, Q w N b bl bx m l ox → P w N b m
  /-- what turns the world alone leaves the log -/
  qWorld : ∀ {w : World} {N : Nat → Prop} {b bl : Nat} {bx : Option Nat} {m : Ext} {l : Lg} {ox : Option Wr}, Q w N b bl bx m l ox → ∃ N2 : Nat → Prop, P w N2 b m ∧ (∀ k, N k → N2 k) ∧ ∀ w' m', Kept N2 w w' → P w' N2 b m' → m'.sec = m.sec → Q w' N b bl bx m' l ox
  new : ∀ (e s : Int) (w : World), In64 e → In64 s → Calls Tryd.prog 8 #[.int .i64 e, .int .i64 s] w fun x w' => Below w.heap.size w w' ∧
    ((Ext.fits e s = true ∧ ∃ b, x = .returned (.tuple #[.pointer (some ⟨b, 0, none⟩), .int .i64 0]) ∧ P w' (fun k => k < w.heap.size) b (Ext.new e.toNat s.toNat)) ∨
      (Ext.fits e s = false ∧ x = .returned (.tuple #[.pointer none, .int .i64 1])))
  read : ∀ (N : Nat → Prop) (b : Nat) (m : Ext) (e a : Int) (w : World), P w N b m → In64 e → In64 a →
    Calls Tryd.prog 17 #[.pointer (some ⟨b, 0, none⟩), .int .i64 e, .int .i64 a] w fun x w' => x = .returned (.tuple #[.string (m.read e a).1, .int .i64 (m.read e a).2]) ∧ P w' N b m ∧ Kept N w w'
  crash : ∀ (N : Nat → Prop) (b : Nat) (m : Ext) (A : Option Addr) (c : Nat) (ps : List (Int × Int)) (w : World), P w N b m → SlPk w A ps → (0 < ps.length → ∀ g o, A = some ⟨g, o, none⟩ → N g) → PkOk ps → (A = none → ps = [] ∧ c = 0) →
    Calls Tryd.prog 23 #[.pointer (some ⟨b, 0, none⟩), .slice A ps.length c] w fun x w' => x = .returned (.int .i64 (m.crash ps).2) ∧ P w' N b (m.crash ps).1 ∧ Kept N w w'
  start : ∀ (N : Nat → Prop) (b : Nat) (m : Ext) (w : World), P w N b m →
    Calls Tryd.prog 24 #[.pointer (some ⟨b, 0, none⟩)] w fun x w' => x = .returned (.int .i64 m.start.2) ∧ P w' N b m.start.1 ∧ Kept N w w'
  lay : ∀ (N : Nat → Prop) (b : Nat) (m : Ext) (e a : Int) (s : ByteArray) (w : World), P w N b m → In64 e → In64 a → s.size ≤ 9223372036854775807 →
    Calls Tryd.prog 26 #[.pointer (some ⟨b, 0, none⟩), .int .i64 e, .int .i64 a, .string s] w fun x w' => x = .returned (.int .i64 (m.lay e a s).2) ∧ P w' N b (m.lay e a s).1 ∧ Kept N w w'
  openNil : ∀ (f : Int) (w : World), In64 f → Calls Tryd.prog 19 #[.pointer none, .int .i64 f] w fun x w' => (∃ v, x = .returned (.tuple #[.pointer none, v, .int .i64 2]) ∧ OwnS w' w.heap.size v []) ∧ Below w.heap.size w w'
  openNo : ∀ (N : Nat → Prop) (b : Nat) (m : Ext) (f : Int) (w : World), P w N b m → In64 f → (m.off = true ∨ ¬ (0 ≤ f ∧ f + 1 < m.ext)) → Calls Tryd.prog 19 #[.pointer (some ⟨b, 0, none⟩), .int .i64 f] w fun x w' =>
    (∃ v, x = .returned (.tuple #[.pointer none, v, .int .i64 (if m.off then 6 else 1)]) ∧ OwnS w' w.heap.size v []) ∧ P w' N b m ∧ Kept N w w'
  openYes : ∀ (N : Nat → Prop) (b : Nat) (m : Ext) (f : Nat) (w : World), P w N b m → m.off = false → f + 1 < m.ext → Calls Tryd.prog 19 #[.pointer (some ⟨b, 0, none⟩), .int .i64 (f : Int)] w fun x w' =>
    (∃ bl v, x = .returned (.tuple #[.pointer (some ⟨bl, 0, none⟩), v, .int .i64 0]) ∧ OwnS w' w.heap.size v (openP (nowC m f) (nowC m (f + 1)) m.sec f).2 ∧
      Q w' (fun k => N k ∨ v.ownBlock = some k) b bl none m (openP (nowC m f) (nowC m (f + 1)) m.sec f).1 none) ∧ Kept N w w'
  used : ∀ (N : Nat → Prop) (b bl : Nat) (bx : Option Nat) (m : Ext) (l : Lg) (ox : Option Wr) (w : World), Q w N b bl bx m l ox → Calls Tryd.prog 12 #[.pointer (some ⟨bl, 0, none⟩)] w fun x w' => x = .returned (.int .i64 (l.used : Int)) ∧ Q w' N b bl bx m l ox ∧ Kept N w w'
  usedNil : ∀ (w : World), Calls Tryd.prog 12 #[.pointer none] w fun x w' => x = .returned (.int .i64 0) ∧ Below w.heap.size w w'
  gen : ∀ (N : Nat → Prop) (b bl : Nat) (bx : Option Nat) (m : Ext) (l : Lg) (ox : Option Wr) (w : World), Q w N b bl bx m l ox → Calls Tryd.prog 13 #[.pointer (some ⟨bl, 0, none⟩)] w fun x w' => x = .returned (.int .i64 l.gen) ∧ Q w' N b bl bx m l ox ∧ Kept N w w'
  genNil : ∀ (w : World), Calls Tryd.prog 13 #[.pointer none] w fun x w' => x = .returned (.int .i64 0) ∧ Below w.heap.size w w'
  busy : ∀ (N : Nat → Prop) (b bl : Nat) (bx : Option Nat) (m : Ext) (l : Lg) (ox : Option Wr) (w : World), Q w N b bl bx m l ox → Calls Tryd.prog 14 #[.pointer (some ⟨bl, 0, none⟩)] w fun x w' => x = .returned (.bool l.busy) ∧ Q w' N b bl bx m l ox ∧ Kept N w w'
  busyNil : ∀ (w : World), Calls Tryd.prog 14 #[.pointer none] w fun x w' => x = .returned (.bool false) ∧ Below w.heap.size w w'
  room : ∀ (N : Nat → Prop) (b bl : Nat) (bx : Option Nat) (m : Ext) (l : Lg) (ox : Option Wr) (n : Int) (w : World), Q w N b bl bx m l ox → In64 n → Calls Tryd.prog 16 #[.pointer (some ⟨bl, 0, none⟩), .int .i64 n] w fun x w' =>
    x = .returned (.bool (decide (0 < l.gen) && decide (0 ≤ n) && decide ((l.used : Int) + cnt n ≤ m.sec))) ∧ Q w' N b bl bx m l ox ∧ Kept N w w'
  roomNil : ∀ (n : Int) (w : World), In64 n → Calls Tryd.prog 16 #[.pointer none, .int .i64 n] w fun x w' => x = .returned (.bool false) ∧ Below w.heap.size w w'
  record : ∀ (N : Nat → Prop) (b bl : Nat) (bx : Option Nat) (m : Ext) (l : Lg) (ox : Option Wr) (s : ByteArray) (w : World), Q w N b bl bx m l ox → s.size ≤ 5000 → Calls Tryd.prog 20 #[.pointer (some ⟨bl, 0, none⟩), .string s] w fun x w' =>
    (match (l.write m.sec s false).2.1 with
      | none => x = .returned (.tuple #[.pointer none, .int .i64 (l.write m.sec s false).2.2]) ∧ Q w' N b bl bx m l ox
      | some y => ∃ px, x = .returned (.tuple #[.pointer (some ⟨px, 0, none⟩), .int .i64 0]) ∧ Q w' N b bl (some px) m (l.write m.sec s false).1 (some y)) ∧ Kept N w w'
  recordNil : ∀ (s : ByteArray) (w : World), s.size ≤ 5000 → Calls Tryd.prog 20 #[.pointer none, .string s] w fun x w' => x = .returned (.tuple #[.pointer none, .int .i64 2]) ∧ Below w.heap.size w w'
  base : ∀ (N : Nat → Prop) (b bl : Nat) (bx : Option Nat) (m : Ext) (l : Lg) (ox : Option Wr) (s : ByteArray) (w : World), Q w N b bl bx m l ox → s.size ≤ 5000 → Calls Tryd.prog 21 #[.pointer (some ⟨bl, 0, none⟩), .string s] w fun x w' =>
    (match (l.write m.sec s true).2.1 with
      | none => x = .returned (.tuple #[.pointer none, .int .i64 (l.write m.sec s true).2.2]) ∧ Q w' N b bl bx m l ox
      | some y => ∃ px, x = .returned (.tuple #[.pointer (some ⟨px, 0, none⟩), .int .i64 0]) ∧ Q w' N b bl (some px) m (l.write m.sec s true).1 (some y)) ∧ Kept N w w'
  baseNil : ∀ (s : ByteArray) (w : World), s.size ≤ 5000 → Calls Tryd.prog 21 #[.pointer none, .string s] w fun x w' => x = .returned (.tuple #[.pointer none, .int .i64 2]) ∧ Below w.heap.size w w'
  move : ∀ (N : Nat → Prop) (b bl px : Nat) (m : Ext) (l : Lg) (y : Wr) (w : World), Q w N b bl (some px) m l (some y) → MvOk m.sec l y → Calls Tryd.prog 22 #[.pointer (some ⟨px, 0, none⟩)] w fun x w' =>
    x = .returned (.tuple #[.int .i64 (Go.Proofs.YtfodclafkdkjbaaDoor.move m l y).2.2.2.1, .int .i64 (Go.Proofs.YtfodclafkdkjbaaDoor.move m l y).2.2.2.2]) ∧ Q w' N b bl (some px) (Go.Proofs.YtfodclafkdkjbaaDoor.move m l y).1 (Go.Proofs.YtfodclafkdkjbaaDoor.move m l y).2.1 (some (Go.Proofs.YtfodclafkdkjbaaDoor.move m l y).2.2.1) ∧ Kept N w w'
  moveNil : ∀ (w : World), Calls Tryd.prog 22 #[.pointer none] w fun x w' => x = .returned (.tuple #[.int .i64 0, .int .i64 2]) ∧ Below w.heap.size w w'

theorem SegAt.qLt {P : RelP} {Q : RelQ} (X : SegAt P Q) {w : World} {N : Nat → Prop} {b bl : Nat} {bx : Option Nat} {m : Ext} {l : Lg} {ox : Option Wr} (h : Q w N b bl bx m l ox) : ∀ k, N k → k < w.heap.size := X.pLt (X.qP h)

end Go.Proofs.YtfodclafkdkjbaaDoor

namespace Go.Proofs.YtfodclafkdkjbaaDoor
open Go.RowKit

/-- the slice at A reads as zs -/
def SlS (w : World) (A : Option Addr) (zs : List ByteArray) : Prop :=
  0 < zs.length → ∃ b o, A = some ⟨b, o, none⟩ ∧ b < w.heap.size ∧ ∀ j, j < zs.length → w.cell? ⟨b, o + j, none⟩ = some (.string (zs.getD j ⟨#[]⟩))
theorem SlS.drewN {w : World} {A : Option Addr} {zs : List ByteArray} (h : SlS w A zs) (n : Nat) : SlS (w.drewN n) A zs := h
theorem SlS.below {w w' : World} {A : Option Addr} {zs : List ByteArray} (h : SlS w A zs) (hb : Below w.heap.size w w') : SlS w' A zs := fun hn => by
  obtain ⟨b, o, e, hlt, hc⟩ := h hn
  exact ⟨b, o, e, Nat.lt_of_lt_of_le hlt hb.size, fun j hj => (hb.cell (p := ⟨b, o + j, none⟩) hlt).trans (hc j hj)⟩
/-- a row of the call's own reads so too -/
theorem OwnS.sl {w : World} {B : Nat} {v : Value} {zs : List ByteArray} (h : OwnS w B v zs) : ∃ A c, v = .slice A zs.length c ∧ SlS w A zs := by
  obtain ⟨A, c, e, hj⟩ := h.form
  refine ⟨A, c, e, fun hn => ?_⟩
  obtain ⟨g, rfl, hc⟩ := hj 0 hn
  refine ⟨g, 0, rfl, World.block_lt_of_cell? w _ hc, fun j hj' => ?_⟩
  obtain ⟨g', e', hc'⟩ := hj j hj'
  injection e' with e'
  injection e' with e' _ _
  rw [Nat.zero_add, e']; exact hc'
theorem lists_eq {xs ys : List ByteArray} (h : xs.length = ys.length) (hj : ∀ j, j < xs.length → xs.getD j ⟨#[]⟩ = ys.getD j ⟨#[]⟩) : xs = ys := by
  apply List.ext_getElem h
  intro j h1 h2
  have := hj j h1
  rwa [List.getD_eq_getElem?_getD, List.getD_eq_getElem?_getD, List.getElem?_eq_getElem h1, List.getElem?_eq_getElem h2] at this

set_option maxRecDepth 100000 in
set_option maxHeartbeats 1000000 in
/-- cloisonnelaw07.Same -/
theorem same7 (A1 A2 : Option Addr) (c1 c2 : Nat) (xs ys : List ByteArray) (w : World) (hx : SlS w A1 xs) (hy : SlS w A2 ys) (l1 : xs.length ≤ 1000000) (l2 : ys.length ≤ 1000000) :
    Calls Tryd.prog 25 #[.slice A1 xs.length c1, .slice A2 ys.length c2] w fun e w' => e = .returned (.bool (decide (xs = ys))) ∧ Below w.heap.size w w' := by
  obtain ⟨n1, hn1⟩ : ∃ n, n = xs.length := ⟨_, rfl⟩
  obtain ⟨n2, hn2⟩ : ∃ n, n = ys.length := ⟨_, rfl⟩
  rw [← hn1] at l1 ⊢
  rw [← hn2] at l2 ⊢
  have B0 := Lib.hid (Below.refl w.heap.size w)
  by_cases hl : n1 = n2
  case neg =>
    have R := Lib.hid (show decide (xs = ys) = false from decide_eq_false fun e => hl (by rw [hn1, hn2, e]))
    have T : ((n1 : Int) != (n2 : Int)) = true := by rw [bne_iff_ne]; omega
    have T2 : (n1 != n2) = true := by rw [bne_iff_ne]; exact hl
    clear hn1 hn2 hl hx hy
    go_enter Tryd.func25, Tryd.ntmps25
    go_wp2_with fail
    go_ret
    exact ⟨ret_bool R.out.symm, B0.out⟩
  subst hl
  have HX := Lib.hid hx
  have HY := Lib.hid hy
  have N1 := Lib.hid hn1
  have N2 := Lib.hid hn2
  clear hx hy hn1 hn2
  go_enter Tryd.func25, Tryd.ntmps25
  go_wp2_with fail
  go_loopw [5] (fun v wr => ∃ k : Nat, k ≤ n1 ∧ v = .int .i64 k ∧ Hid (∀ j, j < k → xs.getD j ⟨#[]⟩ = ys.getD j ⟨#[]⟩) ∧ ∃ n, wr = w.drewN n) (fun v _ => n1 - (intOf v).toNat)
  case atStart => exact ⟨0, Nat.zero_le _, rfl, Lib.hid (fun j hj => absurd hj (by omega)), 0, rfl⟩
  case round =>
    obtain ⟨k, hk, rfl, HE, m, rfl⟩ := hrel
    obtain ⟨wo, hwo⟩ : ∃ wo, wo = w.drewN m := ⟨_, rfl⟩
    have HX2 := Lib.hid (HX.out.drewN m)
    have HY2 := Lib.hid (HY.out.drewN m)
    have BO := Lib.hid (show Below w.heap.size w wo by rw [hwo]; exact below_drewN B0.out m)
    rw [← hwo] at HX2 HY2 ⊢
    have HWO := Lib.hid hwo
    clear hwo
    by_cases kk : k < n1
    · obtain ⟨b1, o1, rfl, _, hc1⟩ := HX2.out (by rw [← N1.out]; omega)
      obtain ⟨b2, o2, rfl, _, hc2⟩ := HY2.out (by rw [← N2.out]; omega)
      have q1 := hc1 k (by rw [← N1.out]; exact kk)
      have q2 := hc2 k (by rw [← N2.out]; exact kk)
      clear hc1 hc2
      obtain ⟨a, ha⟩ : ∃ a, a = xs.getD k ⟨#[]⟩ := ⟨_, rfl⟩
      obtain ⟨b, hb⟩ : ∃ b, b = ys.getD k ⟨#[]⟩ := ⟨_, rfl⟩
      rw [← ha] at q1
      rw [← hb] at q2
      by_cases ab : a = b
      · have NE := Lib.hid (show ∀ j, j < k + 1 → xs.getD j ⟨#[]⟩ = ys.getD j ⟨#[]⟩ from fun j hj => by
          rcases (show j < k ∨ j = k by omega) with q | q
          · exact HE.out j q
          · subst q; rw [← ha, ← hb, ab])
        subst ab
        have T : (a.toList == a.toList) = true := beq_self_eq_true _
        clear ha hb
        go_wp2_with fail
        go_quiet (fail)
        go_wp2_with fail
        go_roundw
        case rel => exact ⟨k + 1, by omega, by go_num, NE, m + nq, by rw [HWO.out, World.drewN_drewN]⟩
        case measure => simp [intOf]; omega
      · have R := Lib.hid (show decide (xs = ys) = false from decide_eq_false fun e => ab (by rw [ha, hb, e]))
        have T : (a.toList == b.toList) = false := str_ne ab
        clear ha hb ab
        go_wp2_with fail
        go_quiet (fail)
        go_wp2_with fail
        show bodyPost Tryd.prog Tryd.f25 _ .ret _ _
        go_ret
        exact ⟨ret_bool R.out.symm, below_drewN BO.out _⟩
    · obtain rfl : k = n1 := by omega
      have R := Lib.hid (show decide (xs = ys) = true from decide_eq_true (lists_eq (by rw [← N1.out, ← N2.out]) (fun j hj => HE.out j (by rw [N1.out]; exact hj))))
      go_wp2_with fail
      show bodyPost Tryd.prog Tryd.f25 _ .ret _ _
      go_ret
      exact ⟨ret_bool R.out.symm, BO.out⟩

end Go.Proofs.YtfodclafkdkjbaaDoor
