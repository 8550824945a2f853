/- Proved parts: S7ap S7lb. Conditions: each theorem's own. -/
import Derived.Test.YtfodclafkdkjbaaDoorM47
import Derived.Deep.RegionHeldLaw
import Derived.Maps.AppendAt
import Derived.Laws.OwnMore
import Derived.Test.YtfodclafkdkjbaaDoorM35
namespace Go.Proofs.YtfodclafkdkjbaaDoor
open Go.ChangeShapes Go.WideShapes Go.ChangeAt Go.RowKit

set_option maxRecDepth 100000 in
/-- append(v, ys...) where v is a row of the call's own -/
theorem step_appS {ops : Array Oper} {o : Oper} {a : Act} {w : World} {K : Act → World → Prop} {Q : Exit → Act → World → Prop} {E : Prop}
    (hg : o.guard = none) (s x : Operand) (hop : o.op = .call { callee := .builtin .append, args := #[s, x], argTypes := #[45, 45] })
    (B : Nat) (v : Value) (zs ys : List ByteArray) (hs : a.eval s = v) (hown : OwnS w B v zs) (A : Option Addr) (c : Nat) (hx : a.eval x = .slice A ys.length c) (hsl : SlS w A ys)
    (hl : zs.length + ys.length ≤ 1000000) (hB : B ≤ w.heap.size)
    (hK : ∀ v' w', OwnS w' B v' (zs ++ ys) → w.grownBy w' v.ownBlock → Below B w w' → K (a.put o.dst v') w') :
    if Region.wanted o (yielded ops a.tmps) = true then Oper.wp Tryd.prog o a w K Q else E := by
  have hw : Region.wanted o (yielded ops a.tmps) = true := by simp [Region.wanted, hg]
  rw [if_pos hw]
  obtain ⟨i0, hi, hz0, hz1, hz2⟩ := info_parts infoStr
  have key : ∃ v' w', (Builtin.append_ #[45, 45] o.type #[v, .slice A ys.length c]).run Tryd.prog w = .ok v' w' ∧ OwnS w' B v' (zs ++ ys) ∧ w.grownBy w' v.ownBlock ∧ Below B w w' := by
    cases A with
    | none =>
      have h0 : ys = [] := by
        cases ys with
        | nil => rfl
        | cons y l =>
          obtain ⟨_, _, e, _⟩ := hsl (by simp)
          cases e
      subst h0
      refine ⟨v, w, ?_, by rw [List.append_nil]; exact hown, ⟨rfl, rfl, rfl, Nat.le_refl _, fun _ _ _ => rfl⟩, Below.refl _ _⟩
      have hown' := hown
      rcases hown'.2 with ⟨rfl, _⟩ | ⟨g, cap, cur, rfl, _, _, hnc, _⟩
      · rw [show ([] : List ByteArray).length = 0 from rfl]
        simp [Builtin.append_, run_underlying Tryd.underlying45, sizeOf, typeInfo, hi, Builtin.lenOf, Builtin.firstCells]
      · rw [show ([] : List ByteArray).length = 0 from rfl]
        simp [Builtin.append_, run_underlying Tryd.underlying45, sizeOf, typeInfo, hi, Builtin.lenOf, Builtin.firstCells, hnc, storeCells]
    | some ad =>
      obtain ⟨v', w', hr, h2, h3, _, _⟩ := run_append_own_at (P := Tryd.prog) w B 45 o.type 9 i0 _ 1 16 Tryd.underlying45 hi hz0 hz1 hz2 rfl (by decide) v zs.length _ hown ad ys.length c (ys.map Value.string) (by simp)
        (fun j u hj => by
          rw [List.getElem?_map] at hj
          obtain ⟨y, hy, rfl⟩ := Option.map_eq_some_iff.1 hj
          have hjl := (List.getElem?_eq_some_iff.1 hy).1
          obtain ⟨b, o', e, hlt, hc⟩ := hsl (by omega)
          injection e with e
          subst e
          have := hc j hjl
          rw [List.getD_eq_getElem?_getD, hy] at this
          rw [add_plain]; exact this) (fun u hu => by
          obtain ⟨y, _, rfl⟩ := List.mem_map.1 hu
          rfl) (by unfold maxLen; omega) (by omega) hB
      refine ⟨v', w', hr, ?_, h3, (Below.refl _ _).grown h3 hB (fun k hk => (hown.lt k hk).1)⟩
      unfold OwnS
      simpa using h2
  obtain ⟨v', w', hr, h2, h4, h3⟩ := key
  unfold Oper.wp execOp
  simp only [hop, resolve, invoke, builtin, Sem.run_bind, Sem.run_pure, Result.andThen_ok, List.map_toArray, List.map_cons, List.map_nil, hs, hx, hr]
  exact hK _ _ h2 h4 h3

theorem slS_one (w : World) (y : ByteArray) (t : TypeId) : SlS (w.alloc (.cells #[.string y] t)) (some ⟨w.heap.size, 0, none⟩) [y] := fun _ =>
  ⟨w.heap.size, 0, rfl, by simp, fun j hj => by
    obtain rfl : j = 0 := by simpa using hj
    exact cell_new1 w (.string y) t⟩
theorem SlS.alloc {w : World} {A : Option Addr} {zs : List ByteArray} (h : SlS w A zs) (o : Obj) : SlS (w.alloc o) A zs := h.below ((Below.refl _ _).alloc (Nat.le_refl _) o)
theorem SlS.grown {w w' : World} {A : Option Addr} {zs : List ByteArray} {r : Option Nat} (h : SlS w A zs) (g : w.grownBy w' r) (hn : ∀ b o, A = some ⟨b, o, none⟩ → r ≠ some b) : SlS w' A zs := fun h0 => by
  obtain ⟨b, o, e, hlt, hc⟩ := h h0
  exact ⟨b, o, e, Nat.lt_of_lt_of_le hlt g.size, fun j hj => (World.cell?_of_block (w := w) (a := ⟨b, o + j, none⟩) (g.block b hlt (fun q => hn b o e q.symm))).trans (hc j hj)⟩
theorem slS_grown_ne {w w' : World} {g r : Nat} {zs : List ByteArray} (h : SlS w (some ⟨g, 0, none⟩) zs) (gr : w.grownBy w' (some r)) (hn : r ≠ g) : SlS w' (some ⟨g, 0, none⟩) zs :=
  h.grown gr (fun b o e q => by
    injection e with e
    injection e with e
    injection q with q
    exact hn (q.trans e.symm))
theorem OwnS.madeAt {B n : Nat} (w : World) (hB : B ≤ w.heap.size) (hn : n = w.heap.size) : OwnS (w.alloc (.cells #[] 9)) B (.slice (some ⟨n, 0, none⟩) 0 0) [] := by
  subst hn
  exact OwnS.made w hB
theorem OwnS.one {B : Nat} (w : World) (y : ByteArray) (hB : B ≤ w.heap.size) : OwnS (w.alloc (.cells #[.string y] 9)) B (.slice (some ⟨w.heap.size, 0, none⟩) 1 1) [y] :=
  ⟨by simp, .inr ⟨w.heap.size, 1, #[.string y], rfl, hB, heap_alloc_new w _, Nat.le_refl _, by unfold maxLen; omega, by simp, by simp⟩⟩

end Go.Proofs.YtfodclafkdkjbaaDoor

namespace Go.Proofs.YtfodclafkdkjbaaDoor
open Go.RowKit

/-- one act of a list -/
theorem elem_at7 {B : Nat} {w : World} {A : Option Addr} {xs : List Act7} {k : Nat} (h : SlAc7 B w A xs) (hok : AcsOk7 xs) (hk : k < xs.length) :
    ∃ (bA oA : Nat) (xk : Int) (xs' : ByteArray) (xe xa : Int) (ps : List (Int × Int)) (PL : Nat) (AP : Option Addr) (cP : Nat), A = some ⟨bA, oA, none⟩ ∧ xs.getD k Ac07 = ⟨xk, xs', xe, xa, ps⟩ ∧ Act7.Ok ⟨xk, xs', xe, xa, ps⟩ ∧ PL = ps.length ∧
      (∀ v, Below B w v → v.cell? ⟨bA, oA + k * 5, none⟩ = some (.int .i64 xk) ∧ v.cell? ⟨bA, oA + k * 5 + 1, none⟩ = some (.string xs') ∧ v.cell? ⟨bA, oA + k * 5 + 2, none⟩ = some (.int .i64 xe) ∧
        v.cell? ⟨bA, oA + k * 5 + 3, none⟩ = some (.int .i64 xa) ∧ v.cell? ⟨bA, oA + k * 5 + 4, none⟩ = some (.slice AP PL cP) ∧ SlPk v AP ps) ∧
      (AP = none → ps = [] ∧ cP = 0) ∧ (0 < ps.length → ∀ q o, AP = some ⟨q, o, none⟩ → q < B) := by
  obtain ⟨bA, oA, e, hB, hj⟩ := h (by omega)
  obtain ⟨AP, cP, h0, h1, h2, h3, h4, sp, hn, hq⟩ := hj k hk
  have hx : (xs.getD k Ac07).Ok := hok.2 _ (by rw [List.getD_eq_getElem?_getD, List.getElem?_eq_getElem hk]; exact List.getElem_mem hk)
  obtain ⟨y, hy⟩ : ∃ y, xs.getD k Ac07 = y := ⟨_, rfl⟩
  rw [hy] at h0 h1 h2 h3 h4 sp hn hq hx
  obtain ⟨xk, xs', xe, xa, ps⟩ := y
  exact ⟨bA, oA, xk, xs', xe, xa, ps, ps.length, AP, cP, e, hy, hx, rfl, fun v hv => ⟨(hv.cell (p := ⟨bA, oA + k * 5, none⟩) hB).trans h0, (hv.cell (p := ⟨bA, oA + k * 5 + 1, none⟩) hB).trans h1, (hv.cell (p := ⟨bA, oA + k * 5 + 2, none⟩) hB).trans h2, (hv.cell (p := ⟨bA, oA + k * 5 + 3, none⟩) hB).trans h3, (hv.cell (p := ⟨bA, oA + k * 5 + 4, none⟩) hB).trans h4, sp.belowB7 hv hq⟩, hn, hq⟩

/-- a row of strings in the blocks of N -/
def RowN (N : Nat → Prop) (w : World) (A : Option Addr) (zs : List ByteArray) : Prop :=
  SlS w A zs ∧ (0 < zs.length → ∀ b o, A = some ⟨b, o, none⟩ → N b)
section
variable {N M : Nat → Prop} {w w' : World} {A : Option Addr} {zs : List ByteArray}
theorem RowN.keep (h : RowN N w A zs) (hk : Kept N w w') : RowN N w' A zs := ⟨fun hn => by
  obtain ⟨b, o, e, hlt, hc⟩ := h.1 hn
  have hN := h.2 hn b o e
  exact ⟨b, o, e, Nat.lt_of_lt_of_le hlt hk.size, fun j hj => hk.cell (hc j hj) (fun q => q hN)⟩, h.2⟩
theorem RowN.more (h : RowN N w A zs) (hM : ∀ k, N k → M k) : RowN M w A zs := ⟨h.1, fun hn b o e => hM b (h.2 hn b o e)⟩
theorem RowN.below (h : RowN N w A zs) (hb : Below w.heap.size w w') : RowN N w' A zs := ⟨h.1.below hb, h.2⟩
theorem OwnS.rowN {B : Nat} {v : Value} (h : OwnS w B v zs) (hN : ∀ k, v.ownBlock = some k → N k) : ∃ A c, v = .slice A zs.length c ∧ RowN N w A zs := by
  obtain ⟨A, c, e, hs⟩ := h.sl
  refine ⟨A, c, e, hs, fun _ b o ea => hN b ?_⟩
  rw [e, ea]; rfl
end

/-- the number of the rows -/
theorem LInv.len {m : Ext} {l : Lg} {ox : Option Wr} {kept next : List ByteArray} (h : LInv m l ox kept next) : kept.length ≤ 128 ∧ next.length ≤ 129 := by
  have hs := h.ok.2.2.2.1
  have base : ∀ {A : Nat} {G : Int} {u : Nat} {y : Int} {P : Nat → Cont}, Base m.sec A G u y P kept → kept.length ≤ 128 := fun hb => by
    have h1 := hb.ch.len
    have h2 := hb.ch.bound
    omega
  rcases h.st with ⟨_, hn, _, P, hb, _⟩ | ⟨_, x, P, _, _, hb⟩
  · have := base hb
    exact ⟨this, by rw [hn]; omega⟩
  · have := base hb.base
    refine ⟨this, ?_⟩
    rw [hb.next, List.length_append]
    have : (if x.base then [] else kept).length ≤ 128 := by split <;> simp_all
    simp only [List.length_cons, List.length_nil]
    omega
theorem crash_sec (m : Ext) (ps : List (Int × Int)) : (m.crash ps).1.start.1.sec = m.sec := by
  unfold Ext.crash Ext.start
  repeat' split
  all_goals rfl

def ptrOf : Option Nat → Value
  | none => .pointer none
  | some px => .pointer (some ⟨px, 0, none⟩)
/-- between two steps -/
structure La7F (Q : RelQ) (S b : Nat) (w0 w : World) (vg vx vk vn : Value) (N : Nat → Prop) (bl : Nat) (bx : Option Nat) (m : Ext) (l : Lg) (ox : Option Wr) (kept next : List ByteArray) (AK AN : Option Addr) (cK cN : Nat) : Prop where
  eg : vg = .pointer (some ⟨bl, 0, none⟩)
  ex : vx = ptrOf bx
  ek : vk = .slice AK kept.length cK
  en : vn = .slice AN next.length cN
  q : Q w N b bl bx m l ox
  n : ∀ k, k < w0.heap.size → N k
  kp : RowN N w AK kept
  nx : RowN N w AN next
  xo : bx = none ↔ ox = none
  sec : m.sec = S
  i : LInv m l ox kept next
  g : GOk S l ox
  bel : Below w0.heap.size w0 w
def La7 (Q : RelQ) (S b : Nat) (w0 w : World) (vg vx vk vn : Value) : Prop :=
  ∃ N bl bx m l ox kept next AK AN cK cN, La7F Q S b w0 w vg vx vk vn N bl bx m l ox kept next AK AN cK cN
section
variable {P : RelP} {Q : RelQ} {S b : Nat} {w0 w w' : World} {vg vx vk vn : Value} {N : Nat → Prop} {bl : Nat} {bx : Option Nat} {m : Ext} {l : Lg} {ox : Option Wr} {kept next : List ByteArray} {AK AN : Option Addr} {cK cN : Nat}
theorem La7F.any (h : La7F Q S b w0 w vg vx vk vn N bl bx m l ox kept next AK AN cK cN) : La7 Q S b w0 w vg vx vk vn := ⟨_, _, _, _, _, _, _, _, _, _, _, _, h⟩
theorem La7F.more (X : SegAt P Q) (h : La7F Q S b w0 w vg vx vk vn N bl bx m l ox kept next AK AN cK cN) (hb : Below w.heap.size w w') (M : Nat → Prop) (hM : ∀ k, M k → N k ∨ w.heap.size ≤ k) (hN : ∀ k, N k → M k) (hl : ∀ k, M k → k < w'.heap.size) :
    La7F Q S b w0 w' vg vx vk vn M bl bx m l ox kept next AK AN cK cN :=
  ⟨h.eg, h.ex, h.ek, h.en, X.qKeep h.q (fun k hk _ => hb.block k hk) hb.size hM hl, fun k hk => hN k (h.n k hk), (h.kp.below hb).more hN, (h.nx.below hb).more hN, h.xo, h.sec, h.i, h.g, below_then h.bel hb⟩
theorem La7F.new (X : SegAt P Q) (h : La7F Q S b w0 w vg vx vk vn N bl bx m l ox kept next AK AN cK cN) (hb : Below w.heap.size w w') :
    La7F Q S b w0 w' vg vx vk vn N bl bx m l ox kept next AK AN cK cN :=
  h.more X hb N (fun _ q => .inl q) (fun _ q => q) (fun k q => Nat.lt_of_lt_of_le (X.qLt h.q k q) hb.size)
theorem La7F.box (X : SegAt P Q) (h : La7F Q S b w0 w vg vx vk vn N bl bx m l ox kept next AK AN cK cN) (o : Obj) :
    La7F Q S b w0 (w.alloc o) vg vx vk vn (fun k => N k ∨ k = w.heap.size) bl bx m l ox kept next AK AN cK cN :=
  h.more X ((Below.refl _ _).alloc (Nat.le_refl _) o) _ (fun k q => q.elim .inl (fun q => .inr (by omega))) (fun _ q => .inl q) (fun k q => by
    have : (w.alloc o).heap.size = w.heap.size + 1 := by simp
    rcases q with q | q
    · have := X.qLt h.q k q; omega
    · omega)
theorem La7F.keptB (h : La7F Q S b w0 w vg vx vk vn N bl bx m l ox kept next AK AN cK cN) (hk : Kept N w w') : Below w0.heap.size w0 w' := h.bel.trans (hk.below h.n h.bel.size)
/-- a call that leaves all of it -/
theorem La7F.same (h : La7F Q S b w0 w vg vx vk vn N bl bx m l ox kept next AK AN cK cN) (hq : Q w' N b bl bx m l ox) (hk : Kept N w w') : La7F Q S b w0 w' vg vx vk vn N bl bx m l ox kept next AK AN cK cN :=
  ⟨h.eg, h.ex, h.ek, h.en, hq, h.n, h.kp.keep hk, h.nx.keep hk, h.xo, h.sec, h.i, h.g, h.keptB hk⟩
/-- a writer's move -/
theorem La7F.moved {px : Nat} {y : Wr} (h : La7F Q S b w0 w vg vx vk vn N bl (some px) m l (some y) kept next AK AN cK cN)
    (hq : Q w' N b bl (some px) (Go.Proofs.YtfodclafkdkjbaaDoor.move m l y).1 (Go.Proofs.YtfodclafkdkjbaaDoor.move m l y).2.1 (some (Go.Proofs.YtfodclafkdkjbaaDoor.move m l y).2.2.1)) (hk : Kept N w w') :
    (Go.Proofs.YtfodclafkdkjbaaDoor.move m l y).2.2.2.2 = 0 ∧ La7 Q S b w0 w' vg vx (if (Go.Proofs.YtfodclafkdkjbaaDoor.move m l y).2.2.2.1 = 2 then vn else vk) vn := by
  obtain ⟨z, hi⟩ := h.i.move
  have hg : GOk S (Go.Proofs.YtfodclafkdkjbaaDoor.move m l y).2.1 (some (Go.Proofs.YtfodclafkdkjbaaDoor.move m l y).2.2.1) := h.g.move
  refine ⟨z, ?_⟩
  by_cases c : (Go.Proofs.YtfodclafkdkjbaaDoor.move m l y).2.2.2.1 = 2
  · rw [if_pos c] at hi ⊢
    exact ⟨N, bl, some px, _, _, _, next, next, AN, AN, cN, cN, h.eg, h.ex, h.en, h.en, hq, h.n, h.nx.keep hk, h.nx.keep hk, ⟨(fun e => by cases e), (fun e => by cases e)⟩, by rw [move_sec]; exact h.sec, hi, hg, h.keptB hk⟩
  · rw [if_neg c] at hi ⊢
    exact ⟨N, bl, some px, _, _, _, kept, next, AK, AN, cK, cN, h.eg, h.ex, h.ek, h.en, hq, h.n, h.kp.keep hk, h.nx.keep hk, ⟨(fun e => by cases e), (fun e => by cases e)⟩, by rw [move_sec]; exact h.sec, hi, hg, h.keptB hk⟩
/-- a writer that came, before the row of what there will be -/
structure La7W (Q : RelQ) (S b : Nat) (w0 w : World) (vg vk : Value) (N : Nat → Prop) (bl px : Nat) (m : Ext) (l : Lg) (y : Wr) (kept next : List ByteArray) (AK : Option Addr) (cK : Nat) : Prop where
  eg : vg = .pointer (some ⟨bl, 0, none⟩)
  ek : vk = .slice AK kept.length cK
  q : Q w N b bl (some px) m l (some y)
  n : ∀ k, k < w0.heap.size → N k
  kp : RowN N w AK kept
  sec : m.sec = S
  i : LInv m l (some y) kept next
  g : GOk S l (some y)
  bel : Below w0.heap.size w0 w
theorem La7F.wrote (h : La7F Q S b w0 w vg vx vk vn N bl bx m l ox kept next AK AN cK cN) (s : ByteArray) (r : Bool) {px : Nat} {y : Wr} (hy : (l.write m.sec s r).2.1 = some y)
    (hq : Q w' N b bl (some px) m (l.write m.sec s r).1 (some y)) (hk : Kept N w w') : La7W Q S b w0 w' vg vk N bl px m (l.write m.sec s r).1 y kept ((if r then [] else kept) ++ [s]) AK cK := by
  have hs := h.sec
  have g := h.g
  rw [← hs] at g
  obtain ⟨gw, z⟩ := g.write s r hy
  obtain ⟨x, hx, hi⟩ := (h.i.write s r).1 z
  rw [hy] at hx
  injection hx with hx
  subst hx
  exact ⟨h.eg, h.ek, hq, h.n, h.kp.keep hk, hs, hi, by rw [← hs]; exact gw, h.keptB hk⟩
/-- .. and its row -/
theorem La7W.row (X : SegAt P Q) {px : Nat} {y : Wr} (h : La7W Q S b w0 w vg vk N bl px m l y kept next AK cK) (hb : Below w.heap.size w w') {v : Value} (ho : OwnS w' w.heap.size v next) :
    La7 Q S b w0 w' vg (.pointer (some ⟨px, 0, none⟩)) vk v := by
  obtain ⟨A, c, ev, hr⟩ := ho.rowN (N := fun k => N k ∨ v.ownBlock = some k) (fun k q => .inr q)
  exact ⟨fun k => N k ∨ v.ownBlock = some k, bl, some px, m, l, some y, kept, next, AK, A, cK, c, h.eg, rfl, h.ek, ev,
    X.qKeep h.q (fun k hk _ => hb.block k hk) hb.size (fun k q => q.elim .inl (fun q => .inr (ho.lt k q).1)) (fun k q => q.elim (fun q => Nat.lt_of_lt_of_le (X.qLt h.q k q) hb.size) (fun q => (ho.lt k q).2)),
    fun k hk => .inl (h.n k hk), (h.kp.below hb).more (fun _ q => .inl q), hr, ⟨(fun e => by cases e), (fun e => by cases e)⟩, h.sec, h.i, h.g, below_then h.bel hb⟩
/-- a log that was opened -/
theorem la7_opened {B : Nat} {v : Value} (hq : Q w' (fun k => N k ∨ v.ownBlock = some k) b bl none m l none) (ho : OwnS w' B v kept) (hn : ∀ k, k < w0.heap.size → N k)
    (hi : LInv m l none kept kept) (hs : m.sec = S) (hg : GOk S l none) (hb : Below w0.heap.size w0 w') : La7 Q S b w0 w' (.pointer (some ⟨bl, 0, none⟩)) (.pointer none) v v := by
  obtain ⟨A, c, ev, hr⟩ := ho.rowN (N := fun k => N k ∨ v.ownBlock = some k) (fun k q => .inr q)
  exact ⟨fun k => N k ∨ v.ownBlock = some k, bl, none, m, l, none, kept, kept, A, A, c, c, rfl, rfl, ev, ev, hq, fun k q => .inl (hn k q), hr, hr, ⟨fun _ => rfl, fun _ => rfl⟩, hs, hi, hg, hb⟩
theorem La7.new (X : SegAt P Q) (h : La7 Q S b w0 w vg vx vk vn) (hb : Below w.heap.size w w') : La7 Q S b w0 w' vg vx vk vn := by
  obtain ⟨_, _, _, _, _, _, _, _, _, _, _, _, F⟩ := h
  exact (F.new X hb).any
end

end Go.Proofs.YtfodclafkdkjbaaDoor
