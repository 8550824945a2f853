/- Proved parts: Rws T8m. Conditions: each theorem's own. -/
import Derived.Test.YtdcjckdhjfnnhaaM1
import Derived.Test.YtdcjckdhjfnnhaaM0
import Derived.Laws.AppendOwn
import Derived.Laws.MakeOwn
import Derived.Deep.RegionHeldLaw
import Derived.Maps.AppendAt
import Derived.Laws.OwnMore
namespace Go.Proofs.Ytdcjckdhjfnnhaa
open Go.ChangeShapes Go.WideShapes Go.ChangeAt Go.RowKit

theorem cell_new1 (w : World) (v : Value) (t : TypeId) : (w.alloc (.cells #[v] t)).cell? ⟨w.heap.size, 0, none⟩ = some v := by
  rw [World.cell?_alloc_at _ _ _ _ rfl]; rfl

/-- the slice at A reads as zs -/
def SlS (w : World) (A : Option Addr) (zs : List ByteArray) : Prop :=
  0 < zs.length → ∃ b o, A = some ⟨b, o, none⟩ ∧ b < w.heap.size ∧ ∀ j, j < zs.length → w.cell? ⟨b, o + j, none⟩ = some (.string (zs.getD j ⟨#[]⟩))
theorem SlS.drewN {w : World} {A : Option Addr} {zs : List ByteArray} (h : SlS w A zs) (n : Nat) : SlS (w.drewN n) A zs := h
theorem SlS.below {w w' : World} {A : Option Addr} {zs : List ByteArray} (h : SlS w A zs) (hb : Below w.heap.size w w') : SlS w' A zs := fun hn => by
  obtain ⟨b, o, e, hlt, hc⟩ := h hn
  exact ⟨b, o, e, Nat.lt_of_lt_of_le hlt hb.size, fun j hj => (hb.cell (p := ⟨b, o + j, none⟩) hlt).trans (hc j hj)⟩
/-- a row of the call's own reads so too -/
theorem OwnS.sl {w : World} {B : Nat} {v : Value} {zs : List ByteArray} (h : OwnS w B v zs) : ∃ A c, v = .slice A zs.length c ∧ SlS w A zs := by
  obtain ⟨A, c, e, hj⟩ := h.form
  refine ⟨A, c, e, fun hn => ?_⟩
  obtain ⟨g, rfl, hc⟩ := hj 0 hn
  refine ⟨g, 0, rfl, World.block_lt_of_cell? w _ hc, fun j hj' => ?_⟩
  obtain ⟨g', e', hc'⟩ := hj j hj'
  injection e' with e'
  injection e' with e' _ _
  rw [Nat.zero_add, e']; exact hc'
theorem lists_eq {xs ys : List ByteArray} (h : xs.length = ys.length) (hj : ∀ j, j < xs.length → xs.getD j ⟨#[]⟩ = ys.getD j ⟨#[]⟩) : xs = ys := by
  apply List.ext_getElem h
  intro j h1 h2
  have := hj j h1
  rwa [List.getD_eq_getElem?_getD, List.getD_eq_getElem?_getD, List.getElem?_eq_getElem h1, List.getElem?_eq_getElem h2] at this

theorem infoJ : (Try.prog.info? 3).map (fun i => (i.zero, i.size, i.bytes)) = some (some (.int .i64 0), 1, 8) := by kernel_rfl
/-- the slice at A reads as the ints zs -/
def SlJ (w : World) (A : Option Addr) (zs : List Int) : Prop :=
  0 < zs.length → ∃ b o, A = some ⟨b, o, none⟩ ∧ b < w.heap.size ∧ ∀ j, j < zs.length → w.cell? ⟨b, o + j, none⟩ = some (.int .i64 (zs.getD j 0))
theorem SlJ.below {w w' : World} {A : Option Addr} {zs : List Int} (h : SlJ w A zs) (hb : Below w.heap.size w w') : SlJ w' A zs := fun hn => by
  obtain ⟨b, o, e, hlt, hc⟩ := h hn
  exact ⟨b, o, e, Nat.lt_of_lt_of_le hlt hb.size, fun j hj => (hb.cell (p := ⟨b, o + j, none⟩) hlt).trans (hc j hj)⟩
theorem SlJ.nil (w : World) (A : Option Addr) : SlJ w A [] := fun h => absurd h (by simp)
theorem SlJ.drewN {w : World} {A : Option Addr} {zs : List Int} (h : SlJ w A zs) (n : Nat) : SlJ (w.drewN n) A zs := h
/-- v is a row of ints of the call's own, from block B on -/
def OwnJ (w : World) (B : Nat) (v : Value) (zs : List Int) : Prop := w.ownsRow B 3 1 v zs.length (zs.map (Value.int .i64))
section
variable {w w' : World} {B : Nat} {v : Value} {zs : List Int}
theorem OwnJ.form (h : OwnJ w B v zs) : ∃ A c, v = .slice A zs.length c ∧ SlJ w A zs := by
  rcases h.2 with ⟨rfl, hn⟩ | ⟨g, cap, cur, rfl, hB, hg, hnc, _, hs, ht⟩
  · have hz : zs = [] := List.eq_nil_of_length_eq_zero hn
    subst hz
    exact ⟨none, 0, rfl, SlJ.nil _ _⟩
  · refine ⟨some ⟨g, 0, none⟩, cap, rfl, fun hp => ⟨g, 0, rfl, ?_, fun j hj => ?_⟩⟩
    · rcases Nat.lt_or_ge g w.heap.size with hlt | hge
      · exact hlt
      · rw [Array.getElem?_eq_none hge] at hg; cases hg
    · have hj2 : j < zs.length * 1 := by omega
      rw [Nat.zero_add, World.ownsRow.cellAt (w := w) (base := B) (e := 3) (size := 1) (xs := zs.map (Value.int .i64)) h j hj2, List.getElem?_map, List.getElem?_eq_getElem hj, List.getD, List.getElem?_eq_getElem hj]; rfl
theorem OwnJ.alloc (h : OwnJ w B v zs) (o : Obj) : OwnJ (w.alloc o) B v zs := World.ownsRow.alloc h o
theorem OwnJ.made (w : World) (B : Nat) (hB : B ≤ w.heap.size) : OwnJ (w.alloc (.cells #[] 3)) B (.slice (some ⟨w.heap.size, 0, none⟩) 0 0) [] :=
  World.ownsRow_made w #[] 0 hB (Nat.zero_le _) (by simp)
set_option maxRecDepth 100000 in
/-- append(v, x): the row with one more -/
theorem wp_putJ {ops : Array Oper} {rest : List Oper} {o : Oper} {a : Act} {Q : Exit → Act → World → Prop} (hgd : o.guard = none) (s x : Operand)
    (ho : o.op = .call { callee := .builtin .append, args := #[s, x], argTypes := #[28, 28] })
    (B : Nat) (v : Value) (zs : List Int) (hs : a.eval s = v) (hown : OwnJ w B v zs) (g : Nat) (y : Int) (hx : a.eval x = .slice (some ⟨g, 0, none⟩) 1 1)
    (hc : w.cell? ⟨g, 0, none⟩ = some (.int .i64 y)) (hl : zs.length + 1 ≤ 1000000) (hB : B ≤ w.heap.size)
    (h : ∀ v' w', OwnJ w' B v' (zs ++ [y]) → Below B w w' → wpList Try.prog ops Q rest (a.put o.dst v') w') : wpList Try.prog ops Q (o :: rest) a w := by
  obtain ⟨i0, hi, hz0, hz1, hz2⟩ := info_parts infoJ
  refine wpList_append_own w hgd s x 28 ho B 3 i0 _ 1 8 Try.underlying28 hi hz0 hz1 hz2 rfl (by decide) v zs.length _ hs hown ⟨g, 0, none⟩ 1 1 [.int .i64 y] hx rfl ?_ ?_
    (by unfold maxLen; omega) (by omega) hB ?_
  · intro j u hj
    cases j with
    | zero => simp at hj; subst hj; exact hc
    | succ j => simp at hj
  · intro u hu; simp at hu; subst hu; rfl
  · intro v' w' h1 h2 _
    refine h v' w' ?_ ((Below.refl _ _).grown h2 hB (fun k hk => (World.ownsRow.lt hown k hk).1))
    unfold OwnJ
    simpa using h1
end

set_option maxRecDepth 100000 in
/-- append(v, ys...) where v is a row of the call's own -/
theorem step_appS {ops : Array Oper} {o : Oper} {a : Act} {w : World} {K : Act → World → Prop} {Q : Exit → Act → World → Prop} {E : Prop}
    (hg : o.guard = none) (s x : Operand) (hop : o.op = .call { callee := .builtin .append, args := #[s, x], argTypes := #[27, 27] })
    (B : Nat) (v : Value) (zs ys : List ByteArray) (hs : a.eval s = v) (hown : OwnS w B v zs) (A : Option Addr) (c : Nat) (hx : a.eval x = .slice A ys.length c) (hsl : SlS w A ys)
    (hl : zs.length + ys.length ≤ 1000000) (hB : B ≤ w.heap.size)
    (hK : ∀ v' w', OwnS w' B v' (zs ++ ys) → w.grownBy w' v.ownBlock → Below B w w' → K (a.put o.dst v') w') :
    if Region.wanted o (yielded ops a.tmps) = true then Oper.wp Try.prog o a w K Q else E := by
  have hw : Region.wanted o (yielded ops a.tmps) = true := by simp [Region.wanted, hg]
  rw [if_pos hw]
  obtain ⟨i0, hi, hz0, hz1, hz2⟩ := info_parts infoStr
  have key : ∃ v' w', (Builtin.append_ #[27, 27] o.type #[v, .slice A ys.length c]).run Try.prog w = .ok v' w' ∧ OwnS w' B v' (zs ++ ys) ∧ w.grownBy w' v.ownBlock ∧ Below B w w' := by
    cases A with
    | none =>
      have h0 : ys = [] := by
        cases ys with
        | nil => rfl
        | cons y l =>
          obtain ⟨_, _, e, _⟩ := hsl (by simp)
          cases e
      subst h0
      refine ⟨v, w, ?_, by rw [List.append_nil]; exact hown, ⟨rfl, rfl, rfl, Nat.le_refl _, fun _ _ _ => rfl⟩, Below.refl _ _⟩
      have hown' := hown
      rcases hown'.2 with ⟨rfl, _⟩ | ⟨g, cap, cur, rfl, _, _, hnc, _⟩
      · rw [show ([] : List ByteArray).length = 0 from rfl]
        simp [Builtin.append_, run_underlying Try.underlying27, sizeOf, typeInfo, hi, Builtin.lenOf, Builtin.firstCells]
      · rw [show ([] : List ByteArray).length = 0 from rfl]
        simp [Builtin.append_, run_underlying Try.underlying27, sizeOf, typeInfo, hi, Builtin.lenOf, Builtin.firstCells, hnc, storeCells]
    | some ad =>
      obtain ⟨v', w', hr, h2, h3, _, _⟩ := run_append_own_at (P := Try.prog) w B 27 o.type 9 i0 _ 1 16 Try.underlying27 hi hz0 hz1 hz2 rfl (by decide) v zs.length _ hown ad ys.length c (ys.map Value.string) (by simp)
        (fun j u hj => by
          rw [List.getElem?_map] at hj
          obtain ⟨y, hy, rfl⟩ := Option.map_eq_some_iff.1 hj
          have hjl := (List.getElem?_eq_some_iff.1 hy).1
          obtain ⟨b, o', e, hlt, hc⟩ := hsl (by omega)
          injection e with e
          subst e
          have := hc j hjl
          rw [List.getD_eq_getElem?_getD, hy] at this
          rw [add_plain]; exact this) (fun u hu => by
          obtain ⟨y, _, rfl⟩ := List.mem_map.1 hu
          rfl) (by unfold maxLen; omega) (by omega) hB
      refine ⟨v', w', hr, ?_, h3, (Below.refl _ _).grown h3 hB (fun k hk => (hown.lt k hk).1)⟩
      unfold OwnS
      simpa using h2
  obtain ⟨v', w', hr, h2, h4, h3⟩ := key
  unfold Oper.wp execOp
  simp only [hop, resolve, invoke, builtin, Sem.run_bind, Sem.run_pure, Result.andThen_ok, List.map_toArray, List.map_cons, List.map_nil, hs, hx, hr]
  exact hK _ _ h2 h4 h3

theorem slS_one (w : World) (y : ByteArray) (t : TypeId) : SlS (w.alloc (.cells #[.string y] t)) (some ⟨w.heap.size, 0, none⟩) [y] := fun _ =>
  ⟨w.heap.size, 0, rfl, by simp, fun j hj => by
    obtain rfl : j = 0 := by simpa using hj
    exact cell_new1 w (.string y) t⟩
theorem SlS.alloc {w : World} {A : Option Addr} {zs : List ByteArray} (h : SlS w A zs) (o : Obj) : SlS (w.alloc o) A zs := h.below ((Below.refl _ _).alloc (Nat.le_refl _) o)
theorem SlS.grown {w w' : World} {A : Option Addr} {zs : List ByteArray} {r : Option Nat} (h : SlS w A zs) (g : w.grownBy w' r) (hn : ∀ b o, A = some ⟨b, o, none⟩ → r ≠ some b) : SlS w' A zs := fun h0 => by
  obtain ⟨b, o, e, hlt, hc⟩ := h h0
  exact ⟨b, o, e, Nat.lt_of_lt_of_le hlt g.size, fun j hj => (World.cell?_of_block (w := w) (a := ⟨b, o + j, none⟩) (g.block b hlt (fun q => hn b o e q.symm))).trans (hc j hj)⟩
theorem slS_grown_ne {w w' : World} {g r : Nat} {zs : List ByteArray} (h : SlS w (some ⟨g, 0, none⟩) zs) (gr : w.grownBy w' (some r)) (hn : r ≠ g) : SlS w' (some ⟨g, 0, none⟩) zs :=
  h.grown gr (fun b o e q => by
    injection e with e
    injection e with e
    injection q with q
    exact hn (q.trans e.symm))
theorem OwnS.madeAt {B n : Nat} (w : World) (hB : B ≤ w.heap.size) (hn : n = w.heap.size) : OwnS (w.alloc (.cells #[] 9)) B (.slice (some ⟨n, 0, none⟩) 0 0) [] := by
  subst hn
  exact OwnS.made w hB
theorem OwnS.one {B : Nat} (w : World) (y : ByteArray) (hB : B ≤ w.heap.size) : OwnS (w.alloc (.cells #[.string y] 9)) B (.slice (some ⟨w.heap.size, 0, none⟩) 1 1) [y] :=
  ⟨by simp, .inr ⟨w.heap.size, 1, #[.string y], rfl, hB, heap_alloc_new w _, Nat.le_refl _, by unfold maxLen; omega, by simp, by simp⟩⟩
set_option maxRecDepth 100000 in
/-- append(v, ys...) where v is a row of the call's own -/
theorem step_appJ {ops : Array Oper} {o : Oper} {a : Act} {w : World} {K : Act → World → Prop} {Q : Exit → Act → World → Prop} {E : Prop}
    (hg : o.guard = none) (s x : Operand) (hop : o.op = .call { callee := .builtin .append, args := #[s, x], argTypes := #[28, 28] })
    (B : Nat) (v : Value) (zs ys : List Int) (hs : a.eval s = v) (hown : OwnJ w B v zs) (A : Option Addr) (c : Nat) (hx : a.eval x = .slice A ys.length c) (hsl : SlJ w A ys)
    (hl : zs.length + ys.length ≤ 1000000) (hB : B ≤ w.heap.size)
    (hK : ∀ v' w', OwnJ w' B v' (zs ++ ys) → w.grownBy w' v.ownBlock → Below B w w' → K (a.put o.dst v') w') :
    if Region.wanted o (yielded ops a.tmps) = true then Oper.wp Try.prog o a w K Q else E := by
  have hw : Region.wanted o (yielded ops a.tmps) = true := by simp [Region.wanted, hg]
  rw [if_pos hw]
  obtain ⟨i0, hi, hz0, hz1, hz2⟩ := info_parts infoJ
  have key : ∃ v' w', (Builtin.append_ #[28, 28] o.type #[v, .slice A ys.length c]).run Try.prog w = .ok v' w' ∧ OwnJ w' B v' (zs ++ ys) ∧ w.grownBy w' v.ownBlock ∧ Below B w w' := by
    cases A with
    | none =>
      have h0 : ys = [] := by
        cases ys with
        | nil => rfl
        | cons y l =>
          obtain ⟨_, _, e, _⟩ := hsl (by simp)
          cases e
      subst h0
      refine ⟨v, w, ?_, by rw [List.append_nil]; exact hown, ⟨rfl, rfl, rfl, Nat.le_refl _, fun _ _ _ => rfl⟩, Below.refl _ _⟩
      have hown' := hown
      rcases hown'.2 with ⟨rfl, _⟩ | ⟨g, cap, cur, rfl, _, _, hnc, _⟩
      · rw [show ([] : List Int).length = 0 from rfl]
        simp [Builtin.append_, run_underlying Try.underlying28, sizeOf, typeInfo, hi, Builtin.lenOf, Builtin.firstCells]
      · rw [show ([] : List Int).length = 0 from rfl]
        simp [Builtin.append_, run_underlying Try.underlying28, sizeOf, typeInfo, hi, Builtin.lenOf, Builtin.firstCells, hnc, storeCells]
    | some ad =>
      obtain ⟨v', w', hr, h2, h3, _, _⟩ := run_append_own_at (P := Try.prog) w B 28 o.type 3 i0 _ 1 8 Try.underlying28 hi hz0 hz1 hz2 rfl (by decide) v zs.length _ hown ad ys.length c (ys.map (Value.int .i64)) (by simp)
        (fun j u hj => by
          rw [List.getElem?_map] at hj
          obtain ⟨y, hy, rfl⟩ := Option.map_eq_some_iff.1 hj
          have hjl := (List.getElem?_eq_some_iff.1 hy).1
          obtain ⟨b, o', e, hlt, hc⟩ := hsl (by omega)
          injection e with e
          subst e
          have := hc j hjl
          rw [List.getD_eq_getElem?_getD, hy] at this
          rw [add_plain]; exact this) (fun u hu => by
          obtain ⟨y, _, rfl⟩ := List.mem_map.1 hu
          rfl) (by unfold maxLen; omega) (by omega) hB
      refine ⟨v', w', hr, ?_, h3, (Below.refl _ _).grown h3 hB (fun k hk => (World.ownsRow.lt hown k hk).1)⟩
      unfold OwnJ
      simpa using h2
  obtain ⟨v', w', hr, h2, h4, h3⟩ := key
  unfold Oper.wp execOp
  simp only [hop, resolve, invoke, builtin, Sem.run_bind, Sem.run_pure, Result.andThen_ok, List.map_toArray, List.map_cons, List.map_nil, hs, hx, hr]
  exact hK _ _ h2 h4 h3

end Go.Proofs.Ytdcjckdhjfnnhaa

namespace Go.Proofs.Ytdcjckdhjfnnhaa
open Go.RowKit

/-- a is below b, byte by byte -/
def ltB (a b : ByteArray) : Bool := Op.bytesLess a.toList b.toList
theorem bl_irr : ∀ x : List UInt8, Op.bytesLess x x = false
  | [] => rfl
  | a :: x => by unfold Op.bytesLess; rw [bl_irr x]; simp
theorem bl_trans : ∀ x y z : List UInt8, Op.bytesLess x y = true → Op.bytesLess y z = true → Op.bytesLess x z = true
  | _, [], _, h, _ => by unfold Op.bytesLess at h; cases h
  | _, _ :: _, [], _, k => by unfold Op.bytesLess at k; cases k
  | [], _ :: _, _ :: _, _, _ => rfl
  | a :: x, b :: y, c :: z, h, k => by
    unfold Op.bytesLess at h k ⊢
    simp only [Bool.or_eq_true, decide_eq_true_eq, Bool.and_eq_true, beq_iff_eq] at h k ⊢
    rcases h with h | ⟨rfl, h⟩
    · rcases k with k | ⟨rfl, k⟩
      · exact .inl (UInt8.lt_trans h k)
      · exact .inl h
    · rcases k with k | ⟨rfl, k⟩
      · exact .inl k
      · exact .inr ⟨rfl, bl_trans x y z h k⟩
theorem bl_total : ∀ x y : List UInt8, Op.bytesLess x y = false → Op.bytesLess y x = false → x = y
  | [], [], _, _ => rfl
  | [], _ :: _, h, _ => by unfold Op.bytesLess at h; cases h
  | _ :: _, [], _, k => by unfold Op.bytesLess at k; cases k
  | a :: x, b :: y, h, k => by
    unfold Op.bytesLess at h k
    simp only [Bool.or_eq_false_iff, decide_eq_false_iff_not, Bool.and_eq_false_iff, beq_eq_false_iff_ne, ne_eq] at h k
    have e : a = b := by
      rcases Nat.lt_trichotomy a.toNat b.toNat with q | q | q
      · exact absurd (UInt8.lt_iff_toNat_lt.2 q) h.1
      · exact UInt8.toNat_inj.1 q
      · exact absurd (UInt8.lt_iff_toNat_lt.2 q) k.1
    subst e
    rw [bl_total x y (h.2.resolve_left (fun q => q rfl)) (k.2.resolve_left (fun q => q rfl))]
theorem ltB_irr (a : ByteArray) : ltB a a = false := bl_irr _
theorem ltB_trans {a b c : ByteArray} (h : ltB a b = true) (k : ltB b c = true) : ltB a c = true := bl_trans _ _ _ h k
theorem ltB_total {a b : ByteArray} (h : ltB a b = false) (k : ltB b a = false) : a = b := toList_inj (bl_total _ _ h k)
theorem ltB_asym {a b : ByteArray} (h : ltB a b = true) : ltB b a = false := by
  cases k : ltB b a with
  | false => rfl
  | true => have := ltB_trans h k; rw [ltB_irr] at this; cases this

/-- keys and their numbers -/
abbrev KV := List (ByteArray × Int)
def KV.ks (l : KV) : List ByteArray := l.map Prod.fst
def KV.ns (l : KV) : List Int := l.map Prod.snd
/-- how many keys ahead are below k -/
def KV.pos (k : ByteArray) : KV → Nat
  | [] => 0
  | x :: l => if ltB x.1 k then KV.pos k l + 1 else 0
def KV.has (k : ByteArray) (l : KV) : Bool := match l[KV.pos k l]? with
  | some x => x.1.toList == k.toList
  | none => false
def KV.put (l : KV) (k : ByteArray) (n : Int) : KV := if l.has k then l.set (l.pos k) (k, n) else l.take (l.pos k) ++ (k, n) :: l.drop (l.pos k)
def KV.del (l : KV) (k : ByteArray) : KV := if l.has k then l.take (l.pos k) ++ l.drop (l.pos k + 1) else l
/-- the place of the first one above -/
def KV.aft (l : KV) (k : ByteArray) : Nat := if l.has k then l.pos k + 1 else l.pos k
def KV.num (l : KV) (i : Nat) : Int := (l.getD i (⟨#[]⟩, 0)).2
def KV.key (l : KV) (i : Nat) : ByteArray := (l.getD i (⟨#[]⟩, 0)).1
theorem KV.pos_le (k : ByteArray) : ∀ l : KV, l.pos k ≤ l.length
  | [] => Nat.le_refl _
  | x :: l => by
    have := KV.pos_le k l
    unfold KV.pos; split
    · rw [List.length_cons]; omega
    · exact Nat.zero_le _
theorem KV.pos_below (k : ByteArray) : ∀ (l : KV) (j : Nat), j < l.pos k → ltB (l.key j) k = true
  | [], j, h => by cases h
  | x :: l, j, h => by
    unfold KV.pos at h
    split at h
    · rename_i hx
      cases j with
      | zero => exact hx
      | succ j => exact KV.pos_below k l j (by omega)
    · cases h
theorem KV.pos_stop (k : ByteArray) : ∀ l : KV, l.pos k < l.length → ltB (l.key (l.pos k)) k = false
  | [], h => by cases h
  | x :: l, h => by
    unfold KV.pos at h ⊢
    by_cases hx : ltB x.1 k = true
    · rw [if_pos hx] at h ⊢
      exact KV.pos_stop k l (by rw [List.length_cons] at h; omega)
    · rw [if_neg hx]
      show ltB x.1 k = false
      simpa using hx
theorem KV.has_iff (l : KV) (k : ByteArray) : l.has k = true ↔ l.pos k < l.length ∧ l.key (l.pos k) = k := by
  unfold KV.has KV.key
  rw [List.getD_eq_getElem?_getD]
  by_cases h : l.pos k < l.length
  · rw [List.getElem?_eq_getElem h]
    simp only [Option.getD_some, h, true_and]
    rw [beq_iff_eq]
    exact ⟨toList_inj, fun e => congrArg ByteArray.toList e⟩
  · rw [List.getElem?_eq_none (by omega)]
    simp [h]
theorem KV.ks_len (l : KV) : l.ks.length = l.length := by unfold KV.ks; simp
theorem KV.ns_len (l : KV) : l.ns.length = l.length := by unfold KV.ns; simp
theorem KV.ks_get (l : KV) (i : Nat) (h : i < l.length) : l.ks.getD i ⟨#[]⟩ = l.key i := by
  unfold KV.ks KV.key
  rw [List.getD_eq_getElem?_getD, List.getD_eq_getElem?_getD, List.getElem?_map, List.getElem?_eq_getElem h]; rfl
theorem KV.ns_get (l : KV) (i : Nat) (h : i < l.length) : l.ns.getD i 0 = l.num i := by
  unfold KV.ns KV.num
  rw [List.getD_eq_getElem?_getD, List.getD_eq_getElem?_getD, List.getElem?_map, List.getElem?_eq_getElem h]; rfl
/-- its keys rise -/
def KV.Rise (l : KV) : Prop := l.Pairwise fun x y => ltB x.1 y.1 = true
theorem KV.put_len (l : KV) (k : ByteArray) (n : Int) : (l.put k n).length ≤ l.length + 1 := by
  have := l.pos_le k
  unfold KV.put; split
  · rw [List.length_set]; omega
  · simp; omega
theorem KV.del_len (l : KV) (k : ByteArray) : (l.del k).length ≤ l.length := by
  have := l.pos_le k
  unfold KV.del; split
  · simp; omega
  · exact Nat.le_refl _

end Go.Proofs.Ytdcjckdhjfnnhaa
