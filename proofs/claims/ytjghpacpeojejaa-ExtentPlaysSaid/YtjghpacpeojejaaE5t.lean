/- A row of strings of the call's own beside a world; an act of a list, played. -/
import Derived.Test.YtjghpacpeojejaaE5k
import Derived.Maps.AppendAt
namespace Go.Proofs.Ytjghpacpeojejaa
open Go.RowKit

theorem infoT : (Try.prog.info? 9).map (fun i => (i.zero, i.size, i.bytes)) = some (some (.string ⟨#[]⟩), 1, 16) := by kernel_rfl
/-- v is a row of strings of the call's own, from block B on -/
def OwnT (w : World) (B : Nat) (v : Value) (zs : List ByteArray) : Prop := w.ownsRow B 9 1 v zs.length (zs.map Value.string)
/-- a world of the program's, and beside it a row of strings -/
structure Beside (R : RelE) (B : Nat) (w : World) (b : Nat) (m : Ext) (v : Value) (zs : List ByteArray) : Prop where
  own : OwnT w B v zs
  has : ∃ F, R w b F m ∧ (∀ k, F k → B ≤ k) ∧ ∀ k, v.ownBlock = some k → ¬ F k
section
variable {R : RelE} {B b : Nat} {m m' : Ext} {w w' : World} {v : Value} {zs : List ByteArray}
theorem OwnT.lt (h : OwnT w B v zs) : ∀ k, v.ownBlock = some k → B ≤ k ∧ k < w.heap.size := World.ownsRow.lt h
theorem OwnT.chg {F : Nat → Prop} (h : OwnT w B v zs) (hc : Chg F w w') (hn : ∀ k, v.ownBlock = some k → ¬ F k) : OwnT w' B v zs := by
  rcases h with ⟨h1, h2⟩
  refine ⟨h1, ?_⟩
  rcases h2 with ⟨rfl, h0⟩ | ⟨g, cap, cur, rfl, hB, hg, r⟩
  · exact .inl ⟨rfl, h0⟩
  · refine .inr ⟨g, cap, cur, rfl, hB, ?_, r⟩
    have hl : g < w.heap.size := (Array.getElem?_eq_some_iff.1 hg).1
    rw [hc.block g hl (hn g rfl)]; exact hg
/-- a call of the world's -/
theorem Beside.call (h : Beside R B w b m v zs) (hB : B ≤ w.heap.size) : ∃ F, R w b F m ∧ (∀ k, F k → B ≤ k) ∧ ∀ w' m', LeftE R b F w m' w' → Beside R B w' b m' v zs ∧ Below B w w' := by
  obtain ⟨F, hr, hF, hn⟩ := h.has
  refine ⟨F, hr, hF, fun w' m' ⟨hc, F', hr', hf⟩ => ⟨⟨h.own.chg hc hn, F', hr', fun k hk => ?_, fun k hk hk' => ?_⟩, hc.below hF hB⟩⟩
  · rcases hf k hk with q | q
    · exact hF k q
    · omega
  · rcases hf k hk' with q | q
    · exact hn k hk q
    · have := (h.own.lt k hk).2; omega
theorem Beside.below (X : ExtAt R) (h : Beside R B w b m v zs) (hb : Below w.heap.size w w') : Beside R B w' b m v zs := by
  obtain ⟨F, hr, hF, hn⟩ := h.has
  exact ⟨h.own.chg (F := fun _ => False) (Chg.of_below hb) (fun _ _ e => e), F, X.keep hr (fun k hk => hb.block k (X.lt hr hk)) hb.size, hF, hn⟩
theorem Beside.drewN (X : ExtAt R) (h : Beside R B w b m v zs) (n : Nat) : Beside R B (w.drewN n) b m v zs := by
  obtain ⟨F, hr, hF, hn⟩ := h.has
  exact ⟨h.own, F, X.keep hr (fun _ _ => rfl) (Nat.le_refl _), hF, hn⟩
theorem Beside.ok (X : ExtAt R) (h : Beside R B w b m v zs) : m.Ok := by
  obtain ⟨F, hr, _⟩ := h.has
  exact X.ok hr
theorem HasE.ok (X : ExtAt R) (h : HasE R B w b m) : m.Ok := by
  obtain ⟨F, hr, _⟩ := h
  exact X.ok hr
theorem Beside.made (X : ExtAt R) (h : HasE R B w b m) (hB : B ≤ w.heap.size) : Beside R B (w.alloc (.cells #[] 9)) b m (.slice (some ⟨w.heap.size, 0, none⟩) 0 0) [] := by
  obtain ⟨F, hr, hF⟩ := h
  refine ⟨World.ownsRow_made w #[] 0 hB (Nat.zero_le _) (by simp), F, X.keep hr (fun k hk => Below.heap_alloc _ _ _ (X.lt hr hk)) (by simp), hF, fun k hk hk' => ?_⟩
  have := X.lt hr hk'
  simp [Value.ownBlock] at hk
  omega
/-- where the row lies -/
theorem Beside.form (h : Beside R B w b m v zs) : ∃ A c, v = .slice A zs.length c ∧ ∀ j, j < zs.length → ∃ g, A = some ⟨g, 0, none⟩ ∧ w.cell? ⟨g, j, none⟩ = some (.string (zs.getD j ⟨#[]⟩)) := by
  have ho := h.own
  rcases ho.2 with ⟨rfl, hn⟩ | ⟨g, cap, cur, rfl, hB, hg, hnc, _, hs, ht⟩
  · exact ⟨none, 0, by rw [hn], fun j hj => absurd hj (by omega)⟩
  · refine ⟨some ⟨g, 0, none⟩, cap, rfl, fun j hj => ⟨g, rfl, ?_⟩⟩
    have hj2 : j < zs.length * 1 := by omega
    rw [World.ownsRow.cellAt (w := w) (base := B) (e := 9) (size := 1) (xs := zs.map Value.string) ho j hj2, List.getElem?_map, List.getElem?_eq_getElem hj, List.getD, List.getElem?_eq_getElem hj]; rfl
theorem Beside.open_ (h : Beside R B w b m v zs) (hz : 0 < zs.length) : ∃ g c, v = .slice (some ⟨g, 0, none⟩) zs.length c := by
  obtain ⟨A, c, hv, hj⟩ := h.form
  obtain ⟨g, rfl, _⟩ := hj 0 hz
  exact ⟨g, c, hv⟩
theorem Beside.cell {g n c : Nat} (h : Beside R B w b m (.slice (some ⟨g, 0, none⟩) n c) zs) {j : Nat} (hj : j < zs.length) : w.cell? ⟨g, j, none⟩ = some (.string (zs.getD j ⟨#[]⟩)) := by
  obtain ⟨A, c', hv, hc⟩ := h.form
  obtain ⟨g', rfl, h1⟩ := hc j hj
  injection hv with h2 _ _
  injection h2 with h2
  injection h2 with h2 _ _
  rw [h2]; exact h1
set_option maxRecDepth 100000 in
/-- append(v, s): the row with one more -/
theorem wp_putT (X : ExtAt R) {ops : Array Oper} {rest : List Oper} {o : Oper} {a : Act} {Q : Exit → Act → World → Prop} (hgd : o.guard = none) (s x : Operand)
    (ho : o.op = .call { callee := .builtin .append, args := #[s, x], argTypes := #[47, 47] })
    (B : Nat) (v : Value) (zs : List ByteArray) (hs : a.eval s = v) (hown : Beside R B w b m v zs) (g : Nat) (y : ByteArray) (hx : a.eval x = .slice (some ⟨g, 0, none⟩) 1 1)
    (hc : w.cell? ⟨g, 0, none⟩ = some (.string y)) (hl : zs.length + 1 ≤ 1000000) (hB : B ≤ w.heap.size)
    (h : ∀ v' w', Beside R B w' b m v' (zs ++ [y]) → Below B w w' → wpList Try.prog ops Q rest (a.put o.dst v') w') : wpList Try.prog ops Q (o :: rest) a w := by
  obtain ⟨i0, hi, hz0, hz1, hz2⟩ := info_parts infoT
  obtain ⟨F, hr, hF, hn⟩ := hown.has
  refine wpList_append_own_at w hgd s x 47 ho B 9 i0 _ 1 16 Try.underlying47 hi hz0 hz1 hz2 rfl (by decide) v zs.length _ hs hown.own ⟨g, 0, none⟩ 1 1 [.string y] hx rfl ?_ ?_
    (by unfold maxLen; omega) (by omega) hB ?_
  · intro j u hj
    cases j with
    | zero => simp at hj; subst hj; exact hc
    | succ j => simp at hj
  · intro u hu; simp at hu; subst hu; rfl
  · intro v' w' h1 h2 _ hat
    refine h v' w' ⟨?_, F, X.keep hr (fun k hk => h2.block k (X.lt hr hk) (fun e => hn k e.symm hk)) h2.size, hF, fun k hk hk' => ?_⟩ ((Below.refl _ _).grown h2 hB (fun k hk => (hown.own.lt k hk).1))
    · unfold OwnT
      simpa using h1
    · rcases hat with e | e
      · exact hn k (e ▸ hk) hk'
      · rw [e] at hk
        injection hk with hk
        have := X.lt hr hk'
        omega
end

section
variable {R : RelE} {B b : Nat} {m : Ext} {w : World}
/-- one act of a list -/
theorem elem_at {A : Option Addr} {xs : List Act5} {k : Nat} (h : SlAc B w A xs) (hok : AcsOk xs) (hk : k < xs.length) :
    ∃ (bA oA : Nat) (xk xe xa : Int) (xs' : ByteArray) (ps : List (Int × Int)) (PL : Nat) (AP : Option Addr) (cP : Nat), A = some ⟨bA, oA, none⟩ ∧ xs.getD k Ac0 = ⟨xk, xe, xa, xs', ps⟩ ∧ Act5.Ok ⟨xk, xe, xa, xs', ps⟩ ∧ PL = ps.length ∧
      (∀ v, Below B w v → v.cell? ⟨bA, oA + k * 5, none⟩ = some (.int .i64 xk) ∧ v.cell? ⟨bA, oA + k * 5 + 1, none⟩ = some (.int .i64 xe) ∧ v.cell? ⟨bA, oA + k * 5 + 2, none⟩ = some (.int .i64 xa) ∧
        v.cell? ⟨bA, oA + k * 5 + 3, none⟩ = some (.string xs') ∧ v.cell? ⟨bA, oA + k * 5 + 4, none⟩ = some (.slice AP PL cP) ∧ SlPk v AP ps) ∧
      (AP = none → ps = [] ∧ cP = 0) ∧ (0 < ps.length → ∀ q o, AP = some ⟨q, o, none⟩ → q < B) := by
  obtain ⟨bA, oA, e, hB, hj⟩ := h (by omega)
  obtain ⟨AP, cP, h0, h1, h2, h3, h4, sp, hn, hq⟩ := hj k hk
  have hx : (xs.getD k Ac0).Ok := hok.2 _ (by rw [List.getD_eq_getElem?_getD, List.getElem?_eq_getElem hk]; exact List.getElem_mem hk)
  obtain ⟨y, hy⟩ : ∃ y, xs.getD k Ac0 = y := ⟨_, rfl⟩
  rw [hy] at h0 h1 h2 h3 h4 sp hn hq hx
  obtain ⟨xk, xe, xa, xs', ps⟩ := y
  exact ⟨bA, oA, xk, xe, xa, xs', ps, ps.length, AP, cP, e, hy, hx, rfl, fun v hv => ⟨(hv.cell (p := ⟨bA, oA + k * 5, none⟩) hB).trans h0, (hv.cell (p := ⟨bA, oA + k * 5 + 1, none⟩) hB).trans h1, (hv.cell (p := ⟨bA, oA + k * 5 + 2, none⟩) hB).trans h2, (hv.cell (p := ⟨bA, oA + k * 5 + 3, none⟩) hB).trans h3, (hv.cell (p := ⟨bA, oA + k * 5 + 4, none⟩) hB).trans h4, sp.belowB hv hq⟩, hn, hq⟩
/-- play, its act as the walk has it -/
theorem play5v (X : ExtAt R) (F : Nat → Prop) (xk xe xa : Int) (xs : ByteArray) (ps : List (Int × Int)) (PL : Nat) (AP : Option Addr) (cP : Nat) (hPL : PL = ps.length) (ho : Act5.Ok ⟨xk, xe, xa, xs, ps⟩) (hN : AP = none → ps = [] ∧ cP = 0) (hA : 0 < ps.length → ∀ q o, AP = some ⟨q, o, none⟩ → q < B)
    (v : World) (h : R v b F m) (hF : ∀ k, F k → B ≤ k) (hw : B ≤ v.heap.size) (hs : SlPk v AP ps) :
    Calls Try.prog 18 #[.pointer (some ⟨b, 0, none⟩), .agg #[.int .i64 xk, .int .i64 xe, .int .i64 xa, .string xs, .slice AP PL cP]] v fun r w' => r = .returned (.tuple #[]) ∧ LeftE R b F v (m.play ⟨xk, xe, xa, xs, ps⟩) w' := by
  subst hPL
  exact play5 X ⟨xk, xe, xa, xs, ps⟩ AP cP v h hF hw ho hs hA hN
end

end Go.Proofs.Ytjghpacpeojejaa
