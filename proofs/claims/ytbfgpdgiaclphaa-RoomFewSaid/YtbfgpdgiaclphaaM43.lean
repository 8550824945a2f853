/- Proved parts: B5m B5a B5b B5s B5t B5c B5d B5e. Conditions: each theorem's own. -/
import Derived.Test.YtbfgpdgiaclphaaM30
import Derived.Test.YtbfgpdgiaclphaaM34
import Derived.Test.YtbfgpdgiaclphaaM32
import Derived.Test.YtbfgpdgiaclphaaM39
import Derived.Test.YtbfgpdgiaclphaaM42
import Derived.Test.YtbfgpdgiaclphaaM35
import Derived.Test.YtbfgpdgiaclphaaM19
import Derived.RangeFuncNested
import Derived.Test.YtbfgpdgiaclphaaM12
namespace Go.Proofs.Ytbfgpdgiaclphaa
open Go.RowKit

theorem Rep.keep {w w' : World} {T : Nat} {E : Nat → Prop} {l : KV} {b : Nat} (h : Rep w T E l b) (hk : ∀ k, E k → w'.heap[k]? = w.heap[k]?) (hs : w.heap.size ≤ w'.heap.size) : Rep w' T E l b := by
  obtain ⟨s, h1, h2⟩ := h
  exact ⟨s, h1.keep hk hs, h2⟩
theorem Rep.lt {w : World} {T : Nat} {E : Nat → Prop} {l : KV} {b : Nat} (h : Rep w T E l b) {k : Nat} (e : E k) : k < w.heap.size := by
  obtain ⟨s, h1, _⟩ := h
  exact h1.lt k e
/-- the tree, if there is one -/
def oTree (T : Option Nat) (l : KV) (b : Nat) : Ob where
  P := fun w F => (T = none ∧ l = [] ∧ ∀ k, ¬ F k) ∨ ∃ t, T = some t ∧ Rep w t F l b
  keep := fun h hk hs => by
    rcases h with h | ⟨t, e, h⟩
    · exact .inl h
    · exact .inr ⟨t, e, h.keep hk hs⟩
  lt := fun h e => by
    rcases h with h | ⟨t, _, h⟩
    · exact absurd e (h.2.2 _)
    · exact h.lt e
/-- versions in blocks of their own -/
structure DatP (vs : List Value) (cs : List (List Ver)) (w : World) (F : Nat → Prop) : Prop where
  len : vs.length = cs.length
  at_ : ∀ i, i < cs.length → ∃ A c, vs.getD i undef = .slice A (cs.getD i []).length c ∧ (cs.getD i []).length ≤ c ∧ SlVG w F A (cs.getD i [])
  lt : ∀ k, F k → k < w.heap.size
def oDat (vs : List Value) (cs : List (List Ver)) : Ob where
  P := DatP vs cs
  keep := fun h hk hs => ⟨h.len, fun i hi => by
    obtain ⟨A, c, e, hc, hs'⟩ := h.at_ i hi
    exact ⟨A, c, e, hc, hs'.keep hk hs⟩, fun k e => Nat.lt_of_lt_of_le (h.lt k e) hs⟩
  lt := fun h e => h.lt _ e
/-- one chain -/
def oCh (A : Option Addr) (l : List Ver) : Ob where
  P := fun w F => SlVG w F A l ∧ ∀ k, F k → k < w.heap.size
  keep := fun h hk hs => ⟨h.1.keep hk hs, fun k e => Nat.lt_of_lt_of_le (h.2 k e) hs⟩
  lt := fun h e => h.2 _ e
def oRing (q : Nat) (r : Rg) : Ob where
  P := fun w F => theR w q F r
  keep := fun ⟨v, e, h, ok⟩ hk _ => ⟨v, e, h.keep fun k q => hk k (by rw [e]; exact q), ok⟩
  lt := fun ⟨v, e, h, _⟩ q => h.lt _ (by rw [e] at q; exact q)
/-- a label -/
def oLab (v : Value) (zs : List Int) : Ob where
  P := fun w F => (∃ A c, v = .slice A zs.length c ∧ Sl w A zs ∧ (0 < zs.length → ∃ g o, A = some ⟨g, o, none⟩ ∧ F g)) ∧ ∀ k, F k → k < w.heap.size
  keep := fun h hk hs => ⟨by
    obtain ⟨A, c, e, sl, hf⟩ := h.1
    refine ⟨A, c, e, fun hp => ?_, hf⟩
    obtain ⟨g, o, e2, hg⟩ := hf hp
    obtain ⟨b, o', e3, hlt, hc⟩ := sl hp
    rw [e2] at e3
    injection e3 with e3
    injection e3 with e4 e5 _
    subst e4; subst e5
    exact ⟨g, o, e2, Nat.lt_of_lt_of_le hlt hs, fun j hj => (World.cell?_of_block (hk g hg)).trans (hc j hj)⟩, fun k e => Nat.lt_of_lt_of_le (h.2 k e) hs⟩
  lt := fun h e => h.2 _ e

section
variable {w0 w w' : World} {N : Nat → Prop} {os : List Ob} {i : Nat}
end

section
variable {w w' : World} {t : TypeId} {v : Value} {xs : List Value}
end


section
variable {w0 w w' : World} {N : Nat → Prop} {os : List Ob} {i : Nat} {t : TypeId} {v : Value} {xs : List Value}
/-- a chain becomes one of the data -/
theorem DatP.put {vs : List Value} {cs : List (List Ver)} {F F' : Nat → Prop} {A : Option Addr} {l : List Ver} {c p : Nat} (h : DatP vs cs w F) (hs : SlVG w F' A l ∧ ∀ k, F' k → k < w.heap.size) (hc : l.length ≤ c) (hp : p < cs.length) :
    DatP (vs.set p (Value.slice A l.length c)) (cs.set p l) w fun k => F k ∨ F' k := by
  refine ⟨by rw [List.length_set, List.length_set]; exact h.len, fun i hi => ?_, fun k e => by
    rcases e with e | e
    · exact h.lt k e
    · exact hs.2 k e⟩
  rw [List.length_set] at hi
  by_cases z : i = p
  · subst z
    have e1 : (vs.set i (Value.slice A l.length c)).getD i undef = .slice A l.length c := by
      rw [List.getD_eq_getElem?_getD, List.getElem?_set_self (by rw [h.len]; exact hi)]; rfl
    rw [e1, Fine.getD_set_self hi]
    exact ⟨A, c, rfl, hc, hs.1.mono fun k e => .inr e⟩
  · have e1 : (vs.set p (Value.slice A l.length c)).getD i undef = vs.getD i undef := by
      rw [List.getD_eq_getElem?_getD, List.getElem?_set_ne (fun e => z e.symm), List.getD_eq_getElem?_getD]
    rw [e1, Fine.getD_set_ne z]
    obtain ⟨A', c', h1, h2, h3⟩ := h.at_ i hi
    exact ⟨A', c', h1, h2, h3.mono fun k e => .inl e⟩
theorem DatP.push {vs : List Value} {cs : List (List Ver)} {F F' : Nat → Prop} {A : Option Addr} {l : List Ver} {c : Nat} (h : DatP vs cs w F) (hs : SlVG w F' A l ∧ ∀ k, F' k → k < w.heap.size) (hc : l.length ≤ c) :
    DatP (vs ++ [Value.slice A l.length c]) (cs ++ [l]) w fun k => F k ∨ F' k := by
  refine ⟨by rw [List.length_append, List.length_append, h.len]; rfl, fun i hi => ?_, fun k e => by
    rcases e with e | e
    · exact h.lt k e
    · exact hs.2 k e⟩
  rw [List.length_append, List.length_singleton] at hi
  by_cases z : i = cs.length
  · subst z
    have e1 : (vs ++ [Value.slice A l.length c]).getD cs.length undef = .slice A l.length c := by
      rw [List.getD_eq_getElem?_getD, ← h.len, List.getElem?_append_right (Nat.le_refl _), Nat.sub_self]; rfl
    have e2 : (cs ++ [l]).getD cs.length [] = l := by
      rw [List.getD_eq_getElem?_getD, List.getElem?_append_right (Nat.le_refl _), Nat.sub_self]; rfl
    rw [e1, e2]
    exact ⟨A, c, rfl, hc, hs.1.mono fun k e => .inr e⟩
  · have hi : i < cs.length := by omega
    have e1 : (vs ++ [Value.slice A l.length c]).getD i undef = vs.getD i undef := by
      rw [List.getD_eq_getElem?_getD, List.getElem?_append_left (by rw [h.len]; exact hi), List.getD_eq_getElem?_getD]
    have e2 : (cs ++ [l]).getD i [] = cs.getD i [] := by
      rw [List.getD_eq_getElem?_getD, List.getElem?_append_left hi, List.getD_eq_getElem?_getD]
    rw [e1, e2]
    obtain ⟨A', c', h1, h2, h3⟩ := h.at_ i hi
    exact ⟨A', c', h1, h2, h3.mono fun k e => .inl e⟩
end

/-- what a room's block holds, and what it leads to -/
structure Sh where
  lb : Value
  g1 : Int
  g2 : Int
  g3 : Int
  q : Nat
  tv : Value
  cv : Value
  fv : Value
  x1 : Int
  x2 : Int
  x3 : Int
  T : Option Nat
  l : KV
  bd : Nat
  vs : List Value
  cs : List (List Ver)
  fr : List Nat
  r : Rg
  zs : List Int
namespace Sh
def row (s : Sh) : List Value := [s.lb, .int .i64 s.g1, .int .i64 s.g2, .int .i64 s.g3, .pointer (some ⟨s.q, 0, none⟩), s.tv, s.cv, s.fv, .int .i64 s.x1, .int .i64 s.x2, .int .i64 s.x3]
def ptrs (T : Option Nat) : List Value := T.toList.map Ptr
def frs (fr : List Nat) : List Value := fr.map fun p : Nat => Value.int .i64 (p : Int)
def os (b : Nat) (s : Sh) : List Ob := [Ob.row b s.row 56, oTree s.T s.l s.bd, oVec 92 s.tv (ptrs s.T), oVec 64 s.cv s.vs, oVec 3 s.fv (frs s.fr), oDat s.vs s.cs, oRing s.q s.r, oLab s.lb s.zs]
/-- the shelf tells L, but for the sums; P bounds what was ever put -/
structure AtF (s : Sh) (L : Ch) (P : Nat) : Prop where
  fine : Fine s.l s.cs s.fr L
  t0 : s.T = none → s.tv = .slice none 0 0 ∧ s.l = []
  n1 : L.length ≤ P
  n2 : s.bd ≤ 29 * (2 * P - L.length)
  n3 : s.cs.length ≤ P
  n4 : P ≤ 13200
  good : GoodC L
  right : ∀ x, x ∈ L → rightL x.2 = true
  n5 : L.length ≤ 3950
/-- the shelf tells L -/
structure At (s : Sh) (L : Ch) (P : Nat) : Prop where
  f : s.AtF L P
  x1 : s.x1 = (L.live : Nat)
  x2 : s.x2 = (L.alive : Nat)
  x3 : s.x3 = (L.vers : Nat)
/-- what the shelf's functions leave alone -/
def Hd (s s' : Sh) : Prop := s'.lb = s.lb ∧ s'.g1 = s.g1 ∧ s'.g2 = s.g2 ∧ s'.g3 = s.g3 ∧ s'.q = s.q ∧ s'.r = s.r ∧ s'.zs = s.zs
end Sh
abbrev PtrS (b : Nat) : Value := .pointer (some ⟨b, 5, none⟩)

end Go.Proofs.Ytbfgpdgiaclphaa

namespace Go.Proofs.Ytbfgpdgiaclphaa
open Go.RowKit

set_option maxRecDepth 100000 in
/-- weight -/
theorem xWeightR (k : ByteArray) (x : Val) (w : World) (hf : x.Fits) (hs : x.txt.size ≤ 1000) (hk : k.size ≤ 1000000) (ho : x.ok = true) :
    Calls Try.prog 55 #[.string k, x.v] w fun e w' => e = .returned (.int .i64 ((k.size + x.pack.size : Nat) : Int)) ∧ Below w.heap.size w w' := by
  have pl := (Val.pack_size x ho).1
  have P := Lib.hid (fun w => by have := vpWeight x w hf hs; rw [ho, if_pos rfl] at this; exact this)
  obtain ⟨z, hz⟩ : ∃ z, z = x.pack.size := ⟨_, rfl⟩
  obtain ⟨n, hn⟩ : ∃ n, n = k.size + z := ⟨_, rfl⟩
  obtain ⟨m, hm⟩ : ∃ m, m = k.size := ⟨_, rfl⟩
  simp only [← hz] at P pl ⊢
  rw [← hn]
  have HN := Lib.hid (show n = m + z by rw [hn, hm])
  rw [← hm] at hk hn
  clear hz ho hf hs
  obtain ⟨nm, t, b⟩ := x
  change Hid (∀ w, Calls Try.prog 76 #[.agg #[.bool nm, .string t, .int .u64 (b : Int)]] w _) at P
  show Calls Try.prog 55 #[.string k, .agg #[.bool nm, .string t, .int .u64 (b : Int)]] w _
  have B0 := Lib.hid ((Below.refl w.heap.size w).alloc (Nat.le_refl _) (.cells #[.bool nm, .string t, .int .u64 (b : Int)] 43))
  have WR := Lib.hid (show wrap64 ((k.size : Int) + (z : Int)) = (n : Int) by rw [HN.out, hm]; unfold wrap64; omega)
  clear hn hm
  go_enter Try.func55, Try.ntmps55
  go_wp2_with fail
  refine (P.out _).mono ?_
  rintro e w1 ⟨rfl, hb1⟩
  have HB1 := Lib.hid (below_then B0.out hb1)
  clear hb1
  go_wp2_with fail
  go_ret
  exact ⟨by rw [← WR.out]; rfl, HB1.out⟩

set_option maxRecDepth 100000 in
/-- plus -/
theorem xPlusR (a b c d e f x y z : Int) (w : World) (h1 : wrap64 (a + d) = x) (h2 : wrap64 (b + e) = y) (h3 : wrap64 (c + f) = z) :
    Calls Try.prog 43 #[.agg #[.int .i64 a, .int .i64 b, .int .i64 c], .agg #[.int .i64 d, .int .i64 e, .int .i64 f]] w fun r w' => r = .returned (.agg #[.int .i64 x, .int .i64 y, .int .i64 z]) ∧ Below w.heap.size w w' := by
  have R0 := Lib.hid (RowAt.new ((w.alloc (.cells #[.int .i64 a, .int .i64 b, .int .i64 c] 52)).alloc (.cells #[.int .i64 d, .int .i64 e, .int .i64 f] 52)) [.int .i64 x, .int .i64 y, .int .i64 z] 52)
  have B0 := Lib.hid (((((Below.refl _ w).alloc (Nat.le_refl _) (.cells #[.int .i64 a, .int .i64 b, .int .i64 c] 52)).alloc (by simp) (.cells #[.int .i64 d, .int .i64 e, .int .i64 f] 52)).alloc (by simp; omega) (.cells #[.int .i64 x, .int .i64 y, .int .i64 z] 52)))
  go_enter Try.func43, Try.ntmps43
  go_wp2_with fail
  rw [h1, h2, h3]
  refine bodyPost_ret (results_cell_one rfl _ _ (w.heap.size + 1 + 1) _ [.int .i64 x, .int .i64 y, .int .i64 z] _ rfl (by have := R0.out; rw [show ((w.alloc (.cells #[.int .i64 a, .int .i64 b, .int .i64 c] 52)).alloc (.cells #[.int .i64 d, .int .i64 e, .int .i64 f] 52)).heap.size = w.heap.size + 1 + 1 by simp] at this; exact this) Try.underlying52 rfl (by kernel_rfl)) rfl ?_
  exact ⟨rfl, B0.out⟩
set_option maxRecDepth 100000 in
/-- less -/
theorem xLessR (a b c d e f x y z : Int) (w : World) (h1 : wrap64 (a - d) = x) (h2 : wrap64 (b - e) = y) (h3 : wrap64 (c - f) = z) :
    Calls Try.prog 41 #[.agg #[.int .i64 a, .int .i64 b, .int .i64 c], .agg #[.int .i64 d, .int .i64 e, .int .i64 f]] w fun r w' => r = .returned (.agg #[.int .i64 x, .int .i64 y, .int .i64 z]) ∧ Below w.heap.size w w' := by
  have R0 := Lib.hid (RowAt.new ((w.alloc (.cells #[.int .i64 a, .int .i64 b, .int .i64 c] 52)).alloc (.cells #[.int .i64 d, .int .i64 e, .int .i64 f] 52)) [.int .i64 x, .int .i64 y, .int .i64 z] 52)
  have B0 := Lib.hid (((((Below.refl _ w).alloc (Nat.le_refl _) (.cells #[.int .i64 a, .int .i64 b, .int .i64 c] 52)).alloc (by simp) (.cells #[.int .i64 d, .int .i64 e, .int .i64 f] 52)).alloc (by simp; omega) (.cells #[.int .i64 x, .int .i64 y, .int .i64 z] 52)))
  go_enter Try.func41, Try.ntmps41
  go_wp2_with fail
  rw [h1, h2, h3]
  refine bodyPost_ret (results_cell_one rfl _ _ (w.heap.size + 1 + 1) _ [.int .i64 x, .int .i64 y, .int .i64 z] _ rfl (by have := R0.out; rw [show ((w.alloc (.cells #[.int .i64 a, .int .i64 b, .int .i64 c] 52)).alloc (.cells #[.int .i64 d, .int .i64 e, .int .i64 f] 52)).heap.size = w.heap.size + 1 + 1 by simp] at this; exact this) Try.underlying52 rfl (by kernel_rfl)) rfl ?_
  exact ⟨rfl, B0.out⟩

theorem last_right {l : List Ver} (h : rightL l = true) (hg : GoodL l) (hp : 0 < l.length) : (lastL l).val.Fits ∧ (lastL l).val.txt.size ≤ 1000 ∧ (lastL l).val.ok = true := by
  have hi : l.length - 1 < l.length := by omega
  have := (rightL_iff l).1 h _ hi
  obtain ⟨x1, x2⟩ := hg.get hi
  unfold mayV at this
  simp only [Bool.and_eq_true] at this
  exact ⟨x1, x2, this.2.2.1⟩
theorem wgt_last {l : List Ver} {k : ByteArray} (h : rightL l = true) (hg : GoodL l) : Ch.wgt (k, l) = if l.length = 0 ∨ (lastL l).gone = true then 0 else k.size + (lastL l).val.pack.size := by
  show (if weightL l = 0 then 0 else weightL l + k.size) = _
  unfold weightL
  by_cases z : l.length = 0 ∨ (lastL l).gone = true
  · rw [if_pos z, if_pos z, if_pos rfl]
  · rw [if_neg z, if_neg z]
    have hp : 0 < l.length := by
      have : ¬ l.length = 0 := fun e => z (.inl e)
      omega
    have := (Val.pack_size _ (last_right h hg hp).2.2).2
    rw [if_neg (by omega)]
    show _ + k.size = _
    omega
set_option maxRecDepth 100000 in
set_option maxHeartbeats 4000000 in
/-- sumsOf -/
theorem xSumsR (k : ByteArray) (l : List Ver) (A : Option Addr) (c : Nat) (w : World) (h : SlV w A l) (hg : GoodL l) (hr : rightL l = true) (hk : k.size ≤ 1000000) :
    Calls Try.prog 42 #[.string k, .slice A l.length c] w fun e w' => e = .returned (.agg #[.int .i64 (Ch.wgt (k, l) : Nat), .int .i64 (Ch.aliv (k, l) : Nat), .int .i64 (l.length : Nat)]) ∧ Below w.heap.size w w' := by
  have CL := fun W (hs : SlV W A l) => xLast9 l A c W hs hg
  have e1 := wgt_last (k := k) hr hg
  have e2 : Ch.aliv (k, l) = if l.length = 0 ∨ (lastL l).gone = true then 0 else 1 := rfl
  obtain ⟨a, ha⟩ : ∃ a, a = Ch.wgt (k, l) := ⟨_, rfl⟩
  obtain ⟨b, hb⟩ : ∃ a, a = Ch.aliv (k, l) := ⟨_, rfl⟩
  obtain ⟨y, hy⟩ : ∃ y, y = (if (rightL l && decide (0 < l.length)) = true then lastL l else Ver.Z) := ⟨_, rfl⟩
  obtain ⟨D, hD⟩ : ∃ D, D = decide (0 < l.length) := ⟨_, rfl⟩
  rw [hr, Bool.true_and, ← hD] at hy
  simp only [hr, Bool.true_and, ← hD, ← hy] at CL
  have LR := Lib.hid (fun (hd : D = true) => show y.val.Fits ∧ y.val.txt.size ≤ 1000 ∧ y.val.ok = true from by
    rw [hy, if_pos hd]
    exact last_right hr hg (by rw [hD] at hd; exact of_decide_eq_true hd))
  have EA := Lib.hid (show a = if D = false ∨ y.gone = true then 0 else k.size + y.val.pack.size from by
    rw [ha, e1, hy]
    by_cases z : l.length = 0
    · have : D = false := by rw [hD]; exact decide_eq_false (by omega)
      rw [if_pos (.inl z), this]; rfl
    · have : D = true := by rw [hD]; exact decide_eq_true (by omega)
      rw [this]
      simp [z])
  have EB := Lib.hid (show b = if D = false ∨ y.gone = true then 0 else 1 from by
    rw [hb, e2, hy]
    by_cases z : l.length = 0
    · have : D = false := by rw [hD]; exact decide_eq_false (by omega)
      rw [if_pos (.inl z), this]; rfl
    · have : D = true := by rw [hD]; exact decide_eq_true (by omega)
      rw [this]
      simp [z])
  obtain ⟨n, hn⟩ : ∃ n, n = l.length := ⟨_, rfl⟩
  rw [← ha, ← hb, ← hn]
  simp only [← hn] at CL
  have CL : ∀ W, SlV W A l → Calls Try.prog 53 #[.slice A n c] W fun e w' => e = .returned (.tuple #[.agg #[.int .i64 y.seq, .bool y.gone, .bool y.val.num, .string y.val.txt, .int .u64 (y.val.bits : Int)], .bool D]) ∧ Below W.heap.size W w' := CL
  have CL := Lib.hid CL
  have CW := Lib.hid (fun (hd : D = true) w => xWeightR k y.val w (LR.out hd).1 (LR.out hd).2.1 hk (LR.out hd).2.2)
  have g0 := RowAt.new w [.int .i64 0, .int .i64 0, .int .i64 0] 52
  obtain ⟨B, hB⟩ : ∃ B, B = w.heap.size := ⟨_, rfl⟩
  have b0 : Below w.heap.size w (w.alloc (.cells #[.int .i64 0, .int .i64 0, .int .i64 0] 52)) := (Below.refl _ _).alloc (Nat.le_refl _) _
  have S0 := Lib.hid (h.below b0)
  rw [← hB] at g0 b0 ⊢
  have G0 := Lib.hid g0
  have B0 := Lib.hid b0
  have HB := Lib.hid hB
  obtain ⟨sq, gn, v⟩ := y
  obtain ⟨m, t, u⟩ := v
  clear h hg hr hk e1 e2 ha hb hy hD hn LR g0 b0 hB
  go_enter Try.func42, Try.ntmps42
  go_wp2_with fail
  rw [← HB.out]
  refine (CL.out _ S0.out).mono ?_
  rintro e w1 ⟨rfl, hb1⟩
  have G1 := Lib.hid (G0.out.below hb1)
  have B1 := Lib.hid (B0.out.trans (hb1.mono (by rw [HB.out]; simp)))
  clear hb1
  have END := Lib.hid (fun (W : World) (x1 x2 x3 : Int) (r : RowAt W B [.int .i64 x1, .int .i64 x2, .int .i64 x3] 52) (tm : Array Value) (hp : tm.getD 4 undef = .pointer (some ⟨B, 0, none⟩)) => results_cell_one (fn := Try.f42) rfl tm W B _ [.int .i64 x1, .int .i64 x2, .int .i64 x3] _ hp r Try.underlying52 rfl (by kernel_rfl))
  have LT := Lib.hid (show B < w1.heap.size from G1.out.lt)
  have AL := Lib.hid (G1.out.alloc (.cells #[.int .i64 sq, .bool gn, .bool m, .string t, .int .u64 (u : Int)] 60))
  have AB := Lib.hid (B1.out.alloc (Nat.le_of_lt LT.out) (.cells #[.int .i64 sq, .bool gn, .bool m, .string t, .int .u64 (u : Int)] 60))
  have f0 := AL.out.frozen 0
  have f1 := AL.out.frozen 1
  have f2 := AL.out.frozen 2
  have d0 := AL.out.cell 0
  have d1 := AL.out.cell 1
  have d2 := AL.out.cell 2
  simp only [List.getElem?_cons_succ, List.getElem?_cons_zero] at d0 d1 d2
  by_cases q : D = true ∧ gn = false
  · obtain ⟨rfl, rfl⟩ := q
    have ea : a = k.size + (Val.pack ⟨m, t, u⟩).size := EA.out
    have eb : b = 1 := EB.out
    have CX := Lib.hid (fun w => CW.out rfl w)
    obtain ⟨z, hz⟩ : ∃ z, z = k.size + (Val.pack ⟨m, t, u⟩).size := ⟨_, rfl⟩
    simp only [← hz] at CX ea
    have CX : Hid (∀ w, Calls Try.prog 55 #[.string k, .agg #[.bool m, .string t, .int .u64 (u : Int)]] w fun e w' => e = .returned (.int .i64 (z : Nat)) ∧ Below w.heap.size w w') := CX
    subst ea; subst eb
    clear CW EA EB CL hz
    go_wp2_with fail
    refine (CX.out _).mono ?_
    rintro e w2 ⟨rfl, hb2⟩
    have G2 := Lib.hid (AL.out.below hb2)
    have B2 := Lib.hid (AB.out.trans (hb2.mono (by simp; have := LT.out; omega)))
    clear f0 f1 f2 d0 d1 d2
    have f0 := G2.out.frozen 0
    have f1 := G2.out.frozen 1
    have f2 := G2.out.frozen 2
    have d0 := G2.out.cell 0
    have d1 := G2.out.cell 1
    have d2 := G2.out.cell 2
    simp only [List.getElem?_cons_succ, List.getElem?_cons_zero] at d0 d1 d2
    clear hb2
    go_wp2_with fail
    refine bodyPost_ret (END.out _ _ _ _ (((G2.out.set 0 _).set 1 _).set 2 _) _ rfl) rfl ⟨rfl, ((B2.out.setCell (p := ⟨B, 0, none⟩) (Nat.le_refl _) _).setCell (p := ⟨B, 1, none⟩) (Nat.le_refl _) _).setCell (p := ⟨B, 2, none⟩) (Nat.le_refl _) _⟩
  · have q2 : D = false ∨ gn = true := by
      cases D
      · exact .inl rfl
      · cases gn
        · exact absurd ⟨rfl, rfl⟩ q
        · exact .inr rfl
    have ea : a = 0 := by rw [EA.out, if_pos q2]
    have eb : b = 0 := by rw [EB.out, if_pos q2]
    subst ea; subst eb
    clear CW EA EB CL q
    cases D with
    | false =>
      clear q2
      go_wp2_with fail
      refine bodyPost_ret (END.out _ _ _ _ (((AL.out.set 0 _).set 1 _).set 2 _) _ rfl) rfl ⟨rfl, ((AB.out.setCell (p := ⟨B, 0, none⟩) (Nat.le_refl _) _).setCell (p := ⟨B, 1, none⟩) (Nat.le_refl _) _).setCell (p := ⟨B, 2, none⟩) (Nat.le_refl _) _⟩
    | true =>
      have e : gn = true := by rcases q2 with q2 | q2; cases q2; exact q2
      subst e
      clear q2
      go_wp2_with fail
      refine bodyPost_ret (END.out _ _ _ _ (((AL.out.set 0 _).set 1 _).set 2 _) _ rfl) rfl ⟨rfl, ((AB.out.setCell (p := ⟨B, 0, none⟩) (Nat.le_refl _) _).setCell (p := ⟨B, 1, none⟩) (Nat.le_refl _) _).setCell (p := ⟨B, 2, none⟩) (Nat.le_refl _) _⟩

end Go.Proofs.Ytbfgpdgiaclphaa

namespace Go.Proofs.Ytbfgpdgiaclphaa
open Go.RowKit

section
variable {w0 w : World} {N : Nat → Prop} {b : Nat} {s : Sh} {L : Ch} {P : Nat} {os2 : List Ob}
theorem Sh.rowAt (h : Side w0 N w (s.os b ++ os2)) : RowAt w b s.row 56 := h.rowAt (i := 0) rfl
theorem Sh.fits (a : s.AtF L P) : s.l.length ≤ 4000 ∧ ∀ x, x ∈ s.l → x.1.size ≤ 1000000 :=
  ⟨by rw [a.fine.llen]; have := a.n5; omega, fun x hx => by have := a.fine.kmem (k := x.1) (p := x.2) hx; omega⟩
theorem Sh.tview (h : Side w0 N w (s.os b ++ os2)) (a : s.AtF L P) : (s.T = none ∧ s.l = [] ∧ s.tv = .slice none 0 0) ∨
    ∃ t g c E, s.T = some t ∧ s.tv = .slice (some ⟨g, 0, none⟩) 1 c ∧ w.cell? ⟨g, 0, none⟩ = some (Ptr t) ∧ Rep w t E s.l s.bd := by
  obtain ⟨F, hP⟩ := h.get (i := 1) rfl
  have hv := h.vecAt (i := 2) (t := 92) (v := s.tv) (xs := Sh.ptrs s.T) rfl
  rcases hP with ⟨e, e2, _⟩ | ⟨t, e, hr⟩
  · exact .inl ⟨e, e2, (a.t0 e).1⟩
  · refine .inr ?_
    rw [e] at hv
    rcases vec_form hv with ⟨_, e3⟩ | ⟨g, c, e3, hc, hg, hcell, _⟩
    · cases e3
    · exact ⟨t, g, c, F, e, e3, hcell 0 (by show 0 < 1; decide), hr⟩
set_option maxRecDepth 100000 in
set_option maxHeartbeats 4000000 in
/-- find -/
theorem xFindR (h : Side w0 N w (s.os b ++ os2)) (a : s.AtF L P) (k : ByteArray) :
    Calls Try.prog 44 #[PtrS b, .string k] w fun e w' => ∃ tp p, e = .returned (.tuple #[tp, .int .i64 p]) ∧ Below w.heap.size w w' ∧ (L.has k = false → tp = .pointer none ∧ p = 0) ∧ (L.has k = true → ∃ t, s.T = some t ∧ tp = Ptr t ∧ p = s.l.num (s.l.pos k)) := by
  have c5 := (Sh.rowAt h).cell 5
  simp only [Sh.row, List.getElem?_cons_succ, List.getElem?_cons_zero] at c5
  have hh := a.fine.has k
  rcases Sh.tview h a with ⟨e1, e2, e3⟩ | ⟨t, g, c, E, e1, e2, c0, hr⟩
  · have hn : L.has k = false := by rw [← hh, e2]; rfl
    have HN := Lib.hid hn
    rw [e3] at c5
    clear h a e1 e2 e3 hh hn
    go_enter Try.func44, Try.ntmps44
    go_wp2_with fail
    refine wp_loop_rounds 1 ?_
    rw [rounds_succ]
    go_wp2_with fail
    go_ret2
    exact ⟨_, _, rfl, Below.refl _ _, fun _ => ⟨rfl, rfl⟩, fun z => by rw [HN.out] at z; cases z⟩
  · obtain ⟨f1, f2⟩ := Sh.fits a
    have GC := Lib.hid (xGet w t E s.l s.bd k hr f1)
    rw [e2] at c5
    have HT := Lib.hid e1
    cases hk : s.l.has k with
    | false =>
      rw [hk] at GC
      simp only [Bool.false_eq_true, if_false] at GC
      have HL := Lib.hid (show L.has k = false by rw [← hh, hk])
      clear h a e1 e2 hh hr f1 f2 hk
      go_enter Try.func44, Try.ntmps44
      go_wp2_with fail
      refine wp_loop_rounds 2 ?_
      rw [rounds_succ]
      go_wp2_with fail
      refine GC.out.mono ?_
      rintro e w1 ⟨rfl, hb⟩
      have HB := Lib.hid hb
      clear hb
      go_wp2_with fail
      rw [rounds_succ]
      go_wp2_with fail
      go_ret2
      exact ⟨_, _, rfl, HB.out, fun _ => ⟨rfl, rfl⟩, fun z => by rw [HL.out] at z; cases z⟩
    | true =>
      rw [hk, if_pos rfl] at GC
      have HL := Lib.hid (show L.has k = true by rw [← hh, hk])
      obtain ⟨p, hp⟩ : ∃ p, p = s.l.num (s.l.pos k) := ⟨_, rfl⟩
      rw [← hp] at GC ⊢
      clear h a e1 e2 hh hr f1 f2 hk hp
      go_enter Try.func44, Try.ntmps44
      go_wp2_with fail
      refine wp_loop_rounds 2 ?_
      rw [rounds_succ]
      go_wp2_with fail
      refine GC.out.mono ?_
      rintro e w1 ⟨rfl, hb⟩
      have HB := Lib.hid hb
      clear hb
      go_wp2_with fail
      go_ret2
      exact ⟨_, _, rfl, HB.out, fun z => (by rw [HL.out] at z; cases z), fun _ => ⟨t, HT.out, rfl, rfl⟩⟩
/-- a chain at hand -/
theorem Sh.cview (h : Side w0 N w (s.os b ++ os2)) {n : Nat} (hn : n < s.cs.length) : ∃ g c A c2, s.cv = .slice (some ⟨g, 0, none⟩) s.cs.length c ∧ w.cell? ⟨g, n, none⟩ = some (.slice A (s.cs.getD n []).length c2) ∧ w.frozen? ⟨g, n, none⟩ = false ∧ (s.cs.getD n []).length ≤ c2 ∧ SlV w A (s.cs.getD n []) := by
  have hv := h.vecAt (i := 3) (t := 64) (v := s.cv) (xs := s.vs) rfl
  obtain ⟨F, hP⟩ := h.get (i := 5) (o := oDat s.vs s.cs) rfl
  have hl : s.vs.length = s.cs.length := hP.len
  obtain ⟨A, c2, e, hc, hs⟩ := hP.at_ n hn
  rcases vec_form hv with ⟨_, e3⟩ | ⟨g, c, e3, _, hg, hcell, hf⟩
  · rw [e3] at hl; simp at hl; omega
  · rw [hl] at e3
    refine ⟨g, c, A, c2, e3, ?_, hf n, hc, hs.1⟩
    rw [hcell n (by omega), ← e, List.getD_eq_getElem?_getD, List.getElem?_eq_getElem (by omega)]; rfl
set_option maxRecDepth 100000 in
set_option maxHeartbeats 4000000 in
/-- chain -/
theorem xChainR (h : Side w0 N w (s.os b ++ os2)) (a : s.AtF L P) (k : ByteArray) :
    Calls Try.prog 35 #[PtrS b, .string k] w fun e w' => ∃ A c, e = .returned (.slice A (L.of k).length c) ∧ (L.of k).length ≤ c ∧ SlV w' A (L.of k) ∧ Below w.heap.size w w' := by
  have FC := Lib.hid (xFindR h a k)
  cases hk : L.has k with
  | false =>
    have eo := Lib.hid (Ch.of_no hk)
    have FC := Lib.hid (FC.out.mono (R' := fun e w' => e = .returned (.tuple #[.pointer none, .int .i64 0]) ∧ Below w.heap.size w w') fun e w' ⟨tp, p, h1, h2, h3, _⟩ => by obtain ⟨rfl, rfl⟩ := h3 hk; exact ⟨h1, h2⟩)
    rw [eo.out]
    clear h a hk
    go_enter Try.func35, Try.ntmps35
    go_wp2_with fail
    refine FC.out.mono ?_
    rintro e w1 ⟨rfl, hb⟩
    have HB := Lib.hid hb
    clear hb
    go_wp2_with fail
    go_ret
    exact ⟨none, 0, rfl, Nat.le_refl _, SlV.nil _ _, HB.out⟩
  | true =>
    obtain ⟨n, n1, n2, n3, _, _⟩ := a.fine.place hk
    obtain ⟨t, ht⟩ : ∃ t, s.T = some t := by
      rcases Sh.tview h a with ⟨_, e2, _⟩ | ⟨t, _, _, _, e1, _⟩
      · have := a.fine.has k; rw [e2, hk] at this; cases this
      · exact ⟨t, e1⟩
    have FC := Lib.hid (FC.out.mono (R' := fun e w' => e = .returned (.tuple #[Ptr t, .int .i64 (n : Int)]) ∧ Below w.heap.size w w') fun e w' ⟨tp, p, h1, h2, _, h4⟩ => by
      obtain ⟨t', e1, rfl, rfl⟩ := h4 hk
      rw [ht] at e1
      injection e1 with e1
      subst e1
      rw [n1] at h1
      exact ⟨h1, h2⟩)
    have CV := Lib.hid (fun W (hb : Below w.heap.size w W) => show ∃ g c A c2, W.cell? ⟨b, 6, none⟩ = some (.slice (some ⟨g, 0, none⟩) s.cs.length c) ∧ W.cell? ⟨g, n, none⟩ = some (.slice A (L.of k).length c2) ∧ (L.of k).length ≤ c2 ∧ SlV W A (L.of k) from by
      obtain ⟨g, c, A, c2, e1, e2, _, e4, e5⟩ := Sh.cview (h.below hb) n2
      have c6 := (Sh.rowAt (h.below hb)).cell 6
      simp only [Sh.row, List.getElem?_cons_succ, List.getElem?_cons_zero] at c6
      rw [n3] at e2 e4 e5
      rw [e1] at c6
      exact ⟨g, c, A, c2, c6, e2, e4, e5⟩)
    have bn := a.n3
    have b4 := a.n4
    obtain ⟨M, hM⟩ : ∃ M, M = s.cs.length := ⟨_, rfl⟩
    obtain ⟨l, hl⟩ : ∃ l, l = L.of k := ⟨_, rfl⟩
    obtain ⟨m, hm⟩ : ∃ m, m = l.length := ⟨_, rfl⟩
    rw [← hl] at CV ⊢
    rw [← hm] at CV ⊢
    rw [← hM] at n2 bn
    simp only [← hM] at CV
    clear h a hk ht n1 n3 hM hl hm
    go_enter Try.func35, Try.ntmps35
    go_wp2_with fail
    refine FC.out.mono ?_
    rintro e w1 ⟨rfl, hb⟩
    obtain ⟨g, c, A, c2, q1, q2, q3, q4⟩ := CV.out w1 hb
    have HB := Lib.hid hb
    have Q3 := Lib.hid q3
    have Q4 := Lib.hid q4
    clear hb q3 q4 CV
    have i0 : (0 : Int) ≤ (n : Int) := by omega
    have i1 : (n : Int) < (M : Int) := by omega
    go_wp2_with fail
    go_ret
    exact ⟨A, c2, rfl, Q3.out, Q4.out, HB.out⟩
end

end Go.Proofs.Ytbfgpdgiaclphaa

namespace Go.Proofs.Ytbfgpdgiaclphaa
open Go.RowKit

/-- the i-th key and its place -/
def KV.atK (l : KV) (i : Nat) : ByteArray := if i < l.length then l.key i else ⟨#[]⟩
def KV.atN (l : KV) (i : Nat) : Int := if i < l.length then l.num i else 0
section
variable {w0 w : World} {N : Nat → Prop} {b : Nat} {s : Sh} {os2 : List Ob} {L : Ch} {P : Nat}
set_option maxRecDepth 100000 in
set_option maxHeartbeats 4000000 in
/-- least, by Seek -/
theorem xLeastS (h : Side w0 N w (s.os b ++ os2)) (a : s.AtF L P) (k : ByteArray) :
    Calls Try.prog 63 #[PtrS b, .func (.func 38) #[] #[], .string k] w fun e w' => e = .returned (.tuple #[.string (s.l.atK (s.l.pos k)), .int .i64 (s.l.atN (s.l.pos k)), .bool (decide (s.l.pos k < s.l.length))]) ∧ Below w.heap.size w w' := by
  have c5 := (Sh.rowAt h).cell 5
  simp only [Sh.row, List.getElem?_cons_succ, List.getElem?_cons_zero] at c5
  rcases Sh.tview h a with ⟨e1, e2, e3⟩ | ⟨t, g, c, E, e1, e2, c0, hr⟩
  · rw [e2]
    rw [e3] at c5
    clear h a e1 e2 e3
    show Calls Try.prog 63 #[PtrS b, .func (.func 38) #[] #[], .string k] w fun e w' => e = .returned (.tuple #[.string ⟨#[]⟩, .int .i64 0, .bool false]) ∧ Below w.heap.size w w'
    go_enter Try.func63, Try.ntmps63
    go_wp2_with fail
    refine wp_loop_rounds 1 ?_
    rw [rounds_succ]
    go_wp2_with fail
    go_ret3
    exact ⟨rfl, Below.refl _ _⟩
  · obtain ⟨f1, f2⟩ := Sh.fits a
    have GC := xSeek w t E s.l s.bd k hr f1 f2
    rw [e2] at c5
    have eK : s.l.atK (s.l.pos k) = if s.l.pos k < s.l.length then s.l.key (s.l.pos k) else ⟨#[]⟩ := rfl
    have eN : s.l.atN (s.l.pos k) = if s.l.pos k < s.l.length then s.l.num (s.l.pos k) else 0 := rfl
    rw [← eK, ← eN] at GC
    have z1 : ¬ s.l.pos k < s.l.length → s.l.atK (s.l.pos k) = ⟨#[]⟩ ∧ s.l.atN (s.l.pos k) = 0 := fun z => ⟨if_neg z, if_neg z⟩
    obtain ⟨y, hy⟩ : ∃ y, y = s.l.atK (s.l.pos k) := ⟨_, rfl⟩
    obtain ⟨p, hp⟩ : ∃ y, y = s.l.atN (s.l.pos k) := ⟨_, rfl⟩
    rw [← hy, ← hp] at GC z1 ⊢
    cases d : decide (s.l.pos k < s.l.length) with
    | false =>
      obtain ⟨r1, r2⟩ := z1 (of_decide_eq_false d)
      rw [d] at GC
      rw [r1, r2] at GC ⊢
      have GC := Lib.hid GC
      clear h a e1 e2 hr f1 f2 eK eN z1 hy hp d r1 r2
      go_enter Try.func63, Try.ntmps63
      go_wp2_with fail
      refine wp_loop_rounds 2 ?_
      rw [rounds_succ]
      go_wp2_with fail
      refine GC.out.mono ?_
      rintro e w1 ⟨rfl, hb⟩
      have HB := Lib.hid hb
      clear hb
      go_wp2_with fail
      rw [rounds_succ]
      go_wp2_with fail
      go_ret3
      exact ⟨rfl, HB.out⟩
    | true =>
      rw [d] at GC
      have GC := Lib.hid GC
      clear h a e1 e2 hr f1 f2 eK eN z1 hy hp d
      go_enter Try.func63, Try.ntmps63
      go_wp2_with fail
      refine wp_loop_rounds 2 ?_
      rw [rounds_succ]
      go_wp2_with fail
      refine GC.out.mono ?_
      rintro e w1 ⟨rfl, hb⟩
      have HB := Lib.hid hb
      clear hb
      go_wp2_with fail
      rw [rounds_succ]
      go_wp2_with fail
      go_ret3
      exact ⟨rfl, HB.out⟩
set_option maxRecDepth 100000 in
set_option maxHeartbeats 4000000 in
/-- least, by After -/
theorem xLeastA (h : Side w0 N w (s.os b ++ os2)) (a : s.AtF L P) (k : ByteArray) :
    Calls Try.prog 63 #[PtrS b, .func (.func 64) #[] #[], .string k] w fun e w' => e = .returned (.tuple #[.string (s.l.atK (s.l.aft k)), .int .i64 (s.l.atN (s.l.aft k)), .bool (decide (s.l.aft k < s.l.length))]) ∧ Below w.heap.size w w' := by
  have c5 := (Sh.rowAt h).cell 5
  simp only [Sh.row, List.getElem?_cons_succ, List.getElem?_cons_zero] at c5
  rcases Sh.tview h a with ⟨e1, e2, e3⟩ | ⟨t, g, c, E, e1, e2, c0, hr⟩
  · rw [e2]
    rw [e3] at c5
    clear h a e1 e2 e3
    show Calls Try.prog 63 #[PtrS b, .func (.func 64) #[] #[], .string k] w fun e w' => e = .returned (.tuple #[.string ⟨#[]⟩, .int .i64 0, .bool false]) ∧ Below w.heap.size w w'
    go_enter Try.func63, Try.ntmps63
    go_wp2_with fail
    refine wp_loop_rounds 1 ?_
    rw [rounds_succ]
    go_wp2_with fail
    go_ret3
    exact ⟨rfl, Below.refl _ _⟩
  · obtain ⟨f1, f2⟩ := Sh.fits a
    have GC := xAfter w t E s.l s.bd k hr f1 f2
    rw [e2] at c5
    have eK : s.l.atK (s.l.aft k) = if s.l.aft k < s.l.length then s.l.key (s.l.aft k) else ⟨#[]⟩ := rfl
    have eN : s.l.atN (s.l.aft k) = if s.l.aft k < s.l.length then s.l.num (s.l.aft k) else 0 := rfl
    rw [← eK, ← eN] at GC
    have z1 : ¬ s.l.aft k < s.l.length → s.l.atK (s.l.aft k) = ⟨#[]⟩ ∧ s.l.atN (s.l.aft k) = 0 := fun z => ⟨if_neg z, if_neg z⟩
    obtain ⟨y, hy⟩ : ∃ y, y = s.l.atK (s.l.aft k) := ⟨_, rfl⟩
    obtain ⟨p, hp⟩ : ∃ y, y = s.l.atN (s.l.aft k) := ⟨_, rfl⟩
    rw [← hy, ← hp] at GC z1 ⊢
    cases d : decide (s.l.aft k < s.l.length) with
    | false =>
      obtain ⟨r1, r2⟩ := z1 (of_decide_eq_false d)
      rw [d] at GC
      rw [r1, r2] at GC ⊢
      have GC := Lib.hid GC
      clear h a e1 e2 hr f1 f2 eK eN z1 hy hp d r1 r2
      go_enter Try.func63, Try.ntmps63
      go_wp2_with fail
      refine wp_loop_rounds 2 ?_
      rw [rounds_succ]
      go_wp2_with fail
      refine GC.out.mono ?_
      rintro e w1 ⟨rfl, hb⟩
      have HB := Lib.hid hb
      clear hb
      go_wp2_with fail
      rw [rounds_succ]
      go_wp2_with fail
      go_ret3
      exact ⟨rfl, HB.out⟩
    | true =>
      rw [d] at GC
      have GC := Lib.hid GC
      clear h a e1 e2 hr f1 f2 eK eN z1 hy hp d
      go_enter Try.func63, Try.ntmps63
      go_wp2_with fail
      refine wp_loop_rounds 2 ?_
      rw [rounds_succ]
      go_wp2_with fail
      refine GC.out.mono ?_
      rintro e w1 ⟨rfl, hb⟩
      have HB := Lib.hid hb
      clear hb
      go_wp2_with fail
      rw [rounds_succ]
      go_wp2_with fail
      go_ret3
      exact ⟨rfl, HB.out⟩
end

end Go.Proofs.Ytbfgpdgiaclphaa

namespace Go.Proofs.Ytbfgpdgiaclphaa
open Go.RowKit

theorem Ch.pos_is {L : Ch} {k : ByteArray} {m : Nat} (hm : m ≤ L.length) (h1 : ∀ j, j < m → ltB (L.key j) k = true) (h2 : m < L.length → ltB (L.key m) k = false) : L.pos k = m := by
  have le := L.pos_le k
  rcases Nat.lt_trichotomy (L.pos k) m with q | q | q
  · have a := Ch.stop (L := L) (k := k) (by omega)
    rw [h1 _ q] at a; cases a
  · exact q
  · have a := Ch.below q
    rw [h2 (by omega)] at a; cases a
theorem Ch.rise_lt {L : Ch} (h : L.Rise) {i j : Nat} (hij : i < j) (hj : j < L.length) : ltB (L.key i) (L.key j) = true := by
  have := List.pairwise_iff_getElem.1 h i j (by omega) hj hij
  unfold Ch.key
  rw [List.getD_eq_getElem?_getD, List.getD_eq_getElem?_getD, List.getElem?_eq_getElem (show i < L.length by omega), List.getElem?_eq_getElem hj]
  exact this
theorem Ch.key_mem {L : Ch} {i : Nat} (hi : i < L.length) : (L.key i, L.chn i) ∈ L := by
  have : (L.key i, L.chn i) = L[i] := by
    unfold Ch.key Ch.chn
    rw [List.getD_eq_getElem?_getD, List.getElem?_eq_getElem hi]; rfl
  rw [this]
  exact List.getElem_mem hi
theorem Ch.key_front {front L0 : Ch} {i : Nat} (_ : i < L0.length) : (front ++ L0.drop i).length = front.length + (L0.length - i) ∧ Ch.key (front ++ L0.drop i) front.length = L0.key i ∧ Ch.chn (front ++ L0.drop i) front.length = L0.chn i := by
  have e : (front ++ L0.drop i)[front.length]? = L0[i]? := by
    rw [List.getElem?_append_right (Nat.le_refl _), Nat.sub_self, List.getElem?_drop, Nat.add_zero]
  refine ⟨by rw [List.length_append, List.length_drop], ?_, ?_⟩
  · unfold Ch.key
    rw [List.getD_eq_getElem?_getD, List.getD_eq_getElem?_getD, e]
  · unfold Ch.chn
    rw [List.getD_eq_getElem?_getD, List.getD_eq_getElem?_getD, e]
theorem Ch.front_key {front L : Ch} {j : Nat} (hj : j < front.length) : ∃ x, x ∈ front ∧ Ch.key (front ++ L) j = x.1 := by
  refine ⟨front[j], List.getElem_mem hj, ?_⟩
  unfold Ch.key
  rw [List.getD_eq_getElem?_getD, List.getElem?_append_left hj, List.getElem?_eq_getElem hj]; rfl

/-- what is left of L0 from its i-th key on -/
def View (b : Nat) (L0 : Ch) (i : Nat) (V : World) : Prop :=
  ∃ (wz : World) (N : Nat → Prop) (s : Sh) (L : Ch) (P : Nat) (os2 : List Ob) (front : Ch), Side wz N V (s.os b ++ os2) ∧ s.AtF L P ∧ L = front ++ L0.drop i ∧ ∀ x, x ∈ front → ∃ y, y ∈ L0.take i ∧ y.1 = x.1
/-- the key and the place that a step came to -/
def Fix (b : Nat) (L0 : Ch) (i : Nat) (K : ByteArray) (p : Nat) (V : World) : Prop :=
  ∃ (wz : World) (N : Nat → Prop) (s : Sh) (os2 : List Ob), Side wz N V (s.os b ++ os2) ∧ (i < L0.length → K = L0.key i ∧ p < s.cs.length ∧ s.cs.getD p [] = L0.chn i)
theorem View.below {b : Nat} {L0 : Ch} {i : Nat} {V V' : World} (h : View b L0 i V) (hb : Below V.heap.size V V') : View b L0 i V' := by
  obtain ⟨wz, N, s, L, P, os2, front, h1, h2⟩ := h
  exact ⟨wz, N, s, L, P, os2, front, h1.below hb, h2⟩
section
variable {wz V : World} {N : Nat → Prop} {b i P : Nat} {s : Sh} {os2 : List Ob} {L L0 front : Ch}
theorem next_of (a : s.AtF L P) (e : L = front ++ L0.drop i) : decide (front.length < s.l.length) = decide (i < L0.length) ∧
    ∃ p : Nat, s.l.atN front.length = (p : Int) ∧ (i < L0.length → s.l.atK front.length = L0.key i ∧ p < s.cs.length ∧ s.cs.getD p [] = L0.chn i) := by
  have ll : s.l.length = L.length := a.fine.llen
  have le : L.length = front.length + (L0.length - i) := by rw [e, List.length_append, List.length_drop]
  by_cases hi : i < L0.length
  · have hm : front.length < L.length := by omega
    obtain ⟨_, k2, k3⟩ := Ch.key_front (front := front) hi
    rw [← e] at k2 k3
    have hl : front.length < s.l.length := by omega
    have kk : s.l.key front.length = L0.key i := by rw [a.fine.key hm, k2]
    have mem : (s.l.key front.length, s.l.num front.length) ∈ s.l := by rw [← KV.getE _ _ hl]; exact List.getElem_mem hl
    obtain ⟨n, e1, e2, e3, _⟩ := a.fine.at_ _ _ mem
    have m2 := Ch.key_mem hm
    rw [k2, k3] at m2
    rw [kk] at e3
    have u1 := Ch.of_mem a.fine.rise m2
    have u2 := Ch.of_mem a.fine.rise e3
    refine ⟨by rw [decide_eq_true hl, decide_eq_true hi], n, by unfold KV.atN; rw [if_pos hl]; exact e1, fun _ => ⟨by unfold KV.atK; rw [if_pos hl]; exact kk, e2, by rw [← u2, u1]⟩⟩
  · have hl : ¬ front.length < s.l.length := by omega
    exact ⟨by rw [decide_eq_false hl, decide_eq_false hi], 0, by unfold KV.atN; rw [if_neg hl]; rfl, fun q => absurd q hi⟩
theorem stepS (h : View b L0 i V) (k : ByteArray) (h1 : ∀ y, y ∈ L0.take i → ltB y.1 k = true) (h2 : i < L0.length → ltB (L0.key i) k = false) :
    Calls Try.prog 63 #[PtrS b, .func (.func 38) #[] #[], .string k] V fun e V' => ∃ (K : ByteArray) (p : Nat), e = .returned (.tuple #[.string K, .int .i64 (p : Int), .bool (decide (i < L0.length))]) ∧ Below V.heap.size V V' ∧ Fix b L0 i K p V' := by
  obtain ⟨wz, N, s, L, P, os2, front, h0, a, e, hf⟩ := h
  obtain ⟨q1, p, q2, q3⟩ := next_of a e
  have hp : s.l.pos k = front.length := by
    rw [a.fine.pos]
    refine Ch.pos_is (by rw [e, List.length_append]; omega) (fun j hj => ?_) fun hm => ?_
    · obtain ⟨x, hx, ex⟩ := Ch.front_key (L := L0.drop i) hj
      obtain ⟨y, hy, ey⟩ := hf x hx
      rw [e, ex, ← ey]; exact h1 y hy
    · have hi : i < L0.length := by rw [e, List.length_append, List.length_drop] at hm; omega
      rw [e, (Ch.key_front hi).2.1]; exact h2 hi
  have c := xLeastS h0 a k
  rw [hp, q1, q2] at c
  exact c.mono fun e w' ⟨c1, c2⟩ => ⟨_, p, c1, c2, wz, N, s, os2, h0.below c2, q3⟩
theorem stepA (h : View b L0 i V) (k : ByteArray) (h1 : ∀ y, y ∈ L0.take i → ltB k y.1 = false) (h2 : i < L0.length → ltB k (L0.key i) = true) :
    Calls Try.prog 63 #[PtrS b, .func (.func 64) #[] #[], .string k] V fun e V' => ∃ (K : ByteArray) (p : Nat), e = .returned (.tuple #[.string K, .int .i64 (p : Int), .bool (decide (i < L0.length))]) ∧ Below V.heap.size V V' ∧ Fix b L0 i K p V' := by
  obtain ⟨wz, N, s, L, P, os2, front, h0, a, e, hf⟩ := h
  obtain ⟨q1, p, q2, q3⟩ := next_of a e
  have fle : front.length ≤ L.length := by rw [e, List.length_append]; omega
  have k1 : ∀ j, j < front.length → ltB k (L.key j) = false := fun j hj => by
    obtain ⟨x, hx, ex⟩ := Ch.front_key (L := L0.drop i) hj
    obtain ⟨y, hy, ey⟩ := hf x hx
    rw [e, ex, ← ey]; exact h1 y hy
  have k2 : front.length < L.length → ltB k (L.key front.length) = true := fun hm => by
    have hi : i < L0.length := by rw [e, List.length_append, List.length_drop] at hm; omega
    rw [e, (Ch.key_front hi).2.1]; exact h2 hi
  have hp : s.l.aft k = front.length := by
    have ea : s.l.aft k = if L.has k then L.pos k + 1 else L.pos k := by unfold KV.aft; rw [a.fine.has, a.fine.pos]
    have pl := L.pos_le k
    rw [ea]
    cases hh : L.has k with
    | true =>
      obtain ⟨p1, p2⟩ := (Ch.has_iff L k).1 hh
      rw [if_pos rfl]
      rcases Nat.lt_trichotomy (L.pos k + 1) front.length with z | z | z
      · -- a key in front above k
        have r := Ch.rise_lt a.fine.rise (i := L.pos k) (j := L.pos k + 1) (by omega) (by omega)
        rw [p2, k1 _ z] at r; cases r
      · exact z
      · have z' : front.length ≤ L.pos k := by omega
        rcases Nat.lt_or_ge front.length (L.pos k) with y | y
        · have a1 := Ch.below y
          have a2 := k2 (by omega)
          rw [ltB_asym a2] at a1; cases a1
        · have a2 := k2 (by omega)
          rw [show front.length = L.pos k by omega, p2, ltB_irr] at a2; cases a2
    | false =>
      rw [if_neg (by decide)]
      refine Ch.pos_is fle (fun j hj => ?_) fun hm => ltB_asym (k2 hm)
      have a1 := k1 j hj
      cases z : ltB (L.key j) k with
      | true => rfl
      | false =>
        exfalso
        have ek := ltB_total z a1
        have := (Ch.has_iff L k).2 ⟨by rw [← ek, Ch.pos_of a.fine.rise (by omega)]; omega, by rw [← ek, Ch.pos_of a.fine.rise (by omega)]⟩
        rw [hh] at this; cases this
  have c := xLeastA h0 a k
  rw [hp, q1, q2] at c
  exact c.mono fun e w' ⟨c1, c2⟩ => ⟨_, p, c1, c2, wz, N, s, os2, h0.below c2, q3⟩
end

end Go.Proofs.Ytbfgpdgiaclphaa

namespace Go.Proofs.Ytbfgpdgiaclphaa
open Go.RowKit

theorem infoT : (Try.prog.info? 92).map (fun i => (i.zero, i.size, i.bytes)) = some (some (.pointer none), 1, 8) := by kernel_rfl
theorem infoC : (Try.prog.info? 64).map (fun i => (i.zero, i.size, i.bytes)) = some (some (.slice none 0 0), 1, 24) := by kernel_rfl
section
variable {w0 w : World} {N : Nat → Prop} {b : Nat} {s : Sh} {L : Ch} {P : Nat} {os os2 : List Ob} {i : Nat}
theorem Sh.vlen (h : Side w0 N w (s.os b ++ os2)) : s.vs.length = s.cs.length := by
  obtain ⟨F, hP⟩ := h.get (i := 5) (o := oDat s.vs s.cs) rfl
  exact hP.len
theorem Sh.cform (h : Side w0 N w (s.os b ++ os2)) : ∃ A c, s.cv = .slice A s.cs.length c := by
  have hv := h.vecAt (i := 3) (t := 64) (v := s.cv) (xs := s.vs) rfl
  have hl := Sh.vlen h
  rcases vec_form hv with ⟨e, e2⟩ | ⟨g, c, e, _⟩
  · rw [e2] at hl
    exact ⟨none, 0, by rw [e, ← hl]; rfl⟩
  · exact ⟨_, c, by rw [e, hl]⟩
theorem Sh.fform (h : Side w0 N w (s.os b ++ os2)) : ∃ A c, s.fv = .slice A s.fr.length c ∧ s.fr.length ≤ c ∧ (0 < s.fr.length → ∃ g, A = some ⟨g, 0, none⟩ ∧ ∀ j, j < s.fr.length → w.cell? ⟨g, j, none⟩ = some (.int .i64 (s.fr.getD j 0 : Nat))) := by
  have hv := h.vecAt (i := 4) (t := 3) (v := s.fv) (xs := Sh.frs s.fr) rfl
  have hl : (Sh.frs s.fr).length = s.fr.length := by unfold Sh.frs; simp
  rcases vec_form hv with ⟨e, e2⟩ | ⟨g, c, e, hc, _, hcell, _⟩
  · rw [e2] at hl
    exact ⟨none, 0, by rw [e, ← hl]; rfl, by rw [← hl]; exact Nat.le_refl _, fun hp => by rw [← hl] at hp; exact absurd hp (by simp)⟩
  · rw [hl] at e hc hcell
    refine ⟨_, c, e, hc, fun _ => ⟨g, rfl, fun j hj => ?_⟩⟩
    rw [hcell j hj]
    unfold Sh.frs
    rw [List.getElem?_map, List.getElem?_eq_getElem hj, List.getD_eq_getElem?_getD, List.getElem?_eq_getElem hj]; rfl
/-- the room's block is turned -/
theorem Sh.rowSet (h : Side w0 N w os) (hi : os[i]? = some (Ob.row b s.row 56)) (j : Nat) (v : Value) : Side w0 N (w.setCell ⟨b, j, none⟩ v) (os.set i (Ob.row b (s.row.set j v) 56)) :=
  h.rowSet hi ((Chg.refl (fun k => k = b) w).setCell (.inl rfl) v) ((h.rowAt hi).set j v)

/-- the shelf with other rows -/
def Sh.rows (s : Sh) (cv fv : Value) (vs : List Value) (cs : List (List Ver)) (fr : List Nat) : Sh := { s with cv := cv, fv := fv, vs := vs, cs := cs, fr := fr }
set_option maxRecDepth 100000 in
set_option maxHeartbeats 4000000 in
/-- take, where no place is free -/
theorem xTake1R {A : Option Addr} {c : List Ver} {n cap : Nat} (hn : n = c.length) (h : Side w0 N w (s.os b ++ [oCh A c])) (hcap : n ≤ cap) (hf : s.fr = []) (hl : s.cs.length ≤ 100000) :
    Calls Try.prog 46 #[PtrS b, .slice A n cap] w fun e w' => ∃ cv, e = .returned (.int .i64 (s.cs.length : Nat)) ∧ Side w0 N w' ((s.rows cv s.fv (s.vs ++ [.slice A n cap]) (s.cs ++ [c]) s.fr).os b) := by
  have c7 := (Sh.rowAt h).cell 7
  have d6 := (Sh.rowAt h).cell 6
  simp only [Sh.row, List.getElem?_cons_succ, List.getElem?_cons_zero] at d6 c7
  obtain ⟨A3, c3, e3, _, _⟩ := Sh.fform h
  rw [e3, hf] at c7
  simp only [List.length_nil] at c7
  obtain ⟨A4, c4, e4⟩ := Sh.cform h
  have hv := Sh.vlen h
  obtain ⟨M, hM⟩ : ∃ M, M = s.cs.length := ⟨_, rfl⟩
  rw [← hM] at hl e4 hv ⊢
  have HV := Lib.hid hv
  have HM := Lib.hid hM
  have HF := Lib.hid hf
  have HN := Lib.hid hn
  have E4 := Lib.hid e4
  have HS := Lib.hid h
  have h1 := h.below (w' := w.alloc (.cells #[.slice A n cap] 64)) ((Below.refl _ _).alloc (Nat.le_refl _) _)
  have H1 := Lib.hid h1
  have X1 := Lib.hid (cell_new1 w (.slice A n cap) 64)
  clear h hM hf hn e3 e4 hv h1
  go_enter Try.func46, Try.ntmps46
  go_wp2_with (at_builtin; refine wp_sideV rfl (.tmp 19) (.tmp 21) 50 64 rfl Try.underlying50 infoC rfl (by decide) s.cv s.vs rfl H1.out (i := 3) rfl w.heap.size (.slice A n cap) rfl X1.out rfl (by rw [HV.out]; omega) ?_; intro g' c' m w2 hm h2; rw [HV.out] at hm; have HMM := Lib.hid hm; have H2 := Lib.hid h2; have q6 := (H2.out.rowAt (i := 0) rfl).cell 6; have f6 := (H2.out.rowAt (i := 0) rfl).frozen 6; simp only [Sh.row, List.getElem?_cons_succ, List.getElem?_cons_zero] at q6; clear hm h2)
  go_ret
  have h3 := H2.out.rowSet (i := 0) (g := b) (cs' := (s.rows (.slice (some ⟨g', 0, none⟩) m c') s.fv s.vs s.cs s.fr).row) rfl ((Chg.refl (fun k => k = b) w2).setCell (p := ⟨b, 6, none⟩) (.inl rfl) (.slice (some ⟨g', 0, none⟩) m c')) ((H2.out.rowAt (i := 0) rfl).set 6 _)
  have h4 : Side w0 N (w2.setCell ⟨b, 6, none⟩ (.slice (some ⟨g', 0, none⟩) m c')) ((((s.rows (.slice (some ⟨g', 0, none⟩) m c') s.fv (s.vs ++ [.slice A n cap]) (s.cs ++ [c]) s.fr).os b).set 5 (oDat s.vs s.cs)) ++ [oCh A c]) := h3
  refine ⟨.slice (some ⟨g', 0, none⟩) m c', ?_, ?_⟩
  · rw [HMM.out]
    show Ending.returned (.int .i64 (wrap64 (((M + 1 : Nat) : Int) - 1))) = _
    rw [show wrap64 (((M + 1 : Nat) : Int) - 1) = (M : Int) by unfold wrap64; omega]
  · have h5 := h4.merge (i := 5) (oi := oDat s.vs s.cs) (o' := oDat (s.vs ++ [.slice A n cap]) (s.cs ++ [c])) rfl (fun F F' p q => by rw [HN.out]; exact DatP.push p q (by rw [← HN.out]; exact hcap))
    exact h5
set_option maxRecDepth 100000 in
set_option maxHeartbeats 4000000 in
/-- take, where a place is free -/
theorem xTake2R {A : Option Addr} {c : List Ver} {n cap p : Nat} {fr : List Nat} (hn : n = c.length) (h : Side w0 N w (s.os b ++ [oCh A c])) (hcap : n ≤ cap) (hf : s.fr = fr ++ [p]) (hp : p < s.cs.length) (hl2 : fr.length ≤ 100000) :
    Calls Try.prog 46 #[PtrS b, .slice A n cap] w fun e w' => ∃ fv, e = .returned (.int .i64 (p : Nat)) ∧ Side w0 N w' ((s.rows s.cv fv (s.vs.set p (.slice A n cap)) (s.cs.set p c) fr).os b) := by
  have c7 := (Sh.rowAt h).cell 7
  have c6 := (Sh.rowAt h).cell 6
  have f7 := (Sh.rowAt h).frozen 7
  simp only [Sh.row, List.getElem?_cons_succ, List.getElem?_cons_zero] at c6 c7
  obtain ⟨A3, c3, e3, k3, hc3⟩ := Sh.fform h
  have fl : s.fr.length = fr.length + 1 := by rw [hf]; simp
  obtain ⟨g7, rfl, hc7⟩ := hc3 (by omega)
  have l7 := hc7 fr.length (by omega)
  rw [show s.fr.getD fr.length 0 = p by rw [hf, List.getD_eq_getElem?_getD, List.getElem?_append_right (Nat.le_refl _), Nat.sub_self]; rfl] at l7
  obtain ⟨g6, c4, A5, c5, e4, q4, fz, _, _⟩ := Sh.cview h hp
  have n6 : g6 ≠ b := h.vecNe (i := 0) (j := 3) (t2 := 64) (n := s.cs.length) (c := c4) (xs := s.vs) rfl (by rw [← e4]; rfl) (by decide)
  obtain ⟨F, hF⟩ : ∃ F, F = fr.length := ⟨_, rfl⟩
  obtain ⟨m, hm⟩ : ∃ m, m = s.fr.length := ⟨_, rfl⟩
  obtain ⟨M, hM⟩ : ∃ M, M = s.cs.length := ⟨_, rfl⟩
  obtain ⟨z, hz⟩ : ∃ z, z = (s.cs.getD p []).length := ⟨_, rfl⟩
  rw [← hz] at q4
  rw [e3, ← hm] at c7
  rw [e4, ← hM] at c6
  rw [← hF] at l7 fl hl2
  rw [← hm] at fl k3
  rw [← hM] at hp
  have i1 : wrap64 ((m : Int) - 1) = (F : Int) := by rw [fl]; unfold wrap64; omega
  have i2 : (0 : Int) ≤ (F : Int) := by omega
  have i3 : (F : Int) < (m : Int) := by omega
  have i4 : (F : Int) ≤ (c3 : Int) := by omega
  have i5 : (0 : Int) ≤ (p : Int) := by omega
  have i6 : (p : Int) < (M : Int) := by omega
  have HN := Lib.hid hn
  have HS := Lib.hid h
  have E3 := Lib.hid e3
  have E4 := Lib.hid e4
  have HF := Lib.hid hf
  have FL := Lib.hid hF
  have HM := Lib.hid hM
  have HM2 := Lib.hid hm
  have I6 := Lib.hid hp
  clear h hn e3 e4 hf hF hM hm hc7 hc3 hz fl k3 hp
  go_enter Try.func46, Try.ntmps46
  go_wp2_with fail
  go_ret
  refine ⟨.slice (some ⟨g7, 0, none⟩) F c3, rfl, ?_⟩
  have h1 := HS.out.rowSet (i := 0) (g := b) (cs' := (s.rows s.cv (.slice (some ⟨g7, 0, none⟩) F c3) s.vs s.cs s.fr).row) rfl ((Chg.refl (fun k => k = b) w).setCell (p := ⟨b, 7, none⟩) (.inl rfl) (.slice (some ⟨g7, 0, none⟩) F c3)) ((HS.out.rowAt (i := 0) rfl).set 7 _)
  have h2 := h1.vecPopV (i := 4) (t := 3) (v := s.fv) (ys := Sh.frs s.fr) (xs := Sh.frs fr) (u := .int .i64 (p : Int)) (n' := F) rfl E3.out (by rw [HF.out]; unfold Sh.frs; rw [List.map_append]; rfl) (by rw [FL.out]; unfold Sh.frs; rw [List.length_map])
  have h3 := h2.vecSetV (i := 3) (t := 64) (v := s.cv) (xs := s.vs) (p := p) (u := .slice A n cap) rfl E4.out
  have h4 : Side w0 N ((w.setCell ⟨b, 7, none⟩ (.slice (some ⟨g7, 0, none⟩) F c3)).setCell ⟨g6, p, none⟩ (.slice A n cap)) ((((s.rows s.cv (.slice (some ⟨g7, 0, none⟩) F c3) (s.vs.set p (.slice A n cap)) (s.cs.set p c) fr).os b).set 5 (oDat s.vs s.cs)) ++ [oCh A c]) := h3
  have h5 := h4.merge (i := 5) (oi := oDat s.vs s.cs) (o' := oDat (s.vs.set p (.slice A n cap)) (s.cs.set p c)) rfl (fun F F' q1 q2 => by have q := DatP.put (c := cap) q1 q2 (by rw [← HN.out]; exact hcap) (p := p) (by rw [← HM.out]; exact I6.out); rw [← HN.out] at q; exact q)
  exact h5
set_option maxRecDepth 100000 in
set_option maxHeartbeats 4000000 in
/-- release -/
theorem xReleaseR {p : Nat} (h : Side w0 N w (s.os b)) (hp : p < s.cs.length) (hl2 : s.fr.length ≤ 100000) :
    Calls Try.prog 48 #[PtrS b, .int .i64 (p : Nat)] w fun e w' => ∃ fv, e = .returned (.tuple #[]) ∧ Side w0 N w' ((s.rows s.cv fv (s.vs.set p (.slice none 0 0)) (s.cs.set p []) (s.fr ++ [p])).os b) := by
  have h0 : Side w0 N w (s.os b ++ []) := by rw [List.append_nil]; exact h
  have c6 := (Sh.rowAt h0).cell 6
  have c7 := (Sh.rowAt h0).cell 7
  simp only [Sh.row, List.getElem?_cons_succ, List.getElem?_cons_zero] at c6 c7
  obtain ⟨g6, c4, A5, c5, e4, q4, fz, _, _⟩ := Sh.cview h0 hp
  have n6 : g6 ≠ b := h.vecNe (i := 0) (j := 3) (t2 := 64) (n := s.cs.length) (c := c4) (xs := s.vs) rfl (by rw [← e4]; rfl) (by decide)
  obtain ⟨M, hM⟩ : ∃ M, M = s.cs.length := ⟨_, rfl⟩
  obtain ⟨z, hz⟩ : ∃ z, z = (s.cs.getD p []).length := ⟨_, rfl⟩
  rw [← hz] at q4
  rw [e4, ← hM] at c6
  rw [← hM] at hp
  have i5 : (0 : Int) ≤ (p : Int) := by omega
  have i6 : (p : Int) < (M : Int) := by omega
  have h1 := h.vecSetV (i := 3) (t := 64) (v := s.cv) (xs := s.vs) (p := p) (u := .slice none 0 0) rfl e4
  have h2 := h1.below (w' := (w.setCell ⟨g6, p, none⟩ (.slice none 0 0)).alloc (.cells #[.int .i64 (p : Int)] 3)) ((Below.refl _ _).alloc (Nat.le_refl _) _)
  have H2 := Lib.hid h2
  have X2 := Lib.hid (show ((w.setCell ⟨g6, p, none⟩ (.slice none 0 0)).alloc (.cells #[.int .i64 (p : Int)] 3)).cell? ⟨w.heap.size, 0, none⟩ = some (.int .i64 (p : Int)) from by
    have := cell_new1 (w.setCell ⟨g6, p, none⟩ (.slice none 0 0)) (.int .i64 (p : Int)) 3
    rwa [World.size_setCell] at this)
  have HL := Lib.hid hl2
  have I6 := Lib.hid hp
  have HM := Lib.hid hM
  clear h h0 h1 h2 e4 hM hz hp hl2
  go_enter Try.func48, Try.ntmps48
  go_wp2_with (at_builtin; refine wp_sideV rfl (.tmp 14) (.tmp 16) 32 3 rfl Try.underlying32 infoJ rfl (by decide) s.fv (Sh.frs s.fr) rfl H2.out (i := 4) rfl w.heap.size (.int .i64 (p : Int)) rfl X2.out rfl (by unfold Sh.frs; rw [List.length_map]; have := HL.out; omega) ?_; intro g' c' m w2 hm h3; have H3 := Lib.hid h3; have q7 := (H3.out.rowAt (i := 0) rfl).cell 7; have f7 := (H3.out.rowAt (i := 0) rfl).frozen 7; simp only [Sh.row, List.getElem?_cons_succ, List.getElem?_cons_zero] at q7; clear hm h3)
  refine bodyPost_end (results_none rfl _ _ _) rfl ⟨.slice (some ⟨g', 0, none⟩) m c', rfl, ?_⟩
  have h4 := H3.out.rowSet (i := 0) (g := b) (cs' := (s.rows s.cv (.slice (some ⟨g', 0, none⟩) m c') s.vs s.cs s.fr).row) rfl ((Chg.refl (fun k => k = b) w2).setCell (p := ⟨b, 7, none⟩) (.inl rfl) (.slice (some ⟨g', 0, none⟩) m c')) ((H3.out.rowAt (i := 0) rfl).set 7 _)
  have e8 : Sh.frs s.fr ++ [Value.int .i64 (p : Int)] = Sh.frs (s.fr ++ [p]) := by unfold Sh.frs; rw [List.map_append]; rfl
  rw [e8] at h4
  have h5 := h4.tell (i := 5) (o := oDat s.vs s.cs) (o' := oDat (s.vs.set p (.slice none 0 0)) (s.cs.set p [])) rfl (fun F q => by
    have q := DatP.put (F' := fun _ => False) (A := none) (l := []) (c := 0) q ⟨⟨SlV.nil _ _, fun hp => absurd hp (by simp)⟩, fun _ e => e.elim⟩ (Nat.le_refl _) (p := p) (by rw [← HM.out]; exact I6.out)
    rw [show (fun k => F k ∨ False) = F from by funext k; simp] at q
    exact q)
  exact h5
end

end Go.Proofs.Ytbfgpdgiaclphaa

namespace Go.Proofs.Ytbfgpdgiaclphaa
open Go.RowKit

section
variable {w0 w : World} {N : Nat → Prop} {b : Nat} {s : Sh} {os : List Ob} {i : Nat}
/-- Put and Del of the tree, beside other things -/
theorem sPut {t : Nat} {l : KV} {bd : Nat} (h : Side w0 N w os) (hi : os[i]? = some (oTree (some t) l bd)) (k : ByteArray) (n : Int) (hl : l.length ≤ 4000) (hb : bd ≤ 800000) (hk : k.size ≤ 1000000) :
    Calls Try.prog 70 #[Ptr t, .string k, .int .i64 n] w fun x w' => x = .returned (.tuple #[.int .i64 (if l.has k then l.num (l.pos k) else 0), .bool (l.has k), .int .i64 0]) ∧ Side w0 N w' (os.set i (oTree (some t) (l.put k n) (bd + 29))) :=
  h.call hi fun F hP _ => by
    rcases hP with ⟨e, _⟩ | ⟨t', e, hr⟩
    · cases e
    · injection e with e
      subst e
      exact (xPut w t F l bd k n hr hl hb hk).mono fun x w' ⟨h1, E', h2, h3, h4⟩ => ⟨h1, h4, E', .inr ⟨t, rfl, h2⟩, h3⟩
theorem sDel {t : Nat} {l : KV} {bd : Nat} (h : Side w0 N w os) (hi : os[i]? = some (oTree (some t) l bd)) (k : ByteArray) (hl : l.length ≤ 4000) (hb : bd ≤ 800000) :
    Calls Try.prog 47 #[Ptr t, .string k] w fun x w' => x = .returned (.tuple #[.int .i64 (if l.has k then l.num (l.pos k) else 0), .bool (l.has k)]) ∧ Side w0 N w' (os.set i (oTree (some t) (l.del k) (bd + 29))) :=
  h.call hi fun F hP _ => by
    rcases hP with ⟨e, _⟩ | ⟨t', e, hr⟩
    · cases e
    · injection e with e
      subst e
      exact (xDel w t F l bd k hr hl hb).mono fun x w' ⟨h1, E', h2, h3, h4⟩ => ⟨h1, h4, E', .inr ⟨t, rfl, h2⟩, h3⟩
theorem sNew (h : Side w0 N w os) : Calls Try.prog 71 #[] w fun x w' => x = .returned (Ptr w.heap.size) ∧ Side w0 N w' (os ++ [oTree (some w.heap.size) [] 0]) :=
  (xNew w).mono fun x w' ⟨h1, h2, h3⟩ => ⟨h1, h.more h3 (F' := fun k => k = w.heap.size) (.inr ⟨_, rfl, Tab.bare, h2, .inl ⟨rfl, rfl⟩, Nat.le_refl _⟩) fun k e => by omega⟩
set_option maxRecDepth 100000 in
set_option maxHeartbeats 4000000 in
/-- lay, where there is a tree -/
theorem xLay1R {t : Nat} (h : Side w0 N w (s.os b)) (ht : s.T = some t) (k : ByteArray) (n : Nat) (hl : s.l.length ≤ 4000) (hb : s.bd ≤ 800000) (hk : k.size ≤ 1000000) :
    Calls Try.prog 45 #[PtrS b, .string k, .int .i64 (n : Int)] w fun e w' => e = .returned (.tuple #[]) ∧ Side w0 N w' (({ s with l := s.l.put k n, bd := s.bd + 29 } : Sh).os b) := by
  have h0 : Side w0 N w (s.os b ++ []) := by rw [List.append_nil]; exact h
  have c5 := (Sh.rowAt h0).cell 5
  simp only [Sh.row, List.getElem?_cons_succ, List.getElem?_cons_zero] at c5
  have hv := h.vecAt (i := 2) (t := 92) (v := s.tv) (xs := Sh.ptrs s.T) rfl
  rw [ht] at hv
  rcases vec_form hv with ⟨_, e3⟩ | ⟨g, c, e3, hc, hg, hcell, _⟩
  · cases e3
  have c0 : w.cell? ⟨g, 0, none⟩ = some (Ptr t) := hcell 0 (by show 0 < 1; decide)
  have e3 : s.tv = .slice (some ⟨g, 0, none⟩) 1 c := e3
  rw [e3] at c5
  have PC := Lib.hid (sPut h (i := 1) (t := t) (l := s.l) (bd := s.bd) (by rw [← ht]; rfl) k n hl hb hk)
  have PC := Lib.hid (PC.out.mono (R' := fun x w' => (∃ n2 b2, x = .returned (.tuple #[.int .i64 n2, .bool b2, .int .i64 0])) ∧ Side w0 N w' (({ s with l := s.l.put k n, bd := s.bd + 29 } : Sh).os b)) fun x w' ⟨h1, h2⟩ => ⟨⟨_, _, h1⟩, by rw [← ht] at h2; exact h2⟩)
  clear h h0 hv hc hg hcell ht hl hb hk e3
  go_enter Try.func45, Try.ntmps45
  go_wp2_with fail
  refine wp_loop_rounds 2 ?_
  rw [rounds_succ]
  go_wp2_with fail
  refine PC.out.mono ?_
  rintro e w1 ⟨⟨n2, b2, rfl⟩, hS⟩
  have HS := Lib.hid hS
  clear hS
  go_wp2_with fail
  exact bodyPost_ret (results_none rfl _ _ _) rfl ⟨rfl, HS.out⟩
set_option maxRecDepth 100000 in
set_option maxHeartbeats 4000000 in
/-- lay, where there is none -/
theorem xLay0R (h : Side w0 N w (s.os b)) (ht : s.T = none) (h0 : s.tv = .slice none 0 0) (hl : s.l = []) (k : ByteArray) (n : Nat) (hk : k.size ≤ 1000000) :
    Calls Try.prog 45 #[PtrS b, .string k, .int .i64 (n : Int)] w fun e w' => e = .returned (.tuple #[]) ∧ ∃ t tv, Side w0 N w' (({ s with T := some t, tv := tv, l := s.l.put k n, bd := 29 } : Sh).os b) := by
  have h1 : Side w0 N w (s.os b ++ []) := by rw [List.append_nil]; exact h
  have c5 := (Sh.rowAt h1).cell 5
  simp only [Sh.row, List.getElem?_cons_succ, List.getElem?_cons_zero] at c5
  rw [h0] at c5
  have NC := Lib.hid (sNew h)
  obtain ⟨t, hti⟩ : ∃ t, t = w.heap.size := ⟨_, rfl⟩
  rw [← hti] at NC
  have PC := Lib.hid (fun W (hS : Side w0 N W (s.os b ++ [oTree (some t) [] 0])) => (sPut hS (i := 8) (t := t) (l := []) (bd := 0) rfl k n (by decide) (by decide) hk).mono (R' := fun x w' => (∃ n2 b2, x = .returned (.tuple #[.int .i64 n2, .bool b2, .int .i64 0])) ∧ Side w0 N w' (s.os b ++ [oTree (some t) (KV.put [] k n) 29])) fun x w' ⟨h1, h2⟩ => ⟨⟨_, _, h1⟩, h2⟩)
  have HT := Lib.hid ht
  have H0 := Lib.hid h0
  have HL := Lib.hid hl
  clear h h1 h0 ht hl hti hk
  go_enter Try.func45, Try.ntmps45
  go_wp2_with fail
  refine wp_loop_rounds 1 ?_
  rw [rounds_succ]
  go_wp2_with fail
  refine NC.out.mono ?_
  rintro e w1 ⟨rfl, hS1⟩
  have S1 := Lib.hid hS1
  clear hS1 NC c5
  go_wp2_with fail
  refine (PC.out _ S1.out).mono ?_
  rintro e w2 ⟨⟨n2, b2, rfl⟩, hS2⟩
  have S2 := Lib.hid (hS2.below (w' := w2.alloc (.cells #[Ptr t] 92)) ((Below.refl _ _).alloc (Nat.le_refl _) _))
  have c5 := (hS2.rowAt (i := 0) rfl).cell 5
  simp only [Sh.row, List.getElem?_cons_succ, List.getElem?_cons_zero] at c5
  have X2 := Lib.hid (cell_new1 w2 (Ptr t) 92)
  clear hS2 PC
  go_wp2_with (at_builtin; refine wp_sideV rfl (.tmp 41) (.tmp 43) 49 92 rfl Try.underlying49 infoT rfl (by decide) s.tv [] rfl S2.out (i := 2) (by rw [show ([] : List Value) = Sh.ptrs s.T by rw [HT.out]; rfl]; rfl) w2.heap.size (Ptr t) rfl X2.out rfl (by decide) ?_; intro g' c' m w3 hm h3; have H3 := Lib.hid h3; have q5 := (H3.out.rowAt (i := 0) rfl).cell 5; have f5 := (H3.out.rowAt (i := 0) rfl).frozen 5; simp only [Sh.row, List.getElem?_cons_succ, List.getElem?_cons_zero] at q5; clear hm h3)
  refine bodyPost_end (results_none rfl _ _ _) rfl ⟨rfl, t, .slice (some ⟨g', 0, none⟩) m c', ?_⟩
  rw [HL.out]
  have h4 := H3.out.rowSet (i := 0) (g := b) (cs' := ({ s with tv := .slice (some ⟨g', 0, none⟩) m c' } : Sh).row) rfl ((Chg.refl (fun k => k = b) w3).setCell (p := ⟨b, 5, none⟩) (.inl rfl) (.slice (some ⟨g', 0, none⟩) m c')) ((H3.out.rowAt (i := 0) rfl).set 5 _)
  have h5 : Side w0 N (w3.setCell ⟨b, 5, none⟩ (.slice (some ⟨g', 0, none⟩) m c')) (((({ s with T := some t, tv := .slice (some ⟨g', 0, none⟩) m c', l := KV.put [] k n, bd := 29 } : Sh).os b).set 1 (oTree s.T s.l s.bd)) ++ [oTree (some t) (KV.put [] k n) 29]) := h4
  have h6 := h5.merge (i := 1) (oi := oTree s.T s.l s.bd) (o' := oTree (some t) (KV.put [] k n) 29) rfl (fun F F' p q => by
    rcases p with ⟨_, _, p⟩ | ⟨t', e, _⟩
    · rw [show (fun k => F k ∨ F' k) = F' from by funext k; simp [p k]]
      exact q
    · rw [HT.out] at e; cases e)
  exact h6
end

end Go.Proofs.Ytbfgpdgiaclphaa

namespace Go.Proofs.Ytbfgpdgiaclphaa
open Go.RowKit

section
variable {w0 w : World} {N : Nat → Prop} {b : Nat} {s : Sh} {L : Ch} {P : Nat} {os : List Ob} {i : Nat}
theorem good_of {L : Ch} (h : GoodC L) (hR : ∀ x, x ∈ L → rightL x.2 = true) (k : ByteArray) : GoodL (L.of k) ∧ rightL (L.of k) = true ∧ (L.of k).length ≤ 1000 := by
  cases q : L.has k with
  | false => rw [Ch.of_no q]; exact ⟨GoodL.nil, rfl, by decide⟩
  | true =>
    obtain ⟨j, hj, e1, e2⟩ := Ch.mem_at.1 (Ch.mem_has q)
    have g := h.get hj
    rw [e2] at g
    exact ⟨⟨g.1, g.2.1, g.2.2.1⟩, hR _ (Ch.mem_has q), g.2.2.1⟩
theorem wgt_small {k : ByteArray} {l : List Ver} (hg : GoodL l) (hr : rightL l = true) (hk : k.size ≤ 1000) : Ch.wgt (k, l) ≤ 2000 := by
  rw [wgt_last hr hg]
  split
  · omega
  · rename_i z
    have hp : 0 < l.length := by
      have : ¬ l.length = 0 := fun e => z (.inl e)
      omega
    have := (Val.pack_size _ (last_right hr hg hp).2.2).1
    omega
theorem aliv_le (x : ByteArray × List Ver) : Ch.aliv x ≤ 1 := by unfold Ch.aliv; split <;> omega
theorem sum_le {f : ByteArray × List Ver → Nat} {B : Nat} : ∀ {L : Ch}, (∀ x, x ∈ L → f x ≤ B) → (L.map f).sum ≤ L.length * B
  | [], _ => by simp
  | x :: L, h => by
    have := sum_le (L := L) fun y hy => h y (List.mem_cons_of_mem _ hy)
    have := h x (by simp)
    rw [List.map_cons, List.sum_cons, List.length_cons, Nat.add_mul]
    omega
/-- the sums are no giants -/
theorem sums_small {L : Ch} (h : GoodC L) (hl : L.length ≤ 3950) : L.live ≤ 11850000 ∧ L.alive ≤ 3950 ∧ L.vers ≤ 3950000 := by
  have a := sum_le (f := Ch.wgt) (B := 3000) (wgt_le h)
  have b := sum_le (L := L) (f := Ch.aliv) (B := 1) fun x _ => aliv_le x
  have c := sum_le (f := fun x => x.2.length) (B := 1000) h.lens
  refine ⟨?_, ?_, ?_⟩
  · unfold Ch.live; omega
  · unfold Ch.alive; omega
  · unfold Ch.vers; omega
/-- the room with other sums -/
def Sh.sum (s : Sh) (y1 y2 y3 : Int) : Sh := { s with x1 := y1, x2 := y2, x3 := y3 }
theorem Sh.sumSet {y1 y2 y3 : Int} {os2 : List Ob} {W : World} (h : Side w0 N W (s.os b ++ os2)) : Side w0 N (((W.setCell ⟨b, 8, none⟩ (.int .i64 y1)).setCell ⟨b, 9, none⟩ (.int .i64 y2)).setCell ⟨b, 10, none⟩ (.int .i64 y3)) ((s.sum y1 y2 y3).os b ++ os2) := by
  have r := Sh.rowAt h
  have c : Chg (fun k => k = b) W (((W.setCell ⟨b, 8, none⟩ (.int .i64 y1)).setCell ⟨b, 9, none⟩ (.int .i64 y2)).setCell ⟨b, 10, none⟩ (.int .i64 y3)) :=
    (((Chg.refl (fun k => k = b) W).setCell (p := ⟨b, 8, none⟩) (.inl rfl) _).setCell (p := ⟨b, 9, none⟩) (.inl rfl) _).setCell (p := ⟨b, 10, none⟩) (.inl rfl) _
  exact h.rowSet (i := 0) (g := b) (cs' := (s.sum y1 y2 y3).row) rfl c (((r.set 8 _).set 9 _).set 10 _)
theorem Sh.AtF.sums {y1 y2 y3 : Int} (a : s.AtF L P) : (s.sum y1 y2 y3).AtF L P := ⟨a.fine, a.t0, a.n1, a.n2, a.n3, a.n4, a.good, a.right, a.n5⟩
theorem sums_give (L : Ch) (k : ByteArray) (c : List Ver) : (L.give k c).live + Ch.wgt (k, L.of k) = L.live + Ch.wgt (k, c) ∧ (L.give k c).alive + Ch.aliv (k, L.of k) = L.alive + Ch.aliv (k, c) ∧ (L.give k c).vers + (L.of k).length = L.vers + c.length :=
  ⟨Ch.sum_give Ch.wgt rfl c, Ch.sum_give Ch.aliv rfl c, Ch.sum_give (fun x => x.2.length) rfl c⟩
theorem sums_cut {L : Ch} {k : ByteArray} (h : L.has k = true) : (L.cut k).live + Ch.wgt (k, L.of k) = L.live ∧ (L.cut k).alive + Ch.aliv (k, L.of k) = L.alive ∧ (L.cut k).vers + (L.of k).length = L.vers :=
  ⟨Ch.sum_cut Ch.wgt h, Ch.sum_cut Ch.aliv h, Ch.sum_cut (fun x => x.2.length) h⟩
theorem good_give {L : Ch} {k : ByteArray} {c : List Ver} (h : GoodC L) (hg : GoodL c) (hr : rightL c = true) (hk : k.size ≤ 1000) (hl : (L.give k c).length ≤ 100000) : GoodC (L.give k c) := by
  refine ⟨hl, fun x hx => ?_, fun x hx => ?_, fun x hx => ?_, fun x hx => ?_, Ch.rise_give h.rise, fun x hx => ?_⟩
  all_goals rcases (Ch.mem_give h.rise).1 hx with rfl | ⟨e, _⟩
  · exact hg.fits
  · exact h.fits x e
  · exact hg.texts
  · exact h.texts x e
  · exact hg.len
  · exact h.lens x e
  · exact hk
  · exact h.keys x e
  · exact rise_of_right hr
  · exact h.rises x e
theorem right_give {L : Ch} {k : ByteArray} {c : List Ver} (h : GoodC L) (hR : ∀ x, x ∈ L → rightL x.2 = true) (hr : rightL c = true) : ∀ x, x ∈ L.give k c → rightL x.2 = true := fun x hx => by
  rcases (Ch.mem_give h.rise).1 hx with rfl | ⟨e, _⟩
  · exact hr
  · exact hR x e
theorem good_cut {L : Ch} {k : ByteArray} (h : GoodC L) (hk : L.has k = true) : GoodC (L.cut k) := by
  have m : ∀ x, x ∈ L.cut k → x ∈ L := fun x hx => ((Ch.mem_cut h.rise hk).1 hx).1
  exact ⟨by have := h.len; have := Ch.cut_len hk; omega, fun x hx => h.fits x (m x hx), fun x hx => h.texts x (m x hx), fun x hx => h.lens x (m x hx), fun x hx => h.keys x (m x hx), Ch.rise_cut h.rise, fun x hx => h.rises x (m x hx)⟩
theorem Sh.hasT {os2 : List Ob} {k : ByteArray} (h : Side w0 N w (s.os b ++ os2)) (a : s.AtF L P) (hk : L.has k = true) : ∃ t, s.T = some t := by
  rcases Sh.tview h a with ⟨_, e2, _⟩ | ⟨t, _, _, _, e1, _⟩
  · have := a.fine.has k; rw [e2, hk] at this; cases this
  · exact ⟨t, e1⟩
set_option maxRecDepth 100000 in
set_option maxHeartbeats 4000000 in
/-- set, of a key that is there -/
theorem xSetOldR {A : Option Addr} {c : List Ver} {n cap : Nat} {k : ByteArray} (h : Side w0 N w (s.os b ++ [oCh A c])) (a : s.At L P) (hn : n = c.length) (hcap : n ≤ cap) (h0 : 0 < n) (hg : GoodL c) (hr : rightL c = true) (hk : k.size ≤ 1000) (hh : L.has k = true) :
    Calls Try.prog 20 #[PtrS b, .string k, .slice A n cap] w fun e w' => e = .returned (.tuple #[]) ∧ ∃ s', Side w0 N w' (s'.os b) ∧ Sh.Hd s s' ∧ s'.At (L.give k c) P := by
  have fk := good_of a.f.good a.f.right k
  have hx1 := a.x1
  have hx2 := a.x2
  have hx3 := a.x3
  obtain ⟨b1, b2, b3⟩ := sums_small a.f.good a.f.n5
  have wu := wgt_small fk.1 fk.2.1 hk
  have wv := wgt_small hg hr hk
  have au := aliv_le (k, L.of k)
  have av := aliv_le (k, c)
  have ln := hg.len
  obtain ⟨m, hm⟩ : ∃ m, m = (L.of k).length := ⟨_, rfl⟩
  obtain ⟨u1, hu1⟩ : ∃ m, m = Ch.wgt (k, L.of k) := ⟨_, rfl⟩
  obtain ⟨u2, hu2⟩ : ∃ m, m = Ch.aliv (k, L.of k) := ⟨_, rfl⟩
  obtain ⟨v1, hv1⟩ : ∃ m, m = Ch.wgt (k, c) := ⟨_, rfl⟩
  obtain ⟨v2, hv2⟩ : ∃ m, m = Ch.aliv (k, c) := ⟨_, rfl⟩
  obtain ⟨d1, hd1⟩ : ∃ d, d = s.x1 - (u1 : Int) := ⟨_, rfl⟩
  obtain ⟨d2, hd2⟩ : ∃ d, d = s.x2 - (u2 : Int) := ⟨_, rfl⟩
  obtain ⟨d3, hd3⟩ : ∃ d, d = s.x3 - (m : Int) := ⟨_, rfl⟩
  obtain ⟨y1, hy1⟩ : ∃ d, d = d1 + (v1 : Int) := ⟨_, rfl⟩
  obtain ⟨y2, hy2⟩ : ∃ d, d = d2 + (v2 : Int) := ⟨_, rfl⟩
  obtain ⟨y3, hy3⟩ : ∃ d, d = d3 + (n : Int) := ⟨_, rfl⟩
  have SUM := Lib.hid (show y1 = (L.live : Int) - (u1 : Int) + (v1 : Int) ∧ y2 = (L.alive : Int) - (u2 : Int) + (v2 : Int) ∧ y3 = (L.vers : Int) - (m : Int) + (n : Int) from ⟨by omega, by omega, by omega⟩)
  have HU := Lib.hid (show u1 = Ch.wgt (k, L.of k) ∧ u2 = Ch.aliv (k, L.of k) ∧ m = (L.of k).length ∧ v1 = Ch.wgt (k, c) ∧ v2 = Ch.aliv (k, c) ∧ n = c.length from ⟨hu1, hu2, hm, hv1, hv2, hn⟩)
  have KC := Lib.hid (fun W (hb : Below w.heap.size w W) => show Calls Try.prog 35 #[PtrS b, .string k] W fun e w' => ∃ A c, e = .returned (.slice A m c) ∧ SlV w' A (L.of k) ∧ Below W.heap.size W w' from (xChainR (h.below hb) a.f k).mono fun e w' ⟨A', c', h1, _, h3, h4⟩ => ⟨A', c', by rw [hm]; exact h1, h3, h4⟩)
  have KS := Lib.hid (fun W A' c' (hs : SlV W A' (L.of k)) => show Calls Try.prog 42 #[.string k, .slice A' m c'] W fun e w' => e = .returned (.agg #[.int .i64 (u1 : Int), .int .i64 (u2 : Int), .int .i64 (m : Int)]) ∧ Below W.heap.size W w' from by
    rw [hm, hu1, hu2]
    exact xSumsR k (L.of k) A' c' W hs fk.1 fk.2.1 (by omega))
  have KT := Lib.hid (fun W (hb : Below w.heap.size w W) => show Calls Try.prog 42 #[.string k, .slice A n cap] W fun e w' => e = .returned (.agg #[.int .i64 (v1 : Int), .int .i64 (v2 : Int), .int .i64 (n : Int)]) ∧ Below W.heap.size W w' from by
    rw [hn, hv1, hv2]
    obtain ⟨F, hP⟩ := (h.below hb).get (i := 8) (o := oCh A c) rfl
    exact xSumsR k c A cap W hP.1.1 hg hr (by omega))
  have KL := Lib.hid (fun W => xLessR s.x1 s.x2 s.x3 u1 u2 m d1 d2 d3 W (by rw [hd1, hx1]; unfold wrap64; omega) (by rw [hd2, hx2]; unfold wrap64; omega) (by rw [hd3, hx3]; unfold wrap64; omega))
  have KP := Lib.hid (fun W => xPlusR d1 d2 d3 v1 v2 n y1 y2 y3 W (by rw [hy1, hd1, hx1]; unfold wrap64; omega) (by rw [hy2, hd2, hx2]; unfold wrap64; omega) (by rw [hy3, hd3, hx3]; unfold wrap64; omega))
  have CX := Lib.hid (fun W (hb : Below w.heap.size w W) => show W.cell? ⟨b, 8, none⟩ = some (.int .i64 s.x1) ∧ W.cell? ⟨b, 9, none⟩ = some (.int .i64 s.x2) ∧ W.cell? ⟨b, 10, none⟩ = some (.int .i64 s.x3) ∧ (∀ j, W.frozen? ⟨b, j, none⟩ = false) from by
    have r := Sh.rowAt (h.below hb)
    exact ⟨r.cell 8, r.cell 9, r.cell 10, fun j => r.frozen j⟩)
  have HS := Lib.hid (fun W (hb : Below w.heap.size w W) => Sh.sumSet (y1 := y1) (y2 := y2) (y3 := y3) (h.below hb))
  have B0 := Lib.hid (show Below w.heap.size w w.drew from (Below.refl _ _).drew)
  have HA := Lib.hid a
  have HG := Lib.hid (And.intro hg hr)
  have HN := Lib.hid hn
  have HCAP := Lib.hid hcap
  clear fk hx1 hx2 hx3 b1 b2 b3 wu wv au av ln hm hu1 hu2 hv1 hv2 hd1 hd2 hd3 hy1 hy2 hy3
  clear h a hn hg hr hcap
  go_enter Try.func20, Try.ntmps20
  go_wp2_with fail
  refine wp_region_held_drew (S := (fun _ => True)) (by kernel_rfl) (trivial) (fun hHeld => ?_)
  refine rgnTake 0 rfl (by kernel_rfl) (by kernel_rfl) (by kernel_rfl) (fun _ _ _ h => h) (by rfl) (v := ?v1) ?hy1 hHeld ?rest1
  case hy1 => (intro v hSw; first | (go_simp; done) | (go_simp; with_reducible rfl))
  try simp only [Act.put, List.setIfInBounds_toArray, List.set_cons_zero, List.set_cons_succ]
  refine rgnTake 1 rfl (by kernel_rfl) (by kernel_rfl) (by kernel_rfl) (fun _ _ _ h => h) (by rfl) (v := ?v2) ?hy2 hHeld ?rest2
  case hy2 => (intro v hSw; first | (go_simp; done) | (go_simp; with_reducible rfl))
  try simp only [Act.put, List.setIfInBounds_toArray, List.set_cons_zero, List.set_cons_succ]
  refine rgnTake 2 rfl (by kernel_rfl) (by kernel_rfl) (by kernel_rfl) (fun _ _ _ h => h) (by rfl) (v := ?v3) ?hy3 hHeld ?rest3
  case hy3 => (intro v hSw; first | (go_simp; done) | (go_simp; with_reducible rfl))
  try simp only [Act.put, List.setIfInBounds_toArray, List.set_cons_zero, List.set_cons_succ]
  refine rgnTake 3 rfl (by kernel_rfl) (by kernel_rfl) (by kernel_rfl) (fun _ _ _ h => h) (by rfl) (v := ?v4) ?hy4 hHeld ?rest4
  case hy4 => (intro v hSw; first | (go_simp; done) | (go_simp; with_reducible rfl))
  try simp only [Act.put, List.setIfInBounds_toArray, List.set_cons_zero, List.set_cons_succ]
  refine rgnTake 5 rfl (by kernel_rfl) (by kernel_rfl) (by kernel_rfl) (fun _ _ _ h => h) (by rfl) (v := ?v5) ?hy5 hHeld ?rest5
  case hy5 => (intro v hSw; first | (go_simp; done) | (go_simp; with_reducible rfl))
  try simp only [Act.put, List.setIfInBounds_toArray, List.set_cons_zero, List.set_cons_succ]
  refine rgnTake 6 rfl (by kernel_rfl) (by kernel_rfl) (by kernel_rfl) (fun _ _ _ h => h) (by rfl) (v := ?v6) ?hy6 hHeld ?rest6
  case hy6 => (intro v hSw; first | (go_simp; done) | (go_simp; with_reducible rfl))
  try simp only [Act.put, List.setIfInBounds_toArray, List.set_cons_zero, List.set_cons_succ]
  refine rgnTake 7 rfl (by kernel_rfl) (by kernel_rfl) (by kernel_rfl) (fun _ _ _ h => h) (by rfl) (v := ?v7) ?hy7 hHeld ?rest7
  case hy7 => (intro v hSw; first | (go_simp; done) | (go_simp; with_reducible rfl))
  try simp only [Act.put, List.setIfInBounds_toArray, List.set_cons_zero, List.set_cons_succ]
  refine rgnTake 11 rfl (by kernel_rfl) (by kernel_rfl) (by kernel_rfl) (fun _ _ _ h => h) (by rfl) (v := ?v8) ?hy8 hHeld ?rest8
  case hy8 => (intro v hSw; first | (go_simp; done) | (go_simp; with_reducible rfl))
  try simp only [Act.put, List.setIfInBounds_toArray, List.set_cons_zero, List.set_cons_succ]
  refine rgnTake 12 rfl (by kernel_rfl) (by kernel_rfl) (by kernel_rfl) (fun _ _ _ h => h) (by rfl) (v := ?v9) ?hy9 hHeld ?rest9
  case hy9 => (intro v hSw; first | (go_simp; done) | (go_simp; with_reducible rfl))
  try simp only [Act.put, List.setIfInBounds_toArray, List.set_cons_zero, List.set_cons_succ]
  have BX := B0
  refine rgnTwo 4 8 rfl rfl (by kernel_rfl) (fun K hK => ?_) (fun K hK => ?_)
  · obtain ⟨c8, c9, c10, -⟩ := CX.out _ BX.out
    go_simp
    refine hK.out _ _ trivial (fun hHeld => ?_)
    clear hK K c8 c9 c10
    try simp only [Act.put, List.setIfInBounds_toArray, List.set_cons_zero, List.set_cons_succ]
    refine rgnOne 8 rfl (by kernel_rfl) (fun K hK => ?_)
    go_simp
    refine (KC.out _ BX.out).mono ?_
    rintro r W1 ⟨A1, c1, rfl, hs1, hb1⟩
    refine hK.out _ _ trivial (fun hHeld => ?_)
    clear hK K
    try simp only [Act.put, List.setIfInBounds_toArray, List.set_cons_zero, List.set_cons_succ]
    have S1 := Lib.hid hs1
    have B1 := Lib.hid (below_then BX.out hb1)
    clear hs1 hb1
    refine rgnOne 9 rfl (by kernel_rfl) (fun K hK => ?_)
    go_simp
    refine (KS.out _ _ _ S1.out).mono ?_
    rintro r W2 ⟨rfl, hb2⟩
    refine hK.out _ _ trivial (fun hHeld => ?_)
    clear hK K
    try simp only [Act.put, List.setIfInBounds_toArray, List.set_cons_zero, List.set_cons_succ]
    have B2 := Lib.hid (below_then B1.out hb2)
    clear hb2
    refine rgnOne 10 rfl (by kernel_rfl) (fun K hK => ?_)
    go_simp
    refine (KL.out _).mono ?_
    rintro r W3 ⟨rfl, hb3⟩
    refine hK.out _ _ trivial (fun hHeld => ?_)
    clear hK K
    try simp only [Act.put, List.setIfInBounds_toArray, List.set_cons_zero, List.set_cons_succ]
    have B3 := Lib.hid (below_then B2.out hb3)
    clear hb3
    refine rgnOne 13 rfl (by kernel_rfl) (fun K hK => ?_)
    go_simp
    refine (KT.out _ B3.out).mono ?_
    rintro r W4 ⟨rfl, hb4⟩
    refine hK.out _ _ trivial (fun hHeld => ?_)
    clear hK K
    try simp only [Act.put, List.setIfInBounds_toArray, List.set_cons_zero, List.set_cons_succ]
    have B4 := Lib.hid (below_then B3.out hb4)
    clear hb4
    refine rgnOne 14 rfl (by kernel_rfl) (fun K hK => ?_)
    go_simp
    refine (KP.out _).mono ?_
    rintro r W5 ⟨rfl, hb5⟩
    refine hK.out _ _ trivial (fun hHeld => ?_)
    clear hK K
    try simp only [Act.put, List.setIfInBounds_toArray, List.set_cons_zero, List.set_cons_succ]
    have B5 := Lib.hid (below_then B4.out hb5)
    obtain ⟨c8, c9, c10, cf⟩ := CX.out _ B5.out
    have f8 := cf 8
    have f9 := cf 9
    have f10 := cf 10
    have HS5 := Lib.hid (HS.out _ B5.out)
    clear hb5 cf
    refine rgnTake 15 rfl (by kernel_rfl) (by kernel_rfl) (by kernel_rfl) (fun _ _ _ h => h) (by rfl) (v := ?v10) ?hy10 hHeld ?rest10
    case hy10 => (intro v hSw; first | (go_simp; done) | (go_simp; with_reducible rfl))
    try simp only [Act.put, List.setIfInBounds_toArray, List.set_cons_zero, List.set_cons_succ]
    refine rgnTake 16 rfl (by kernel_rfl) (by kernel_rfl) (by kernel_rfl) (fun _ _ _ h => h) (by rfl) (v := ?v11) ?hy11 hHeld ?rest11
    case hy11 => (intro v hSw; first | (go_simp; done) | (go_simp; with_reducible rfl))
    try simp only [Act.put, List.setIfInBounds_toArray, List.set_cons_zero, List.set_cons_succ]
    refine rgnOne 17 rfl (by kernel_rfl) (fun K hK => ?_)
    go_simp
    refine hK.out _ _ trivial (fun hHeld => ?_)
    clear hK K c8 c9 c10 f8 f9 f10
    try simp only [Act.put, List.setIfInBounds_toArray, List.set_cons_zero, List.set_cons_succ]
    obtain ⟨W6, hW6⟩ : ∃ W6, W6 = ((W5.setCell ⟨b, 8, none⟩ (.int .i64 y1)).setCell ⟨b, 9, none⟩ (.int .i64 y2)).setCell ⟨b, 10, none⟩ (.int .i64 y3) := ⟨_, rfl⟩
    rw [← hW6] at HS5 ⊢
    clear hW6
    refine wpAnyH_done (by kernel_rfl) ?_ _
    have af : (s.sum y1 y2 y3).AtF L P := HA.out.f.sums
    obtain ⟨n0, p1, p2, p3, -, p5⟩ := af.fine.place hh
    obtain ⟨t, ht⟩ := Sh.hasT HS5.out af hh
    have FC := Lib.hid ((xFindR HS5.out af k).mono (R' := fun e w' => e = .returned (.tuple #[Ptr t, .int .i64 (n0 : Int)]) ∧ Side w0 N w' ((s.sum y1 y2 y3).os b ++ [oCh A c])) fun e w' ⟨tp, p, q1, q2, _, q4⟩ => by
      obtain ⟨t', e1, rfl, rfl⟩ := q4 hh
      rw [ht] at e1
      injection e1 with e1
      subst e1
      rw [p1] at q1
      exact ⟨q1, HS5.out.below q2⟩)
    have P2 := Lib.hid p2
    have P5 := Lib.hid p5
    have n3 := af.n3
    have n4 := af.n4
    clear af p1 p2 p3 p5 ht
    go_wp2_with fail
    refine FC.out.mono ?_
    rintro e W7 ⟨rfl, h7⟩
    have H7 := Lib.hid h7
    obtain ⟨g6, c4, A5, c5, e4, q4, fz, -, -⟩ := Sh.cview h7 P2.out
    have n6 : g6 ≠ b := h7.vecNe (i := 0) (j := 3) (t2 := 64) (n := (s.sum y1 y2 y3).cs.length) (c := c4) (xs := (s.sum y1 y2 y3).vs) rfl (by rw [← e4]; rfl) (by decide)
    have c6 := (Sh.rowAt h7).cell 6
    simp only [Sh.row, List.getElem?_cons_succ, List.getElem?_cons_zero] at c6
    obtain ⟨z, hz⟩ : ∃ z, z = ((s.sum y1 y2 y3).cs.getD n0 []).length := ⟨_, rfl⟩
    obtain ⟨M, hM⟩ : ∃ M, M = (s.sum y1 y2 y3).cs.length := ⟨_, rfl⟩
    rw [← hz] at q4
    rw [e4, ← hM] at c6
    have E4 := Lib.hid e4
    have HM := Lib.hid hM
    have i5 : (0 : Int) ≤ (n0 : Int) := by omega
    have i6 : (n0 : Int) < (M : Int) := by have := P2.out; omega
    have n0' : ((n : Int) == 0) = false := by simp; omega
    clear h7 e4 hM hz FC
    go_wp2_with fail
    refine bodyPost_end (results_none rfl _ _ _) rfl ⟨rfl, ?_⟩
    have h8 := H7.out.vecSetV (i := 3) (t := 64) (v := (s.sum y1 y2 y3).cv) (xs := (s.sum y1 y2 y3).vs) (p := n0) (u := .slice A n cap) rfl E4.out
    have h9 : Side w0 N (W7.setCell ⟨g6, n0, none⟩ (.slice A n cap)) (((((s.sum y1 y2 y3).rows s.cv s.fv (s.vs.set n0 (.slice A n cap)) (s.cs.set n0 c) s.fr).os b).set 5 (oDat s.vs s.cs)) ++ [oCh A c]) := h8
    have h10 := h9.merge (i := 5) (oi := oDat s.vs s.cs) (o' := oDat (s.vs.set n0 (.slice A n cap)) (s.cs.set n0 c)) rfl (fun F F' q1 q2 => by have q := DatP.put (c := cap) q1 q2 (by rw [← HN.out]; exact HCAP.out) (p := n0) P2.out; rw [← HN.out] at q; exact q)
    refine ⟨(s.sum y1 y2 y3).rows s.cv s.fv (s.vs.set n0 (.slice A n cap)) (s.cs.set n0 c) s.fr, h10, ⟨rfl, rfl, rfl, rfl, rfl, rfl, rfl⟩, ?_⟩
    have af := HA.out.f
    have gl : (L.give k c).length = L.length := by rw [Ch.give_len, if_pos hh]
    obtain ⟨z1, z2, z3⟩ := sums_give L k c
    obtain ⟨w1, w2, w3⟩ := SUM.out
    obtain ⟨w4, w5, w6, w7, w8, w9⟩ := HU.out
    refine ⟨⟨af.fine.old P5.out hh, af.t0, by rw [gl]; exact af.n1, by rw [gl]; exact af.n2, by show (s.cs.set n0 c).length ≤ P; rw [List.length_set]; exact af.n3, af.n4, good_give af.good HG.out.1 HG.out.2 hk (by rw [gl]; exact af.good.len), right_give af.good af.right HG.out.2, by rw [gl]; exact af.n5⟩, ?_, ?_, ?_⟩
    · show y1 = _; omega
    · show y2 = _; omega
    · show y3 = _; omega
  · go_simp
    refine (KC.out _ BX.out).mono ?_
    rintro r W1 ⟨A1, c1, rfl, hs1, hb1⟩
    refine hK.out _ _ trivial (fun hHeld => ?_)
    clear hK K
    try simp only [Act.put, List.setIfInBounds_toArray, List.set_cons_zero, List.set_cons_succ]
    have S1 := Lib.hid hs1
    have B1 := Lib.hid (below_then BX.out hb1)
    clear hs1 hb1
    refine rgnTwo 4 9 rfl rfl (by kernel_rfl) (fun K hK => ?_) (fun K hK => ?_)
    · obtain ⟨c8, c9, c10, -⟩ := CX.out _ B1.out
      go_simp
      refine hK.out _ _ trivial (fun hHeld => ?_)
      clear hK K c8 c9 c10
      try simp only [Act.put, List.setIfInBounds_toArray, List.set_cons_zero, List.set_cons_succ]
      refine rgnOne 9 rfl (by kernel_rfl) (fun K hK => ?_)
      go_simp
      refine (KS.out _ _ _ S1.out).mono ?_
      rintro r W2 ⟨rfl, hb2⟩
      refine hK.out _ _ trivial (fun hHeld => ?_)
      clear hK K
      try simp only [Act.put, List.setIfInBounds_toArray, List.set_cons_zero, List.set_cons_succ]
      have B2 := Lib.hid (below_then B1.out hb2)
      clear hb2
      refine rgnOne 10 rfl (by kernel_rfl) (fun K hK => ?_)
      go_simp
      refine (KL.out _).mono ?_
      rintro r W3 ⟨rfl, hb3⟩
      refine hK.out _ _ trivial (fun hHeld => ?_)
      clear hK K
      try simp only [Act.put, List.setIfInBounds_toArray, List.set_cons_zero, List.set_cons_succ]
      have B3 := Lib.hid (below_then B2.out hb3)
      clear hb3
      refine rgnOne 13 rfl (by kernel_rfl) (fun K hK => ?_)
      go_simp
      refine (KT.out _ B3.out).mono ?_
      rintro r W4 ⟨rfl, hb4⟩
      refine hK.out _ _ trivial (fun hHeld => ?_)
      clear hK K
      try simp only [Act.put, List.setIfInBounds_toArray, List.set_cons_zero, List.set_cons_succ]
      have B4 := Lib.hid (below_then B3.out hb4)
      clear hb4
      refine rgnOne 14 rfl (by kernel_rfl) (fun K hK => ?_)
      go_simp
      refine (KP.out _).mono ?_
      rintro r W5 ⟨rfl, hb5⟩
      refine hK.out _ _ trivial (fun hHeld => ?_)
      clear hK K
      try simp only [Act.put, List.setIfInBounds_toArray, List.set_cons_zero, List.set_cons_succ]
      have B5 := Lib.hid (below_then B4.out hb5)
      obtain ⟨c8, c9, c10, cf⟩ := CX.out _ B5.out
      have f8 := cf 8
      have f9 := cf 9
      have f10 := cf 10
      have HS5 := Lib.hid (HS.out _ B5.out)
      clear hb5 cf
      refine rgnTake 15 rfl (by kernel_rfl) (by kernel_rfl) (by kernel_rfl) (fun _ _ _ h => h) (by rfl) (v := ?v12) ?hy12 hHeld ?rest12
      case hy12 => (intro v hSw; first | (go_simp; done) | (go_simp; with_reducible rfl))
      try simp only [Act.put, List.setIfInBounds_toArray, List.set_cons_zero, List.set_cons_succ]
      refine rgnTake 16 rfl (by kernel_rfl) (by kernel_rfl) (by kernel_rfl) (fun _ _ _ h => h) (by rfl) (v := ?v13) ?hy13 hHeld ?rest13
      case hy13 => (intro v hSw; first | (go_simp; done) | (go_simp; with_reducible rfl))
      try simp only [Act.put, List.setIfInBounds_toArray, List.set_cons_zero, List.set_cons_succ]
      refine rgnOne 17 rfl (by kernel_rfl) (fun K hK => ?_)
      go_simp
      refine hK.out _ _ trivial (fun hHeld => ?_)
      clear hK K c8 c9 c10 f8 f9 f10
      try simp only [Act.put, List.setIfInBounds_toArray, List.set_cons_zero, List.set_cons_succ]
      obtain ⟨W6, hW6⟩ : ∃ W6, W6 = ((W5.setCell ⟨b, 8, none⟩ (.int .i64 y1)).setCell ⟨b, 9, none⟩ (.int .i64 y2)).setCell ⟨b, 10, none⟩ (.int .i64 y3) := ⟨_, rfl⟩
      rw [← hW6] at HS5 ⊢
      clear hW6
      refine wpAnyH_done (by kernel_rfl) ?_ _
      have af : (s.sum y1 y2 y3).AtF L P := HA.out.f.sums
      obtain ⟨n0, p1, p2, p3, -, p5⟩ := af.fine.place hh
      obtain ⟨t, ht⟩ := Sh.hasT HS5.out af hh
      have FC := Lib.hid ((xFindR HS5.out af k).mono (R' := fun e w' => e = .returned (.tuple #[Ptr t, .int .i64 (n0 : Int)]) ∧ Side w0 N w' ((s.sum y1 y2 y3).os b ++ [oCh A c])) fun e w' ⟨tp, p, q1, q2, _, q4⟩ => by
        obtain ⟨t', e1, rfl, rfl⟩ := q4 hh
        rw [ht] at e1
        injection e1 with e1
        subst e1
        rw [p1] at q1
        exact ⟨q1, HS5.out.below q2⟩)
      have P2 := Lib.hid p2
      have P5 := Lib.hid p5
      have n3 := af.n3
      have n4 := af.n4
      clear af p1 p2 p3 p5 ht
      go_wp2_with fail
      refine FC.out.mono ?_
      rintro e W7 ⟨rfl, h7⟩
      have H7 := Lib.hid h7
      obtain ⟨g6, c4, A5, c5, e4, q4, fz, -, -⟩ := Sh.cview h7 P2.out
      have n6 : g6 ≠ b := h7.vecNe (i := 0) (j := 3) (t2 := 64) (n := (s.sum y1 y2 y3).cs.length) (c := c4) (xs := (s.sum y1 y2 y3).vs) rfl (by rw [← e4]; rfl) (by decide)
      have c6 := (Sh.rowAt h7).cell 6
      simp only [Sh.row, List.getElem?_cons_succ, List.getElem?_cons_zero] at c6
      obtain ⟨z, hz⟩ : ∃ z, z = ((s.sum y1 y2 y3).cs.getD n0 []).length := ⟨_, rfl⟩
      obtain ⟨M, hM⟩ : ∃ M, M = (s.sum y1 y2 y3).cs.length := ⟨_, rfl⟩
      rw [← hz] at q4
      rw [e4, ← hM] at c6
      have E4 := Lib.hid e4
      have HM := Lib.hid hM
      have i5 : (0 : Int) ≤ (n0 : Int) := by omega
      have i6 : (n0 : Int) < (M : Int) := by have := P2.out; omega
      have n0' : ((n : Int) == 0) = false := by simp; omega
      clear h7 e4 hM hz FC
      go_wp2_with fail
      refine bodyPost_end (results_none rfl _ _ _) rfl ⟨rfl, ?_⟩
      have h8 := H7.out.vecSetV (i := 3) (t := 64) (v := (s.sum y1 y2 y3).cv) (xs := (s.sum y1 y2 y3).vs) (p := n0) (u := .slice A n cap) rfl E4.out
      have h9 : Side w0 N (W7.setCell ⟨g6, n0, none⟩ (.slice A n cap)) (((((s.sum y1 y2 y3).rows s.cv s.fv (s.vs.set n0 (.slice A n cap)) (s.cs.set n0 c) s.fr).os b).set 5 (oDat s.vs s.cs)) ++ [oCh A c]) := h8
      have h10 := h9.merge (i := 5) (oi := oDat s.vs s.cs) (o' := oDat (s.vs.set n0 (.slice A n cap)) (s.cs.set n0 c)) rfl (fun F F' q1 q2 => by have q := DatP.put (c := cap) q1 q2 (by rw [← HN.out]; exact HCAP.out) (p := n0) P2.out; rw [← HN.out] at q; exact q)
      refine ⟨(s.sum y1 y2 y3).rows s.cv s.fv (s.vs.set n0 (.slice A n cap)) (s.cs.set n0 c) s.fr, h10, ⟨rfl, rfl, rfl, rfl, rfl, rfl, rfl⟩, ?_⟩
      have af := HA.out.f
      have gl : (L.give k c).length = L.length := by rw [Ch.give_len, if_pos hh]
      obtain ⟨z1, z2, z3⟩ := sums_give L k c
      obtain ⟨w1, w2, w3⟩ := SUM.out
      obtain ⟨w4, w5, w6, w7, w8, w9⟩ := HU.out
      refine ⟨⟨af.fine.old P5.out hh, af.t0, by rw [gl]; exact af.n1, by rw [gl]; exact af.n2, by show (s.cs.set n0 c).length ≤ P; rw [List.length_set]; exact af.n3, af.n4, good_give af.good HG.out.1 HG.out.2 hk (by rw [gl]; exact af.good.len), right_give af.good af.right HG.out.2, by rw [gl]; exact af.n5⟩, ?_, ?_, ?_⟩
      · show y1 = _; omega
      · show y2 = _; omega
      · show y3 = _; omega
    · go_simp
      refine (KS.out _ _ _ S1.out).mono ?_
      rintro r W2 ⟨rfl, hb2⟩
      refine hK.out _ _ trivial (fun hHeld => ?_)
      clear hK K
      try simp only [Act.put, List.setIfInBounds_toArray, List.set_cons_zero, List.set_cons_succ]
      have B2 := Lib.hid (below_then B1.out hb2)
      clear hb2
      obtain ⟨c8, c9, c10, -⟩ := CX.out _ B2.out
      refine rgnOne 4 rfl (by kernel_rfl) (fun K hK => ?_)
      go_simp
      refine hK.out _ _ trivial (fun hHeld => ?_)
      clear hK K c8 c9 c10
      try simp only [Act.put, List.setIfInBounds_toArray, List.set_cons_zero, List.set_cons_succ]
      refine rgnOne 10 rfl (by kernel_rfl) (fun K hK => ?_)
      go_simp
      refine (KL.out _).mono ?_
      rintro r W3 ⟨rfl, hb3⟩
      refine hK.out _ _ trivial (fun hHeld => ?_)
      clear hK K
      try simp only [Act.put, List.setIfInBounds_toArray, List.set_cons_zero, List.set_cons_succ]
      have B3 := Lib.hid (below_then B2.out hb3)
      clear hb3
      refine rgnOne 13 rfl (by kernel_rfl) (fun K hK => ?_)
      go_simp
      refine (KT.out _ B3.out).mono ?_
      rintro r W4 ⟨rfl, hb4⟩
      refine hK.out _ _ trivial (fun hHeld => ?_)
      clear hK K
      try simp only [Act.put, List.setIfInBounds_toArray, List.set_cons_zero, List.set_cons_succ]
      have B4 := Lib.hid (below_then B3.out hb4)
      clear hb4
      refine rgnOne 14 rfl (by kernel_rfl) (fun K hK => ?_)
      go_simp
      refine (KP.out _).mono ?_
      rintro r W5 ⟨rfl, hb5⟩
      refine hK.out _ _ trivial (fun hHeld => ?_)
      clear hK K
      try simp only [Act.put, List.setIfInBounds_toArray, List.set_cons_zero, List.set_cons_succ]
      have B5 := Lib.hid (below_then B4.out hb5)
      obtain ⟨c8, c9, c10, cf⟩ := CX.out _ B5.out
      have f8 := cf 8
      have f9 := cf 9
      have f10 := cf 10
      have HS5 := Lib.hid (HS.out _ B5.out)
      clear hb5 cf
      refine rgnTake 15 rfl (by kernel_rfl) (by kernel_rfl) (by kernel_rfl) (fun _ _ _ h => h) (by rfl) (v := ?v14) ?hy14 hHeld ?rest14
      case hy14 => (intro v hSw; first | (go_simp; done) | (go_simp; with_reducible rfl))
      try simp only [Act.put, List.setIfInBounds_toArray, List.set_cons_zero, List.set_cons_succ]
      refine rgnTake 16 rfl (by kernel_rfl) (by kernel_rfl) (by kernel_rfl) (fun _ _ _ h => h) (by rfl) (v := ?v15) ?hy15 hHeld ?rest15
      case hy15 => (intro v hSw; first | (go_simp; done) | (go_simp; with_reducible rfl))
      try simp only [Act.put, List.setIfInBounds_toArray, List.set_cons_zero, List.set_cons_succ]
      refine rgnOne 17 rfl (by kernel_rfl) (fun K hK => ?_)
      go_simp
      refine hK.out _ _ trivial (fun hHeld => ?_)
      clear hK K c8 c9 c10 f8 f9 f10
      try simp only [Act.put, List.setIfInBounds_toArray, List.set_cons_zero, List.set_cons_succ]
      obtain ⟨W6, hW6⟩ : ∃ W6, W6 = ((W5.setCell ⟨b, 8, none⟩ (.int .i64 y1)).setCell ⟨b, 9, none⟩ (.int .i64 y2)).setCell ⟨b, 10, none⟩ (.int .i64 y3) := ⟨_, rfl⟩
      rw [← hW6] at HS5 ⊢
      clear hW6
      refine wpAnyH_done (by kernel_rfl) ?_ _
      have af : (s.sum y1 y2 y3).AtF L P := HA.out.f.sums
      obtain ⟨n0, p1, p2, p3, -, p5⟩ := af.fine.place hh
      obtain ⟨t, ht⟩ := Sh.hasT HS5.out af hh
      have FC := Lib.hid ((xFindR HS5.out af k).mono (R' := fun e w' => e = .returned (.tuple #[Ptr t, .int .i64 (n0 : Int)]) ∧ Side w0 N w' ((s.sum y1 y2 y3).os b ++ [oCh A c])) fun e w' ⟨tp, p, q1, q2, _, q4⟩ => by
        obtain ⟨t', e1, rfl, rfl⟩ := q4 hh
        rw [ht] at e1
        injection e1 with e1
        subst e1
        rw [p1] at q1
        exact ⟨q1, HS5.out.below q2⟩)
      have P2 := Lib.hid p2
      have P5 := Lib.hid p5
      have n3 := af.n3
      have n4 := af.n4
      clear af p1 p2 p3 p5 ht
      go_wp2_with fail
      refine FC.out.mono ?_
      rintro e W7 ⟨rfl, h7⟩
      have H7 := Lib.hid h7
      obtain ⟨g6, c4, A5, c5, e4, q4, fz, -, -⟩ := Sh.cview h7 P2.out
      have n6 : g6 ≠ b := h7.vecNe (i := 0) (j := 3) (t2 := 64) (n := (s.sum y1 y2 y3).cs.length) (c := c4) (xs := (s.sum y1 y2 y3).vs) rfl (by rw [← e4]; rfl) (by decide)
      have c6 := (Sh.rowAt h7).cell 6
      simp only [Sh.row, List.getElem?_cons_succ, List.getElem?_cons_zero] at c6
      obtain ⟨z, hz⟩ : ∃ z, z = ((s.sum y1 y2 y3).cs.getD n0 []).length := ⟨_, rfl⟩
      obtain ⟨M, hM⟩ : ∃ M, M = (s.sum y1 y2 y3).cs.length := ⟨_, rfl⟩
      rw [← hz] at q4
      rw [e4, ← hM] at c6
      have E4 := Lib.hid e4
      have HM := Lib.hid hM
      have i5 : (0 : Int) ≤ (n0 : Int) := by omega
      have i6 : (n0 : Int) < (M : Int) := by have := P2.out; omega
      have n0' : ((n : Int) == 0) = false := by simp; omega
      clear h7 e4 hM hz FC
      go_wp2_with fail
      refine bodyPost_end (results_none rfl _ _ _) rfl ⟨rfl, ?_⟩
      have h8 := H7.out.vecSetV (i := 3) (t := 64) (v := (s.sum y1 y2 y3).cv) (xs := (s.sum y1 y2 y3).vs) (p := n0) (u := .slice A n cap) rfl E4.out
      have h9 : Side w0 N (W7.setCell ⟨g6, n0, none⟩ (.slice A n cap)) (((((s.sum y1 y2 y3).rows s.cv s.fv (s.vs.set n0 (.slice A n cap)) (s.cs.set n0 c) s.fr).os b).set 5 (oDat s.vs s.cs)) ++ [oCh A c]) := h8
      have h10 := h9.merge (i := 5) (oi := oDat s.vs s.cs) (o' := oDat (s.vs.set n0 (.slice A n cap)) (s.cs.set n0 c)) rfl (fun F F' q1 q2 => by have q := DatP.put (c := cap) q1 q2 (by rw [← HN.out]; exact HCAP.out) (p := n0) P2.out; rw [← HN.out] at q; exact q)
      refine ⟨(s.sum y1 y2 y3).rows s.cv s.fv (s.vs.set n0 (.slice A n cap)) (s.cs.set n0 c) s.fr, h10, ⟨rfl, rfl, rfl, rfl, rfl, rfl, rfl⟩, ?_⟩
      have af := HA.out.f
      have gl : (L.give k c).length = L.length := by rw [Ch.give_len, if_pos hh]
      obtain ⟨z1, z2, z3⟩ := sums_give L k c
      obtain ⟨w1, w2, w3⟩ := SUM.out
      obtain ⟨w4, w5, w6, w7, w8, w9⟩ := HU.out
      refine ⟨⟨af.fine.old P5.out hh, af.t0, by rw [gl]; exact af.n1, by rw [gl]; exact af.n2, by show (s.cs.set n0 c).length ≤ P; rw [List.length_set]; exact af.n3, af.n4, good_give af.good HG.out.1 HG.out.2 hk (by rw [gl]; exact af.good.len), right_give af.good af.right HG.out.2, by rw [gl]; exact af.n5⟩, ?_, ?_, ?_⟩
      · show y1 = _; omega
      · show y2 = _; omega
      · show y3 = _; omega
end

end Go.Proofs.Ytbfgpdgiaclphaa
