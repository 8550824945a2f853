/- Proved parts: T9t T9b. Conditions: each theorem's own. -/
import Derived.Test.YtdcjckdhjfnnhaaM3
import Derived.Test.YtdcjckdhjfnnhaaM5
namespace Go.Proofs.Ytdcjckdhjfnnhaa
open Go.RowKit

/-- the table: nodes by their places, free places, root, depth, keys -/
structure Tab where
  nds : List KV
  free : List Nat
  root : Nat
  depth : Nat
  count : Nat
def Tab.nd (s : Tab) (p : Nat) : KV := s.nds.getD p []
def nilv : Value := .slice none 0 0
def frees (l : List Nat) : List Int := l.map fun (n : Nat) => (n : Int)
/-- the value of node i -/
def nv (vs : List Value) (i : Nat) : Value := vs.getD i nilv

structure TabV (w : World) (T : Nat) (E : Nat → Prop) (s : Tab) (rv fv : Value) (vs : List Value) : Prop where
  row : RowAt w T [rv, fv, .int .i64 s.root, .int .i64 s.depth, .int .i64 s.count] 50
  nodes : w.ownsRow 0 66 1 rv vs.length vs
  free : OwnJ w 0 fv (frees s.free)
  len : vs.length = s.nds.length
  node : ∀ i, i < vs.length → NodeAt w (nv vs i) (s.nd i)
  apart : ∀ i j k q, i < vs.length → j < vs.length → InWin (nv vs i) k q → InWin (nv vs j) k q → i = j
  eT : E T
  eN : ∀ k, rv.ownBlock = some k → E k ∧ k ≠ T
  eF : ∀ k, fv.ownBlock = some k → E k ∧ k ≠ T ∧ rv.ownBlock ≠ some k
  eW : ∀ i k q, i < vs.length → InWin (nv vs i) k q → E k ∧ k ≠ T ∧ rv.ownBlock ≠ some k ∧ fv.ownBlock ≠ some k
  lt : ∀ k, E k → k < w.heap.size
def TabG (w : World) (T : Nat) (E : Nat → Prop) (s : Tab) : Prop := ∃ rv fv vs, TabV w T E s rv fv vs
/-- what a call leaves -/
def LeftP (w : World) (T : Nat) (E : Nat → Prop) (s : Tab) (w' : World) : Prop := ∃ E' : Nat → Prop, TabG w' T E' s ∧ (∀ k, E' k → E k ∨ w.heap.size ≤ k) ∧ Chg E w w'

theorem own_keep {w w' : World} {e : TypeId} {m : Nat} {v : Value} {n : Nat} {xs : List Value} (h : w.ownsRow 0 e m v n xs) (hb : ∀ k, v.ownBlock = some k → w'.heap[k]? = w.heap[k]?) : w'.ownsRow 0 e m v n xs := by
  rcases h with ⟨h1, h2⟩
  refine ⟨h1, ?_⟩
  rcases h2 with ⟨rfl, h0⟩ | ⟨g, cap, cur, rfl, hB, hg, r⟩
  · exact .inl ⟨rfl, h0⟩
  · exact .inr ⟨g, cap, cur, rfl, hB, (hb g rfl).trans hg, r⟩
theorem NodeAt.keep {w w' : World} {v : Value} {zs : KV} (h : NodeAt w v zs) (hb : ∀ k q, InWin v k q → w'.heap[k]? = w.heap[k]?) : NodeAt w' v zs := by
  rcases h with ⟨rfl, rfl⟩ | ⟨b, o, c, rfl, h⟩
  · exact .inl ⟨rfl, rfl⟩
  · have e := hb b o ⟨o, _, c, rfl, Nat.le_refl _, by have := h.pos; omega⟩
    exact .inr ⟨b, o, c, rfl, ⟨h.fit, h.cap, h.pos, fun j v hj => (World.cell?_of_block (a := ⟨b, o + j, none⟩) e).trans (h.row j v hj), fun j hj => by
      rw [World.cell?_of_block (a := ⟨b, o + j, none⟩) e]; exact h.there j hj, by obtain ⟨cur, q⟩ := h.plain; exact ⟨cur, e.trans q⟩⟩⟩
section
variable {w w' : World} {T : Nat} {E : Nat → Prop} {s : Tab} {rv fv : Value} {vs : List Value}
theorem TabV.keep (h : TabV w T E s rv fv vs) (hk : ∀ k, E k → w'.heap[k]? = w.heap[k]?) (hs : w.heap.size ≤ w'.heap.size) : TabV w' T E s rv fv vs :=
  ⟨(hk T h.eT).trans h.row, own_keep h.nodes fun k e => hk k (h.eN k e).1, own_keep h.free fun k e => hk k (h.eF k e).1, h.len, fun i hi => (h.node i hi).keep fun k q e => hk k (h.eW i k q hi e).1, h.apart, h.eT, h.eN, h.eF, h.eW, fun k e => Nat.lt_of_lt_of_le (h.lt k e) hs⟩
theorem TabG.keep (h : TabG w T E s) (hk : ∀ k, E k → w'.heap[k]? = w.heap[k]?) (hs : w.heap.size ≤ w'.heap.size) : TabG w' T E s := by
  obtain ⟨rv, fv, vs, h⟩ := h
  exact ⟨rv, fv, vs, h.keep hk hs⟩
theorem TabG.lt (h : TabG w T E s) : ∀ k, E k → k < w.heap.size := by obtain ⟨_, _, _, h⟩ := h; exact h.lt
theorem TabG.below (h : TabG w T E s) (hb : Below w.heap.size w w') : TabG w' T E s := h.keep (fun k e => hb.block k (h.lt k e)) hb.size
theorem TabV.below (h : TabV w T E s rv fv vs) (hb : Below w.heap.size w w') : TabV w' T E s rv fv vs := h.keep (fun k e => hb.block k (h.lt k e)) hb.size
theorem TabG.eT (h : TabG w T E s) : E T := by obtain ⟨_, _, _, h⟩ := h; exact h.eT
theorem LeftP.same (h : TabG w T E s) (hb : Below w.heap.size w w') : LeftP w T E s w' := ⟨E, h.below hb, fun _ e => .inl e, Chg.of_below hb⟩
theorem LeftP.then {s' : Tab} {w2 : World} {E1 : Nat → Prop} (c : Chg E w w') (a : ∀ k, E1 k → E k ∨ w.heap.size ≤ k) (k : LeftP w' T E1 s' w2) : LeftP w T E s' w2 := by
  obtain ⟨E2, h2, a2, c2⟩ := k
  exact ⟨E2, h2, fun i e => by
    rcases a2 i e with q | q
    · exact a i q
    · exact .inr (Nat.le_trans c.size q), c.trans c2 a⟩
theorem LeftP.trans {s' : Tab} {w2 : World} (h : LeftP w T E s w') (k : ∀ E1, TabG w' T E1 s → LeftP w' T E1 s' w2) : LeftP w T E s' w2 := by
  obtain ⟨E1, h1, a1, c1⟩ := h
  exact LeftP.then c1 a1 (k E1 h1)

/-- the nodes' row, at hand -/
theorem TabV.rowAt (h : TabV w T E s rv fv vs) (hp : 0 < vs.length) : ∃ g c, rv = .slice (some ⟨g, 0, none⟩) vs.length c ∧ E g ∧ g ≠ T ∧ ∀ i, i < vs.length → w.cell? ⟨g, i, none⟩ = some (nv vs i) ∧ w.frozen? ⟨g, i, none⟩ = false := by
  have hn := h.nodes
  rcases hn.2 with ⟨_, h0⟩ | ⟨g, cap, cur, e, _, hg, _, _, _, ht⟩
  · omega
  · have := h.eN g (by rw [e]; rfl)
    refine ⟨g, cap, e, this.1, this.2, fun i hi => ?_⟩
    rw [e] at hn
    refine ⟨?_, hn.frozenAt i⟩
    rw [hn.cellAt i (by omega), List.getElem?_eq_getElem hi]
    unfold nv
    rw [List.getD_eq_getElem?_getD, List.getElem?_eq_getElem hi]; rfl
theorem nv_set {vs : List Value} {i j : Nat} {v : Value} (hi : i < vs.length) : nv (vs.set i v) j = if j = i then v else nv vs j := by
  unfold nv
  rw [List.getD_eq_getElem?_getD, List.getD_eq_getElem?_getD, List.getElem?_set]
  by_cases e : j = i
  · subst e; rw [if_pos rfl, if_pos rfl, if_pos hi]; rfl
  · rw [if_neg (Ne.symm e), if_neg e]
theorem Tab.nd_set {l : List KV} {i j : Nat} {v : KV} (hi : i < l.length) : (l.set i v).getD j [] = if j = i then v else l.getD j [] := by
  rw [List.getD_eq_getElem?_getD, List.getD_eq_getElem?_getD, List.getElem?_set]
  by_cases e : j = i
  · subst e; rw [if_pos rfl, if_pos rfl, if_pos hi]; rfl
  · rw [if_neg (Ne.symm e), if_neg e]
/-- node i has other items -/
def Tab.put (s : Tab) (i : Nat) (zs : KV) : Tab := { s with nds := s.nds.set i zs }
theorem Tab.put_nd {s : Tab} {i : Nat} {zs : KV} (hi : i < s.nds.length) (j : Nat) : (s.put i zs).nd j = if j = i then zs else s.nd j := Tab.nd_set hi
theorem NodeAt.own {v : Value} {zs : KV} (h : NodeAt w v zs) {k : Nat} (e : v.ownBlock = some k) : ∃ q, InWin v k q := by
  rcases h with ⟨rfl, _⟩ | ⟨b, o, c, rfl, h⟩
  · cases e
  · injection e with e
    subst e
    exact ⟨o, o, _, c, rfl, Nat.le_refl _, by have := h.pos; omega⟩

/-- node i has moved, and its value is laid in the row -/
theorem TabV.moved {E' : Nat → Prop} {i g c : Nat} {v' : Value} {zs : KV} (h : TabV w T E s rv fv vs) (hi : i < vs.length) (hr : rv = .slice (some ⟨g, 0, none⟩) vs.length c)
    (hm : NodeAt w' v' zs) (ht : Turn (InWin (nv vs i)) w w') (hw : ∀ k j, InWin v' k j → InWin (nv vs i) k j ∨ w.heap.size ≤ k)
    (hE : ∀ k, E k → E' k) (hE2 : ∀ k, w.heap.size ≤ k → k < w'.heap.size → E' k) (hlt : ∀ k, E' k → k < w'.heap.size) : TabV (w'.setCell ⟨g, i, none⟩ v') T E' (s.put i zs) rv fv (vs.set i v') := by
  have eg := h.eN g (by rw [hr]; rfl)
  have other : ∀ k, E k → (∀ q, ¬ InWin (nv vs i) k q) → w'.heap[k]? = w.heap[k]? := fun k ek hn => ht.block k (h.lt k ek) hn
  have rT : RowAt w' T _ _ := (other T h.eT (fun q e => (h.eW i T q hi e).2.1 rfl)).trans h.row
  have rN := own_keep h.nodes fun k e => other k (h.eN k e).1 (fun q f => (h.eW i k q hi f).2.2.1 e)
  have rF := own_keep h.free fun k e => other k (h.eF k e).1 (fun q f => (h.eW i k q hi f).2.2.2 e)
  have win' : ∀ k q, InWin v' k q → E' k ∧ k ≠ T ∧ rv.ownBlock ≠ some k ∧ fv.ownBlock ≠ some k := fun k q e => by
    rcases hw k q e with f | f
    · have := h.eW i k q hi f
      exact ⟨hE k this.1, this.2⟩
    · refine ⟨hE2 k f (InWin.lt hm e), fun t => ?_, fun t => ?_, fun t => ?_⟩
      · have := h.lt T h.eT; omega
      · have := h.lt k (h.eN k t).1; omega
      · have := h.lt k (h.eF k t).1; omega
  refine ⟨rT.other (fun e => eg.2 e) _, ?_, own_keep rF fun k e => Below.heap_setCell _ _ _ _ (fun q => ?_), by rw [List.length_set, h.len]; show _ = (s.nds.set i zs).length; rw [List.length_set], fun j hj => ?_, fun j l k q hj hl e1 e2 => ?_, hE T h.eT, fun k e => ⟨hE k (h.eN k e).1, (h.eN k e).2⟩, fun k e => ⟨hE k (h.eF k e).1, (h.eF k e).2⟩, fun j k q hj e => ?_, fun k e => ?_⟩
  · rw [List.length_set]
    rw [hr] at rN ⊢
    have := rN.stored i v'
    exact this.1
  · have q : k = g := q
    subst q
    exact (h.eF k e).2.2 (by rw [hr]; rfl)
  · rw [List.length_set] at hj
    rw [nv_set hi, Tab.put_nd (by rw [← h.len]; exact hi)]
    by_cases e : j = i
    · subst e
      rw [if_pos rfl, if_pos rfl]
      exact hm.keep fun k q f => Below.heap_setCell _ _ _ _ (fun t => (win' k q f).2.2.1 (by rw [hr]; show some g = some k; rw [t]))
    · rw [if_neg e, if_neg e]
      refine ((h.node j hj).turn ht (fun k q f1 f2 => e (h.apart j i k q hj hi f1 f2))).keep fun k q f => Below.heap_setCell _ _ _ _ (fun t => (h.eW j k q hj f).2.2.1 (by rw [hr]; show some g = some k; rw [t]))
  · rw [List.length_set] at hj hl
    rw [nv_set hi] at e1 e2
    have key : ∀ m, m < vs.length → m ≠ i → InWin (nv vs m) k q → ¬ InWin v' k q := fun m hml hmi f1 f2 => by
      rcases hw k q f2 with f | f
      · exact hmi (h.apart m i k q hml hi f1 f)
      · have := h.lt k (h.eW m k q hml f1).1; omega
    by_cases c1 : j = i
    · by_cases c2 : l = i
      · omega
      · rw [if_pos c1] at e1
        rw [if_neg c2] at e2
        exact absurd e1 (key l hl c2 e2)
    · by_cases c2 : l = i
      · rw [if_neg c1] at e1
        rw [if_pos c2] at e2
        exact absurd e2 (key j hj c1 e1)
      · rw [if_neg c1] at e1
        rw [if_neg c2] at e2
        exact h.apart j l k q hj hl e1 e2
  · rw [List.length_set] at hj
    rw [nv_set hi] at e
    by_cases c1 : j = i
    · rw [if_pos c1] at e; exact win' k q e
    · rw [if_neg c1] at e
      have := h.eW j k q hj e
      exact ⟨hE k this.1, this.2⟩
  · have : (w'.setCell ⟨g, i, none⟩ v').heap.size = w'.heap.size := by simp [World.setCell]
    rw [this]; exact hlt k e
/-- a field of the tree turns -/
theorem TabV.field {s' : Tab} {u : Value} (j : Nat) (h : TabV w T E s rv fv vs) (hn : s'.nds = s.nds) (hf : s'.free = s.free)
    (hr : [rv, fv, Value.int .i64 s.root, .int .i64 s.depth, .int .i64 s.count].set j u = [rv, fv, .int .i64 s'.root, .int .i64 s'.depth, .int .i64 s'.count]) : TabV (w.setCell ⟨T, j, none⟩ u) T E s' rv fv vs := by
  have r := h.row.set j u
  rw [hr] at r
  have k : ∀ k, k ≠ T → (w.setCell ⟨T, j, none⟩ u).heap[k]? = w.heap[k]? := fun k q => Below.heap_setCell _ _ _ _ q
  have e : ∀ i, s'.nd i = s.nd i := fun i => by unfold Tab.nd; rw [hn]
  refine ⟨r, own_keep h.nodes fun i q => k i (h.eN i q).2, by rw [hf]; exact own_keep h.free fun i q => k i (h.eF i q).2.1, by rw [h.len, hn], fun i hi => by rw [e]; exact (h.node i hi).keep fun m q f => k m (h.eW i m q hi f).2.1, h.apart, h.eT, h.eN, h.eF, h.eW, fun i q => ?_⟩
  have : (w.setCell ⟨T, j, none⟩ u).heap.size = w.heap.size := by simp [World.setCell]
  rw [this]; exact h.lt i q
end

end Go.Proofs.Ytdcjckdhjfnnhaa

namespace Go.Proofs.Ytdcjckdhjfnnhaa
open Go.RowKit

theorem NodeAt.form {w : World} {v : Value} {zs : KV} (h : NodeAt w v zs) : ∃ A c, v = .slice A zs.length c ∧ ∀ j, j < zs.length → ∃ b o, A = some ⟨b, o, none⟩ ∧ w.cell? ⟨b, o + j * 2, none⟩ = some (.string (zs.key j)) ∧ w.cell? ⟨b, o + j * 2 + 1, none⟩ = some (.int .i64 (zs.num j)) := by
  rcases h with ⟨rfl, rfl⟩ | ⟨b, o, c, rfl, h⟩
  · exact ⟨none, 0, rfl, fun j hj => absurd hj (by simp)⟩
  · exact ⟨_, c, rfl, fun j hj => ⟨b, o, rfl, h.cells j hj⟩⟩

set_option maxRecDepth 100000 in
/-- below -/
theorem xBelow (w : World) (v : Value) (zs : KV) (k : ByteArray) (h : NodeAt w v zs) (hl : zs.length ≤ 1000000) :
    Calls Try.prog 30 #[v, .string k] w fun x w' => x = .returned (.int .i64 (zs.pos k : Nat)) ∧ w' = w := by
  obtain ⟨A, c, rfl, hc⟩ := h.form
  have PB := Lib.hid (fun j (hj : j < zs.pos k) => KV.pos_below k zs j hj)
  have PS := Lib.hid (KV.pos_stop k zs)
  have KC := Lib.hid hc
  have pl := KV.pos_le k zs
  obtain ⟨n, hn⟩ : ∃ n, n = zs.length := ⟨_, rfl⟩
  obtain ⟨P, hP⟩ : ∃ P, P = zs.pos k := ⟨_, rfl⟩
  rw [← hP] at PB PS pl ⊢
  rw [← hn] at PS KC pl hl ⊢
  clear hc h hn hP
  go_enter Try.func30, Try.ntmps30
  go_wp2_with fail
  go_loopw [5] (fun v wr => ∃ i : Nat, i ≤ P ∧ v = .int .i64 i ∧ wr = w) (fun v _ => P - (Go.RowKit.intOf v).toNat)
  case atStart => exact ⟨0, Nat.zero_le _, rfl, rfl⟩
  case round =>
    obtain ⟨i, hi, rfl, rfl⟩ := hrel
    by_cases q : i < P
    · obtain ⟨b, o, rfl, cc, _⟩ := KC.out i (by omega)
      have t := PB.out i q
      unfold ltB at t
      go_wp2_with fail
      go_roundw
      case rel => exact ⟨i + 1, by omega, by go_num, by first | trivial | rfl⟩
      case measure => simp [Go.RowKit.intOf]; omega
    · obtain rfl : i = P := by omega
      by_cases q2 : i < n
      · obtain ⟨b, o, rfl, cc, _⟩ := KC.out i q2
        have t := PS.out q2
        unfold ltB at t
        go_wp2_with fail
        go_ret
        exact ⟨rfl, rfl⟩
      · go_wp2_with fail
        go_ret
        exact ⟨rfl, rfl⟩

/-- which kid of a node has a key, if any has -/
def KV.kid (k : ByteArray) (l : KV) : Nat := if l.has k then l.pos k else l.pos k - 1

set_option maxRecDepth 100000 in
/-- kid -/
theorem xKid (w : World) (v : Value) (zs : KV) (k : ByteArray) (h : NodeAt w v zs) (hl : zs.length ≤ 1000000) :
    Calls Try.prog 31 #[v, .string k] w fun x w' => x = .returned (.int .i64 (zs.kid k : Nat)) ∧ w' = w := by
  have XB := Lib.hid (xBelow w v zs k h hl)
  obtain ⟨A, c, rfl, hc⟩ := h.form
  have KC := Lib.hid hc
  have pl := KV.pos_le k zs
  have HK : zs.kid k = if zs.has k then zs.pos k else zs.pos k - 1 := rfl
  have HH := KV.has_iff zs k
  obtain ⟨n, hn⟩ : ∃ n, n = zs.length := ⟨_, rfl⟩
  obtain ⟨P, hP⟩ : ∃ P, P = zs.pos k := ⟨_, rfl⟩
  obtain ⟨K, hK⟩ : ∃ K, K = zs.kid k := ⟨_, rfl⟩
  rw [← hP] at XB pl HK HH
  rw [← hn] at XB KC pl hl HH
  rw [← hn]
  rw [← hK] at HK ⊢
  have HH' := Lib.hid HH
  have HK' := Lib.hid HK
  clear hc h hn hP HH HK hK
  by_cases q : P < n
  · obtain ⟨b, o, rfl, cc, _⟩ := KC.out P q
    by_cases e : zs.key P = k
    · have HE := Lib.hid (show K = P by rw [HK'.out, if_pos (HH'.out.2 ⟨q, e⟩)])
      have ek : ((zs.key P).toList == k.toList) = true := str_eq e
      clear e HH' HK'
      go_enter Try.func31, Try.ntmps31
      go_wp2_with (go_at_call 30; refine XB.out.mono ?_; rintro x w1 ⟨rfl, rfl⟩)
      go_ret
      exact ⟨by rw [HE.out]; rfl, rfl⟩
    · have HE := Lib.hid (show K = P - 1 by rw [HK'.out, if_neg (fun t => e (HH'.out.1 t).2)])
      have ek : ((zs.key P).toList == k.toList) = false := str_ne e
      clear e HH' HK'
      go_enter Try.func31, Try.ntmps31
      go_wp2_with (go_at_call 30; refine XB.out.mono ?_; rintro x w1 ⟨rfl, rfl⟩)
      all_goals go_ret
      all_goals exact ⟨ret_int (by rw [HE.out]; omega), rfl⟩
  · have HE := Lib.hid (show K = P - 1 by rw [HK'.out, if_neg (fun t => q (HH'.out.1 t).1)])
    clear HH' HK'
    go_enter Try.func31, Try.ntmps31
    go_wp2_with (go_at_call 30; refine XB.out.mono ?_; rintro x w1 ⟨rfl, rfl⟩)
    all_goals go_ret
    all_goals exact ⟨ret_int (by rw [HE.out]; omega), rfl⟩

end Go.Proofs.Ytdcjckdhjfnnhaa
