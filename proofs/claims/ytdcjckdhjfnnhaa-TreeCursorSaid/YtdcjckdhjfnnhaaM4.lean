/- Proved parts: T8r T8p. Conditions: each theorem's own. -/
import Derived.Test.YtdcjckdhjfnnhaaM2
import Derived.BigQuiet
namespace Go.Proofs.Ytdcjckdhjfnnhaa
open Go.RowKit

/-- the reference's tree l lies at p, its rows in G -/
def RefT (w : World) (G : Nat → Prop) (p : Nat) (l : KV) : Prop :=
  ∃ vk vn, RowAt w p [vk, vn] 30 ∧ OwnS w 0 vk l.ks ∧ OwnJ w 0 vn l.ns ∧ G p ∧ (∀ k, vk.ownBlock = some k → G k ∧ k ≠ p) ∧ (∀ k, vn.ownBlock = some k → G k ∧ k ≠ p) ∧ ∀ k, G k → k < w.heap.size
theorem OwnJ.keepB {w w' : World} {B : Nat} {v : Value} {zs : List Int} (h : OwnJ w B v zs) (hb : ∀ k, v.ownBlock = some k → w'.heap[k]? = w.heap[k]?) : OwnJ w' B v zs := by
  rcases h with ⟨h1, h2⟩
  refine ⟨h1, ?_⟩
  rcases h2 with ⟨rfl, h0⟩ | ⟨g, cap, cur, rfl, hB, hg, r⟩
  · exact .inl ⟨rfl, h0⟩
  · exact .inr ⟨g, cap, cur, rfl, hB, (hb g rfl).trans hg, r⟩
theorem OwnS.keepV {w w' : World} {B : Nat} {v : Value} {zs : List ByteArray} (h : OwnS w B v zs) (hb : ∀ k, v.ownBlock = some k → w'.heap[k]? = w.heap[k]?) : OwnS w' B v zs := by
  rcases h with ⟨h1, h2⟩
  refine ⟨h1, ?_⟩
  rcases h2 with ⟨rfl, h0⟩ | ⟨g, cap, cur, rfl, hB, hg, r⟩
  · exact .inl ⟨rfl, h0⟩
  · exact .inr ⟨g, cap, cur, rfl, hB, (hb g rfl).trans hg, r⟩
theorem RefT.keep {w w' : World} {G : Nat → Prop} {p : Nat} {l : KV} (h : RefT w G p l) (hk : ∀ k, G k → w'.heap[k]? = w.heap[k]?) (hs : w.heap.size ≤ w'.heap.size) : RefT w' G p l := by
  obtain ⟨vk, vn, h1, h2, h3, h4, h5, h6, h7⟩ := h
  exact ⟨vk, vn, (hk p h4).trans h1, h2.keepV fun k e => hk k (h5 k e).1, h3.keepB fun k e => hk k (h6 k e).1, h4, h5, h6, fun k e => Nat.lt_of_lt_of_le (h7 k e) hs⟩
theorem RefT.below {w w' : World} {G : Nat → Prop} {p : Nat} {l : KV} (h : RefT w G p l) (hb : Below w.heap.size w w') : RefT w' G p l :=
  h.keep (fun k e => hb.block k (by obtain ⟨_, _, _, _, _, _, _, _, h7⟩ := h; exact h7 k e)) hb.size

set_option maxRecDepth 100000 in
set_option maxHeartbeats 1000000 in
/-- At -/
theorem rAt (p : Nat) (G : Nat → Prop) (l : KV) (k : ByteArray) (w : World) (h : RefT w G p l) (hl : l.length ≤ 1000000) :
    Calls Try.prog 14 #[.pointer (some ⟨p, 0, none⟩), .string k] w fun x w' => x = .returned (.tuple #[.int .i64 (l.pos k : Nat), .bool (l.has k)]) ∧ ∃ n, w' = w.drewN n := by
  obtain ⟨vk, vn, h1, h2, _⟩ := h
  have c0 := h1.cell 0
  simp only [List.getElem?_cons_zero] at c0
  obtain ⟨A, c, rfl, hc⟩ := h2.form
  obtain ⟨n, hn⟩ : ∃ n, n = l.ks.length := ⟨_, rfl⟩
  rw [← hn] at c0 hc
  have nl : n = l.length := by rw [hn, KV.ks_len]
  have KC := Lib.hid (show ∀ j, j < n → ∃ g, A = some ⟨g, 0, none⟩ ∧ w.cell? ⟨g, j, none⟩ = some (.string (l.key j)) from fun j hj => by
    obtain ⟨g, e, q⟩ := hc j hj
    rw [KV.ks_get l j (by omega)] at q
    exact ⟨g, e, q⟩)
  have PB := Lib.hid (fun j (hj : j < l.pos k) => KV.pos_below k l j hj)
  have PS := Lib.hid (show l.pos k < n → ltB (l.key (l.pos k)) k = false from fun hh => KV.pos_stop k l (by omega))
  have PH := Lib.hid (show l.has k = (decide (l.pos k < n) && ((l.key (l.pos k)).toList == k.toList)) by
    rw [nl]
    unfold KV.has KV.key
    rw [List.getD_eq_getElem?_getD]
    by_cases q : l.pos k < l.length
    · rw [List.getElem?_eq_getElem q, decide_eq_true q]; rfl
    · rw [List.getElem?_eq_none (by omega), decide_eq_false q]; rfl)
  have pl := KV.pos_le k l
  rw [← nl] at hl pl
  obtain ⟨P, hP⟩ : ∃ P, P = l.pos k := ⟨_, rfl⟩
  obtain ⟨H, hH⟩ : ∃ H, H = l.has k := ⟨_, rfl⟩
  rw [← hP] at PB PS PH pl ⊢
  rw [← hH] at PH ⊢
  clear hn nl hc h1 h2 hP hH
  go_enter Try.func14, Try.ntmps14
  go_wp2_with fail
  go_loopw [6] (fun v wr => ∃ i : Nat, i ≤ P ∧ v = .int .i64 i ∧ wr = w) (fun v _ => P - (Go.RowKit.intOf v).toNat)
  case atStart => exact ⟨0, Nat.zero_le _, rfl, rfl⟩
  case round =>
    obtain ⟨i, hi, rfl, rfl⟩ := hrel
    by_cases q : i < P
    · obtain ⟨g, rfl, cc⟩ := KC.out i (by omega)
      have t := PB.out i q
      unfold ltB at t
      go_wp2_with fail
      go_roundw
      case rel => exact ⟨i + 1, by omega, by go_num, by first | trivial | rfl⟩
      case measure => simp [Go.RowKit.intOf]; omega
    · obtain rfl : i = P := by omega
      by_cases q2 : i < n
      · obtain ⟨g, rfl, cc⟩ := KC.out i q2
        have t := PS.out q2
        unfold ltB at t
        have e := PH.out
        rw [decide_eq_true q2, Bool.true_and] at e
        have HE := Lib.hid e
        clear e
        go_wp2_with fail
        go_quiet (fail)
        go_wp2_with fail
        go_ret2
        exact ⟨by rw [HE.out]; rfl, _, rfl⟩
      · have e := PH.out
        rw [decide_eq_false q2, Bool.false_and] at e
        have HE := Lib.hid e
        clear e
        go_wp2_with fail
        go_quiet (fail)
        go_wp2_with fail
        go_ret2
        exact ⟨by rw [HE.out]; rfl, _, rfl⟩

set_option maxRecDepth 100000 in
/-- From -/
theorem rFrom (p : Nat) (G : Nat → Prop) (l : KV) (k : ByteArray) (a : Bool) (w : World) (h : RefT w G p l) (hl : l.length ≤ 1000000) :
    Calls Try.prog 27 #[.pointer (some ⟨p, 0, none⟩), .string k, .bool a] w fun x w' => x = .returned (.int .i64 (let i := if a then l.aft k else l.pos k; if i < l.length then (i : Int) else -1)) ∧ ∃ n, w' = w.drewN n := by
  have AT := Lib.hid (rAt p G l k w h hl)
  obtain ⟨vk, vn, h1, h2, _⟩ := h
  have c0 := h1.cell 0
  simp only [List.getElem?_cons_zero] at c0
  obtain ⟨A, c, rfl, _⟩ := h2.form
  rw [KV.ks_len] at c0
  have pl := KV.pos_le k l
  obtain ⟨n, hn⟩ : ∃ n, n = l.length := ⟨_, rfl⟩
  rw [← hn] at c0 hl pl
  have AF : l.aft k = if l.has k then l.pos k + 1 else l.pos k := rfl
  rw [AF]
  obtain ⟨P, hP⟩ : ∃ P, P = l.pos k := ⟨_, rfl⟩
  obtain ⟨H, hH⟩ : ∃ H, H = l.has k := ⟨_, rfl⟩
  obtain ⟨r, hr⟩ : ∃ r : Int, r = (let i := if a then (if l.has k then l.pos k + 1 else l.pos k) else l.pos k; if i < l.length then (i : Int) else -1) := ⟨_, rfl⟩
  rw [← hr]
  rw [← hP, ← hH, ← hn] at hr
  rw [← hP, ← hH] at AT
  rw [← hP] at pl
  have HR := Lib.hid hr
  clear h1 h2 hn hP hH AF hr
  go_enter Try.func27, Try.ntmps27
  go_wp2_with fail
  refine AT.out.mono ?_
  rintro x w1 ⟨rfl, n1, hw1⟩
  have d0 : w1.cell? ⟨p, 0, none⟩ = some (.slice A n c) := by rw [hw1]; exact c0
  have HW := Lib.hid hw1
  clear hw1 c0
  have key : (H = true ∧ a = true ∧ r = if P + 1 < n then ((P + 1 : Nat) : Int) else -1) ∨ ((H && a) = false ∧ r = if P < n then (P : Int) else -1) := by
    have e := HR.out
    cases H <;> cases a <;> simp_all
  clear HR
  rcases key with ⟨rfl, rfl, e⟩ | ⟨hh, e⟩
  · by_cases q : P + 1 < n
    · rw [if_pos q] at e
      have HE := Lib.hid e
      clear e
      go_wp2_with fail
      go_ret
      exact ⟨by rw [HE.out]; rfl, n1, HW.out⟩
    · rw [if_neg q] at e
      have HE := Lib.hid e
      clear e
      go_wp2_with fail
      go_ret
      exact ⟨by rw [HE.out]; rfl, n1, HW.out⟩
  · by_cases q : P < n
    · rw [if_pos q] at e
      have HE := Lib.hid e
      clear e
      cases H <;> cases a <;> first | (exact absurd hh (by decide)) | skip
      all_goals
        go_wp2_with fail
        go_ret
        exact ⟨by rw [HE.out]; rfl, n1, HW.out⟩
    · rw [if_neg q] at e
      have HE := Lib.hid e
      clear e
      cases H <;> cases a <;> first | (exact absurd hh (by decide)) | skip
      all_goals
        go_wp2_with fail
        go_ret
        exact ⟨by rw [HE.out]; rfl, n1, HW.out⟩

end Go.Proofs.Ytdcjckdhjfnnhaa

namespace Go.Proofs.Ytdcjckdhjfnnhaa
open Go.RowKit

theorem SlS.take {w : World} {A : Option Addr} {zs : List ByteArray} (h : SlS w A zs) (i : Nat) : SlS w A (zs.take i) := fun hn => by
  rw [List.length_take] at hn
  obtain ⟨b, o, e, hlt, hc⟩ := h (by omega)
  refine ⟨b, o, e, hlt, fun j hj => ?_⟩
  rw [List.length_take] at hj
  rw [hc j (by omega), List.getD_eq_getElem?_getD, List.getD_eq_getElem?_getD, List.getElem?_take, if_pos (by omega)]
theorem SlS.drop {w : World} {g o : Nat} {zs : List ByteArray} (h : SlS w (some ⟨g, o, none⟩) zs) (i : Nat) : SlS w (some ⟨g, o + i, none⟩) (zs.drop i) := fun hn => by
  rw [List.length_drop] at hn
  obtain ⟨b, o', e, hlt, hc⟩ := h (by omega)
  injection e with e
  injection e with e1 e2 _
  subst e1; subst e2
  refine ⟨g, o + i, rfl, hlt, fun j hj => ?_⟩
  rw [List.length_drop] at hj
  rw [Nat.add_assoc, hc (i + j) (by omega), List.getD_eq_getElem?_getD, List.getD_eq_getElem?_getD, List.getElem?_drop]
theorem SlS.keptB {w w' : World} {B g o : Nat} {zs : List ByteArray} (h : SlS w (some ⟨g, o, none⟩) zs) (hb : Below B w w') (hg : g < B) : SlS w' (some ⟨g, o, none⟩) zs := fun hn => by
  obtain ⟨b, o', e, hlt, hc⟩ := h hn
  injection e with e
  injection e with e1 e2 _
  subst e1; subst e2
  exact ⟨g, o, rfl, Nat.lt_of_lt_of_le hlt hb.size, fun j hj => (hb.cell (p := ⟨g, o + j, none⟩) hg).trans (hc j hj)⟩
theorem SlJ.take {w : World} {A : Option Addr} {zs : List Int} (h : SlJ w A zs) (i : Nat) : SlJ w A (zs.take i) := fun hn => by
  rw [List.length_take] at hn
  obtain ⟨b, o, e, hlt, hc⟩ := h (by omega)
  refine ⟨b, o, e, hlt, fun j hj => ?_⟩
  rw [List.length_take] at hj
  rw [hc j (by omega), List.getD_eq_getElem?_getD, List.getD_eq_getElem?_getD, List.getElem?_take, if_pos (by omega)]
theorem SlJ.drop {w : World} {g o : Nat} {zs : List Int} (h : SlJ w (some ⟨g, o, none⟩) zs) (i : Nat) : SlJ w (some ⟨g, o + i, none⟩) (zs.drop i) := fun hn => by
  rw [List.length_drop] at hn
  obtain ⟨b, o', e, hlt, hc⟩ := h (by omega)
  injection e with e
  injection e with e1 e2 _
  subst e1; subst e2
  refine ⟨g, o + i, rfl, hlt, fun j hj => ?_⟩
  rw [List.length_drop] at hj
  rw [Nat.add_assoc, hc (i + j) (by omega), List.getD_eq_getElem?_getD, List.getD_eq_getElem?_getD, List.getElem?_drop]
theorem SlJ.keptB {w w' : World} {B g o : Nat} {zs : List Int} (h : SlJ w (some ⟨g, o, none⟩) zs) (hb : Below B w w') (hg : g < B) : SlJ w' (some ⟨g, o, none⟩) zs := fun hn => by
  obtain ⟨b, o', e, hlt, hc⟩ := h hn
  injection e with e
  injection e with e1 e2 _
  subst e1; subst e2
  exact ⟨g, o, rfl, Nat.lt_of_lt_of_le hlt hb.size, fun j hj => (hb.cell (p := ⟨g, o + j, none⟩) hg).trans (hc j hj)⟩
theorem SlS.rest {w : World} {g i c : Nat} {zs : List ByteArray} (h : SlS w (some ⟨g, 0, none⟩) zs) (hc : zs.length ≤ c) : SlS w (if c = i then some ⟨g, 0, none⟩ else some ⟨g, i, none⟩) (zs.drop i) := by
  split
  · intro hn
    rw [List.length_drop] at hn
    omega
  · have := h.drop i
    rwa [Nat.zero_add] at this
theorem SlJ.rest {w : World} {g i c : Nat} {zs : List Int} (h : SlJ w (some ⟨g, 0, none⟩) zs) (hc : zs.length ≤ c) : SlJ w (if c = i then some ⟨g, 0, none⟩ else some ⟨g, i, none⟩) (zs.drop i) := by
  split
  · intro hn
    rw [List.length_drop] at hn
    omega
  · have := h.drop i
    rwa [Nat.zero_add] at this
theorem SlJ.alloc {w : World} {A : Option Addr} {zs : List Int} (h : SlJ w A zs) (o : Obj) : SlJ (w.alloc o) A zs := h.below ((Below.refl _ _).alloc (Nat.le_refl _) o)
theorem SlJ.other {w : World} {g o : Nat} {zs : List Int} (h : SlJ w (some ⟨g, o, none⟩) zs) {p : Addr} (hp : g ≠ p.block) (v : Value) : SlJ (w.setCell p v) (some ⟨g, o, none⟩) zs := fun hn => by
  obtain ⟨b, o', e, hlt, hc⟩ := h hn
  injection e with e
  injection e with e1 e2 _
  subst e1; subst e2
  exact ⟨g, o, rfl, by rw [World.size_setCell]; exact hlt, fun j hj => (World.cell?_of_block (w := w) (a := ⟨g, o + j, none⟩) (Below.heap_setCell _ _ _ _ hp)).trans (hc j hj)⟩
/-- a row of strings is none of ints -/
theorem ownSJ_ne {w : World} {B C : Nat} {v u : Value} {zs : List ByteArray} {ys : List Int} (h : OwnS w B v zs) (h' : OwnJ w C u ys) {k : Nat} (e : v.ownBlock = some k) : u.ownBlock ≠ some k := by
  intro e'
  rcases h.2 with ⟨rfl, _⟩ | ⟨g, cap, cur, rfl, _, hg, _⟩
  · cases e
  · rcases h'.2 with ⟨rfl, _⟩ | ⟨g', cap', cur', rfl, _, hg', _⟩
    · cases e'
    · simp only [Value.ownBlock, Option.some.injEq] at e e'
      subst e
      subst e'
      rw [hg] at hg'
      simp only [Option.some.injEq, Obj.cells.injEq] at hg'
      exact absurd hg'.2.1 (by decide)
section
variable {ops : Array Oper} {rest : List Oper} {o : Oper} {a : Act} {w : World} {Q : Exit → Act → World → Prop}
/-- append(v, ys...) -/
theorem wp_appS (hg : o.guard = none) (s x : Operand) (hop : o.op = .call { callee := .builtin .append, args := #[s, x], argTypes := #[27, 27] })
    (B : Nat) (v : Value) (zs ys : List ByteArray) (hs : a.eval s = v) (hown : OwnS w B v zs) (A : Option Addr) (c m : Nat) (hm : m = ys.length) (hx : a.eval x = .slice A m c) (hsl : SlS w A ys)
    (hl : zs.length + ys.length ≤ 1000000) (hB : B ≤ w.heap.size)
    (h : ∀ v' w', OwnS w' B v' (zs ++ ys) → w.grownBy w' v.ownBlock → Below B w w' → wpList Try.prog ops Q rest (a.put o.dst v') w') : wpList Try.prog ops Q (o :: rest) a w := by
  subst hm
  refine wpList_plain hg fun K hK => ?_
  have k := step_appS (ops := ops) (K := K) (Q := Q) (E := True) hg s x hop B v zs ys hs hown A c hx hsl hl hB (fun v' w' h1 h2 h3 => hK _ _ (h v' w' h1 h2 h3))
  rwa [if_pos (by simp [Region.wanted, hg])] at k
theorem wp_appJ (hg : o.guard = none) (s x : Operand) (hop : o.op = .call { callee := .builtin .append, args := #[s, x], argTypes := #[28, 28] })
    (B : Nat) (v : Value) (zs ys : List Int) (hs : a.eval s = v) (hown : OwnJ w B v zs) (A : Option Addr) (c m : Nat) (hm : m = ys.length) (hx : a.eval x = .slice A m c) (hsl : SlJ w A ys)
    (hl : zs.length + ys.length ≤ 1000000) (hB : B ≤ w.heap.size)
    (h : ∀ v' w', OwnJ w' B v' (zs ++ ys) → w.grownBy w' v.ownBlock → Below B w w' → wpList Try.prog ops Q rest (a.put o.dst v') w') : wpList Try.prog ops Q (o :: rest) a w := by
  subst hm
  refine wpList_plain hg fun K hK => ?_
  have k := step_appJ (ops := ops) (K := K) (Q := Q) (E := True) hg s x hop B v zs ys hs hown A c hx hsl hl hB (fun v' w' h1 h2 h3 => hK _ _ (h v' w' h1 h2 h3))
  rwa [if_pos (by simp [Region.wanted, hg])] at k
end
theorem KV.del_ks {l : KV} {k : ByteArray} (h : l.has k = true) : (l.del k).ks = l.ks.take (l.pos k) ++ l.ks.drop (l.pos k + 1) ∧ (l.del k).ns = l.ns.take (l.pos k) ++ l.ns.drop (l.pos k + 1) := by
  unfold KV.del KV.ks KV.ns
  rw [if_pos h]
  simp [List.map_take, List.map_drop]
theorem OwnS.base {w : World} {B : Nat} {v : Value} {zs : List ByteArray} (h : OwnS w B v zs) : OwnS w 0 v zs := h.mono (Nat.zero_le _)
theorem OwnJ.base {w : World} {B : Nat} {v : Value} {zs : List Int} (h : OwnJ w B v zs) : OwnJ w 0 v zs := by
  rcases h with ⟨h1, h2⟩
  refine ⟨h1, ?_⟩
  rcases h2 with q | ⟨g, cap, cur, e, hB, r⟩
  · exact .inl q
  · exact .inr ⟨g, cap, cur, e, Nat.zero_le _, r⟩
theorem OwnJ.ltB {w : World} {B : Nat} {v : Value} {zs : List Int} (h : OwnJ w B v zs) : ∀ k, v.ownBlock = some k → B ≤ k ∧ k < w.heap.size := World.ownsRow.lt h

end Go.Proofs.Ytdcjckdhjfnnhaa
