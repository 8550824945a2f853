/- Proved parts: E5u E5v. Conditions: each theorem's own. -/
import Derived.Test.YtfodclafkdkjbaaDoorM4
import Derived.Deep.MidRow
import Derived.Deep.WholeRow
import Derived.Laws.ResultCell
import Derived.Lib.LazyBuf
namespace Go.Proofs.YtfodclafkdkjbaaDoor
open Go.RowKit

/-- byte j of s -/
def byE (s : ByteArray) (j : Nat) : Int := ((s.data.toList.getD j 0).toNat : Int)
/-- a sector's cells -/
def secL (s : ByteArray) : List Value := .int .i64 s.size :: (List.range 64).map fun j => .int .u8 (byE s j)
theorem secL_len (s : ByteArray) : (secL s).length = 65 := by simp [secL]
theorem secL_zero (s : ByteArray) : (secL s)[0]? = some (.int .i64 s.size) := rfl
theorem secL_at (s : ByteArray) (j : Nat) (h : j < 64) : (secL s)[j + 1]? = some (.int .u8 (byE s j)) := by
  unfold secL; rw [List.getElem?_cons_succ, List.getElem?_map, List.getElem?_range h]; rfl
theorem secL_one (s : ByteArray) : ∀ v ∈ secL s, v.oneCell' = true := by
  intro v hv
  rcases List.mem_cons.1 hv with rfl | hv
  · rfl
  · obtain ⟨j, _, rfl⟩ := List.mem_map.1 hv; rfl
theorem byE_lt (s : ByteArray) (j : Nat) (h : j < s.data.toList.length) : byE s j = ((s.data.toList[j]).toNat : Int) := by
  unfold byE; rw [List.getD_eq_getElem?_getD, List.getElem?_eq_getElem h]; rfl
theorem dataLen (s : ByteArray) : s.data.toList.length = s.size := by rw [Array.length_toList]; rfl
theorem secL_inj {s t : ByteArray} (hs : s.size ≤ 64) (h : secL s = secL t) : s = t := by
  have h0 : s.size = t.size := by
    have e : (secL s)[0]? = (secL t)[0]? := by rw [h]
    rw [secL_zero, secL_zero] at e
    simp at e; omega
  have hl : s.data.toList = t.data.toList := by
    apply List.ext_getElem (by rw [dataLen, dataLen, h0])
    intro j h1 h2
    have e : (secL s)[j + 1]? = (secL t)[j + 1]? := by rw [h]
    rw [dataLen] at h1
    rw [secL_at s j (by omega), secL_at t j (by omega)] at e
    simp only [Option.some.injEq, Value.int.injEq, true_and] at e
    rw [byE_lt s j (by rw [dataLen]; exact h1), byE_lt t j h2] at e
    exact UInt8.toNat_inj.1 (by omega)
  obtain ⟨⟨a⟩⟩ := s
  obtain ⟨⟨b⟩⟩ := t
  simp at hl
  rw [hl]
/-- the bytes as values -/
def bytesV (s : ByteArray) : List Value := s.data.toList.map fun x => Value.int .u8 (x.toNat : Int)
theorem bytesV_len (s : ByteArray) : (bytesV s).length = s.size := by unfold bytesV; rw [List.length_map, dataLen]
/-- a size and 64 noughts -/
def rawL (n : Int) : List Value := .int .i64 n :: List.replicate 64 (.int .u8 0)
theorem rawL_len (n : Int) : (rawL n).length = 65 := by simp [rawL]
theorem rawL_one (n : Int) : ∀ v ∈ rawL n, v.oneCell' = true := by
  intro v hv
  rcases List.mem_cons.1 hv with rfl | hv
  · rfl
  · rw [List.eq_of_mem_replicate hv]; rfl
/-- vs laid over cs from o on -/
def over (cs : List Value) (o : Nat) (vs : List Value) : List Value := cs.take o ++ (vs ++ cs.drop (o + vs.length))
theorem over_len (cs : List Value) (o : Nat) (vs : List Value) (h : o + vs.length ≤ cs.length) : (over cs o vs).length = cs.length := by
  unfold over; simp; omega
theorem over_nil (cs : List Value) (o : Nat) : over cs o [] = cs := by unfold over; simp
theorem over_cons (cs : List Value) (o : Nat) (v : Value) (vs : List Value) (h : o + (vs.length + 1) ≤ cs.length) : over (cs.set o v) (o + 1) vs = over cs o (v :: vs) := by
  unfold over
  have h1 : (cs.set o v).take (o + 1) = cs.take o ++ [v] := by
    rw [List.take_set, List.take_add_one, List.getElem?_eq_getElem (by omega)]
    rw [List.set_append_right _ _ (by simp; omega)]
    simp only [List.length_take]
    rw [show o - min o cs.length = 0 by omega]; rfl
  have h2 : (cs.set o v).drop (o + 1 + vs.length) = cs.drop (o + (v :: vs).length) := by
    rw [List.drop_set, if_pos (by omega), List.length_cons, show o + 1 + vs.length = o + (vs.length + 1) by omega]
  rw [h1, h2, List.append_assoc]; rfl
theorem RowAt.setCells {t : TypeId} {g : Nat} : ∀ (vs : List Value) (o : Nat) (cs : List Value) (w : World), RowAt w g cs t → o + vs.length ≤ cs.length → RowAt (w.setCells g o vs) g (over cs o vs) t
  | [], o, cs, w, h, _ => by rw [over_nil]; exact h
  | v :: vs, o, cs, w, h, hl => by
    have k := RowAt.setCells vs (o + 1) (cs.set o v) (w.setCell ⟨g, o, none⟩ v) (h.set o v) (by simp at hl ⊢; omega)
    rw [over_cons cs o v vs (by simpa using hl)] at k
    exact k
theorem RowAt.mid {w : World} {g : Nat} {cs : List Value} {t : TypeId} (h : RowAt w g cs t) {o : Nat} {vs : List Value} (hv : ∀ j v, vs[j]? = some v → cs[o + j]? = some v) : w.rangeAt g o vs := fun j v hj => by
  rw [RowAt.cell h]; exact hv j v hj
theorem RowAt.there {w : World} {g : Nat} {cs : List Value} {t : TypeId} (h : RowAt w g cs t) {o n : Nat} (hn : o + n ≤ cs.length) : w.there g o n := fun j hj => by
  refine ⟨?_, RowAt.frozen h _⟩
  rw [RowAt.cell h, List.getElem?_eq_getElem (by omega)]; rfl
theorem setCells_other {g k : Nat} (hk : k ≠ g) : ∀ (vs : List Value) (o : Nat) (w : World), (w.setCells g o vs).heap[k]? = w.heap[k]?
  | [], _, _ => rfl
  | v :: vs, o, w => (setCells_other hk vs (o + 1) _).trans (Below.heap_setCell w ⟨g, o, none⟩ v k hk)
theorem setCells_frame (g : Nat) : ∀ (vs : List Value) (o : Nat) (w : World), (w.setCells g o vs).os = w.os ∧ (w.setCells g o vs).tape = w.tape ∧ (w.setCells g o vs).output = w.output ∧ (w.setCells g o vs).heap.size = w.heap.size
  | [], _, _ => ⟨rfl, rfl, rfl, rfl⟩
  | v :: vs, o, w => by
    obtain ⟨h1, h2, h3, h4⟩ := setCells_frame g vs (o + 1) (w.setCell ⟨g, o, none⟩ v)
    exact ⟨h1.trans rfl, h2.trans rfl, h3.trans rfl, h4.trans (by simp [World.setCell])⟩
theorem setCells_grown (w : World) (g o : Nat) (vs : List Value) : w.grownBy (w.setCells g o vs) (some g) := by
  obtain ⟨h1, h2, h3, h4⟩ := setCells_frame g vs o w
  exact ⟨h1, h2, h3, by omega, fun k _ hk => setCells_other (fun e => hk (by rw [e])) vs o w⟩
theorem Chg.setCells {F : Nat → Prop} {a w : World} (h : Chg F a w) {g : Nat} (hg : F g ∨ a.heap.size ≤ g) (o : Nat) (vs : List Value) : Chg F a (w.setCells g o vs) :=
  h.grown (setCells_grown w g o vs) fun k e => by cases e; exact hg
/-- a whole row laid anew -/
theorem over_all (cs vs : List Value) (h : cs.length = vs.length) : over cs 0 vs = vs := by
  unfold over; rw [List.take_zero, List.nil_append, Nat.zero_add, ← h, List.drop_length, List.append_nil]
theorem new_over (w : World) (cs vs : List Value) (o : Nat) (t : TypeId) (h : o + vs.length ≤ cs.length) : (w.alloc (.cells cs.toArray t)).setCells w.heap.size o vs = w.alloc (.cells (over cs o vs).toArray t) := by
  have h1 : RowAt ((w.alloc (.cells cs.toArray t)).setCells w.heap.size o vs) w.heap.size (over cs o vs) t := by
    have k := RowAt.setCells (t := t) vs o cs (w.alloc (.cells cs.toArray t)) (g := w.heap.size) (RowAt.new w cs t) h
    exact k
  obtain ⟨e1, e2, e3, e4⟩ := setCells_frame w.heap.size vs o (w.alloc (.cells cs.toArray t))
  have e5 : ∀ (vs : List Value) (o : Nat) (w : World) (g : Nat), (w.setCells g o vs).drawn = w.drawn := by
    intro vs
    induction vs with
    | nil => intro o w g; rfl
    | cons v vs ih => intro o w g; exact (ih _ _ _).trans rfl
  have e6 := e5 vs o (w.alloc (.cells cs.toArray t)) w.heap.size
  have e7 : ((w.alloc (.cells cs.toArray t)).setCells w.heap.size o vs).heap = (w.alloc (.cells (over cs o vs).toArray t)).heap := by
    apply Array.ext_getElem?
    intro k
    by_cases hk : k = w.heap.size
    · subst hk
      rw [show ((w.alloc (.cells cs.toArray t)).setCells w.heap.size o vs).heap[w.heap.size]? = some (.cells (over cs o vs).toArray t) from h1]
      exact (heap_alloc_new w _).symm
    · rw [setCells_other hk]
      show (w.heap.push _)[k]? = (w.heap.push _)[k]?
      rw [Array.getElem?_push, Array.getElem?_push, if_neg hk, if_neg hk]
  cases hw : (w.alloc (.cells cs.toArray t)).setCells w.heap.size o vs with
  | mk heap tape drawn os output =>
    rw [hw] at e1 e2 e3 e6 e7
    simp only at e1 e2 e3 e6 e7
    subst e1; subst e2; subst e3; subst e6; subst e7
    rfl
section
variable {α : Type} {f : α → List Value} {n : Nat}
theorem flat_seg (hf : ∀ x, (f x).length = n) (y : α) : ∀ (l : List α) (i : Nat), i < l.length → over (l.flatMap f) (i * n) (f y) = (l.set i y).flatMap f
  | [], i, hi => by simp at hi
  | x :: l, 0, _ => by
    unfold over
    rw [Nat.zero_mul, List.take_zero, List.nil_append, Nat.zero_add, List.flatMap_cons, hf, List.drop_append, hf, Nat.sub_self, List.drop_zero, List.drop_eq_nil_of_le (by rw [hf]; exact Nat.le_refl _)]
    rfl
  | x :: l, i + 1, hi => by
    have ih := flat_seg hf y l i (by simpa using hi)
    unfold over at ih ⊢
    rw [List.flatMap_cons, hf] at *
    rw [List.take_append, List.drop_append, hf, List.take_of_length_le (by rw [hf, Nat.add_mul]; omega), List.drop_eq_nil_of_le (by rw [hf, Nat.add_mul]; omega), List.nil_append,
      show (i + 1) * n - n = i * n by rw [Nat.add_mul]; omega, show (i + 1) * n + n - n = i * n + n by rw [Nat.add_mul]; omega, List.append_assoc, ih]
    rfl
end
theorem raw_sec (s : ByteArray) (h : s.size ≤ 64) : over (rawL s.size) 1 (bytesV s) = secL s := by
  apply List.ext_getElem?
  intro j
  cases j with
  | zero => rfl
  | succ j =>
    unfold over
    rw [show (rawL s.size).take 1 = [.int .i64 s.size] from rfl, List.singleton_append, List.getElem?_cons_succ]
    by_cases h1 : j < s.size
    · rw [List.getElem?_append_left (by rw [bytesV_len]; exact h1), secL_at s j (by omega), byE_lt s j (by rw [dataLen]; exact h1)]
      unfold bytesV
      rw [List.getElem?_map, List.getElem?_eq_getElem (by rw [dataLen]; exact h1)]; rfl
    · rw [List.getElem?_append_right (by rw [bytesV_len]; omega), bytesV_len]
      unfold rawL
      rw [show 1 + s.size = s.size + 1 by omega, List.drop_succ_cons, List.drop_replicate, List.getElem?_replicate]
      by_cases h2 : j < 64
      · rw [if_pos (by omega), secL_at s j h2]
        unfold byE
        rw [List.getD_eq_getElem?_getD, List.getElem?_eq_none (by rw [dataLen]; omega)]; rfl
      · rw [if_neg (by omega)]
        unfold secL
        rw [List.getElem?_cons_succ, List.getElem?_eq_none (by simp; omega)]
theorem secL_nil : secL ⟨#[]⟩ = rawL 0 := by
  have := raw_sec ⟨#[]⟩ (by decide)
  rw [show bytesV ⟨#[]⟩ = [] from rfl, over_nil] at this
  exact this.symm

theorem infoS74 : (Tryd.prog.info? 85).map (fun i => (i.zero, i.size, i.bytes)) = some (some (.agg (rawL 0).toArray), 65, 72) := by kernel_rfl
theorem sizeS74 : (Tryd.prog.info? 85).map (·.size) = some 65 := by kernel_rfl
theorem zeroS74 (w : World) : (zeroValue 85).run Tryd.prog w = .ok (.agg (rawL 0).toArray) w := by
  have h := infoS74
  cases hq : Tryd.prog.info? 85 with
  | none => rw [hq] at h; simp at h
  | some i => rw [hq] at h; simp at h; simp [zeroValue, typeInfo, hq, h.1]
section
variable {ops : Array Oper} {rest : List Oper} {op : Oper} {a : Act} {w : World} {Q : Exit → Act → World → Prop}
theorem builtS (n : Int) : (Tryd.prog.built 85 [(0, .int .i64 n)]).getD #[] = (rawL n).toArray := by kernel_rfl
theorem builtS' (n : Int) : (Tryd.prog.built 85 [(0, .int .i64 n)]).isSome = true := by kernel_rfl

/-- a sector is built -/
theorem wp_buildS (hgd : op.guard = none) (x : Operand) (ho : op.op = .build 85 #[(0, x)]) (n : Int) (hx : a.eval x = .int .i64 n)
    (h : wpList Tryd.prog ops Q rest (a.put op.dst (.agg (rawL n).toArray)) w) : wpList Tryd.prog ops Q (op :: rest) a w := by
  have e : (Tryd.prog.built 85 ((#[(0, x)] : Array (Nat × Operand)).map fun (i, x) => (i, a.eval x)).toList) = Tryd.prog.built 85 [(0, .int .i64 n)] := by
    simp [hx]
  refine wpList_build hgd 85 _ ho (by rw [e]; exact builtS' n) ?_
  rw [e, builtS n]
  exact h
/-- a sector is loaded -/
theorem wp_loadS (hgd : op.guard = none) (x : Operand) (ho : op.op = .load 85 x) (g o : Nat) (hx : a.eval x = .pointer (some ⟨g, o, none⟩)) (vs : List Value) (hc : w.rangeAt g o vs) (hl : vs.length = 65)
    (h : wpList Tryd.prog ops Q rest (a.put op.dst (.agg vs.toArray)) w) : wpList Tryd.prog ops Q (op :: rest) a w :=
  wpList_load_mid hgd 85 x ho g o hx vs _ hc Tryd.underlying85 rfl (by rw [hl]; exact sizeS74) h
/-- .. stored -/
theorem wp_storeS (hgd : op.guard = none) (x y : Operand) (ho : op.op = .store 85 x y) (g o : Nat) (vs : List Value) (hx : a.eval x = .pointer (some ⟨g, o, none⟩)) (hy : a.eval y = .agg vs.toArray) (ht : w.there g o 65) (hl : vs.length = 65) (h1 : ∀ v ∈ vs, v.oneCell' = true)
    (h : wpList Tryd.prog ops Q rest (a.put op.dst undef) (w.setCells g o vs)) : wpList Tryd.prog ops Q (op :: rest) a w :=
  wpList_store_mid hgd 85 x y ho g o vs.toArray hx hy (by rw [List.size_toArray, hl]; exact ht) (by rw [List.size_toArray, hl]; exact sizeS74) (all_oneCell_toArray h1) (by simpa using h)
/-- .. into the block that was made last -/
theorem wp_storeN (hgd : op.guard = none) (x y : Operand) (ho : op.op = .store 85 x y) (w0 : World) (cs vs : List Value) (hw : w = w0.alloc (.cells cs.toArray 85)) (hx : a.eval x = .pointer (some ⟨w0.heap.size, 0, none⟩)) (hy : a.eval y = .agg vs.toArray) (hc : cs.length = 65) (hl : vs.length = 65) (h1 : ∀ v ∈ vs, v.oneCell' = true)
    (h : wpList Tryd.prog ops Q rest (a.put op.dst undef) (w0.alloc (.cells vs.toArray 85))) : wpList Tryd.prog ops Q (op :: rest) a w := by
  subst hw
  refine wp_storeS hgd x y ho _ 0 vs hx hy ((RowAt.new w0 cs _).there (by omega)) hl h1 ?_
  rw [new_over w0 cs vs 0 _ (by omega), over_all cs vs (by omega)]
  exact h
end
theorem results_cell1 {fn : Func} {p : Tmp} {ty : TypeId} (h : fn.results = #[.cell p ty]) (tmps : Array Value) (P : Program) (w : World) :
    (results fn tmps).run P w = ((asAddr (tmps.getD p undef)).run P w).andThen fun a w₁ => (loadVar ty a).run P w₁ := by
  simp only [results, h]
  simp [Sem.run_bind]

end Go.Proofs.YtfodclafkdkjbaaDoor

namespace Go.Proofs.YtfodclafkdkjbaaDoor
open Go.RowKit

/-- the first that isn't nought -/
def orL : List Int → Int
  | [] => 0
  | x :: l => if x = 0 then orL l else x
theorem orL_take (l : List Int) (k : Nat) (hk : k < l.length) (h : ∀ j, j < k → l.getD j 0 = 0) (hx : l.getD k 0 ≠ 0) : orL l = l.getD k 0 := by
  induction l generalizing k with
  | nil => simp at hk
  | cons x l ih =>
    cases k with
    | zero => rw [List.getD_cons_zero] at hx ⊢; unfold orL; rw [if_neg hx]
    | succ k =>
      have h0 := h 0 (by omega)
      rw [List.getD_cons_zero] at h0
      unfold orL; rw [if_pos h0, List.getD_cons_succ]
      exact ih k (by simpa using hk) (fun j hj => by simpa using h (j + 1) (by omega)) (by simpa using hx)
theorem orL_none (l : List Int) (h : ∀ j, j < l.length → l.getD j 0 = 0) : orL l = 0 := by
  induction l with
  | nil => rfl
  | cons x l ih =>
    have h0 := h 0 (by simp)
    rw [List.getD_cons_zero] at h0
    unfold orL; rw [if_pos h0]
    exact ih fun j hj => by simpa using h (j + 1) (by simpa using hj)

set_option maxRecDepth 100000 in
/-- extent.fits -/
theorem xFits (s : ByteArray) (w : World) (hs : s.size ≤ 9223372036854775807) : Calls Tryd.prog 49 #[.string s] w fun e w' => e = .returned (.int .i64 (if 64 < s.size then 5 else 0)) ∧ w' = w := by
  by_cases h : 64 < s.size
  · have h1 : (64 : Int) < (s.size : Int) := by omega
    go_enter Tryd.func49, Tryd.ntmps49
    go_wp2_with fail
    go_ret
    exact ⟨rfl, rfl⟩
  · have h1 : ¬ ((64 : Int) < (s.size : Int)) := by omega
    go_enter Tryd.func49, Tryd.ntmps49
    go_wp2_with fail
    go_ret
    exact ⟨rfl, rfl⟩

set_option maxRecDepth 100000 in
/-- World.powered, of no world -/
theorem xPowNil (w : World) : Calls Tryd.prog 36 #[.pointer none] w fun e w' => e = .returned (.int .i64 2) ∧ w' = w := by
  go_enter Tryd.func36, Tryd.ntmps36
  go_wp2_with fail
  go_ret
  exact ⟨rfl, rfl⟩
set_option maxRecDepth 100000 in
/-- World.powered -/
theorem xPow (b : Nat) (on : Bool) (w : World) (h : w.cell? ⟨b, 0, none⟩ = some (.bool on)) : Calls Tryd.prog 36 #[.pointer (some ⟨b, 0, none⟩)] w fun e w' => e = .returned (.int .i64 (if on then 0 else 6)) ∧ w' = w := by
  cases on with
  | true =>
    go_enter Tryd.func36, Tryd.ntmps36
    go_wp2_with fail
    go_ret
    exact ⟨rfl, rfl⟩
  | false =>
    go_enter Tryd.func36, Tryd.ntmps36
    go_wp2_with fail
    go_ret
    exact ⟨rfl, rfl⟩
set_option maxRecDepth 100000 in
/-- World.has, of no world -/
theorem xHasNil (e a : Int) (w : World) : Calls Tryd.prog 37 #[.pointer none, .int .i64 e, .int .i64 a] w fun x w' => x = .returned (.int .i64 2) ∧ w' = w := by
  go_enter Tryd.func37, Tryd.ntmps37
  go_wp2_with fail
  go_ret
  exact ⟨rfl, rfl⟩
set_option maxRecDepth 100000 in
set_option maxHeartbeats 1000000 in
/-- World.has -/
theorem xHas (b : Nat) (e a : Int) (n s c : Nat) (g : Option Addr) (w : World) (h1 : w.cell? ⟨b, 1, none⟩ = some (.int .i64 s)) (h2 : w.cell? ⟨b, 2, none⟩ = some (.slice g n c)) :
    Calls Tryd.prog 37 #[.pointer (some ⟨b, 0, none⟩), .int .i64 e, .int .i64 a] w fun x w' => x = .returned (.int .i64 (if 0 ≤ e ∧ e < n ∧ 0 ≤ a ∧ a < s then 0 else 1)) ∧ w' = w := by
  by_cases e0 : e < 0
  · have hr : ¬ (0 ≤ e ∧ e < n ∧ 0 ≤ a ∧ a < s) := by omega
    rw [if_neg hr]
    clear hr
    go_enter Tryd.func37, Tryd.ntmps37
    go_wp2_with fail
    go_ret
    exact ⟨rfl, rfl⟩
  by_cases e1 : (n : Int) ≤ e
  · have hr : ¬ (0 ≤ e ∧ e < n ∧ 0 ≤ a ∧ a < s) := by omega
    rw [if_neg hr]
    clear hr
    go_enter Tryd.func37, Tryd.ntmps37
    go_wp2_with fail
    go_ret
    exact ⟨rfl, rfl⟩
  by_cases a0 : a < 0
  · have hr : ¬ (0 ≤ e ∧ e < n ∧ 0 ≤ a ∧ a < s) := by omega
    rw [if_neg hr]
    clear hr
    go_enter Tryd.func37, Tryd.ntmps37
    go_wp2_with fail
    go_ret
    exact ⟨rfl, rfl⟩
  by_cases a1 : (s : Int) ≤ a
  · have hr : ¬ (0 ≤ e ∧ e < n ∧ 0 ≤ a ∧ a < s) := by omega
    rw [if_neg hr]
    clear hr
    go_enter Tryd.func37, Tryd.ntmps37
    go_wp2_with fail
    go_ret
    exact ⟨rfl, rfl⟩
  have hr : 0 ≤ e ∧ e < n ∧ 0 ≤ a ∧ a < s := by omega
  rw [if_pos hr]
  clear hr
  go_enter Tryd.func37, Tryd.ntmps37
  go_wp2_with fail
  go_ret
  exact ⟨rfl, rfl⟩

set_option maxRecDepth 100000 in
set_option maxHeartbeats 1000000 in
/-- cmp.Or -/
theorem xOr (g c : Nat) (l : List Int) (w : World) (hl : l.length ≤ 3) (h : ∀ j, j < l.length → w.cell? ⟨g, j, none⟩ = some (.int .i64 (l.getD j 0))) :
    Calls Tryd.prog 35 #[.slice (some ⟨g, 0, none⟩) l.length c] w fun x w' => x = .returned (.int .i64 (orL l)) ∧ w' = w := by
  obtain ⟨n, hn⟩ : ∃ n, n = l.length := ⟨_, rfl⟩
  rw [← hn] at hl ⊢
  have H := Lib.hid h
  have HN := Lib.hid hn
  clear h
  clear hn
  go_enter Tryd.func35, Tryd.ntmps35
  go_wp2_with fail
  go_loopw [8] (fun v wr => ∃ k : Nat, k ≤ n ∧ v = .int .i64 k ∧ Hid (∀ j, j < k → l.getD j 0 = 0) ∧ wr = w) (fun v _ => n - (intOf v).toNat)
  case atStart => exact ⟨0, Nat.zero_le _, rfl, Lib.hid (fun j hj => absurd hj (by omega)), rfl⟩
  case round =>
    obtain ⟨k, hk, rfl, HZ, rfl⟩ := hrel
    by_cases hlt : k < n
    · have hc := H.out k (by rw [← HN.out]; exact hlt)
      obtain ⟨x, hx⟩ : ∃ x, x = l.getD k 0 := ⟨_, rfl⟩
      rw [← hx] at hc
      have HX := Lib.hid hx
      have k0 : (0 : Int) ≤ (k : Int) := by omega
      have k1 : (k : Int) < (n : Int) := by omega
      clear hx
      by_cases hz : x = 0
      · subst hz
        go_wp2_with fail
        go_roundw
        case rel => exact ⟨k + 1, by omega, by go_num, Lib.hid (fun j hj => by
          rcases Nat.lt_or_ge j k with q | q
          · exact HZ.out j q
          · rw [show j = k by omega]; exact HX.out.symm), by first | rfl | trivial⟩
        case measure => simp [intOf]; omega
      · go_wp2_with fail
        go_ret
        exact ⟨by rw [orL_take l k (by rw [← HN.out]; exact hlt) HZ.out (by rw [← HX.out]; exact hz), ← HX.out]; rfl, rfl⟩
    · have hkn : k = n := by omega
      subst hkn
      have k1 : ¬ ((k : Int) < (k : Int)) := by omega
      go_wp2_with fail
      go_ret
      exact ⟨by rw [orL_none l (fun j hj => HZ.out j (by rw [HN.out]; exact hj))]; rfl, rfl⟩

end Go.Proofs.YtfodclafkdkjbaaDoor
