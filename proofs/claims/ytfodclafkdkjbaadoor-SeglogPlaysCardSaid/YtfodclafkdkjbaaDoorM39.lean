/- Proved parts: S7gj E5nm. Conditions: each theorem's own. -/
import Derived.Test.YtfodclafkdkjbaaDoorM38
import Derived.Test.YtfodclafkdkjbaaDoorM29
import Derived.Laws.OwnMore
namespace Go.Proofs.YtfodclafkdkjbaaDoor
open Go.RowKit

def slLen : Value → Nat
  | .slice _ n _ => n
  | _ => 0
theorem Chain.few {c : Cont} {S : Nat} {G : Int} {a u : Nat} {rs : List ByteArray} (h : Chain c S G a rs u) : a + rs.length ≤ u := by
  induction h with
  | nil => simp
  | cons _ h0 _ ih => rw [List.length_cons]; omega
/-- what is told of an extent -/
theorem stands_of {c : Cont} {S : Nat} {rs : List ByteArray} {u : Nat} (h : Chain c S (pcOf (c 0)).st.gen 0 rs u) (hn : recN c S (pcOf (c 0)).st.gen u = 0) (hu : u ≤ S) :
    (u = 0 → stands c S = (0, [], 0) ∧ rs = []) ∧ (u ≠ 0 → stands c S = ((pcOf (c 0)).st.gen, rs, u)) := by
  have hr := h.recs hn S (by omega)
  constructor
  · intro z
    subst z
    have hf := h.few
    have e : rs = [] := List.length_eq_zero_iff.1 (by omega)
    refine ⟨?_, e⟩
    unfold stands
    cases hs : isSec (c 0) with
    | false => rfl
    | true =>
      rw [pcOf_yes hs] at hr
      rw [if_pos rfl, show (recs c S (stp (c 0)).gen S 0).2 = 0 from congrArg Prod.snd hr, if_pos rfl]
  · intro z
    cases hs : isSec (c 0) with
    | false =>
      exfalso
      rw [pcOf_no hs] at h
      cases h with
      | nil => exact z rfl
      | cons h1 h2 _ =>
        have b := (begins_iff _ _ _ _).1 (recN_some h1 h2).1
        rw [b.2.1] at hs; cases hs
    | true =>
      rw [pcOf_yes hs] at hr ⊢
      unfold stands
      rw [hs, if_pos rfl, show recs c S (stp (c 0)).gen S 0 = (rs, u) from hr, if_neg z]
theorem OwnS.other {w : World} {B : Nat} {v : Value} {zs : List ByteArray} (h : OwnS w B v zs) {p : Addr} (hp : p.block < B) (x : Value) : OwnS (w.setCell p x) B v zs := by
  rcases h with ⟨h1, h2⟩
  refine ⟨h1, ?_⟩
  rcases h2 with ⟨rfl, h0⟩ | ⟨g, cap, cur, rfl, hB, hg, r⟩
  · exact .inl ⟨rfl, h0⟩
  · exact .inr ⟨g, cap, cur, rfl, hB, (Below.heap_setCell _ _ _ _ (by omega)).trans hg, r⟩
theorem recN_secs {c : Cont} {S : Nat} {G : Int} {a n : Nat} (h : recN c S G a = n) (h0 : 0 < n) : ∀ j, j < n → isSec (c (a + j)) = true := fun j hj =>
  ((isAt_iff _ _ _ _ _ _).1 ((goes_iff _ _ _ _ _ _).1 (recN_some h h0).2.2.1 j hj)).1

set_option maxRecDepth 100000 in
set_option maxHeartbeats 2000000 in
/-- standing -/
theorem qStanding (g S t : Nat) (c : Cont) (w : World) (h : PcRow w g (pcs c S)) (hS : S ≤ 128) (h1 : 1 ≤ S) :
    Calls Tryd.prog 43 #[.slice (some ⟨g, 0, none⟩) S S, .int .i64 (t : Int)] w fun x w' => ∃ v, x = .returned (.tuple #[.agg #[.int .i64 (t : Int), .int .i64 (stands c S).1, .int .i64 ((stands c S).2.2 : Nat)], v]) ∧ OwnS w' w.heap.size v (stands c S).2.1 ∧ Below w.heap.size w w' := by
  obtain ⟨c0, c1, c2, c3, c4, c5⟩ := h.cells (i := 0) (by omega)
  simp only [Nat.zero_mul, Nat.zero_add] at c0 c1 c2 c3 c4 c5
  obtain ⟨G, hG⟩ : ∃ G, G = (pcOf (c 0)).st.gen := ⟨_, rfl⟩
  rw [← hG] at c0
  have ST := Lib.hid (fun rs u (h : Chain c S G 0 rs u) (hn : recN c S G u = 0) (hu : u ≤ S) => stands_of (by rw [← hG]; exact h) (by rw [← hG]; exact hn) hu)
  rw [← hG] at ST
  have RA := Lib.hid (fun (a : Nat) (w : World) (h : PcRow w g (pcs c S)) (ha : a ≤ S) => qRecAt g S a G c w h hS ha)
  have JO := Lib.hid (fun (a n cp : Nat) (w : World) (h : PcRow w g (pcs c S)) (hn : a + n ≤ S) (hs : ∀ j, j < n → isSec (c (a + j)) = true) => qJoin g S a n cp c w h hS hn hs)
  obtain ⟨Z, hZ⟩ : ∃ Z, Z = stands c S := ⟨_, rfl⟩
  rw [← hZ] at ST ⊢
  have H := Lib.hid h
  have GL := h.lt
  clear hG h hZ c1 c2 c3 c4 c5
  go_enter Tryd.func43, Tryd.ntmps43
  go_wp2_with fail
  obtain ⟨w0, hw0⟩ : ∃ w0, w0 = (w.alloc (.cells #[.int .i64 0, .int .i64 0, .int .i64 0] 77)).alloc (.cells #[.int .i64 (t : Int), .int .i64 G, .int .i64 0] 77) := ⟨_, rfl⟩
  have sz0 : w0.heap.size = w.heap.size + 2 := by rw [hw0, World.size_alloc, World.size_alloc]
  have B0 := Lib.hid (show Below w.heap.size w w0 by rw [hw0]; exact ((Below.refl _ _).alloc (Nat.le_refl _) _).alloc (by rw [World.size_alloc]; omega) _)
  have RZ0 : RowAt w0 w.heap.size [.int .i64 0, .int .i64 0, .int .i64 0] 77 := by rw [hw0]; exact RowAt.alloc (RowAt.new w _ _) _
  have RQ0 : RowAt w0 (w.heap.size + 1) [.int .i64 (t : Int), .int .i64 G, .int .i64 ((0 : Nat) : Int)] 77 := by
    have k := RowAt.new (w.alloc (.cells #[.int .i64 0, .int .i64 0, .int .i64 0] 77)) [.int .i64 (t : Int), .int .i64 G, .int .i64 0] 77
    rw [World.size_alloc] at k
    rw [hw0]; exact k
  have H0 := Lib.hid (H.out.below B0.out)
  rw [← hw0]
  obtain ⟨z, hz⟩ : ∃ z, z = w.heap.size := ⟨_, rfl⟩
  obtain ⟨q, hq⟩ : ∃ q, q = w.heap.size + 1 := ⟨_, rfl⟩
  rw [← hz] at RZ0
  rw [← hq] at RQ0
  rw [← hq, ← hz]
  obtain ⟨B, hB⟩ : ∃ B, B = w0.heap.size := ⟨_, rfl⟩
  have zB : z < B := by omega
  have qB : q < B := by omega
  have zq : z ≠ q := by omega
  have gq : g ≠ q := by omega
  have gz : g ≠ z := by omega
  have gB : g < B := by omega
  have RZ := Lib.hid RZ0
  have RQ := Lib.hid RQ0
  have SZ := Lib.hid (show B ≤ w0.heap.size by omega)
  have WB := Lib.hid (show w.heap.size ≤ z ∧ w.heap.size ≤ q ∧ w.heap.size ≤ B by omega)
  have O0 := Lib.hid (ownS_nil w0 B)
  clear hw0 sz0 RZ0 RQ0 hB c0 GL hz hq
  go_loopw [7] (fun v wr => ∃ rs u, Hid (Chain c S G 0 rs u) ∧ u ≤ S ∧ rs.length ≤ u ∧ Hid (OwnS wr B v rs) ∧ Hid (PcRow wr g (pcs c S)) ∧ Hid (RowAt wr q [.int .i64 (t : Int), .int .i64 G, .int .i64 (u : Nat)] 77) ∧ Hid (RowAt wr z [.int .i64 0, .int .i64 0, .int .i64 0] 77) ∧ Hid (Below w.heap.size w wr) ∧ Hid (B ≤ wr.heap.size)) (fun v _ => S - slLen v)
  case atStart => exact ⟨[], 0, Lib.hid (.nil 0), Nat.zero_le _, Nat.le_refl _, O0, H0, RQ, RZ, B0, SZ⟩
  case round =>
    obtain ⟨rs, u, HC, hu, hl, HO, HR, HQ, HZ, HB, HS⟩ := hrel
    have q1 := HQ.out.cell 1
    have q2 := HQ.out.cell 2
    simp only [List.getElem?_cons_succ, List.getElem?_cons_zero] at q1 q2
    obtain ⟨K, hK⟩ : ∃ K, K = recN c S G u := ⟨_, rfl⟩
    have RU := Lib.hid (RA.out u wr HR.out hu)
    rw [← hK] at RU
    have HK := Lib.hid hK
    clear hK
    go_wp2_with fail
    refine RU.out.mono ?_
    rintro x w1 ⟨⟨A, cp, rfl, hA⟩, hb1⟩
    have HR1 := Lib.hid (HR.out.below hb1)
    have HQ1 := Lib.hid (HQ.out.below hb1)
    have HZ1 := Lib.hid (HZ.out.below hb1)
    have HO1 := Lib.hid (HO.out.below hb1)
    have HB1 := Lib.hid (below_then HB.out hb1)
    have HS1 := Lib.hid (show B ≤ w1.heap.size from Nat.le_trans HS.out hb1.size)
    clear hb1 q1 q2
    by_cases hk : K = 0
    · subst hk
      have SO := Lib.hid (ST.out rs u HC.out HK.out.symm hu)
      have q0 := HQ1.out.cell 0
      have q1 := HQ1.out.cell 1
      have q2 := HQ1.out.cell 2
      have z0 := HZ1.out.cell 0
      have z1 := HZ1.out.cell 1
      have z2 := HZ1.out.cell 2
      simp only [List.getElem?_cons_succ, List.getElem?_cons_zero] at q0 q1 q2 z0 z1 z2
      have f0 := HZ1.out.frozen 0
      have f1 := HZ1.out.frozen 1
      have f2 := HZ1.out.frozen 2
      have fq := HQ1.out.frozen 1
      by_cases hu0 : u = 0
      · have E1 := Lib.hid (SO.out.1 hu0)
        have t0 : ((u : Int) == 0) = true := by rw [beq_iff_eq]; omega
        have HU := Lib.hid hu0
        clear hu0
        go_wp2_with fail
        have qz : q ≠ z := Ne.symm zq
        have a1 := HZ1.out.other (p := ⟨q, 1, none⟩) qz (.int .i64 0)
        have a2 := a1.set 0 (.int .i64 (t : Int))
        have a3 := a2.set 1 (.int .i64 0)
        have a4 := a3.set 2 (.int .i64 (u : Int))
        have y0 := a4.cell 0
        have y1 := a4.cell 1
        have y2 := a4.cell 2
        simp only [List.set, List.getElem?_cons_succ, List.getElem?_cons_zero] at y0 y1 y2
        refine bodyPost_ret (v := .tuple #[.agg #[.int .i64 (t : Int), .int .i64 0, .int .i64 (u : Int)], u7]) (by simp [results, Tryd.results43, go_sem, y0, y1, y2]) rfl ?_
        refine ⟨u7, ?_, OwnS.mono ?_ WB.out.2.2, (((HB1.out.setCell (p := ⟨q, 1, none⟩) WB.out.2.1 _).setCell (p := ⟨z, 0, none⟩) WB.out.1 _).setCell (p := ⟨z, 1, none⟩) WB.out.1 _).setCell (p := ⟨z, 2, none⟩) WB.out.1 _⟩
        · rw [E1.out.1, HU.out]
        · rw [E1.out.1, ← E1.out.2]; exact (((HO1.out.other (p := ⟨q, 1, none⟩) qB _).other (p := ⟨z, 0, none⟩) zB _).other (p := ⟨z, 1, none⟩) zB _).other (p := ⟨z, 2, none⟩) zB _
      · have E1 := Lib.hid (SO.out.2 hu0)
        have t0 : ((u : Int) == 0) = false := by rw [beq_eq_false_iff_ne]; omega
        clear hu0
        go_wp2_with fail
        have qz : q ≠ z := Ne.symm zq
        have a2 := HZ1.out.set 0 (.int .i64 (t : Int))
        have a3 := a2.set 1 (.int .i64 G)
        have a4 := a3.set 2 (.int .i64 (u : Int))
        have y0 := a4.cell 0
        have y1 := a4.cell 1
        have y2 := a4.cell 2
        simp only [List.set, List.getElem?_cons_succ, List.getElem?_cons_zero] at y0 y1 y2
        refine bodyPost_ret (v := .tuple #[.agg #[.int .i64 (t : Int), .int .i64 G, .int .i64 (u : Int)], u7]) (by simp [results, Tryd.results43, go_sem, y0, y1, y2]) rfl ?_
        refine ⟨u7, ?_, OwnS.mono ?_ WB.out.2.2, ((HB1.out.setCell (p := ⟨z, 0, none⟩) WB.out.1 _).setCell (p := ⟨z, 1, none⟩) WB.out.1 _).setCell (p := ⟨z, 2, none⟩) WB.out.1 _⟩
        · rw [E1.out]
        · rw [E1.out]; exact ((HO1.out.other (p := ⟨z, 0, none⟩) zB _).other (p := ⟨z, 1, none⟩) zB _).other (p := ⟨z, 2, none⟩) zB _
    · have hk0 : 0 < K := by omega
      obtain rfl := hA hk0
      have le : u + K ≤ S := (recN_some HK.out.symm hk0).2.2.2
      have JU := Lib.hid (JO.out u K cp w1 HR1.out le (recN_secs HK.out.symm hk0))
      have CN := Lib.hid (HC.out.snoc HK.out.symm hk0)
      have t0 : ((K : Int) == 0) = false := by rw [beq_eq_false_iff_ne]; omega
      have LN := Lib.hid (show rs.length + 1 ≤ u + K ∧ rs.length + 1 ≤ 1000000 by omega)
      obtain ⟨y, hy⟩ : ∃ y, y = recB c u K := ⟨_, rfl⟩
      rw [← hy] at JU CN
      have CW := Lib.hid (show ∀ w : World, (w.alloc (.cells #[.string y] 9)).cell? ⟨w.heap.size, 0, none⟩ = some (.string y) from fun w => by rw [World.cell?_alloc_at _ _ _ _ rfl]; rfl)
      have MS := Lib.hid (show ∀ v1, (∃ A c, v1 = Value.slice A (rs ++ [y]).length c) → S - slLen v1 < S - slLen u7 from by
        rintro v1 ⟨A, c, rfl⟩
        obtain ⟨A2, c2, e2, _⟩ := HO1.out.form
        rw [e2]
        show S - (rs ++ [y]).length < S - rs.length
        rw [List.length_append]
        have : [y].length = 1 := rfl
        omega)
      clear hA hy hk
      go_wp2_with fail
      refine JU.out.mono ?_
      rintro x w2 ⟨rfl, hb2⟩
      have HR2 := Lib.hid (HR1.out.below hb2)
      have HQ2 := Lib.hid (HQ1.out.below hb2)
      have HZ2 := Lib.hid (HZ1.out.below hb2)
      have HO2 := Lib.hid (HO1.out.below hb2)
      have HB2 := Lib.hid (below_then HB1.out hb2)
      have HS2 := Lib.hid (show B ≤ w2.heap.size from Nat.le_trans HS1.out hb2.size)
      clear hb2
      go_wp2_with (at_builtin; refine wp_putS rfl (.tmp 25) (.tmp 28) rfl B _ _ rfl (HO2.out.alloc _) _ y rfl (CW.out _) LN.out.2 (by have := HS2.out; simp; omega) ?_; intro v1 w3 hown1 hb3; have HO3 := Lib.hid hown1; have HQ3 := Lib.hid (show RowAt w3 q _ _ from (hb3.block q qB).trans (HQ2.out.alloc _)); have HZ3 := Lib.hid (show RowAt w3 z _ _ from (hb3.block z zB).trans (HZ2.out.alloc _)); have HR3 := Lib.hid (show PcRow w3 g (pcs c S) from (hb3.block g gB).trans (RowAt.alloc HR2.out _)); have HB3 := Lib.hid ((HB2.out.alloc HB2.out.size _).trans (hb3.mono WB.out.2.2)); have HS3 := Lib.hid (show B ≤ w3.heap.size from Nat.le_trans HS2.out (Nat.le_trans (by simp) hb3.size)); have k2 := HQ3.out.cell 2; have fk := HQ3.out.frozen 2; simp only [List.getElem?_cons_succ, List.getElem?_cons_zero] at k2; clear hown1 hb3)
      have hform := HO3.out.form
      have lnn : (rs ++ [y]).length = rs.length + 1 := by rw [List.length_append]; rfl
      have r2 := HQ3.out.set 2 (.int .i64 ((u : Int) + (K : Int)))
      have e2 : ([.int .i64 (t : Int), .int .i64 G, .int .i64 (u : Nat)] : List Value).set 2 (.int .i64 ((u : Int) + (K : Int))) = [.int .i64 (t : Int), .int .i64 G, .int .i64 ((u + K : Nat) : Int)] := by rw [Int.natCast_add]; rfl
      rw [e2] at r2
      have HQ4 := Lib.hid r2
      have HS4 := Lib.hid (show B ≤ (w3.setCell ⟨q, 2, none⟩ (.int .i64 ((u : Int) + (K : Int)))).heap.size by rw [World.size_setCell]; exact HS3.out)
      go_roundw
      case rel => exact ⟨rs ++ [y], u + K, CN, le, by rw [lnn]; exact LN.out.1, Lib.hid (HO3.out.other (p := ⟨q, 2, none⟩) qB _), Lib.hid (RowAt.other HR3.out (p := ⟨q, 2, none⟩) (Ne.symm gq) _), HQ4, Lib.hid (HZ3.out.other (p := ⟨q, 2, none⟩) (Ne.symm zq) _), Lib.hid (HB3.out.setCell (p := ⟨q, 2, none⟩) WB.out.2.1 _), HS4⟩
      case measure => exact MS.out _ (by obtain ⟨A, c, h1, _⟩ := hform; exact ⟨A, c, h1⟩)

end Go.Proofs.YtfodclafkdkjbaaDoor

namespace Go.Proofs.YtfodclafkdkjbaaDoor
open Go.RowKit Go.Maps

def rowE (ds ms : Nat → Nat) (s : Nat) (i : Nat) : List Value := [.slice (some ⟨ds i, 0, none⟩) s s, .map (some (ms i))]
def rowsE (ds ms : Nat → Nat) (s k : Nat) : List Value := (List.range k).flatMap (rowE ds ms s)
theorem rowE_len (ds ms : Nat → Nat) (s i : Nat) : (rowE ds ms s i).length = 2 := rfl
theorem rowsE_len (ds ms : Nat → Nat) (s k : Nat) : (rowsE ds ms s k).length = k * 2 := by
  unfold rowsE; rw [flat_len (rowE_len ds ms s), List.length_range]
theorem rowsE_at (ds ms : Nat → Nat) (s k i j : Nat) (hi : i < k) (hj : j < 2) : (rowsE ds ms s k)[i * 2 + j]? = (rowE ds ms s i)[j]? := by
  have h := flat_at (rowE_len ds ms s) (List.range k) i j (by rw [List.length_range]; exact hi) hj
  rw [List.getElem_range] at h
  exact h
def updN (f : Nat → Nat) (k d : Nat) : Nat → Nat := fun i => if i = k then d else f i
theorem updN_same (f : Nat → Nat) (k d : Nat) : updN f k d k = d := by unfold updN; rw [if_pos rfl]
theorem updN_lt (f : Nat → Nat) {k i : Nat} (d : Nat) (h : i < k) : updN f k d i = f i := by unfold updN; rw [if_neg (by omega)]
theorem rowsE_succ (ds ms : Nat → Nat) (s k d n : Nat) : rowsE (updN ds k d) (updN ms k n) s (k + 1) = rowsE ds ms s k ++ [.slice (some ⟨d, 0, none⟩) s s, .map (some n)] := by
  unfold rowsE
  rw [List.range_succ, List.flatMap_append]
  congr 1
  · rw [List.flatMap_def, List.flatMap_def]
    congr 1
    apply List.map_congr_left
    intro i hi
    rw [List.mem_range] at hi
    unfold rowE; rw [updN_lt ds d hi, updN_lt ms n hi]
  · simp [rowE, updN_same]
def noSecs (s : Nat) : List Value := (List.replicate s (⟨#[]⟩ : ByteArray)).flatMap secL
/-- k extents are made -/
structure MakeE (w : World) (b B s k : Nat) (v : Value) (ds ms : Nat → Nat) : Prop where
  on : w.cell? ⟨b, 0, none⟩ = some (.bool true)
  fz : w.frozen? ⟨b, 0, none⟩ = false
  sec : w.cell? ⟨b, 1, none⟩ = some (.int .i64 s)
  ext : w.cell? ⟨b, 2, none⟩ = some v
  fz2 : w.frozen? ⟨b, 2, none⟩ = false
  lt : b < B
  size : B ≤ w.heap.size
  own : w.ownsRow B 70 2 v k (rowsE ds ms s k)
  row : ∀ i, i < k → RowAt w (ds i) (noSecs s) 85 ∧ B ≤ ds i
  map : ∀ i, i < k → w.ownsMap Tryd.prog 3 secElem (ms i) 0 (.map []) ∧ B ≤ ms i
  apart : ∀ i j, i < k → j < k → i ≠ j → ds i ≠ ds j ∧ ms i ≠ ms j
section
variable {w w' : World} {b B s k : Nat} {v : Value} {ds ms : Nat → Nat}
theorem MakeE.below (h : MakeE w b B s k v ds ms) (hb : Below w.heap.size w w') : MakeE w' b B s k v ds ms := by
  have hc : Chg (fun _ => False) w w' := Chg.of_below hb
  have hlb : b < w.heap.size := Nat.lt_of_lt_of_le h.lt h.size
  refine ⟨hc.cell h.on id, by rw [frozen_chg hc hlb id]; exact h.fz, hc.cell h.sec id, hc.cell h.ext id, by rw [frozen_chg hc hlb id]; exact h.fz2, h.lt, Nat.le_trans h.size hb.size, ?_, fun i hi => ⟨(h.row i hi).1.keep hc id, (h.row i hi).2⟩, fun i hi => ⟨ownsMap_chg (h.map i hi).1 hc id, (h.map i hi).2⟩, h.apart⟩
  exact h.own.kept (row := none) ⟨hb.os, hb.tape, hb.output, hb.size, fun i hi _ => hb.block i hi⟩ (by
    rcases h : v.ownBlock with _ | x
    · exact .inl rfl
    · exact .inr (by simp))
theorem ext_ne_sector : (70 : TypeId) ≠ 85 := by decide
theorem own_not_row {xs cs : List Value} {n g : Nat} (h : w.ownsRow B 70 2 v n xs) (hr : RowAt w g cs 85) : v.ownBlock ≠ some g := by
  intro e
  rcases h.2 with ⟨rfl, _⟩ | ⟨g', cap, cur, rfl, _, hg, _⟩
  · cases e
  · simp only [Value.ownBlock, Option.some.injEq] at e
    subst e
    unfold RowAt at hr
    rw [hr] at hg
    simp only [Option.some.injEq, Obj.cells.injEq] at hg
    exact ext_ne_sector hg.2.1.symm
theorem own_not_map {xs : List Value} {n g n' : Nat} {D : DataW Unit} (h : w.ownsRow B 70 2 v n xs) (hm : w.ownsMap Tryd.prog 3 secElem g n' D) : v.ownBlock ≠ some g := by
  intro e
  rcases h.2 with ⟨rfl, _⟩ | ⟨g', cap, cur, rfl, _, hg, _⟩
  · cases e
  · simp only [Value.ownBlock, Option.some.injEq] at e
    subst e
    obtain ⟨es, c, hb, _⟩ := hm
    rw [hb] at hg
    cases hg
/-- one more -/
theorem MakeE.step (h : MakeE w b B s k v ds ms) {d n : Nat} (hd : RowAt w d (noSecs s) 85) (hn : w.ownsMap Tryd.prog 3 secElem n 0 (.map [])) (hdB : B ≤ d) (hnB : B ≤ n) (hnew : ∀ i, i < k → ds i ≠ d ∧ ms i ≠ n)
    {w3 : World} {v' : Value} (hg : w.grownBy w3 v.ownBlock) (ho : w3.ownsRow B 70 2 v' (k + 1) (rowsE ds ms s k ++ [.slice (some ⟨d, 0, none⟩) s s, .map (some n)])) :
    MakeE (w3.setCell ⟨b, 2, none⟩ v') b B s (k + 1) v' (updN ds k d) (updN ms k n) := by
  have ob : v.ownBlock ≠ some b := by
    intro e
    have := (h.own.lt b e).1
    have := h.lt; omega
  have hlb : b < w.heap.size := Nat.lt_of_lt_of_le h.lt h.size
  have hc : Chg (fun q => v.ownBlock = some q) w w3 := (Chg.refl _ _).grown hg (fun q e => .inl e)
  have hc2 : Chg (fun q => v.ownBlock = some q ∨ q = b) w (w3.setCell ⟨b, 2, none⟩ v') := (hc.mono fun i q => .inl q).setCell (p := ⟨b, 2, none⟩) (.inl (.inr rfl)) _
  have row : ∀ g, RowAt w g (noSecs s) 85 → B ≤ g → RowAt (w3.setCell ⟨b, 2, none⟩ v') g (noSecs s) 85 := fun g hr hB => hr.keep hc2 (by
    rintro (q | q)
    · exact own_not_row h.own hr q
    · have := h.lt; omega)
  have map : ∀ g, w.ownsMap Tryd.prog 3 secElem g 0 (.map []) → B ≤ g → (w3.setCell ⟨b, 2, none⟩ v').ownsMap Tryd.prog 3 secElem g 0 (.map []) := fun g hr hB => ownsMap_chg hr hc2 (by
    rintro (q | q)
    · exact own_not_map h.own hr q
    · have := h.lt; omega)
  refine ⟨?_, ?_, ?_, ?_, ?_, h.lt, Nat.le_trans h.size hc2.size, ?_, ?_, ?_, ?_⟩
  · rw [World.cell?_setCell_other _ _ _ _ (by intro q; cases q)]; exact hc.cell h.on ob
  · rw [World.frozen?_setCell, frozen_chg hc hlb ob]; exact h.fz
  · rw [World.cell?_setCell_other _ _ _ _ (by intro q; cases q)]; exact hc.cell h.sec ob
  · exact World.cell?_setCell_same _ _ _ (hc.cell h.ext ob)
  · rw [World.frozen?_setCell, frozen_chg hc hlb ob]; exact h.fz2
  · rw [rowsE_succ]
    refine ho.kept (row := some b) ⟨rfl, rfl, rfl, by simp [World.setCell], fun i _ hi => Below.heap_setCell _ _ _ _ (fun e => hi (by rw [e]))⟩ (.inr fun e => ?_)
    have := (ho.lt b e).1
    have := h.lt; omega
  · intro i hi
    by_cases e : i = k
    · subst e; rw [updN_same]; exact ⟨row d hd hdB, hdB⟩
    · rw [updN_lt ds d (by omega)]
      exact ⟨row _ (h.row i (by omega)).1 (h.row i (by omega)).2, (h.row i (by omega)).2⟩
  · intro i hi
    by_cases e : i = k
    · subst e; rw [updN_same]; exact ⟨map n hn hnB, hnB⟩
    · rw [updN_lt ms n (by omega)]
      exact ⟨map _ (h.map i (by omega)).1 (h.map i (by omega)).2, (h.map i (by omega)).2⟩
  · intro i j hi hj hne
    by_cases e : i = k
    · subst e
      rw [updN_same, updN_same, updN_lt ds d (show j < i by omega), updN_lt ms n (show j < i by omega)]
      exact ⟨fun q => (hnew j (by omega)).1 q.symm, fun q => (hnew j (by omega)).2 q.symm⟩
    · by_cases e' : j = k
      · subst e'
        rw [updN_same, updN_same, updN_lt ds d (show i < j by omega), updN_lt ms n (show i < j by omega)]
        exact hnew i (by omega)
      · rw [updN_lt ds d (by omega), updN_lt ms n (by omega), updN_lt ds d (by omega), updN_lt ms n (by omega)]
        exact h.apart i j (by omega) (by omega) hne
theorem MakeE.start (w : World) (s : Nat) : MakeE (w.alloc (.cells #[.bool true, .int .i64 s, .slice none 0 0] 66)) w.heap.size (w.heap.size + 1) s 0 (.slice none 0 0) (fun _ => 0) (fun _ => 0) := by
  have R := RowAt.new w [.bool true, .int .i64 s, .slice none 0 0] 66
  exact ⟨R.cell 0, R.frozen 0, R.cell 1, R.cell 2, R.frozen 2, by omega, by simp, World.ownsRow_nil _ _ _ _, fun i hi => absurd hi (by omega), fun i hi => absurd hi (by omega), fun i _ hi => absurd hi (by omega)⟩
theorem new_secAt (e s i : Nat) : (Ext.new e s).secAt i = Sec0 := by
  unfold Ext.secAt Ext.new
  show (List.replicate (e * s) Sec0).getD i Sec0 = _
  rw [List.getD_eq_getElem?_getD, List.getElem?_replicate]
  split <;> rfl
theorem new_drys (e s i : Nat) : drys (Ext.new e s) i = List.replicate s ⟨#[]⟩ := by
  apply List.ext_getElem (by rw [drys_len, List.length_replicate]; rfl)
  intro j h1 h2
  rw [List.length_replicate] at h2
  rw [drys_get (Ext.new e s) i j h2, new_secAt, List.getElem_replicate]; rfl
theorem MakeE.rep {e : Nat} (h : MakeE w b B s e v ds ms) (he : Ext.fits e s = true) : ∃ g cap, v = .slice (some ⟨g, 0, none⟩) e cap ∧ B ≤ g ∧ RepE w b g cap ds ms (fun _ => .map []) (Ext.new e s) := by
  have ho := Ext.new_ok he
  rcases id h.own.2 with ⟨rfl, hn⟩ | ⟨g, cap, cur, rfl, hB, _⟩
  · have := ho.1; change 1 ≤ e at this; omega
  · refine ⟨g, cap, rfl, hB, ho, h.on, h.fz, h.sec, h.ext, fun i hi => ?_, fun i hi => ?_, fun i hi => ?_, fun i hi => ?_, fun i hi => ?_, fun i => ?_, h.apart⟩
    · have hi2 : i < e := hi
      rw [show i * 2 = i * 2 + 0 by omega, World.ownsRow.cellAt h.own (i * 2 + 0) (by omega), rowsE_at ds ms s e i 0 hi2 (by omega)]; rfl
    · have hi2 : i < e := hi
      rw [World.ownsRow.cellAt h.own (i * 2 + 1) (by omega), rowsE_at ds ms s e i 1 hi2 (by omega)]; rfl
    · rw [new_drys]; exact (h.row i hi).1
    · exact (h.map i hi).1
    · exact ⟨fun x hx => by simp [Maps.has] at hx, fun a ha => by rw [new_secAt]; rfl, fun a ha hw => by rw [new_secAt] at hw; cases hw⟩
    · rw [new_secAt]; exact ⟨by decide, by decide, fun _ => rfl⟩
end

theorem made_rows {l : List Value} {x : ByteArray} (hl : l.length = 65) (hx : secL x = l) (n : Nat) : madeCells l.toArray (n * 65) = ((List.replicate n x).flatMap secL).toArray := by
  apply Array.ext
  · rw [size_madeCells]; simp only [List.size_toArray]; rw [flat_len secL_len]; simp
  intro i h1 h2
  rw [size_madeCells] at h1
  have e : i = i / 65 * 65 + i % 65 := by omega
  have hi : i / 65 < (List.replicate n x).length := by rw [List.length_replicate]; omega
  have h3 := flat_at secL_len (List.replicate n x) (i / 65) (i % 65) hi (Nat.mod_lt _ (by omega))
  rw [← e, List.getElem_replicate, hx] at h3
  have h5 : (madeCells l.toArray (n * 65))[i]'(by rw [size_madeCells]; exact h1) = l.toArray[i % 65]! := by
    unfold madeCells; simp [hl]
  rw [h5]
  have h7 : (((List.replicate n x).flatMap secL).toArray)[i]'h2 = ((List.replicate n x).flatMap secL)[i]'(by simpa using h2) := by simp
  have h8 : i % 65 < l.length := by rw [hl]; exact Nat.mod_lt _ (by omega)
  rw [h7]
  rw [List.getElem?_eq_getElem (by simpa using h2), List.getElem?_eq_getElem h8] at h3
  rw [Option.some.inj h3]
  simp [h8]
/-- make([]sector, n) -/
theorem make_rows (n : Nat) (hn : n ≤ 128) (W : World) : (Instr.makeSlice 67 (.int .i64 (n : Int)) (.int .i64 (n : Int))).run Tryd.prog W = .ok (.slice (some ⟨W.heap.size, 0, none⟩) n n) (W.alloc (.cells (noSecs n).toArray 85)) := by
  obtain ⟨i0, hi, hz0, hz1, hz2⟩ := info_parts infoS74
  have h := run_make (P := Tryd.prog) W 67 85 i0 _ Tryd.underlying67 hi hz0 .i64 .i64 (n : Int) (n : Int) (by omega) (by omega) (by rw [hz2]; omega) (by omega)
  rw [hz1, show (Value.agg (rawL 0).toArray).cells = (rawL 0).toArray from rfl] at h
  unfold noSecs
  rw [← made_rows (rawL_len 0) secL_nil n]
  simpa using h

end Go.Proofs.YtfodclafkdkjbaaDoor
