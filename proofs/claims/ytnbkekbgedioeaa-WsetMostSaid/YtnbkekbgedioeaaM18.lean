/- Proved parts: D2f D2g D2h. Conditions: each theorem's own. -/
import Derived.Test.YtnbkekbgedioeaaM14
import Derived.Test.YtnbkekbgedioeaaM17
import Derived.Test.YtnbkekbgedioeaaM16
import Derived.Test.YtnbkekbgedioeaaM10
import Derived.Laws.Rows
namespace Go.Proofs.Ytnbkekbgedioeaa
open Go.RowKit

/-- writes that may stand in a set -/
structure OkWl (L : Wl) : Prop where
  rise : L.Rise
  len : L.length ≤ 16
  may : ∀ x, x ∈ L → Wl.may x = true ∧ x.val.bits < 18446744073709551616
theorem may_parts {x : Wr} (h : Wl.may x = true) : x.key.size ≤ 32 ∧ x.val.txt.size ≤ 64 := by
  unfold Wl.may keyOk at h
  simp only [Bool.and_eq_true, decide_eq_true_eq] at h
  refine ⟨h.1.2, ?_⟩
  have o := h.2
  unfold Val.ok at o
  split at o
  · simp only [Bool.and_eq_true, decide_eq_true_eq] at o; omega
  · simp only [Bool.and_eq_true, decide_eq_true_eq] at o; omega
theorem OkWl.at {L : Wl} (h : OkWl L) {i : Nat} (hi : i < L.length) : (L.getD i Wr.Z).key.size ≤ 32 ∧ (L.getD i Wr.Z).val.txt.size ≤ 64 := by
  rw [← Wl.get hi]
  exact may_parts (h.may _ (List.getElem_mem hi)).1

theorem results_cell_oneW {P : Program} {fn : Func} {p : Tmp} {ty : TypeId} (h : fn.results = #[.cell p ty]) (tmps : Array Value) (w : World) (g : Nat) (t : TypeId) (cs : List Value) (d : TypeDesc)
    (hp : tmps.getD p undef = .pointer (some ⟨g, 0, none⟩)) (hg : RowAt w g cs t)
    (hu : P.underlying ty = some d) (hd : (match d with | .struct _ | .array _ _ => true | _ => false) = true) (hi : (P.info? ty).map (·.size) = some cs.toArray.size) :
    (results fn tmps).run P w = .ok (.agg cs.toArray) w :=
  results_cell_row h tmps w g t cs.toArray _ d hp hg hu hd hi
/-- a write laid into a block -/
def setW (w : World) (g : Nat) (x : Wr) : World := ((((w.setCell ⟨g, 0, none⟩ (.string x.key)).setCell ⟨g, 1, none⟩ (.bool x.gone)).setCell ⟨g, 2, none⟩ (.bool x.val.num)).setCell ⟨g, 3, none⟩ (.string x.val.txt)).setCell ⟨g, 4, none⟩ (.int .u64 (x.val.bits : Int))
theorem setW_row {w : World} {g : Nat} {x y : Wr} {t : TypeId} (h : RowAt w g y.cs t) : RowAt (setW w g x) g x.cs t := ((((h.set 0 (.string x.key)).set 1 (.bool x.gone)).set 2 (.bool x.val.num)).set 3 (.string x.val.txt)).set 4 (.int .u64 (x.val.bits : Int))
theorem setW_below {w0 w : World} {B g : Nat} {x : Wr} (h : Below B w0 w) (hg : B ≤ g) : Below B w0 (setW w g x) := ((((h.setCell hg _).setCell hg _).setCell hg _).setCell hg _).setCell hg _
theorem wrF {w : World} {g : Nat} {t : TypeId} {x : Wr} (h : RowAt w g x.cs t) : w.cell? ⟨g, 0, none⟩ = some (.string x.key) ∧ w.cell? ⟨g, 1, none⟩ = some (.bool x.gone) ∧ w.cell? ⟨g, 2, none⟩ = some (.bool x.val.num) ∧ w.cell? ⟨g, 3, none⟩ = some (.string x.val.txt) ∧ w.cell? ⟨g, 4, none⟩ = some (.int .u64 (x.val.bits : Int)) :=
  ⟨h.cell 0, h.cell 1, h.cell 2, h.cell 3, h.cell 4⟩
theorem wrZ {w : World} {g : Nat} {t : TypeId} (h : RowAt w g Wr.Z.cs t) : w.frozen? ⟨g, 0, none⟩ = false ∧ w.frozen? ⟨g, 1, none⟩ = false ∧ w.frozen? ⟨g, 2, none⟩ = false ∧ w.frozen? ⟨g, 3, none⟩ = false ∧ w.frozen? ⟨g, 4, none⟩ = false ∧
    w.cell? ⟨g, 0, none⟩ = some (.string ⟨#[]⟩) ∧ w.cell? ⟨g, 1, none⟩ = some (.bool false) ∧ w.cell? ⟨g, 2, none⟩ = some (.bool false) ∧ w.cell? ⟨g, 3, none⟩ = some (.string ⟨#[]⟩) ∧ w.cell? ⟨g, 4, none⟩ = some (.int .u64 0) :=
  ⟨h.frozen 0, h.frozen 1, h.frozen 2, h.frozen 3, h.frozen 4, h.cell 0, h.cell 1, h.cell 2, h.cell 3, h.cell 4⟩

set_option maxRecDepth 100000 in
/-- find's closure -/
theorem xCmpK (x : Wr) (k : ByteArray) (w : World) :
    Calls Try.prog 37 #[.agg #[.string x.key, .bool x.gone, .bool x.val.num, .string x.val.txt, .int .u64 (x.val.bits : Int)], .string k] w fun e w' =>
      e = .returned (.int .i64 (if ltB x.key k then -1 else if ltB k x.key then 1 else 0)) ∧ Below w.heap.size w w' := by
  have e : (if ltB x.key k then (-1 : Int) else if ltB k x.key then 1 else 0) = Lib.compareBytes x.key.data.toList k.data.toList := by
    rw [cmpBytes_eq, ← Val.toL, ← Val.toL]; rfl
  rw [e]
  obtain ⟨kk, g, m, t, b⟩ := x
  have HB := Lib.hid (show Below w.heap.size w (w.alloc (.cells #[.string kk, .bool g, .bool m, .string t, .int .u64 (b : Int)] 42)) from (Below.refl _ _).alloc (Nat.le_refl _) _)
  clear e
  go_enter Try.func37, Try.ntmps37
  go_wp2_with fail
  refine (scmpString _ _ _).mono ?_
  rintro e w1 ⟨rfl, rfl⟩
  go_wp2_with fail
  go_ret
  exact ⟨rfl, HB.out⟩

set_option maxRecDepth 100000 in
set_option maxHeartbeats 4000000 in
/-- slices.BinarySearchFunc by find's closure -/
theorem xBsf (L : Wl) (A : Option Addr) (c : Nat) (k : ByteArray) (w : World) (h : SlWr w A L) (hr : L.Rise) (hl : L.length ≤ 1000) :
    Calls Try.prog 36 #[.slice A L.length c, .string k, .func (.func 37) #[] #[]] w fun e w' =>
      e = .returned (.tuple #[.int .i64 (L.pos k : Nat), .bool (L.has k)]) ∧ Below w.heap.size w w' := by
  have LT := Lib.hid (fun j (hj : j < L.length) => (Wl.le_of (k := k) hr hj).2.2)
  have AF := Lib.hid (fun j (hj : j < L.length) => (Wl.le_of (k := k) hr hj).1)
  have HI := Lib.hid (Wl.has_iff L k)
  have pl := Wl.pos_le L k
  have HS := Lib.hid h
  obtain ⟨n, hn⟩ : ∃ n, n = L.length := ⟨_, rfl⟩
  obtain ⟨P, hP⟩ : ∃ P, P = L.pos k := ⟨_, rfl⟩
  obtain ⟨T, hT⟩ : ∃ T, T = L.has k := ⟨_, rfl⟩
  have AT := Lib.hid (show L.aft k = if T then P + 1 else P by rw [hT, hP]; rfl)
  rw [← hP] at pl HI LT ⊢
  rw [← hT] at HI ⊢
  rw [← hn] at pl hl LT AF HI ⊢
  have HN := Lib.hid hn
  clear h hr hn hP hT
  go_enter Try.func36, Try.ntmps36
  go_wp2_with fail
  go_loopw [9, 10] (fun vi vj wr => ∃ i j : Nat, i ≤ P ∧ P ≤ j ∧ j ≤ n ∧ vi = .int .i64 i ∧ vj = .int .i64 j ∧ Hid (Below w.heap.size w wr)) (fun vi vj _ => (intOf vj).toNat - (intOf vi).toNat)
  case atStart => exact ⟨0, n, Nat.zero_le _, pl, Nat.le_refl _, rfl, rfl, Lib.hid (Below.refl _ _)⟩
  case round =>
    obtain ⟨i, j, hi, hj, hjn, rfl, rfl, HB⟩ := hrel
    by_cases q : i < j
    · obtain ⟨m, hm⟩ : ∃ m : Nat, m = (i + j) / 2 := ⟨_, rfl⟩
      have m1 : i ≤ m := by omega
      have m2 : m < j := by omega
      obtain ⟨b, o, rfl, hb, c0, c1, c2, c3, c4⟩ := (HS.out.below HB.out).at (j := m) (by rw [← HN.out]; omega)
      have hshift : ((i : Int) + (j : Int)) / 2 = (m : Int) := by omega
      have i0 : (0 : Int) ≤ (m : Int) := by omega
      have i1 : (m : Int) < (n : Int) := by omega
      have LM := Lib.hid (LT.out m (by omega))
      unfold Wl.key at LM
      obtain ⟨x, hx⟩ : ∃ x, x = L.getD m Wr.Z := ⟨_, rfl⟩
      rw [← hx] at c0 c1 c2 c3 c4 LM
      have CK := Lib.hid (xCmpK x k wr)
      clear hx hb hm
      by_cases z : m < P
      · rw [if_pos (LM.out.2 z)] at CK
        go_wp2_with fail
        refine CK.out.mono ?_
        rintro e w1 ⟨rfl, hb1⟩
        have B1 := Lib.hid (below_then HB.out hb1)
        clear hb1
        go_wp2_with fail
        go_roundw
        case rel => exact ⟨m + 1, j, by omega, hj, hjn, by go_num, rfl, B1⟩
        case measure => simp [intOf]; omega
      · rw [if_neg (fun a => z (LM.out.1 a))] at CK
        obtain ⟨r, hr, hr0⟩ : ∃ r : Int, r = (if ltB k x.key = true then 1 else 0) ∧ ¬ r < 0 := ⟨_, rfl, by split <;> omega⟩
        rw [← hr] at CK
        clear hr
        go_wp2_with fail
        refine CK.out.mono ?_
        rintro e w1 ⟨rfl, hb1⟩
        have B1 := Lib.hid (below_then HB.out hb1)
        clear hb1
        go_wp2_with fail
        go_roundw
        case rel => exact ⟨i, m, hi, by omega, by omega, rfl, rfl, B1⟩
        case measure => simp [intOf]; omega
    · obtain rfl : i = P := by omega
      by_cases z : i < n
      · obtain ⟨b, o, rfl, hb, c0, c1, c2, c3, c4⟩ := (HS.out.below HB.out).at (j := i) (by rw [← HN.out]; omega)
        have i0 : (0 : Int) ≤ (i : Int) := by omega
        have i1 : (i : Int) < (n : Int) := by omega
        have LM := Lib.hid (LT.out i z)
        have AM := Lib.hid (AF.out i z)
        unfold Wl.key at LM AM
        obtain ⟨x, hx⟩ : ∃ x, x = L.getD i Wr.Z := ⟨_, rfl⟩
        rw [← hx] at c0 c1 c2 c3 c4 LM AM
        have CK := Lib.hid (xCmpK x k wr)
        rw [if_neg (fun a => by have := LM.out.1 a; omega)] at CK
        have EQ := Lib.hid (show ((if ltB k x.key = true then (1 : Int) else 0) == 0) = T by
          cases T with
          | true =>
            rw [if_neg (fun a => by
              have := AM.out.1 a
              rw [AT.out, if_pos rfl] at this; omega)]; rfl
          | false => rw [if_pos (AM.out.2 (by rw [AT.out, if_neg (by simp)]; exact Nat.le_refl _))]; rfl)
        obtain ⟨r, hr⟩ : ∃ r : Int, r = (if ltB k x.key = true then 1 else 0) := ⟨_, rfl⟩
        rw [← hr] at CK EQ
        clear hr hx hb
        go_wp2_with fail
        refine CK.out.mono ?_
        rintro e w1 ⟨rfl, hb1⟩
        have B1 := Lib.hid (below_then HB.out hb1)
        clear hb1
        go_wp2_with fail
        go_ret2
        exact ⟨by rw [← EQ.out]; rfl, B1.out⟩
      · have TF := Lib.hid (show T = false by
          cases T with
          | false => rfl
          | true => have := (HI.out.1 rfl).1; omega)
        go_wp2_with fail
        go_ret2
        exact ⟨by rw [TF.out]; rfl, HB.out⟩

end Go.Proofs.Ytnbkekbgedioeaa

namespace Go.Proofs.Ytnbkekbgedioeaa
open Go.RowKit

abbrev PtrW (b : Nat) : Value := .pointer (some ⟨b, 0, none⟩)
/-- a set's block -/
def SetRow (w : World) (b : Nat) (v vm : Value) : Prop := RowAt w b [v, vm] 56

set_option maxRecDepth 100000 in
/-- find -/
theorem xFindW (L : Wl) (b : Nat) (v vm : Value) (k : ByteArray) (w : World) (hr : SetRow w b v vm) (hn : NodeAtW w v L) (ho : OkWl L) :
    Calls Try.prog 28 #[PtrW b, .string k] w fun e w' => e = .returned (.tuple #[.int .i64 (L.pos k : Nat), .bool (L.has k)]) ∧ Below w.heap.size w w' := by
  have d0 := RowAt.cell hr 0
  simp only [List.getElem?_cons_zero] at d0
  obtain ⟨A, c, rfl, hs, _⟩ := hn.sl
  have BS := Lib.hid (xBsf L A c k w hs ho.rise (Nat.le_trans ho.len (by decide)))
  clear hs hr ho hn
  go_enter Try.func28, Try.ntmps28
  go_wp2_with fail
  refine BS.out.mono ?_
  rintro e w1 ⟨rfl, hb⟩
  have B1 := Lib.hid hb
  clear hb
  go_wp2_with fail
  go_ret2
  exact ⟨rfl, B1.out⟩

set_option maxRecDepth 100000 in
set_option maxHeartbeats 4000000 in
/-- fresh -/
theorem xFreshW (x : Wr) (w : World) (hk : x.key.size ≤ 1000) (ht : x.val.txt.size ≤ 1000) :
    Calls Try.prog 27 #[.agg #[.string x.key, .bool x.gone, .bool x.val.num, .string x.val.txt, .int .u64 (x.val.bits : Int)]] w fun e w' =>
      e = .returned (.agg #[.string x.key, .bool x.gone, .bool x.val.num, .string x.val.txt, .int .u64 (x.val.bits : Int)]) ∧ Below w.heap.size w w' := by
  obtain ⟨kk, g, v⟩ := x
  obtain ⟨m, t, u⟩ := v
  obtain ⟨B, hB⟩ : ∃ B, B = w.heap.size := ⟨_, rfl⟩
  rw [← hB]
  have CK := Lib.hid (fun w => lclone kk w (Nat.le_trans hk (by decide)))
  have CL := Lib.hid (fun w => lclone t w (Nat.le_trans ht (by decide)))
  have R0 := ((RowAt.new w (Wr.cs ⟨kk, g, ⟨m, t, u⟩⟩) 42).alloc (.cells Wr.Z.cs.toArray 42))
  have R1 := RowAt.new (w.alloc (.cells (Wr.cs ⟨kk, g, ⟨m, t, u⟩⟩).toArray 42)) Wr.Z.cs 42
  rw [show (w.alloc (.cells (Wr.cs ⟨kk, g, ⟨m, t, u⟩⟩).toArray 42)).heap.size = w.heap.size + 1 by simp, ← hB] at R1
  rw [← hB] at R0
  have B0 := Lib.hid (show Below B w ((w.alloc (.cells (Wr.cs ⟨kk, g, ⟨m, t, u⟩⟩).toArray 42)).alloc (.cells Wr.Z.cs.toArray 42)) by rw [hB]; exact ((Below.refl _ _).alloc (Nat.le_refl _) _).alloc (by simp) _)
  have R0 := Lib.hid R0
  have R1 := Lib.hid R1
  have HB := Lib.hid hB
  show Calls Try.prog 27 #[.agg #[.string kk, .bool g, .bool m, .string t, .int .u64 (u : Int)]] w _
  clear hk ht hB
  go_enter Try.func27, Try.ntmps27
  go_wp2_with fail
  rw [← HB.out]
  refine (CK.out _).mono ?_
  rintro e w1 ⟨rfl, hb1⟩
  have B1 := Lib.hid (show Below B w w1 from B0.out.trans (hb1.mono (by rw [HB.out]; exact B0.out.size)))
  have q0 := R0.out.below hb1
  have q1 := R1.out.below hb1
  have Q0 := Lib.hid q0
  have Q1 := Lib.hid q1
  have f0 := q0.frozen 0
  obtain ⟨d0, d1, d2, d3, d4⟩ := wrF (x := ⟨kk, g, ⟨m, t, u⟩⟩) q0
  simp only at d0 d1 d2 d3 d4
  have B2 := Lib.hid (show Below B w (w1.setCell ⟨B, 0, none⟩ (.string kk)) from B1.out.setCell (Nat.le_refl _) _)
  have R2 := Lib.hid (show RowAt (w1.setCell ⟨B, 0, none⟩ (.string kk)) B (Wr.cs ⟨kk, g, ⟨m, t, u⟩⟩) 42 from Q0.out.set 0 _)
  have R3 := Lib.hid (show RowAt (w1.setCell ⟨B, 0, none⟩ (.string kk)) (B + 1) Wr.Z.cs 42 from Q1.out.other (by show B ≠ B + 1; omega) _)
  clear hb1 q0 q1
  go_wp2_with fail
  refine (CL.out _).mono ?_
  rintro e w2 ⟨rfl, hb2⟩
  have B3 := Lib.hid (show Below B w w2 from B2.out.trans (hb2.mono (by have := B2.out.size; have := HB.out; omega)))
  have q0 := R2.out.below hb2
  have q1 := R3.out.below hb2
  have Q2 := Lib.hid q0
  have Q3 := Lib.hid q1
  have f3 := q0.frozen 3
  clear d0 d1 d2 d3 d4 f0
  obtain ⟨d0, d1, d2, d3, d4⟩ := wrF (x := ⟨kk, g, ⟨m, t, u⟩⟩) q0
  simp only at d0 d1 d2 d3 d4
  obtain ⟨g0, g1, g2, g3, g4, e0, e1, e2, e3, e4⟩ := wrZ q1
  have F1 := Lib.hid (show Below B w (setW (w2.setCell ⟨B, 3, none⟩ (.string t)) (B + 1) ⟨kk, g, ⟨m, t, u⟩⟩) from setW_below (B3.out.setCell (Nat.le_refl _) _) (by omega))
  have F2 := Lib.hid (show RowAt (setW (w2.setCell ⟨B, 3, none⟩ (.string t)) (B + 1) ⟨kk, g, ⟨m, t, u⟩⟩) (B + 1) (Wr.cs ⟨kk, g, ⟨m, t, u⟩⟩) _ from setW_row (Q3.out.other (by show B ≠ B + 1; omega) _))
  clear hb2 q0 q1
  go_wp2_with fail
  refine bodyPost_ret (results_cell_oneW rfl _ (setW (w2.setCell ⟨B, 3, none⟩ (.string t)) (B + 1) ⟨kk, g, ⟨m, t, u⟩⟩) (B + 1) _ _ _ rfl F2.out Try.underlying42 rfl (by kernel_rfl)) rfl ?_
  exact ⟨rfl, F1.out⟩

set_option maxRecDepth 100000 in
set_option maxHeartbeats 4000000 in
/-- may -/
theorem xMayW (x : Wr) (w : World) (hf : x.val.Fits) :
    Calls Try.prog 39 #[.agg #[.string x.key, .bool x.gone, .bool x.val.num, .string x.val.txt, .int .u64 (x.val.bits : Int)]] w fun e w' =>
      e = .returned (.bool (Wl.may x)) ∧ Below w.heap.size w w' := by
  obtain ⟨kk, g, v⟩ := x
  obtain ⟨m, t, u⟩ := v
  obtain ⟨K, hK⟩ : ∃ K, K = Val.ok ⟨m, t, u⟩ := ⟨_, rfl⟩
  have VR := Lib.hid (fun w => vpRight ⟨m, t, u⟩ w hf)
  rw [← hK] at VR
  have VR : Hid (∀ w, Calls Try.prog 45 #[.agg #[.bool m, .string t, .int .u64 (u : Int)]] w fun e w' => e = .returned (.bool K) ∧ Below w.heap.size w w') := VR
  have EM := Lib.hid (show Wl.may ⟨kk, g, ⟨m, t, u⟩⟩ = ((decide (1 ≤ kk.size) && decide (kk.size ≤ 32)) && K) by rw [hK]; rfl)
  have B0 := Lib.hid ((Below.refl w.heap.size w).alloc (Nat.le_refl _) (.cells #[.string kk, .bool g, .bool m, .string t, .int .u64 (u : Int)] 42))
  show Calls Try.prog 39 #[.agg #[.string kk, .bool g, .bool m, .string t, .int .u64 (u : Int)]] w _
  rw [EM.out]
  clear hK hf EM
  obtain ⟨n, hn⟩ : ∃ n, n = kk.size := ⟨_, rfl⟩
  rw [← hn]
  by_cases p1 : 1 ≤ n
  · by_cases p2 : n ≤ 32
    · have d1 := Lib.hid (decide_eq_true p1)
      have d2 := Lib.hid (decide_eq_true p2)
      rw [hn] at p1 p2
      clear hn
      go_enter Try.func39, Try.ntmps39
      go_wp2_with fail
      refine (VR.out _).mono ?_
      rintro e w1 ⟨rfl, hb1⟩
      have B1 := Lib.hid (below_then B0.out hb1)
      clear hb1
      go_wp2_with fail
      go_ret
      exact ⟨by rw [d1.out, d2.out]; rfl, B1.out⟩
    · have d2 := Lib.hid (decide_eq_false p2)
      rw [hn] at p1 p2
      clear hn
      go_enter Try.func39, Try.ntmps39
      go_wp2_with fail
      go_ret
      exact ⟨by rw [d2.out]; simp, B0.out⟩
  · have d1 := Lib.hid (decide_eq_false p1)
    rw [hn] at p1
    clear hn
    go_enter Try.func39, Try.ntmps39
    go_wp2_with fail
    go_ret
    exact ⟨by rw [d1.out]; simp, B0.out⟩

set_option maxRecDepth 100000 in
/-- Len, Marks -/
theorem xLenW (b : Nat) (A : Option Addr) (n c : Nat) (vm : Value) (w : World) (hr : SetRow w b (.slice A n c) vm) :
    Calls Try.prog 13 #[PtrW b] w fun e w' => e = .returned (.int .i64 (n : Nat)) ∧ w' = w := by
  have d0 := RowAt.cell hr 0
  simp only [List.getElem?_cons_zero] at d0
  clear hr
  go_enter Try.func13, Try.ntmps13
  go_wp2_with fail
  go_ret
  exact ⟨rfl, rfl⟩
set_option maxRecDepth 100000 in
theorem xMarksW (b : Nat) (A : Option Addr) (n c : Nat) (v : Value) (w : World) (hr : SetRow w b v (.slice A n c)) :
    Calls Try.prog 14 #[PtrW b] w fun e w' => e = .returned (.int .i64 (n : Nat)) ∧ w' = w := by
  have d0 := RowAt.cell hr 1
  simp only [List.getElem?_cons_succ, List.getElem?_cons_zero] at d0
  clear hr
  go_enter Try.func14, Try.ntmps14
  go_wp2_with fail
  go_ret
  exact ⟨rfl, rfl⟩

set_option maxRecDepth 100000 in
set_option maxHeartbeats 4000000 in
/-- told, of no place -/
theorem xToldNo (b : Nat) (A : Option Addr) (n c : Nat) (vm : Value) (i : Nat) (w : World) (hr : SetRow w b (.slice A n c) vm) (q : ¬ i < n) :
    Calls Try.prog 29 #[PtrW b, .int .i64 (i : Nat)] w fun e w' => e = .returned (.tuple #[Wr.Z.v, .bool false]) ∧ Below w.heap.size w w' := by
  obtain ⟨B, hB⟩ : ∃ B, B = w.heap.size := ⟨_, rfl⟩
  have b0 : Below w.heap.size w (w.alloc (.cells Wr.Z.cs.toArray 42)) := (Below.refl _ _).alloc (Nat.le_refl _) _
  have R0 := RowAt.new w Wr.Z.cs 42
  have r1 : SetRow (w.alloc (.cells Wr.Z.cs.toArray 42)) b (.slice A n c) vm := RowAt.below hr b0
  rw [← hB] at R0 b0 ⊢
  obtain ⟨W1, hW1⟩ : ∃ W, W = w.alloc (.cells #[.string ⟨#[]⟩, .bool false, .bool false, .string ⟨#[]⟩, .int .u64 0] 42) := ⟨_, rfl⟩
  have LN : Calls Try.prog 13 #[PtrW b] W1 fun e w' => e = .returned (.int .i64 (n : Nat)) ∧ w' = W1 := by rw [hW1]; exact xLenW b A n c vm _ r1
  have R0 : RowAt (w.alloc (.cells #[.string ⟨#[]⟩, .bool false, .bool false, .string ⟨#[]⟩, .int .u64 0] 42)) B Wr.Z.cs 42 := R0
  have B0 : Below B w (w.alloc (.cells #[.string ⟨#[]⟩, .bool false, .bool false, .string ⟨#[]⟩, .int .u64 0] 42)) := b0
  rw [← hW1] at R0 B0
  have LN := Lib.hid LN
  have HW := Lib.hid hW1
  have HB := Lib.hid hB
  have F1 := Lib.hid (show Below B w (setW W1 B Wr.Z) from setW_below B0 (Nat.le_refl _))
  have F2 := Lib.hid (show RowAt (setW W1 B Wr.Z) B Wr.Z.cs _ from setW_row R0)
  have R1 := Lib.hid R0
  have i1 : (n : Int) ≤ (i : Int) := by omega
  clear hr hB b0 r1 R0 B0 hW1 q
  go_enter Try.func29, Try.ntmps29
  go_wp2_with fail
  rw [← HW.out, ← HB.out]
  refine LN.out.mono ?_
  rintro e w1 ⟨rfl, hw⟩
  obtain rfl : W1 = w1 := hw.symm
  obtain ⟨g0, g1, g2, g3, g4, e0, e1, e2, e3, e4⟩ := wrZ R1.out
  clear LN HW
  go_wp2_with fail
  refine bodyPost_ret (results_cell_tmp rfl _ (setW W1 B Wr.Z) B _ _ _ rfl F2.out Try.underlying42 rfl (by kernel_rfl)) rfl ?_
  exact ⟨rfl, F1.out⟩

set_option maxRecDepth 100000 in
set_option maxHeartbeats 4000000 in
/-- told -/
theorem xToldW (L : Wl) (b : Nat) (v vm : Value) (i : Nat) (w : World) (hr : SetRow w b v vm) (hn : NodeAtW w v L) (ho : OkWl L) :
    Calls Try.prog 29 #[PtrW b, .int .i64 (i : Nat)] w fun e w' => e = .returned (.tuple #[(L.atV i).v, .bool (decide (i < L.length))]) ∧ Below w.heap.size w w' := by
  obtain ⟨A, c, rfl, hs, _⟩ := hn.sl
  obtain ⟨n, hn2⟩ : ∃ n, n = L.length := ⟨_, rfl⟩
  rw [← hn2] at hr ⊢
  obtain ⟨B, hB⟩ : ∃ B, B = w.heap.size := ⟨_, rfl⟩
  have b0 : Below w.heap.size w (w.alloc (.cells Wr.Z.cs.toArray 42)) := (Below.refl _ _).alloc (Nat.le_refl _) _
  have R0 := RowAt.new w Wr.Z.cs 42
  have r1 : SetRow (w.alloc (.cells Wr.Z.cs.toArray 42)) b (.slice A n c) vm := RowAt.below hr b0
  have LN := Lib.hid (xLenW b A n c vm _ r1)
  have d0 := RowAt.cell r1 0
  simp only [List.getElem?_cons_zero] at d0
  have hs1 := hs.below b0
  rw [← hB] at R0 b0 ⊢
  have R0 := Lib.hid R0
  have B0 := Lib.hid b0
  have HB := Lib.hid hB
  by_cases q : i < n
  · obtain ⟨bb, o, rfl, hb, cc⟩ := hs1.at (j := i) (by omega)
    obtain ⟨k1, k2⟩ := ho.at (i := i) (by omega)
    rw [decide_eq_true q]
    unfold Wl.atV
    rw [← hn2, if_pos q]
    obtain ⟨x, hx⟩ : ∃ x, x = L.getD i Wr.Z := ⟨_, rfl⟩
    rw [← hx] at cc k1 k2 ⊢
    obtain ⟨c0, c1, c2, c3, c4⟩ := cc
    have FR := Lib.hid (fun w => xFreshW x w (by omega) (by omega))
    have LN : Hid (Calls Try.prog 13 #[PtrW b] (w.alloc (.cells #[.string ⟨#[]⟩, .bool false, .bool false, .string ⟨#[]⟩, .int .u64 0] 42)) _) := LN
    have c0 : (w.alloc (.cells #[.string ⟨#[]⟩, .bool false, .bool false, .string ⟨#[]⟩, .int .u64 0] 42)).cell? ⟨bb, o + i * 5, none⟩ = some (.string x.key) := c0
    have c1 : (w.alloc (.cells #[.string ⟨#[]⟩, .bool false, .bool false, .string ⟨#[]⟩, .int .u64 0] 42)).cell? ⟨bb, o + i * 5 + 1, none⟩ = some (.bool x.gone) := c1
    have c2 : (w.alloc (.cells #[.string ⟨#[]⟩, .bool false, .bool false, .string ⟨#[]⟩, .int .u64 0] 42)).cell? ⟨bb, o + i * 5 + 2, none⟩ = some (.bool x.val.num) := c2
    have c3 : (w.alloc (.cells #[.string ⟨#[]⟩, .bool false, .bool false, .string ⟨#[]⟩, .int .u64 0] 42)).cell? ⟨bb, o + i * 5 + 3, none⟩ = some (.string x.val.txt) := c3
    have c4 : (w.alloc (.cells #[.string ⟨#[]⟩, .bool false, .bool false, .string ⟨#[]⟩, .int .u64 0] 42)).cell? ⟨bb, o + i * 5 + 4, none⟩ = some (.int .u64 (x.val.bits : Int)) := c4
    have d0 : (w.alloc (.cells #[.string ⟨#[]⟩, .bool false, .bool false, .string ⟨#[]⟩, .int .u64 0] 42)).cell? ⟨b, 0, none⟩ = some (.slice (some ⟨bb, o, none⟩) n c) := d0
    have i0 : (0 : Int) ≤ (i : Int) := by omega
    have i1 : (i : Int) < (n : Int) := by omega
    clear hr hn ho hs hn2 hB b0 r1 hs1 hx hb k1 k2
    go_enter Try.func29, Try.ntmps29
    go_wp2_with fail
    refine LN.out.mono ?_
    rintro e w1 ⟨rfl, rfl⟩
    go_wp2_with fail
    rw [← HB.out]
    refine (FR.out _).mono ?_
    rintro e w1 ⟨rfl, hb1⟩
    have q0 := R0.out.below hb1
    have Q0 := Lib.hid q0
    have B1 := Lib.hid (show Below B w w1 from B0.out.trans (hb1.mono (by rw [HB.out]; exact B0.out.size)))
    obtain ⟨g0, g1, g2, g3, g4, e0, e1, e2, e3, e4⟩ := wrZ q0
    have F1 := Lib.hid (show Below B w (setW w1 B x) from setW_below B1.out (Nat.le_refl _))
    have F2 := Lib.hid (show RowAt (setW w1 B x) B x.cs _ from setW_row Q0.out)
    clear hb1 q0 c0 c1 c2 c3 c4 d0
    go_wp2_with fail
    refine bodyPost_ret (results_cell_tmp rfl _ (setW w1 B x) B _ _ _ rfl F2.out Try.underlying42 rfl (by kernel_rfl)) rfl ?_
    exact ⟨rfl, F1.out⟩
  · rw [decide_eq_false q]
    unfold Wl.atV
    rw [← hn2, if_neg q, hB]
    exact xToldNo b A n c vm i w hr q

end Go.Proofs.Ytnbkekbgedioeaa

namespace Go.Proofs.Ytnbkekbgedioeaa
open Go.RowKit

set_option maxRecDepth 100000 in
set_option maxHeartbeats 4000000 in
/-- Get -/
theorem xGetW (L : Wl) (b : Nat) (v vm : Value) (k : ByteArray) (w : World) (hr : SetRow w b v vm) (hn : NodeAtW w v L) (ho : OkWl L) :
    Calls Try.prog 15 #[PtrW b, .string k] w fun e w' => e = .returned (.tuple #[(L.getV k).v, .bool (L.has k)]) ∧ Below w.heap.size w w' := by
  obtain ⟨B, hB⟩ : ∃ B, B = w.heap.size := ⟨_, rfl⟩
  obtain ⟨W0, hW0⟩ : ∃ W, W = w.alloc (.cells #[.string ⟨#[]⟩, .bool false, .bool false, .string ⟨#[]⟩, .int .u64 0] 42) := ⟨_, rfl⟩
  have b0 : Below w.heap.size w W0 := by rw [hW0]; exact (Below.refl _ _).alloc (Nat.le_refl _) _
  have R0 : RowAt W0 w.heap.size Wr.Z.cs 42 := by rw [hW0]; exact RowAt.new w Wr.Z.cs 42
  have FN := Lib.hid (xFindW L b v vm k W0 (RowAt.below hr b0) (hn.below b0) ho)
  have TO := Lib.hid (fun W (hb : Below w.heap.size w W) => xToldW L b v vm (L.pos k) W (RowAt.below hr hb) (hn.below hb) ho)
  have HI := Lib.hid (Wl.has_iff L k)
  have EV := Lib.hid (show L.getV k = if L.has k then L.atV (L.pos k) else Wr.Z by
    unfold Wl.getV Wl.atV
    cases q : L.has k with
    | true => rw [if_pos rfl, if_pos rfl, if_pos ((Wl.has_iff L k).1 q).1]
    | false => rfl)
  obtain ⟨P, hP⟩ : ∃ P, P = L.pos k := ⟨_, rfl⟩
  obtain ⟨T, hT⟩ : ∃ T, T = L.has k := ⟨_, rfl⟩
  rw [EV.out]
  rw [← hP] at FN HI ⊢
  simp only [← hP] at TO
  rw [← hT] at FN HI ⊢
  obtain ⟨x, hx⟩ : ∃ x, x = L.atV P := ⟨_, rfl⟩
  simp only [← hx] at TO ⊢
  rw [← hB] at b0 R0 ⊢
  have B0 := Lib.hid b0
  have R0 := Lib.hid R0
  have HB := Lib.hid hB
  have HW := Lib.hid hW0
  clear hr hn ho b0 hB hW0 hP hT hx EV
  obtain ⟨kk, g, y⟩ := x
  obtain ⟨m, t, u⟩ := y
  go_enter Try.func15, Try.ntmps15
  go_wp2_with fail
  rw [← HW.out, ← HB.out]
  refine FN.out.mono ?_
  rintro e w1 ⟨rfl, hb1⟩
  have B1 := Lib.hid (show Below B w w1 from B0.out.trans (hb1.mono (by have := B0.out.size; have := HB.out; omega)))
  have R1 := Lib.hid (R0.out.below hb1)
  clear hb1 HW
  cases T with
  | false =>
    obtain ⟨g0, g1, g2, g3, g4, e0, e1, e2, e3, e4⟩ := wrZ R1.out
    have F1 := Lib.hid (show Below B w (setW w1 B Wr.Z) from setW_below B1.out (Nat.le_refl _))
    have F2 := Lib.hid (show RowAt (setW w1 B Wr.Z) B Wr.Z.cs _ from setW_row R1.out)
    clear TO FN HI
    go_wp2_with fail
    refine bodyPost_ret (results_cell_tmp rfl _ (setW w1 B Wr.Z) B _ _ _ rfl F2.out Try.underlying42 rfl (by kernel_rfl)) rfl ?_
    exact ⟨rfl, F1.out⟩
  | true =>
    have TT := TO.out w1 (by rw [← HB.out]; exact B1.out)
    rw [decide_eq_true (HI.out.1 rfl).1] at TT
    have TT := Lib.hid TT
    have TT : Hid (Calls Try.prog 29 #[PtrW b, .int .i64 (P : Int)] w1 fun e w' => e = .returned (.tuple #[.agg #[.string kk, .bool g, .bool m, .string t, .int .u64 (u : Int)], .bool true]) ∧ Below w1.heap.size w1 w') := TT
    clear TO FN HI
    go_wp2_with fail
    refine TT.out.mono ?_
    rintro e w2 ⟨rfl, hb2⟩
    have B2 := Lib.hid (show Below B w w2 from B1.out.trans (hb2.mono (by have := B1.out.size; have := HB.out; omega)))
    have R2 := Lib.hid (R1.out.below hb2)
    obtain ⟨g0, g1, g2, g3, g4, e0, e1, e2, e3, e4⟩ := wrZ R2.out
    have F1 := Lib.hid (show Below B w (setW w2 B ⟨kk, g, ⟨m, t, u⟩⟩) from setW_below B2.out (Nat.le_refl _))
    have F2 := Lib.hid (show RowAt (setW w2 B ⟨kk, g, ⟨m, t, u⟩⟩) B (Wr.cs ⟨kk, g, ⟨m, t, u⟩⟩) _ from setW_row R2.out)
    clear hb2 TT
    go_wp2_with fail
    refine bodyPost_ret (results_cell_tmp rfl _ (setW w2 B ⟨kk, g, ⟨m, t, u⟩⟩) B _ _ _ rfl F2.out Try.underlying42 rfl (by kernel_rfl)) rfl ?_
    exact ⟨rfl, F1.out⟩

set_option maxRecDepth 100000 in
set_option maxHeartbeats 4000000 in
/-- Seek -/
theorem xSeekW (L : Wl) (b : Nat) (v vm : Value) (k : ByteArray) (w : World) (hr : SetRow w b v vm) (hn : NodeAtW w v L) (ho : OkWl L) :
    Calls Try.prog 19 #[PtrW b, .string k] w fun e w' => e = .returned (.tuple #[(L.atV (L.frm k false)).v, .bool (decide (L.frm k false < L.length))]) ∧ Below w.heap.size w w' := by
  obtain ⟨B, hB⟩ : ∃ B, B = w.heap.size := ⟨_, rfl⟩
  obtain ⟨W0, hW0⟩ : ∃ W, W = w.alloc (.cells #[.string ⟨#[]⟩, .bool false, .bool false, .string ⟨#[]⟩, .int .u64 0] 42) := ⟨_, rfl⟩
  have b0 : Below w.heap.size w W0 := by rw [hW0]; exact (Below.refl _ _).alloc (Nat.le_refl _) _
  have R0 : RowAt W0 w.heap.size Wr.Z.cs 42 := by rw [hW0]; exact RowAt.new w Wr.Z.cs 42
  have FN := Lib.hid (xFindW L b v vm k W0 (RowAt.below hr b0) (hn.below b0) ho)
  have TO := Lib.hid (fun W (hb : Below w.heap.size w W) => xToldW L b v vm (L.pos k) W (RowAt.below hr hb) (hn.below hb) ho)
  rw [show L.frm k false = L.pos k from rfl]
  obtain ⟨P, hP⟩ : ∃ P, P = L.pos k := ⟨_, rfl⟩
  obtain ⟨T, hT⟩ : ∃ T, T = L.has k := ⟨_, rfl⟩
  rw [← hP] at FN ⊢
  simp only [← hP] at TO
  rw [← hT] at FN
  obtain ⟨x, hx⟩ : ∃ x, x = L.atV P := ⟨_, rfl⟩
  obtain ⟨Q, hQ⟩ : ∃ Q, Q = decide (P < L.length) := ⟨_, rfl⟩
  simp only [← hx, ← hQ] at TO ⊢
  rw [← hB] at b0 R0 ⊢
  have B0 := Lib.hid b0
  have R0 := Lib.hid R0
  have HB := Lib.hid hB
  have HW := Lib.hid hW0
  clear hr hn ho b0 hB hW0 hP hT hx hQ
  obtain ⟨kk, g, y⟩ := x
  obtain ⟨m, t, u⟩ := y
  go_enter Try.func19, Try.ntmps19
  go_wp2_with fail
  rw [← HW.out, ← HB.out]
  refine FN.out.mono ?_
  rintro e w1 ⟨rfl, hb1⟩
  have B1 := Lib.hid (show Below B w w1 from B0.out.trans (hb1.mono (by have := B0.out.size; have := HB.out; omega)))
  have R1 := Lib.hid (R0.out.below hb1)
  clear hb1 HW
  have TT := Lib.hid (TO.out w1 (by rw [← HB.out]; exact B1.out))
  have TT : Hid (Calls Try.prog 29 #[PtrW b, .int .i64 (P : Int)] w1 fun e w' => e = .returned (.tuple #[.agg #[.string kk, .bool g, .bool m, .string t, .int .u64 (u : Int)], .bool Q]) ∧ Below w1.heap.size w1 w') := TT
  clear TO FN
  go_wp2_with fail
  refine TT.out.mono ?_
  rintro e w2 ⟨rfl, hb2⟩
  have B2 := Lib.hid (show Below B w w2 from B1.out.trans (hb2.mono (by have := B1.out.size; have := HB.out; omega)))
  have R2 := Lib.hid (R1.out.below hb2)
  obtain ⟨g0, g1, g2, g3, g4, e0, e1, e2, e3, e4⟩ := wrZ R2.out
  have F1 := Lib.hid (show Below B w (setW w2 B ⟨kk, g, ⟨m, t, u⟩⟩) from setW_below B2.out (Nat.le_refl _))
  have F2 := Lib.hid (show RowAt (setW w2 B ⟨kk, g, ⟨m, t, u⟩⟩) B (Wr.cs ⟨kk, g, ⟨m, t, u⟩⟩) _ from setW_row R2.out)
  clear hb2 TT
  go_wp2_with fail
  refine bodyPost_ret (results_cell_tmp rfl _ (setW w2 B ⟨kk, g, ⟨m, t, u⟩⟩) B _ _ _ rfl F2.out Try.underlying42 rfl (by kernel_rfl)) rfl ?_
  exact ⟨rfl, F1.out⟩
set_option maxRecDepth 100000 in
set_option maxHeartbeats 4000000 in
/-- After -/
theorem xAfterW (L : Wl) (b : Nat) (v vm : Value) (k : ByteArray) (w : World) (hr : SetRow w b v vm) (hn : NodeAtW w v L) (ho : OkWl L) :
    Calls Try.prog 17 #[PtrW b, .string k] w fun e w' => e = .returned (.tuple #[(L.atV (L.frm k true)).v, .bool (decide (L.frm k true < L.length))]) ∧ Below w.heap.size w w' := by
  obtain ⟨B, hB⟩ : ∃ B, B = w.heap.size := ⟨_, rfl⟩
  obtain ⟨W0, hW0⟩ : ∃ W, W = w.alloc (.cells #[.string ⟨#[]⟩, .bool false, .bool false, .string ⟨#[]⟩, .int .u64 0] 42) := ⟨_, rfl⟩
  have b0 : Below w.heap.size w W0 := by rw [hW0]; exact (Below.refl _ _).alloc (Nat.le_refl _) _
  have R0 : RowAt W0 w.heap.size Wr.Z.cs 42 := by rw [hW0]; exact RowAt.new w Wr.Z.cs 42
  have FN := Lib.hid (xFindW L b v vm k W0 (RowAt.below hr b0) (hn.below b0) ho)
  have TO := Lib.hid (fun W (hb : Below w.heap.size w W) => xToldW L b v vm (L.aft k) W (RowAt.below hr hb) (hn.below hb) ho)
  rw [show L.frm k true = L.aft k from rfl]
  have EA : L.aft k = if L.has k then L.pos k + 1 else L.pos k := rfl
  have PL := Wl.pos_le L k
  have OL := ho.len
  obtain ⟨P, hP⟩ : ∃ P, P = L.pos k := ⟨_, rfl⟩
  obtain ⟨T, hT⟩ : ∃ T, T = L.has k := ⟨_, rfl⟩
  obtain ⟨F, hF⟩ : ∃ F, F = L.aft k := ⟨_, rfl⟩
  rw [← hP] at FN EA PL
  rw [← hT] at FN EA
  rw [← hF] at EA ⊢
  simp only [← hF] at TO
  obtain ⟨x, hx⟩ : ∃ x, x = L.atV F := ⟨_, rfl⟩
  obtain ⟨Q, hQ⟩ : ∃ Q, Q = decide (F < L.length) := ⟨_, rfl⟩
  simp only [← hx, ← hQ] at TO ⊢
  have P1 : P ≤ 16 := by omega
  clear hF PL OL
  rw [← hB] at b0 R0 ⊢
  have B0 := Lib.hid b0
  have R0 := Lib.hid R0
  have HB := Lib.hid hB
  have HW := Lib.hid hW0
  clear hr hn ho b0 hB hW0 hP hT hx hQ
  obtain ⟨kk, g, y⟩ := x
  obtain ⟨m, t, u⟩ := y
  go_enter Try.func17, Try.ntmps17
  go_wp2_with fail
  rw [← HW.out, ← HB.out]
  refine FN.out.mono ?_
  rintro e w1 ⟨rfl, hb1⟩
  have B1 := Lib.hid (show Below B w w1 from B0.out.trans (hb1.mono (by have := B0.out.size; have := HB.out; omega)))
  have R1 := Lib.hid (R0.out.below hb1)
  clear hb1 HW
  have TT := Lib.hid (TO.out w1 (by rw [← HB.out]; exact B1.out))
  have TT : Hid (Calls Try.prog 29 #[PtrW b, .int .i64 (F : Int)] w1 fun e w' => e = .returned (.tuple #[.agg #[.string kk, .bool g, .bool m, .string t, .int .u64 (u : Int)], .bool Q]) ∧ Below w1.heap.size w1 w') := TT
  clear TO FN
  cases T with
  | false =>
    rw [if_neg (by simp)] at EA
    subst EA
    go_wp2_with fail
    refine TT.out.mono ?_
    rintro e w2 ⟨rfl, hb2⟩
    have B2 := Lib.hid (show Below B w w2 from B1.out.trans (hb2.mono (by have := B1.out.size; have := HB.out; omega)))
    have R2 := Lib.hid (R1.out.below hb2)
    obtain ⟨g0, g1, g2, g3, g4, e0, e1, e2, e3, e4⟩ := wrZ R2.out
    have F1 := Lib.hid (show Below B w (setW w2 B ⟨kk, g, ⟨m, t, u⟩⟩) from setW_below B2.out (Nat.le_refl _))
    have F2 := Lib.hid (show RowAt (setW w2 B ⟨kk, g, ⟨m, t, u⟩⟩) B (Wr.cs ⟨kk, g, ⟨m, t, u⟩⟩) _ from setW_row R2.out)
    clear hb2 TT
    go_wp2_with fail
    refine bodyPost_ret (results_cell_tmp rfl _ (setW w2 B ⟨kk, g, ⟨m, t, u⟩⟩) B _ _ _ rfl F2.out Try.underlying42 rfl (by kernel_rfl)) rfl ?_
    exact ⟨rfl, F1.out⟩
  | true =>
    rw [if_pos rfl] at EA
    rw [show (F : Int) = (P : Int) + 1 by omega] at TT
    clear EA
    go_wp2_with fail
    refine TT.out.mono ?_
    rintro e w2 ⟨rfl, hb2⟩
    have B2 := Lib.hid (show Below B w w2 from B1.out.trans (hb2.mono (by have := B1.out.size; have := HB.out; omega)))
    have R2 := Lib.hid (R1.out.below hb2)
    obtain ⟨g0, g1, g2, g3, g4, e0, e1, e2, e3, e4⟩ := wrZ R2.out
    have F1 := Lib.hid (show Below B w (setW w2 B ⟨kk, g, ⟨m, t, u⟩⟩) from setW_below B2.out (Nat.le_refl _))
    have F2 := Lib.hid (show RowAt (setW w2 B ⟨kk, g, ⟨m, t, u⟩⟩) B (Wr.cs ⟨kk, g, ⟨m, t, u⟩⟩) _ from setW_row R2.out)
    clear hb2 TT
    go_wp2_with fail
    refine bodyPost_ret (results_cell_tmp rfl _ (setW w2 B ⟨kk, g, ⟨m, t, u⟩⟩) B _ _ _ rfl F2.out Try.underlying42 rfl (by kernel_rfl)) rfl ?_
    exact ⟨rfl, F1.out⟩

end Go.Proofs.Ytnbkekbgedioeaa
