/- Proved parts: S7gg E5wr. Conditions: each theorem's own. -/
import Derived.Test.YtfodclafkdkjbaaDoorM31
import Derived.Test.YtfodclafkdkjbaaDoorM32
import Derived.Test.YtfodclafkdkjbaaDoorM30
import Derived.Test.YtfodclafkdkjbaaDoorM6
namespace Go.Proofs.YtfodclafkdkjbaaDoor
open Go.RowKit

/-- a piece: a stamp and data; of no sector it is zero -/
structure Pc where
  st : Stp
  d : ByteArray
def pcL (p : Pc) : List Value := [.int .i64 p.st.gen, .int .i64 p.st.index, .int .i64 p.st.life, .int .i64 p.st.part, .int .i64 p.st.parts, .string p.d]
theorem pcL_len (p : Pc) : (pcL p).length = 6 := rfl
def pc0 : Pc := ⟨Stp.S0, ⟨#[]⟩⟩
def pcOf (s : ByteArray) : Pc := if isSec s then ⟨stp s, dat s⟩ else pc0
theorem pcOf_yes {s : ByteArray} (h : isSec s = true) : pcOf s = ⟨stp s, dat s⟩ := by unfold pcOf; rw [if_pos h]
theorem pcOf_no {s : ByteArray} (h : isSec s = false) : pcOf s = pc0 := by unfold pcOf; rw [h]; rfl
/-- the pieces of the first k sectors, zero ones behind -/
def pcsTo (c : Cont) (S k : Nat) : List Pc := (List.range S).map fun i => if i < k then pcOf (c i) else pc0
def pcs (c : Cont) (S : Nat) : List Pc := pcsTo c S S
theorem pcsTo_len (c : Cont) (S k : Nat) : (pcsTo c S k).length = S := by unfold pcsTo; simp
theorem pcsTo_get (c : Cont) (S k i : Nat) (h : i < (pcsTo c S k).length) : (pcsTo c S k)[i] = if i < k then pcOf (c i) else pc0 := by
  simp [pcsTo]
theorem pcsTo_zero (c : Cont) (S : Nat) : pcsTo c S 0 = List.replicate S pc0 := by
  apply List.ext_getElem
  · rw [pcsTo_len, List.length_replicate]
  · intro i h1 h2
    rw [pcsTo_get, if_neg (by omega), List.getElem_replicate]
theorem pcsTo_set (c : Cont) (S k : Nat) : (pcsTo c S k).set k (pcOf (c k)) = pcsTo c S (k + 1) := by
  apply List.ext_getElem
  · rw [List.length_set, pcsTo_len, pcsTo_len]
  · intro i h1 h2
    rw [List.getElem_set]
    by_cases q : k = i
    · subst q; rw [if_pos rfl, pcsTo_get, if_pos (by omega)]
    · rw [if_neg q, pcsTo_get, pcsTo_get]
      by_cases q2 : i < k
      · rw [if_pos q2, if_pos (by omega)]
      · rw [if_neg q2, if_neg (by omega)]
theorem pcs_get (c : Cont) (S i : Nat) (h : i < S) : (pcs c S)[i]'(by unfold pcs; rw [pcsTo_len]; exact h) = pcOf (c i) := by
  unfold pcs; rw [pcsTo_get, if_pos h]
theorem pcs_len (c : Cont) (S : Nat) : (pcs c S).length = S := pcsTo_len c S S
/-- a row of pieces -/
def PcRow (w : World) (g : Nat) (l : List Pc) : Prop := RowAt w g (l.flatMap pcL) 117
section
variable {w w' : World} {g : Nat} {l : List Pc}
theorem PcRow.cell (h : PcRow w g l) {i j : Nat} (hi : i < l.length) (hj : j < 6) : w.cell? ⟨g, i * 6 + j, none⟩ = (pcL l[i])[j]? := by
  rw [RowAt.cell h, flat_at pcL_len l i j hi hj]
theorem PcRow.frozen (h : PcRow w g l) (i : Nat) : w.frozen? ⟨g, i, none⟩ = false := RowAt.frozen h i
theorem PcRow.below (h : PcRow w g l) (hb : Below w.heap.size w w') : PcRow w' g l := RowAt.below h hb
theorem PcRow.lt (h : PcRow w g l) : g < w.heap.size := RowAt.lt h
/-- a piece is written -/
theorem PcRow.set (h : PcRow w g l) {k : Nat} (hk : k < l.length) (y : Pc) : PcRow (w.setCells g (k * 6) (pcL y)) g (l.set k y) := by
  have q := RowAt.setCells (pcL y) (k * 6) (l.flatMap pcL) w h (by rw [flat_len pcL_len, pcL_len]; omega)
  rw [flat_seg pcL_len y l k hk] at q
  exact q
end
theorem infoPc : (Tryd.prog.info? 117).map (fun i => (i.zero, i.size, i.bytes)) = some (some (.agg (pcL pc0).toArray), 6, 56) := by kernel_rfl
theorem made_pcs (n : Nat) : madeCells (pcL pc0).toArray (n * 6) = ((List.replicate n pc0).flatMap pcL).toArray := by
  apply Array.ext
  · rw [size_madeCells]; simp only [List.size_toArray]; rw [flat_len pcL_len]; simp
  intro i h1 h2
  rw [size_madeCells] at h1
  have e : i = i / 6 * 6 + i % 6 := by omega
  have hi : i / 6 < (List.replicate n pc0).length := by rw [List.length_replicate]; omega
  have h3 := flat_at pcL_len (List.replicate n pc0) (i / 6) (i % 6) hi (Nat.mod_lt _ (by omega))
  rw [← e, List.getElem_replicate] at h3
  have h5 : (madeCells (pcL pc0).toArray (n * 6))[i]'(by rw [size_madeCells]; exact h1) = (pcL pc0).toArray[i % 6]! := by
    unfold madeCells; simp [pcL_len]
  rw [h5]
  have h7 : (((List.replicate n pc0).flatMap pcL).toArray)[i]'h2 = ((List.replicate n pc0).flatMap pcL)[i]'(by simpa using h2) := by simp
  have h8 : i % 6 < (pcL pc0).length := by rw [pcL_len]; exact Nat.mod_lt _ (by omega)
  rw [h7]
  rw [List.getElem?_eq_getElem (by simpa using h2), List.getElem?_eq_getElem h8] at h3
  rw [Option.some.inj h3]
  simp [h8]
/-- make([]piece, n) -/
theorem make_pcs (n : Nat) (hn : n ≤ 1000) (W : World) : (Instr.makeSlice 91 (.int .i64 (n : Int)) (.int .i64 (n : Int))).run Tryd.prog W = .ok (.slice (some ⟨W.heap.size, 0, none⟩) n n) (W.alloc (.cells ((List.replicate n pc0).flatMap pcL).toArray 117)) := by
  obtain ⟨i0, hi, hz0, hz1, hz2⟩ := info_parts infoPc
  have h := run_make (P := Tryd.prog) W 91 117 i0 _ Tryd.underlying91 hi hz0 .i64 .i64 (n : Int) (n : Int) (by omega) (by omega) (by rw [hz2]; omega) (by omega)
  rw [hz1, show (Value.agg (pcL pc0).toArray).cells = (pcL pc0).toArray from rfl] at h
  rw [← made_pcs n]
  simpa using h

/-- what unpack answers -/
theorem unpack_pc (s : ByteArray) (hs : s.size ≤ 64) (w : World) : Calls Tryd.prog 56 #[.string s] w fun e w' => (∃ n, e = .returned (.tuple #[.agg #[.int .i64 (pcOf s).st.gen, .int .i64 (pcOf s).st.index, .int .i64 (pcOf s).st.life, .int .i64 (pcOf s).st.part, .int .i64 (pcOf s).st.parts], .string (pcOf s).d, .int .i64 n])) ∧ Below w.heap.size w w' := by
  refine (theX.unpack s w (by omega)).mono ?_
  rintro e w' ⟨rfl, hb⟩
  refine ⟨⟨if isSec s then 0 else 4, ?_⟩, hb⟩
  cases h : isSec s with
  | true => rw [pcOf_yes h]; rfl
  | false => rw [pcOf_no h]; rfl

set_option maxRecDepth 100000 in
set_option maxHeartbeats 1000000 in
/-- piecesOf -/
theorem qPieces (b e : Nat) (F : Nat → Prop) (m : Ext) (w : World) (h : RelX w b F m) (hoff : m.off = false) (he : e < m.ext) :
    Calls Tryd.prog 42 #[.pointer (some ⟨b, 0, none⟩), .int .i64 (e : Int)] w fun x w' => ∃ g, x = .returned (.slice (some ⟨g, 0, none⟩) m.sec m.sec) ∧ PcRow w' g (pcs (nowC m e) m.sec) ∧ w.heap.size ≤ g ∧ Below w.heap.size w w' := by
  have ok := RelX.ok h
  obtain ⟨S, hS⟩ : ∃ S, S = m.sec := ⟨_, rfl⟩
  have S1 : S ≤ 128 := by rw [hS]; exact ok.2.2.2.1
  obtain ⟨c, hc⟩ : ∃ c, c = nowC m e := ⟨_, rfl⟩
  have SM : ∀ i, (c i).size ≤ 64 := fun i => by rw [hc]; exact (RelX.small h _).2
  have RD := Lib.hid (show ∀ (i : Nat) (w1 : World), i < S → Below w.heap.size w w1 → Calls Tryd.prog 17 #[.pointer (some ⟨b, 0, none⟩), .int .i64 (e : Int), .int .i64 (i : Int)] w1 fun x w' => x = .returned (.tuple #[.string (c i), .int .i64 0]) ∧ Below w1.heap.size w1 w' from fun i w1 hi hb => by
    have k := xReadB b F m (e : Int) (i : Int) w1 (RelX.keep h (fun j hj => hb.block j (RelX.lt h hj)) hb.size)
    rw [show m.read (e : Int) (i : Int) = (c i, 0) by unfold Ext.read; rw [hoff, if_neg (by decide), if_pos (Ext.has_of he (by omega)), hc]; rfl] at k
    exact k)
  have UN := Lib.hid (fun i w => unpack_pc (c i) (SM i) w)
  have SE := Lib.hid (qSectors b S w (by rw [hS]; exact RelX.cSec h))
  have MK := make_pcs S (by omega)
  rw [← hS, ← hc]
  clear hS hc h ok hoff he SM
  go_enter Tryd.func42, Tryd.ntmps42
  go_wp2_with fail
  refine SE.out.mono ?_
  rintro x w1 ⟨rfl, rfl⟩
  go_wp2_with fail
  have R0 := Lib.hid (show PcRow (w1.alloc (.cells ((List.replicate S pc0).flatMap pcL).toArray 117)) w1.heap.size (pcsTo c S 0) by rw [pcsTo_zero]; exact RowAt.new w1 _ _)
  have B0 := Lib.hid (show Below w1.heap.size w1 (w1.alloc (.cells ((List.replicate S pc0).flatMap pcL).toArray 117)) from (Below.refl _ w1).alloc (Nat.le_refl _) _)
  clear MK
  obtain ⟨g, hg⟩ : ∃ g, g = w1.heap.size := ⟨_, rfl⟩
  have HG := Lib.hid hg
  rw [← hg] at R0 ⊢
  generalize w1.alloc (.cells ((List.replicate S pc0).flatMap pcL).toArray 117) = w2 at R0 B0 ⊢
  clear hg
  go_loopw [14] (fun v wr => ∃ k : Nat, k ≤ S ∧ v = .int .i64 k ∧ Hid (PcRow wr g (pcsTo c S k)) ∧ Hid (Below w1.heap.size w1 wr)) (fun v _ => S - (Go.RowKit.intOf v).toNat)
  case atStart => exact ⟨0, Nat.zero_le _, rfl, R0, B0⟩
  case round =>
    obtain ⟨k, hk, rfl, HR, HB⟩ := hrel
    by_cases hlt : k < S
    · have RK := Lib.hid (RD.out k wr hlt HB.out)
      go_wp2_with fail
      refine RK.out.mono ?_
      rintro y w3 ⟨rfl, hb3⟩
      have R3 := Lib.hid (HR.out.below hb3)
      have B3 := Lib.hid (below_then HB.out hb3)
      clear hb3
      go_wp2_with fail
      refine (UN.out k _).mono ?_
      rintro y w4 ⟨⟨n, rfl⟩, hb4⟩
      have r4 := R3.out.below hb4
      have kl : k < (pcsTo c S k).length := by rw [pcsTo_len]; exact hlt
      have z : (pcsTo c S k)[k] = pc0 := by rw [pcsTo_get, if_neg (by omega)]
      have c0 := r4.cell (j := 0) kl (by omega)
      have c1 := r4.cell (j := 1) kl (by omega)
      have c2 := r4.cell (j := 2) kl (by omega)
      have c3 := r4.cell (j := 3) kl (by omega)
      have c4 := r4.cell (j := 4) kl (by omega)
      have c5 := r4.cell (j := 5) kl (by omega)
      rw [z] at c0 c1 c2 c3 c4 c5
      simp only [pcL, List.getElem?_cons_succ, List.getElem?_cons_zero, Nat.add_zero] at c0 c1 c2 c3 c4 c5
      have f0 := r4.frozen (k * 6)
      have f1 := r4.frozen (k * 6 + 1)
      have f2 := r4.frozen (k * 6 + 2)
      have f3 := r4.frozen (k * 6 + 3)
      have f4 := r4.frozen (k * 6 + 4)
      have f5 := r4.frozen (k * 6 + 5)
      obtain ⟨y, hy⟩ : ∃ y, y = pcOf (c k) := ⟨_, rfl⟩
      have R4 := Lib.hid (show PcRow (w4.setCells g (k * 6) (pcL y)) g (pcsTo c S (k + 1)) by
        have q := r4.set kl y
        rw [hy, pcsTo_set, ← hy] at q
        exact q)
      have B4 := Lib.hid (below_then B3.out hb4)
      rw [← hy]
      clear hb4 r4 z kl hy
      have g1 : w1.heap.size ≤ g := by rw [HG.out]; exact Nat.le_refl _
      have B5 := B4.out.setCell (p := ⟨g, k * 6, none⟩) g1 (.int .i64 y.st.gen)
      have B6 := B5.setCell (p := ⟨g, k * 6 + 1, none⟩) g1 (.int .i64 y.st.index)
      have B7 := B6.setCell (p := ⟨g, k * 6 + 2, none⟩) g1 (.int .i64 y.st.life)
      have B8 := B7.setCell (p := ⟨g, k * 6 + 3, none⟩) g1 (.int .i64 y.st.part)
      have B9 := B8.setCell (p := ⟨g, k * 6 + 4, none⟩) g1 (.int .i64 y.st.parts)
      have BA := Lib.hid (B9.setCell (p := ⟨g, k * 6 + 5, none⟩) g1 (.string y.d))
      clear B5 B6 B7 B8 B9 g1
      go_wp2_with fail
      go_roundw
      case rel => exact ⟨k + 1, by omega, by go_num, R4, BA⟩
      case measure => simp [Go.RowKit.intOf]; omega
    · obtain rfl : k = S := by omega
      go_wp2_with fail
      go_ret
      exact ⟨g, rfl, HR.out, by rw [HG.out]; exact Nat.le_refl _, HB.out⟩

end Go.Proofs.YtfodclafkdkjbaaDoor

namespace Go.Proofs.YtfodclafkdkjbaaDoor
open Go.RowKit Go.Maps

set_option maxRecDepth 100000 in
set_option maxHeartbeats 2000000 in
/-- Write: what it answers, where nothing is done -/
theorem xWriteNo (b : Nat) (F : Nat → Prop) (m : Ext) (e a : Int) (s : ByteArray) (w : World) (h : RelX w b F m) (hz : s.size ≤ 9223372036854775807) (r : Int) (hr0 : r ≠ 0) (he : m.write e a s = (m, r)) :
    Calls Tryd.prog 62 #[.pointer (some ⟨b, 0, none⟩), .int .i64 e, .int .i64 a, .string s] w fun x w' => x = .returned (.int .i64 (m.write e a s).2) ∧ LeftE RelX b F w (m.write e a s).1 w' := by
  rw [he]
  refine Calls.mono (R := fun x w' => x = .returned (.int .i64 r) ∧ Below w.heap.size w w') ?_ fun x w' hq => ⟨hq.1, h.left_below hq.2⟩
  obtain ⟨g, cap, ds, ms, Ds, hr, hb', hg, hd, hF⟩ := h
  clear hb' hg hd hF
  have c0 := hr.on
  have c1 := hr.sec
  have c2 := hr.ext
  obtain ⟨x0, h0⟩ : ∃ x0 : Int, x0 = (if (!m.off) = true then 0 else 6) := ⟨_, rfl⟩
  obtain ⟨x1, h1⟩ : ∃ x1 : Int, x1 = (if 0 ≤ e ∧ e < m.ext ∧ 0 ≤ a ∧ a < m.sec then 0 else 1) := ⟨_, rfl⟩
  obtain ⟨x2, h2⟩ : ∃ x2 : Int, x2 = (if 64 < s.size then 5 else 0) := ⟨_, rfl⟩
  have OR := Lib.hid (show (if x0 = 0 then if x1 = 0 then x2 else x1 else x0) = r by
    unfold Ext.write at he
    rw [h0, h1, h2]
    cases ho : m.off with
    | true => rw [ho, if_pos rfl] at he; simp at he; simp; exact he
    | false =>
      rw [ho, if_neg (by decide)] at he
      simp only [Bool.not_false, if_true]
      by_cases k : m.has e a
      · have k' : 0 ≤ e ∧ e < m.ext ∧ 0 ≤ a ∧ a < m.sec := k
        rw [if_pos k] at he
        rw [if_pos k', if_pos rfl]
        by_cases k2 : 64 < s.size
        · rw [if_pos k2] at he ⊢; simp at he; exact he
        · rw [if_neg k2] at he; simp at he; exact absurd he.2.symm hr0
      · have k' : ¬ (0 ≤ e ∧ e < m.ext ∧ 0 ≤ a ∧ a < m.sec) := k
        rw [if_neg k] at he
        rw [if_neg k']; simp at he; simp; exact he)
  have C1 := Lib.hid (xPow b (!m.off) w c0)
  have C2 := Lib.hid (xHas b e a m.ext m.sec cap (some ⟨g, 0, none⟩) w c1 c2)
  have C3 := Lib.hid (xFits s w hz)
  rw [← h0] at C1
  rw [← h1] at C2
  rw [← h2] at C3
  clear h0 h1 h2 hr he c0 c1 c2 hz
  have HB := Lib.hid (Below.refl w.heap.size w)
  have hrb : (r == 0) = false := beq_eq_false_iff_ne.2 hr0
  have hrb2 : (r != 0) = true := by simp [bne, hrb]
  clear hr0
  go_enter Tryd.func62, Tryd.ntmps62
  go_wp2_with fail
  refine C1.out.mono ?_
  rintro x w' ⟨rfl, rfl⟩
  go_wp2_with fail
  refine C2.out.mono ?_
  rintro x w' ⟨rfl, rfl⟩
  go_wp2_with fail
  refine C3.out.mono ?_
  rintro x w' ⟨rfl, rfl⟩
  go_wp2_with fail
  refine (xOr3 x0 x1 x2 r OR.out _ _ _ (World.cell?_alloc_at _ _ _ _ rfl) (World.cell?_alloc_at _ _ _ _ rfl) (World.cell?_alloc_at _ _ _ _ rfl)).mono ?_
  rintro x w3 ⟨rfl, rfl⟩
  go_wp2_with fail
  go_ret
  exact ⟨rfl, HB.out.alloc (Nat.le_refl _) _⟩

set_option maxRecDepth 100000 in
set_option maxHeartbeats 2000000 in
/-- Write, where it is done -/
theorem xWriteYes (b : Nat) (F : Nat → Prop) (m : Ext) (e a : Nat) (s : ByteArray) (w : World) (h : RelX w b F m) (hz : s.size ≤ 64) (ho : m.off = false) (he : e < m.ext) (ha : a < m.sec) :
    Calls Tryd.prog 62 #[.pointer (some ⟨b, 0, none⟩), .int .i64 e, .int .i64 a, .string s] w fun x w' => x = .returned (.int .i64 0) ∧ LeftE RelX b F w (m.put (e * m.sec + a) ⟨(m.secAt (e * m.sec + a)).dry, s, true⟩) w' := by
  have HH := Lib.hid h
  obtain ⟨g, cap, ds, ms, Ds, hr, hb', hg, hd, hF⟩ := h
  have c0 := hr.on
  have c1 := hr.sec
  have c2 := hr.ext
  rw [ho] at c0
  have HR := Lib.hid hr
  have HH := Lib.hid (has_of he ha)
  have i0 : (0 : Int) ≤ (e : Int) := by omega
  have i1 : (e : Int) < (m.ext : Int) := by omega
  have j0 : (0 : Int) ≤ (a : Int) := by omega
  have j1 : (a : Int) < (m.sec : Int) := by omega
  have C1 := Lib.hid (xPow b true w c0)
  have C2 := Lib.hid (xHasYes b m e a cap (some ⟨g, 0, none⟩) w (has_of he ha) c1 c2)
  have C3 := Lib.hid (xFits s w (by omega))
  rw [if_neg (by omega)] at C3
  have HO := Lib.hid ho
  have HZ := Lib.hid hz
  have HB := Lib.hid hb'
  have HG := Lib.hid hg
  have HD := Lib.hid hd
  have HF := Lib.hid hF
  clear hr ho hz c0 c1 c2 hb' hg hd hF
  go_enter Tryd.func62, Tryd.ntmps62
  go_wp2_with fail
  refine C1.out.mono ?_
  rintro x w' ⟨rfl, rfl⟩
  go_wp2_with fail
  refine C2.out.mono ?_
  rintro x w' ⟨rfl, rfl⟩
  go_wp2_with fail
  refine C3.out.mono ?_
  rintro x w' ⟨rfl, rfl⟩
  go_wp2_with fail
  refine (xOr3 0 0 0 0 rfl _ _ _ (World.cell?_alloc_at _ _ _ _ rfl) (World.cell?_alloc_at _ _ _ _ rfl) (World.cell?_alloc_at _ _ _ _ rfl)).mono ?_
  rintro x w3 ⟨rfl, rfl⟩
  obtain ⟨W, hW⟩ : ∃ W, W = w'.alloc (.cells #[.int .i64 0, .int .i64 0, .int .i64 0] 25) := ⟨_, rfl⟩
  rw [← hW]
  have B := Lib.hid (show Below w'.heap.size w' W by rw [hW]; exact (Below.refl _ _).alloc (Nat.le_refl _) _)
  have HR2 := Lib.hid (HR.out.below B.out)
  have CC := Lib.hid (show W.cell? ⟨b, 2, none⟩ = some (.slice (some ⟨g, 0, none⟩) m.ext cap) ∧ W.cell? ⟨g, e * 2 + 1, none⟩ = some (.map (some (ms e))) from ⟨HR2.out.ext, HR2.out.mc e he⟩)
  clear hW HR
  go_wp2_with fail
  refine wp_region_held_drew (S := fun v => v.cell? ⟨b, 2, none⟩ = some (.slice (some ⟨g, 0, none⟩) m.ext cap) ∧ v.cell? ⟨g, e * 2 + 1, none⟩ = some (.map (some (ms e)))) (by kernel_rfl) CC.out (fun hHeld => ?_)
  refine rgnTake 0 rfl (by kernel_rfl) (by kernel_rfl) (by kernel_rfl) (fun _ _ _ h => h) (by rfl) (v := ?v0) ?hy0 hHeld ?rest0
  case hy0 => (intro v hSw; obtain ⟨y0, y1⟩ := hSw; first | (go_simp; done) | (go_simp; with_reducible rfl))
  try simp only [Act.put, List.setIfInBounds_toArray, List.set_cons_zero, List.set_cons_succ]
  refine rgnTake 1 rfl (by kernel_rfl) (by kernel_rfl) (by kernel_rfl) (fun _ _ _ h => h) (by rfl) (v := ?v1) ?hy1 hHeld ?rest1
  case hy1 => (intro v hSw; obtain ⟨y0, y1⟩ := hSw; first | (go_simp; done) | (go_simp; with_reducible rfl))
  try simp only [Act.put, List.setIfInBounds_toArray, List.set_cons_zero, List.set_cons_succ]
  refine rgnTake 2 rfl (by kernel_rfl) (by kernel_rfl) (by kernel_rfl) (fun _ _ _ h => h) (by rfl) (v := ?v2) ?hy2 hHeld ?rest2
  case hy2 => (intro v hSw; obtain ⟨y0, y1⟩ := hSw; first | (go_simp; done) | (go_simp; with_reducible rfl))
  try simp only [Act.put, List.setIfInBounds_toArray, List.set_cons_zero, List.set_cons_succ]
  refine rgnTake 3 rfl (by kernel_rfl) (by kernel_rfl) (by kernel_rfl) (fun _ _ _ h => h) (by rfl) (v := ?v3) ?hy3 hHeld ?rest3
  case hy3 => (intro v hSw; obtain ⟨y0, y1⟩ := hSw; first | (go_simp; done) | (go_simp; with_reducible rfl))
  try simp only [Act.put, List.setIfInBounds_toArray, List.set_cons_zero, List.set_cons_succ]
  refine rgnTake 4 rfl (by kernel_rfl) (by kernel_rfl) (by kernel_rfl) (fun _ _ _ h => h) (by rfl) (v := ?v4) ?hy4 hHeld ?rest4
  case hy4 => (intro v hSw; obtain ⟨y0, y1⟩ := hSw; first | (go_simp; done) | (go_simp; with_reducible rfl))
  try simp only [Act.put, List.setIfInBounds_toArray, List.set_cons_zero, List.set_cons_succ]
  refine rgnTake 5 rfl (by kernel_rfl) (by kernel_rfl) (by kernel_rfl) (fun _ _ _ h => h) (by rfl) (v := ?v5) ?hy5 hHeld ?rest5
  case hy5 => (intro v hSw; obtain ⟨y0, y1⟩ := hSw; first | (go_simp; done) | (go_simp; with_reducible rfl))
  try simp only [Act.put, List.setIfInBounds_toArray, List.set_cons_zero, List.set_cons_succ]
  refine rgnTake 6 rfl (by kernel_rfl) (by kernel_rfl) (by kernel_rfl) (fun _ _ _ h => h) (by rfl) (v := ?v6) ?hy6 hHeld ?rest6
  case hy6 => (intro v hSw; obtain ⟨y0, y1⟩ := hSw; first | (go_simp; done) | (go_simp; with_reducible rfl))
  try simp only [Act.put, List.setIfInBounds_toArray, List.set_cons_zero, List.set_cons_succ]
  refine rgnTake 7 rfl (by kernel_rfl) (by kernel_rfl) (by kernel_rfl) (fun _ _ _ h => h) (by rfl) (v := ?v7) ?hy7 hHeld ?rest7
  case hy7 => (intro v hSw; obtain ⟨y0, y1⟩ := hSw; first | (go_simp; done) | (go_simp; with_reducible rfl))
  try simp only [Act.put, List.setIfInBounds_toArray, List.set_cons_zero, List.set_cons_succ]
  refine rgnTake 8 rfl (by kernel_rfl) (by kernel_rfl) (by kernel_rfl) (fun _ _ _ h => h) (by rfl) (v := ?v8) ?hy8 hHeld ?rest8
  case hy8 => (intro v hSw; obtain ⟨y0, y1⟩ := hSw; first | (go_simp; done) | (go_simp; with_reducible rfl))
  try simp only [Act.put, List.setIfInBounds_toArray, List.set_cons_zero, List.set_cons_succ]
  refine rgnTake 9 rfl (by kernel_rfl) (by kernel_rfl) (by kernel_rfl) (fun _ _ _ h => h) (by rfl) (v := ?v9) ?hy9 hHeld ?rest9
  case hy9 => (intro v hSw; obtain ⟨y0, y1⟩ := hSw; first | (go_simp; done) | (go_simp; with_reducible rfl))
  try simp only [Act.put, List.setIfInBounds_toArray, List.set_cons_zero, List.set_cons_succ]
  refine rgnOne 10 rfl (by kernel_rfl) (fun K hK => ?_)
  go_simp
  refine (xSecOf s _ HZ.out).mono ?_
  rintro r w4 ⟨rfl, h4⟩
  have B4 := Lib.hid h4
  clear h4
  have HR3 := Lib.hid ((HR2.out.below (w' := W.drew) ((Below.refl _ _).drew)).below B4.out)
  refine hK.out _ _ ⟨HR3.out.ext, HR3.out.mc e he⟩ (fun hHeld => ?_)
  clear hK K
  try simp only [Act.put, List.setIfInBounds_toArray, List.set_cons_zero, List.set_cons_succ]
  obtain ⟨w5, hrun, hown, hturn⟩ := (HR3.out.map e he).store keyI Tryd.underlying68 (by
    have h1 := size_wet (HR3.out.map e he) (HR3.out.says e he) he
    have h2 := HR3.out.ok.2.2.2.1
    unfold maxLen; omega) (keyOfI (a : Int) ⟨by omega, by have h2 := HR3.out.ok.2.2.2.1; omega⟩) (secElem_mk s HZ.out)
  have RUN := Lib.hid hrun
  have GR := Lib.hid hturn.grown
  have HOWN := Lib.hid hown
  clear hrun hown hturn
  refine rgnOne 11 rfl (by kernel_rfl) (fun K hK => ?_)
  refine (if_pos rfl).mpr ?_
  refine oper_mapUpdate 68 (.tmp 30) (.tmp 31) (.tmp 33) rfl (ms e) (.int .i64 a) (.agg (secL s).toArray) rfl rfl rfl RUN.out ?_
  have hc5 : Chg (fun k => k = ds e ∨ k = ms e) w4 w5 := (Chg.refl _ _).grown GR.out (fun k hk => by cases hk; exact .inl (.inr rfl))
  have hr5 : RepE w5 b g cap ds ms _ (m.put (e * m.sec + a) ⟨(m.secAt (e * m.sec + a)).dry, s, true⟩) := HR3.out.step he hc5 (by
      rw [drys_same HR3.out.ok he ha]; exact (HR3.out.row e he).keep ((Chg.refl (fun k => k = ms e) w4).grown GR.out (fun k hk => by cases hk; exact .inl rfl)) (fun q => HR3.out.d_m he he q.symm)) HOWN.out
    ((HR3.out.says e he).put HR3.out.ok he ha (HR3.out.map e he).isMap s _) rfl rfl rfl (Ext.put_ok HR3.out.ok _ _) (HR3.out.fine.put HR3.out.ok he ha _ ⟨(HR3.out.fine _).1, HZ.out, fun q => by cases q⟩)
    (fun e' a' he' ha' hne => by rw [secAt_put (pos_lt_nat HR3.out.ok he ha), if_neg (fun k => hne (pos_ne ha ha' k).1.symm)])
  have HR5 := Lib.hid hr5
  have HC5 := Lib.hid (show Chg (fun k => k = ds e ∨ k = ms e) w' w5 from (((Chg.of_below B.out).drew).trans (Chg.of_below (F := fun _ => False) B4.out) (fun _ q => q.elim)).trans hc5 (fun i q => .inl q))
  clear hr5 hc5
  refine hK.out _ _ ⟨HR5.out.ext, HR5.out.mc e he⟩ (fun hHeld => ?_)
  clear hK K
  try simp only [Act.put]
  refine wpAnyH_done (by kernel_rfl) ?_ _
  go_wp2_with fail
  go_ret
  exact ⟨rfl, RelX.left HC5.out (fun k hk => by
    rcases hk with rfl | rfl
    · exact .inl (HD.out e he).1
    · exact .inl (HD.out e he).2) HR5.out HB.out HG.out HD.out HF.out⟩

/-- Write -/
theorem xWrite (b : Nat) (F : Nat → Prop) (m : Ext) (e a : Int) (s : ByteArray) (w : World) (h : RelX w b F m) (_ : In64 e) (_ : In64 a) (hz : s.size ≤ 9223372036854775807) :
    Calls Tryd.prog 62 #[.pointer (some ⟨b, 0, none⟩), .int .i64 e, .int .i64 a, .string s] w fun x w' => x = .returned (.int .i64 (m.write e a s).2) ∧ LeftE RelX b F w (m.write e a s).1 w' := by
  cases ho : m.off with
  | true => exact xWriteNo b F m e a s w h hz 6 (by decide) (by unfold Ext.write; rw [if_pos ho])
  | false =>
    by_cases hh : m.has e a
    · by_cases h64 : 64 < s.size
      · exact xWriteNo b F m e a s w h hz 5 (by decide) (by unfold Ext.write; rw [ho, if_neg (by decide), if_pos hh, if_pos h64])
      · obtain ⟨en, an, rfl, rfl, hen, han⟩ := has_nat hh
        rw [show m.write (en : Int) (an : Int) s = (m.put (en * m.sec + an) ⟨(m.secAt (en * m.sec + an)).dry, s, true⟩, 0) by unfold Ext.write; rw [ho, if_neg (by decide), if_pos hh, if_neg h64, pos_nat]]
        exact xWriteYes b F m en an s w h (by omega) ho hen han
    · exact xWriteNo b F m e a s w h hz 1 (by decide) (by unfold Ext.write; rw [ho, if_neg (by decide), if_neg hh])

end Go.Proofs.YtfodclafkdkjbaaDoor
