/- Proved parts: S7gh S7gd. Conditions: each theorem's own. -/
import Derived.Test.YtfodclafkdkjbaaDoorM33
import Derived.Test.YtfodclafkdkjbaaDoorM35
import Derived.Test.YtfodclafkdkjbaaDoorM36
import Derived.Test.YtfodclafkdkjbaaDoorM31
namespace Go.Proofs.YtfodclafkdkjbaaDoor
open Go.RowKit

theorem PcRow.cells {w : World} {g : Nat} {c : Cont} {S : Nat} (h : PcRow w g (pcs c S)) {i : Nat} (hi : i < S) :
    w.cell? ⟨g, i * 6, none⟩ = some (.int .i64 (pcOf (c i)).st.gen) ∧ w.cell? ⟨g, i * 6 + 1, none⟩ = some (.int .i64 (pcOf (c i)).st.index) ∧ w.cell? ⟨g, i * 6 + 2, none⟩ = some (.int .i64 (pcOf (c i)).st.life) ∧ w.cell? ⟨g, i * 6 + 3, none⟩ = some (.int .i64 (pcOf (c i)).st.part) ∧ w.cell? ⟨g, i * 6 + 4, none⟩ = some (.int .i64 (pcOf (c i)).st.parts) ∧ w.cell? ⟨g, i * 6 + 5, none⟩ = some (.string (pcOf (c i)).d) := by
  have hl : i < (pcs c S).length := by rw [pcs_len]; exact hi
  have e := pcs_get c S i hi
  have h0 := h.cell (j := 0) hl (by omega)
  have h1 := h.cell (j := 1) hl (by omega)
  have h2 := h.cell (j := 2) hl (by omega)
  have h3 := h.cell (j := 3) hl (by omega)
  have h4 := h.cell (j := 4) hl (by omega)
  have h5 := h.cell (j := 5) hl (by omega)
  rw [e] at h0 h1 h2 h3 h4 h5
  exact ⟨h0, h1, h2, h3, h4, h5⟩
theorem life_step (c : Cont) (k : Nat) : lifeTo c (k + 1) = max (lifeTo c k) (pcOf (c k)).st.life := by
  have h0 := lifeTo_nonneg c k
  show (if isSec (c k) && decide (lifeTo c k < (stp (c k)).life) then (stp (c k)).life else lifeTo c k) = _
  cases h : isSec (c k) with
  | false =>
    rw [pcOf_no h]
    show lifeTo c k = max (lifeTo c k) 0
    omega
  | true =>
    rw [pcOf_yes h]
    show (if (true && decide (lifeTo c k < (stp (c k)).life)) = true then (stp (c k)).life else lifeTo c k) = max (lifeTo c k) (stp (c k)).life
    by_cases q : lifeTo c k < (stp (c k)).life
    · rw [decide_eq_true q, if_pos (show (true && true) = true from rfl)]; omega
    · rw [decide_eq_false q, if_neg (by simp)]; omega

set_option maxRecDepth 100000 in
set_option maxHeartbeats 1000000 in
/-- greatestLife -/
theorem qLife (g S : Nat) (c : Cont) (w : World) (h : PcRow w g (pcs c S)) (hS : S ≤ 128) :
    Calls Tryd.prog 44 #[.slice (some ⟨g, 0, none⟩) S S] w fun x w' => x = .returned (.int .i64 (lifeTo c S)) ∧ Below w.heap.size w w' := by
  have H := Lib.hid h
  have B0 := Lib.hid (Below.refl w.heap.size w)
  clear h
  go_enter Tryd.func44, Tryd.ntmps44
  go_wp2_with fail
  go_loopw [3, 8] (fun vL v wr => ∃ k : Nat, k ≤ S ∧ v = .int .i64 k ∧ vL = .int .i64 (lifeTo c k) ∧ Hid (PcRow wr g (pcs c S)) ∧ Hid (Below w.heap.size w wr)) (fun _ v _ => S - (Go.RowKit.intOf v).toNat)
  case atStart => exact ⟨0, Nat.zero_le _, rfl, rfl, H, B0⟩
  case round =>
    obtain ⟨k, hk, rfl, rfl, HR, HB⟩ := hrel
    by_cases hlt : k < S
    · obtain ⟨c0, c1, c2, c3, c4, c5⟩ := HR.out.cells hlt
      have NX := Lib.hid (life_step c k)
      obtain ⟨y, hy⟩ : ∃ y, y = pcOf (c k) := ⟨_, rfl⟩
      obtain ⟨L, hL⟩ : ∃ L, L = lifeTo c k := ⟨_, rfl⟩
      rw [← hy] at c0 c1 c2 c3 c4 c5
      rw [← hy, ← hL] at NX
      rw [← hL]
      clear hy hL
      go_wp2_with fail
      go_roundw
      case rel => exact ⟨k + 1, by omega, by go_num, by rw [NX.out], Lib.hid (HR.out.below ((Below.refl _ _).alloc (Nat.le_refl _) _)), Lib.hid (HB.out.alloc HB.out.size _)⟩
      case measure => simp [Go.RowKit.intOf]; omega
    · obtain rfl : k = S := by omega
      go_wp2_with fail
      go_ret
      exact ⟨rfl, HB.out⟩

set_option maxRecDepth 100000 in
set_option maxHeartbeats 1000000 in
/-- join -/
theorem qJoin (g S a n cp : Nat) (c : Cont) (w : World) (h : PcRow w g (pcs c S)) (hS : S ≤ 128) (hn : a + n ≤ S) (hs : ∀ j, j < n → isSec (c (a + j)) = true) :
    Calls Tryd.prog 58 #[.slice (some ⟨g, a * 6, none⟩) n cp] w fun x w' => x = .returned (.string (recB c a n)) ∧ Below w.heap.size w w' := by
  have GL := Lib.hid (show g < w.heap.size from h.lt)
  have H := Lib.hid (show PcRow (w.alloc (.cells #[.pointer none, .slice none 0 0] 131)) g (pcs c S) from h.below ((Below.refl _ _).alloc (Nat.le_refl _) _))
  have B0 := Lib.hid ((Below.refl w.heap.size w).alloc (Nat.le_refl _) (.cells #[.pointer none, .slice none 0 0] 131))
  have D0 := Lib.hid (Bld.new w)
  have SZ := Lib.hid (fun k (hk : k ≤ n) => recB_size c a k fun j hj => hs j (by omega))
  have HS := Lib.hid hs
  clear h hs
  go_enter Tryd.func58, Tryd.ntmps58
  go_wp2_with fail
  go_loopw [8] (fun v wr => ∃ k : Nat, k ≤ n ∧ v = .int .i64 k ∧ Hid (PcRow wr g (pcs c S)) ∧ Hid (Bld wr w.heap.size w.heap.size (recB c a k)) ∧ Hid (Below w.heap.size w wr)) (fun v _ => n - (Go.RowKit.intOf v).toNat)
  case atStart => exact ⟨0, Nat.zero_le _, rfl, H, D0, B0⟩
  case round =>
    obtain ⟨k, hk, rfl, HR, HD, HB⟩ := hrel
    by_cases hlt : k < n
    · obtain ⟨c0, c1, c2, c3, c4, c5⟩ := HR.out.cells (i := a + k) (by omega)
      have sk := HS.out k hlt
      have z0 := SZ.out k hk
      have z1 := SZ.out (k + 1) (by omega)
      have NX := Lib.hid (show recB c a (k + 1) = recB c a k ++ (pcOf (c (a + k))).d by rw [pcOf_yes sk]; rfl)
      rw [NX.out, ByteArray.size_append] at z1
      obtain ⟨y, hy⟩ : ∃ y, y = pcOf (c (a + k)) := ⟨_, rfl⟩
      rw [← hy] at c0 c1 c2 c3 c4 c5 NX z1
      have W := Lib.hid (fun w2 (hb : Bld w2 w.heap.size w.heap.size (recB c a k)) (hh : w.heap.size ≤ w2.heap.size) => bWrite w.heap.size w.heap.size (recB c a k) y.d w2 hb (by omega) hh)
      rw [show (a + k) * 6 = a * 6 + k * 6 by omega] at c0 c1 c2 c3 c4 c5
      clear hy sk
      obtain ⟨o, ho⟩ : ∃ o, o = Obj.cells #[.int .i64 y.st.gen, .int .i64 y.st.index, .int .i64 y.st.life, .int .i64 y.st.part, .int .i64 y.st.parts, .string y.d] 117 := ⟨_, rfl⟩
      have BA := (Below.refl wr.heap.size wr).alloc (Nat.le_refl _) o
      have HR1 := Lib.hid (HR.out.below BA)
      have HD1 := Lib.hid (HD.out.below BA)
      have HB1 := Lib.hid (below_then HB.out BA)
      rw [ho] at HR1 HD1 HB1
      clear BA ho
      go_wp2_with fail
      refine (W.out _ HD1.out HB1.out.size).mono ?_
      rintro x w2 ⟨rfl, hd2, hb2⟩
      have HD2 := Lib.hid (show Bld w2 w.heap.size w.heap.size (recB c a (k + 1)) by rw [NX.out]; exact hd2)
      have HB2 := Lib.hid (HB1.out.trans hb2)
      have HR2 := Lib.hid (show PcRow w2 g (pcs c S) from (hb2.block g GL.out).trans HR1.out)
      clear hd2 hb2
      go_wp2_with fail
      go_roundw
      case rel => exact ⟨k + 1, by omega, by go_num, HR2, HD2, HB2⟩
      case measure => simp [Go.RowKit.intOf]; omega
    · obtain rfl : k = n := by omega
      go_wp2_with fail
      refine (bString _ _ _ _ HD.out HB.out.size).mono ?_
      rintro x w2 ⟨rfl, hb2⟩
      have B2 := Lib.hid (HB.out.trans hb2)
      clear hb2
      go_wp2_with fail
      go_ret
      exact ⟨rfl, B2.out⟩

end Go.Proofs.YtfodclafkdkjbaaDoor

namespace Go.Proofs.YtfodclafkdkjbaaDoor
open Go.RowKit

/-- what Record and Base leave -/
def BeginPost (b bl : Nat) (l : Lg) (o : Lg × Option Wr × Int) (w : World) (x : Ending) (w' : World) : Prop :=
  match o.2.1 with
  | none => x = .returned (.tuple #[.pointer none, .int .i64 o.2.2]) ∧ Below w.heap.size w w'
  | some y => ∃ px gp cp, x = .returned (.tuple #[.pointer (some ⟨px, 0, none⟩), .int .i64 0]) ∧ LogAt w' b bl { l with busy := true } ∧ RowAt w' px (wrL bl gp cp l y) 98 ∧
      OwnS w' gp (.slice (some ⟨gp, 0, none⟩) y.parts.length cp) y.parts ∧ w.heap.size ≤ px ∧ w.heap.size ≤ gp ∧ gp ≠ px ∧ Chg (fun k => k = bl) w w'
theorem LogAt.sized {w : World} {b bl : Nat} {l : Lg} (h : LogAt w b bl l) {e : Nat} (he : l.gen ≠ 0 → e = l.at_) (he2 : e ≤ 1000) {w' : World} (k : RowAt w' bl ((logL b e l).set 3 (.bool true)) 79) : LogAt w' b bl { l with busy := true } :=
  ⟨⟨e, k, he, he2⟩, h.f, h.a, h.z, h.g0, h.g1, h.y0, h.y1, h.u⟩

set_option maxRecDepth 100000 in
set_option maxHeartbeats 2000000 in
/-- Record -/
theorem qRecord (b bl S : Nat) (l : Lg) (s : ByteArray) (w : World) (h : LogAt w b bl l) (hS : w.cell? ⟨b, 1, none⟩ = some (.int .i64 (S : Int))) (hs : s.size ≤ 5000) :
    Calls Tryd.prog 20 #[.pointer (some ⟨bl, 0, none⟩), .string s] w (BeginPost b bl l (l.write S s false) w) := by
  have RM := Lib.hid (fun (w : World) (h : LogAt w b bl l) (hS : w.cell? ⟨b, 1, none⟩ = some (.int .i64 (S : Int))) => qRoom b bl S l s.size w h hS ⟨by omega, by omega⟩)
  have H := Lib.hid h
  obtain ⟨e, hr, he, he2⟩ := h.row
  have c3 := hr.cell 3
  have c5 := hr.cell 5
  simp only [logL, List.getElem?_cons_succ, List.getElem?_cons_zero] at c3 c5
  obtain ⟨G, hG⟩ : ∃ G, G = l.gen := ⟨_, rfl⟩
  by_cases hb : l.busy = true
  · rw [show l.write S s false = (l, none, 9) by unfold Lg.write; rw [if_pos hb]]
    show Calls _ _ _ _ fun x w' => x = .returned (.tuple #[.pointer none, .int .i64 9]) ∧ Below w.heap.size w w'
    rw [hb] at c3
    clear hr he h
    go_enter Tryd.func20, Tryd.ntmps20
    go_wp2_with fail
    go_ret2
    exact ⟨rfl, Below.refl _ _⟩
  rw [show l.busy = false by simpa using hb] at c3
  by_cases hz : l.gen = 0
  · rw [show l.write S s false = (l, none, 7) by unfold Lg.write; rw [if_neg hb, if_pos (by simp [hz])]]
    show Calls _ _ _ _ fun x w' => x = .returned (.tuple #[.pointer none, .int .i64 7]) ∧ Below w.heap.size w w'
    rw [hz] at c5
    clear hr he h hG
    go_enter Tryd.func20, Tryd.ntmps20
    go_wp2_with fail
    go_ret2
    exact ⟨rfl, Below.refl _ _⟩
  have hz2 : (G == 0) = false := by rw [hG]; simp [hz]
  rw [← hG] at c5
  have g1 : decide (0 < l.gen) = true := decide_eq_true (by have := h.g0; omega)
  have cn : cnt (s.size : Int) = (cntN s.size : Nat) := cnt_nat _
  have ru : l.fr false = l.used := rfl
  by_cases hm : S < l.used + cntN s.size
  · rw [show l.write S s false = (l, none, 16) by unfold Lg.write; rw [if_neg hb, if_neg (by simp [hz]), ru, if_pos (decide_eq_true hm)]]
    show Calls _ _ _ _ fun x w' => x = .returned (.tuple #[.pointer none, .int .i64 16]) ∧ Below w.heap.size w w'
    have R := Lib.hid (show (decide (0 < l.gen) && decide (0 ≤ (s.size : Int)) && decide ((l.used : Int) + cnt (s.size : Int) ≤ S)) = false by rw [cn, decide_eq_false (show ¬ ((l.used : Int) + (cntN s.size : Nat) ≤ S) by omega), Bool.and_false])
    clear hr he h hG cn ru g1
    go_enter Tryd.func20, Tryd.ntmps20
    go_wp2_with fail
    refine (RM.out w H.out hS).mono ?_
    rw [R.out]
    rintro x w1 ⟨rfl, hb1⟩
    have B1 := Lib.hid hb1
    clear hb1
    go_wp2_with fail
    go_ret2
    exact ⟨rfl, B1.out⟩
  have R := Lib.hid (show (decide (0 < l.gen) && decide (0 ≤ (s.size : Int)) && decide ((l.used : Int) + cnt (s.size : Int) ≤ S)) = true by rw [cn, g1, decide_eq_true (show 0 ≤ (s.size : Int) by omega), decide_eq_true (show (l.used : Int) + (cntN s.size : Nat) ≤ S by omega)]; rfl)
  obtain ⟨V, hV⟩ : ∃ V, V = l.life - 1 := ⟨_, rfl⟩
  have c2f : ∀ w1, Below w.heap.size w w1 → RowAt w1 bl (logL b e l) 79 := fun w1 hb1 => hr.below hb1
  have C2F := Lib.hid c2f
  have HV := Lib.hid hV
  have HG := Lib.hid hG
  by_cases hy : 2147483647 < l.life
  · rw [show l.write S s false = (l, none, 17) by unfold Lg.write; rw [if_neg hb, if_neg (by simp [hz]), ru, if_neg (by simpa using hm), if_pos (by simp [hy])]]
    show Calls _ _ _ _ fun x w' => x = .returned (.tuple #[.pointer none, .int .i64 17]) ∧ Below w.heap.size w w'
    have V1 : 2147483647 ≤ V := by omega
    clear hr he h hG cn ru g1 hV c2f hy hm hz hb
    go_enter Tryd.func20, Tryd.ntmps20
    go_wp2_with fail
    refine (RM.out w H.out hS).mono ?_
    rw [R.out]
    rintro x w1 ⟨rfl, hb1⟩
    have k2 := (C2F.out w1 hb1).cell 2
    simp only [logL, List.getElem?_cons_succ, List.getElem?_cons_zero] at k2
    rw [← HV.out] at k2
    have B1 := Lib.hid hb1
    clear hb1
    go_wp2_with fail
    go_ret2
    exact ⟨rfl, B1.out⟩
  have W : l.write S s false = ({ l with busy := true }, some ⟨false, partsOf s, 0⟩, 0) := by unfold Lg.write; rw [if_neg hb, if_neg (by simp [hz]), ru, if_neg (by simpa using hm), if_neg (by simp [hy])]
  rw [W]
  have V1 : V ≤ 2147483646 := by omega
  obtain ⟨U, hU⟩ : ∃ U, U = l.used := ⟨_, rfl⟩
  have ea := he hz
  have PB := Lib.hid (fun (w : World) (k : RowAt w bl (logL b e l) 79) => qBegin bl (logL b e l) e U G (U : Int) s w k (by simp [logL]) (by have := h.u; rw [hU]; exact this) hs)
  have HU := Lib.hid hU
  have FIN : ∀ x w1 w2, Below w.heap.size w w1 → (∃ px gp cp, x = .returned (.tuple #[.pointer (some ⟨px, 0, none⟩), .int .i64 0]) ∧ RowAt w2 bl ((logL b e l).set 3 (.bool true)) 79 ∧
      RowAt w2 px [.pointer (some ⟨bl, 0, none⟩), .int .i64 (e : Int), .int .i64 G, .int .i64 (U + (partsOf s).length : Nat), .int .i64 (U : Int), .slice (some ⟨gp, 0, none⟩) (partsOf s).length cp, .int .i64 0] 98 ∧
      OwnS w2 gp (.slice (some ⟨gp, 0, none⟩) (partsOf s).length cp) (partsOf s) ∧ w1.heap.size ≤ px ∧ w1.heap.size ≤ gp ∧ gp ≠ px ∧ Chg (fun k => k = bl) w1 w2) → BeginPost b bl l ({ l with busy := true }, some ⟨false, partsOf s, 0⟩, 0) w x w2 := by
    rintro x w1 w2 hb1 ⟨px, gp, cp, rfl, k1, k2, k3, k4, k5, k6, k7⟩
    refine ⟨px, gp, cp, rfl, h.sized he he2 k1, ?_, k3, Nat.le_trans hb1.size k4, Nat.le_trans hb1.size k5, k6, (Chg.of_below hb1).then k7⟩
    rw [show wrL bl gp cp l ⟨false, partsOf s, 0⟩ = [.pointer (some ⟨bl, 0, none⟩), .int .i64 (e : Int), .int .i64 G, .int .i64 (U + (partsOf s).length : Nat), .int .i64 (U : Int), .slice (some ⟨gp, 0, none⟩) (partsOf s).length cp, .int .i64 0] by
      rw [hG, hU, ea]; rfl]
    exact k2
  have FIN' := Lib.hid FIN
  clear hr he h hG cn ru g1 hV c2f hy hm hz hb W hU ea FIN
  go_enter Tryd.func20, Tryd.ntmps20
  go_wp2_with fail
  refine (RM.out w H.out hS).mono ?_
  rw [R.out]
  rintro x w1 ⟨rfl, hb1⟩
  have kk := C2F.out w1 hb1
  have k2 := kk.cell 2
  have k4 := kk.cell 4
  have k5 := kk.cell 5
  have k6 := kk.cell 6
  simp only [logL, List.getElem?_cons_succ, List.getElem?_cons_zero] at k2 k4 k5 k6
  rw [← HV.out] at k2
  rw [← HG.out] at k5
  rw [← HU.out] at k6
  have KK := Lib.hid kk
  have B1 := Lib.hid hb1
  clear hb1 kk
  go_wp2_with fail
  refine wp_region_still_tail 11 (by kernel_rfl) (by kernel_rfl) ?_
  simp only [List.take_succ_cons, List.take_zero, List.drop_succ_cons, List.drop_zero]
  change wpStill _ _ (World.drew _) (fun a' => wpList _ _ _ _ a' (World.drew _)) _ _
  repeat still_step
  refine wpStill_nil ?_
  go_wp2_with fail
  refine (PB.out w1.drew KK.out).mono ?_
  rintro x w2 ⟨px, gp, cp, rfl, q⟩
  have F2 := Lib.hid (FIN'.out (.returned (.tuple #[.pointer (some ⟨px, 0, none⟩), .int .i64 0])) w1.drew w2 (B1.out.drew) ⟨px, gp, cp, rfl, q⟩)
  clear q
  go_wp2_with fail
  go_ret2
  exact F2.out

/-- behind other: nothing has turned -/
theorem other_left {w0 w w2 : World} {bl : Nat} {cs : List Value} (hd : Below w0.heap.size w0 w) (hr : RowAt w bl cs 79) (h : ∃ n, w2 = w.drewN n) : Below w0.heap.size w0 w2 ∧ RowAt w2 bl cs 79 := by
  obtain ⟨n, rfl⟩ := h
  exact ⟨⟨hd.os, hd.tape, hd.output, hd.size, hd.block⟩, hr⟩
set_option maxRecDepth 100000 in
set_option maxHeartbeats 2000000 in
/-- Base -/
theorem qBase (b bl S : Nat) (l : Lg) (s : ByteArray) (w : World) (h : LogAt w b bl l) (hS : w.cell? ⟨b, 1, none⟩ = some (.int .i64 (S : Int))) (hs : s.size ≤ 5000) :
    Calls Tryd.prog 21 #[.pointer (some ⟨bl, 0, none⟩), .string s] w (BeginPost b bl l (l.write S s true) w) := by
  have H := Lib.hid h
  obtain ⟨e, hr, he, he2⟩ := h.row
  have c0 := hr.cell 0
  have c2 := hr.cell 2
  have c3 := hr.cell 3
  have c5 := hr.cell 5
  simp only [logL, List.getElem?_cons_succ, List.getElem?_cons_zero] at c0 c2 c3 c5
  by_cases hb : l.busy = true
  · rw [show l.write S s true = (l, none, 9) by unfold Lg.write; rw [if_pos hb]]
    show Calls _ _ _ _ fun x w' => x = .returned (.tuple #[.pointer none, .int .i64 9]) ∧ Below w.heap.size w w'
    rw [hb] at c3
    clear hr he h
    go_enter Tryd.func21, Tryd.ntmps21
    go_wp2_with fail
    go_ret2
    exact ⟨rfl, Below.refl _ _⟩
  rw [show l.busy = false by simpa using hb] at c3
  obtain ⟨C, hC⟩ : ∃ C, C = cntN s.size := ⟨_, rfl⟩
  have CN := Lib.hid (show ∀ w, Calls Tryd.prog 33 #[.int .i64 (s.size : Int)] w fun e w' => e = .returned (.int .i64 (C : Int)) ∧ w' = w from fun w => by
    have k := pCount s.size w (by omega) (by omega)
    rw [cnt_nat, ← hC] at k; exact k)
  have SE := Lib.hid (fun w (c : w.cell? ⟨b, 1, none⟩ = some (.int .i64 (S : Int))) => qSectors b S w c)
  have ru : l.fr true = 0 := rfl
  by_cases hm : S < C
  · rw [show l.write S s true = (l, none, 16) by unfold Lg.write; rw [if_neg hb, if_neg (by simp), ru, Nat.zero_add, ← hC, if_pos (decide_eq_true hm)]]
    show Calls _ _ _ _ fun x w' => x = .returned (.tuple #[.pointer none, .int .i64 16]) ∧ Below w.heap.size w w'
    clear hr he h hC ru
    go_enter Tryd.func21, Tryd.ntmps21
    go_wp2_with fail
    go_quiet (first | (go_at_call 33; exact Calls.quiet_of_same (CN.out _)) | (go_at_call 34; exact Calls.quiet_of_same (SE.out _ hS)))
    go_wp2_with fail
    go_ret2
    exact ⟨rfl, belowDN _ _⟩
  obtain ⟨V, hV⟩ : ∃ V, V = l.life - 1 := ⟨_, rfl⟩
  obtain ⟨G, hG⟩ : ∃ G, G = l.gen := ⟨_, rfl⟩
  rw [← hV] at c2
  rw [← hG] at c5
  have HV := Lib.hid hV
  have HG := Lib.hid hG
  by_cases hy : (decide (2147483647 < l.life) || (true && decide (2147483647 ≤ l.gen))) = true
  · rw [show l.write S s true = (l, none, 17) by unfold Lg.write; rw [if_neg hb, if_neg (by simp), ru, Nat.zero_add, ← hC, if_neg (by simpa using hm), if_pos hy]]
    show Calls _ _ _ _ fun x w' => x = .returned (.tuple #[.pointer none, .int .i64 17]) ∧ Below w.heap.size w w'
    have V1 : decide (2147483647 ≤ G) = true ∨ (decide (2147483647 ≤ G) = false ∧ 2147483647 ≤ V) := by
      rw [hG, hV]
      simp only [Bool.or_eq_true, decide_eq_true_eq, Bool.true_and] at hy
      by_cases q : 2147483647 ≤ l.gen
      · exact .inl (decide_eq_true q)
      · exact .inr ⟨decide_eq_false q, by omega⟩
    clear hr he h hC ru hV hG hy hb
    rcases V1 with V1 | ⟨V1, V2⟩
    · go_enter Tryd.func21, Tryd.ntmps21
      go_wp2_with fail
      go_quiet (first | (go_at_call 33; exact Calls.quiet_of_same (CN.out _)) | (go_at_call 34; exact Calls.quiet_of_same (SE.out _ hS)))
      go_wp2_with fail
      go_ret2
      exact ⟨rfl, belowDN _ _⟩
    · go_enter Tryd.func21, Tryd.ntmps21
      go_wp2_with fail
      go_quiet (first | (go_at_call 33; exact Calls.quiet_of_same (CN.out _)) | (go_at_call 34; exact Calls.quiet_of_same (SE.out _ hS)))
      go_wp2_with fail
      go_ret2
      exact ⟨rfl, belowDN _ _⟩
  have W : l.write S s true = ({ l with busy := true }, some ⟨true, partsOf s, 0⟩, 0) := by unfold Lg.write; rw [if_neg hb, if_neg (by simp), ru, Nat.zero_add, ← hC, if_neg (by simpa using hm), if_neg hy]
  rw [W]
  have V1 : V ≤ 2147483646 ∧ G ≤ 2147483646 ∧ 0 ≤ G := by
    simp only [Bool.or_eq_true, decide_eq_true_eq, Bool.true_and] at hy
    have := h.g0
    omega
  obtain ⟨V1, G1, G0⟩ := V1
  have V2 : decide (2147483647 ≤ G) = false := decide_eq_false (by omega)
  obtain ⟨o, ho⟩ : ∃ o : Nat, o = l.to true := ⟨_, rfl⟩
  have LR : ∀ w1, RowAt w1 bl (logL b e l) 79 → LogAt w1 b bl l := fun w1 k => ⟨⟨e, k, he, he2⟩, h.f, h.a, h.z, h.g0, h.g1, h.y0, h.y1, h.u⟩
  have OT := Lib.hid (fun (w : World) (k : RowAt w bl (logL b e l) 79) => (show Calls Tryd.prog 46 #[.pointer (some ⟨bl, 0, none⟩)] w fun x w' => x = .returned (.int .i64 (o : Int)) ∧ ∃ n, w' = w.drewN n by rw [ho]; exact qOther b bl l w (LR w k)))
  have WG : IntKind.i64.wrap (G + 1) = G + 1 := by rw [IntKind.wrap_i64]; omega
  have PB := Lib.hid (fun (w : World) (k : RowAt w bl (logL b e l) 79) => (show Calls Tryd.prog 45 #[.pointer (some ⟨bl, 0, none⟩), .agg #[.int .i64 (o : Int), .int .i64 (G + 1), .int .i64 0], .int .i64 0, .string s] w _ by
    exact qBegin bl (logL b e l) o 0 (G + 1) 0 s w k (by simp [logL]) (by omega) hs))
  have FIN : ∀ x w1 w2, Below w.heap.size w w1 → (∃ px gp cp, x = .returned (.tuple #[.pointer (some ⟨px, 0, none⟩), .int .i64 0]) ∧ RowAt w2 bl ((logL b e l).set 3 (.bool true)) 79 ∧
      RowAt w2 px [.pointer (some ⟨bl, 0, none⟩), .int .i64 (o : Int), .int .i64 (G + 1), .int .i64 (0 + (partsOf s).length : Nat), .int .i64 (0 : Nat), .slice (some ⟨gp, 0, none⟩) (partsOf s).length cp, .int .i64 0] 98 ∧
      OwnS w2 gp (.slice (some ⟨gp, 0, none⟩) (partsOf s).length cp) (partsOf s) ∧ w1.heap.size ≤ px ∧ w1.heap.size ≤ gp ∧ gp ≠ px ∧ Chg (fun k => k = bl) w1 w2) → BeginPost b bl l ({ l with busy := true }, some ⟨true, partsOf s, 0⟩, 0) w x w2 := by
    rintro x w1 w2 hb1 ⟨px, gp, cp, rfl, k1, k2, k3, k4, k5, k6, k7⟩
    refine ⟨px, gp, cp, rfl, h.sized he he2 k1, ?_, k3, Nat.le_trans hb1.size k4, Nat.le_trans hb1.size k5, k6, (Chg.of_below hb1).then k7⟩
    rw [show wrL bl gp cp l ⟨true, partsOf s, 0⟩ = [.pointer (some ⟨bl, 0, none⟩), .int .i64 (o : Int), .int .i64 (G + 1), .int .i64 (0 + (partsOf s).length : Nat), .int .i64 (0 : Nat), .slice (some ⟨gp, 0, none⟩) (partsOf s).length cp, .int .i64 0] by
      rw [ho, hG]; rfl]
    exact k2
  have FIN' := Lib.hid FIN
  have HR := Lib.hid hr
  clear hr he h hC ru hV hG hy hb W ho LR FIN
  go_enter Tryd.func21, Tryd.ntmps21
  go_wp2_with fail
  go_quiet (first | (go_at_call 33; exact Calls.quiet_of_same (CN.out _)) | (go_at_call 34; exact Calls.quiet_of_same (SE.out _ hS)))
  obtain ⟨w1, hw1⟩ : ∃ w1, w1 = w.drewN nq := ⟨_, rfl⟩
  rw [← hw1]
  have B1 := Lib.hid (show Below w.heap.size w w1 by rw [hw1]; exact belowDN _ _)
  have R1 := Lib.hid (show RowAt w1 bl (logL b e l) 79 by rw [hw1]; exact HR.out)
  clear hw1 c0 c2 c3 c5
  have k2 : w1.cell? ⟨bl, 2, none⟩ = some (.int .i64 V) := by rw [HV.out]; exact R1.out.cell 2
  have k5 : w1.cell? ⟨bl, 5, none⟩ = some (.int .i64 G) := by rw [HG.out]; exact R1.out.cell 5
  go_wp2_with fail
  have B1d := Lib.hid (show Below w.heap.size w w1.drew from B1.out.drew)
  have R1d := Lib.hid (show RowAt w1.drew bl (logL b e l) 79 from R1.out)
  have HC1 := Lib.hid k5
  go_region_held3 (fun w' => w'.cell? ⟨bl, 5, none⟩ = some (.int .i64 G))
    (first
      | go_keep
      | exact HC3.out
      | exact HC2.out
      | exact HC1.out)
    (first
      | (go_at_call 46; (with_reducible refine (OT.out _ R1d.out).mono ?_); rintro r w2 ⟨rfl, hk⟩; have K2 := Lib.hid (other_left B1d.out R1d.out hk); have HC2 := Lib.hid (show w2.cell? ⟨bl, 5, none⟩ = some (.int .i64 G) by rw [HG.out]; exact K2.out.2.cell 5); clear hk)
      | (go_at_call 45; (with_reducible refine (PB.out _ K2.out.2).mono ?_); rintro r w3 ⟨px, gp, cp, rfl, q⟩; have F3 := Lib.hid (FIN'.out (.returned (.tuple #[.pointer (some ⟨px, 0, none⟩), .int .i64 0])) w2 w3 K2.out.1 ⟨px, gp, cp, rfl, q⟩); have HC3 := Lib.hid (show w3.cell? ⟨bl, 5, none⟩ = some (.int .i64 G) by rw [HG.out]; exact q.1.cell 5); clear q))
  go_wp2_with fail
  go_ret2
  exact F3.out

end Go.Proofs.YtfodclafkdkjbaaDoor
