/- Proved parts: D2u. Conditions: each theorem's own. -/
import Derived.Test.YtnbkekbgedioeaaM19
import Derived.Test.YtnbkekbgedioeaaM6
import Derived.Test.YtnbkekbgedioeaaM10
import Derived.Test.YtnbkekbgedioeaaM27
import Derived.BigQuiet
import Derived.Deep.CutRange
namespace Go.Proofs.Ytnbkekbgedioeaa
open Go.RowKit

abbrev TR : TypeId := 30
set_option maxRecDepth 100000 in
theorem eqIn_wr (d : Nat) (w : World) (k k' : ByteArray) (g g' : Bool) (b b' : Bool) (s s' : ByteArray) (u u' : Int) :
    (Op.equalIn (d + 3) 42 (.agg #[.string k, .bool g, .bool b, .string s, .int .u64 u]) (.agg #[.string k', .bool g', .bool b', .string s', .int .u64 u'])).run Try.prog w = .ok ((k.toList == k'.toList) && ((g == g') && ((b == b') && ((s.toList == s'.toList) && (u == u'))))) w := by
  rw [run_equalIn_struct w (d + 2) 42 _ _ (by kernel_rfl) (by kernel_rfl)]
  have hv : ∀ w : World, (Op.equalIn (d + 2) 34 (.agg #[.bool b, .string s, .int .u64 u]) (.agg #[.bool b', .string s', .int .u64 u'])).run Try.prog w = .ok ((b == b') && ((s.toList == s'.toList) && (u == u'))) w := fun w => eqIn_val d w b b' s s' u u'
  generalize ((b == b') && ((s.toList == s'.toList) && (u == u'))) = r at hv ⊢
  simp [go_sem, hv]
  by_cases h1 : k.toList = k'.toList <;> by_cases h2 : g = g' <;> cases r <;> simp [h1, h2]
theorem neq_selfW (x : Wr) (w : World) : (binOp .neq 42 x.v x.v).run Try.prog w = .ok (.bool false) w := by
  unfold Wr.v
  rw [run_neq_struct, eqIn_wr 9997]
  simp
set_option maxRecDepth 100000 in
set_option maxHeartbeats 4000000 in
/-- Same, of the same writes -/
theorem rSameW (l : Wl) (A1 A2 : Option Addr) (c1 c2 : Nat) (w : World) (h1 : SlWr w A1 l) (h2 : SlWr w A2 l) (hl : l.length ≤ 10000) :
    Calls Try.prog 11 #[.slice A1 l.length c1, .slice A2 l.length c2] w fun e w' => e = .returned (.bool true) ∧ Below w.heap.size w w' := by
  obtain ⟨n, hn⟩ : ∃ n, n = l.length := ⟨_, rfl⟩
  rw [← hn] at hl ⊢
  have HN := Lib.hid hn
  have H1 := Lib.hid h1
  have H2 := Lib.hid h2
  clear hn h1 h2
  go_enter Try.func11, Try.ntmps11
  go_wp2_with fail
  go_loopw [5] (fun vi wr => ∃ i : Nat, i ≤ n ∧ vi = .int .i64 i ∧ Hid (Below w.heap.size w wr)) (fun vi _ => n - (intOf vi).toNat)
  case atStart => exact ⟨0, Nat.zero_le _, rfl, Lib.hid (Below.refl _ _)⟩
  case round =>
    obtain ⟨i, hi, rfl, HB⟩ := hrel
    by_cases q : i < n
    · obtain ⟨g1, o1, rfl, _, c0, c1, c2, c3, c4⟩ := (H1.out.below HB.out).at (j := i) (by rw [← HN.out]; exact q)
      obtain ⟨g2, o2, rfl, _, d0, d1, d2, d3, d4⟩ := (H2.out.below HB.out).at (j := i) (by rw [← HN.out]; exact q)
      have NE := neq_selfW (l.getD i Wr.Z)
      obtain ⟨u, hu⟩ : ∃ u, u = l.getD i Wr.Z := ⟨_, rfl⟩
      rw [← hu] at c0 c1 c2 c3 c4 d0 d1 d2 d3 d4 NE
      have NE : ∀ w, (binOp .neq 42 (.agg #[.string u.key, .bool u.gone, .bool u.val.num, .string u.val.txt, .int .u64 (u.val.bits : Int)]) (.agg #[.string u.key, .bool u.gone, .bool u.val.num, .string u.val.txt, .int .u64 (u.val.bits : Int)])).run Try.prog w = .ok (.bool false) w := NE
      have i0 : (0 : Int) ≤ (i : Int) := by omega
      have i1 : (i : Int) < (n : Int) := by omega
      have B1 := Lib.hid (fun k => below_drewN HB.out k)
      clear hu
      go_wp2_with fail
      go_quiet (fail)
      go_wp2_with fail
      go_roundw
      case rel => exact ⟨i + 1, by omega, by go_num, Lib.hid (B1.out _)⟩
      case measure => simp [intOf]; omega
    · obtain rfl : i = n := by omega
      go_wp2_with fail
      go_ret
      exact ⟨rfl, HB.out⟩

/-- a set's row -/
def RefRow (w : World) (b : Nat) (v vm : Value) : Prop := RowAt w b [v, vm] TR
set_option maxRecDepth 100000 in
set_option maxHeartbeats 4000000 in
/-- From -/
theorem rFromW (L : Wl) (b : Nat) (v vm : Value) (k : ByteArray) (ab : Bool) (w : World) (hr : RefRow w b v vm) (hn : NodeAtW w v L) (ho : OkWl L) :
    Calls Try.prog 18 #[.pointer (some ⟨b, 0, none⟩), .string k, .bool ab] w fun e w' => e = .returned (.tuple #[(L.atV (L.frm k ab)).v, .bool (decide (L.frm k ab < L.length))]) ∧ Below w.heap.size w w' := by
  obtain ⟨A, c, rfl, hs, _⟩ := hn.sl
  obtain ⟨n, hn2⟩ : ∃ n, n = L.length := ⟨_, rfl⟩
  obtain ⟨P, hP⟩ : ∃ P, P = L.frm k ab := ⟨_, rfl⟩
  have PL := Wl.frm_le L k ab
  have OL := ho.len
  have AT := Lib.hid (fun i (hi : i < L.length) => Wl.frm_at (k := k) ho.rise hi ab)
  rw [← hn2] at OL
  rw [← hP, ← hn2] at PL ⊢
  simp only [← hP, ← hn2] at AT
  rw [← hn2] at hr
  obtain ⟨y, hy⟩ : ∃ y, y = L.atV P := ⟨_, rfl⟩
  obtain ⟨Q, hQ⟩ : ∃ Q, Q = decide (P < n) := ⟨_, rfl⟩
  rw [← hy, ← hQ]
  have HY := Lib.hid hy
  have HQ := Lib.hid hQ
  obtain ⟨B, hB⟩ : ∃ B, B = w.heap.size := ⟨_, rfl⟩
  obtain ⟨W0, hW0⟩ : ∃ W, W = w.alloc (.cells #[.string ⟨#[]⟩, .bool false, .bool false, .string ⟨#[]⟩, .int .u64 0] 42) := ⟨_, rfl⟩
  have b0 : Below w.heap.size w W0 := by rw [hW0]; exact (Below.refl _ _).alloc (Nat.le_refl _) _
  have R0 : RowAt W0 w.heap.size Wr.Z.cs 42 := by rw [hW0]; exact RowAt.new w Wr.Z.cs 42
  have HR := Lib.hid (fun W (hb : Below w.heap.size w W) => show W.cell? ⟨b, 0, none⟩ = some (.slice A n c) from (RowAt.below hr hb).cell 0)
  have HS := Lib.hid hs
  have HN := Lib.hid hn2
  rw [← hB] at b0 R0 ⊢
  have B0 := Lib.hid b0
  have R0 := Lib.hid R0
  have HB0 := Lib.hid hB
  have HW := Lib.hid hW0
  clear hr hn ho hs hn2 hP hy hQ b0 hB hW0
  go_enter Try.func18, Try.ntmps18
  go_wp2_with fail
  rw [← HW.out, ← HB0.out]
  go_loopw [8] (fun vi wr => ∃ i : Nat, i ≤ P ∧ vi = .int .i64 i ∧ Hid (Below B w wr) ∧ Hid (RowAt wr B Wr.Z.cs 42)) (fun vi _ => n + 1 - (intOf vi).toNat)
  case atStart => exact ⟨0, Nat.zero_le _, rfl, B0, R0⟩
  case round =>
    obtain ⟨i, hi, rfl, HB, HX⟩ := hrel
    have hb : Below w.heap.size w wr := by have := HB.out; rw [HB0.out] at this; exact this
    have r0 := HR.out _ hb
    by_cases q : i < n
    · obtain ⟨g, o, rfl, _, c0, c1, c2, c3, c4⟩ := (HS.out.below hb).at (j := i) (by rw [← HN.out]; exact q)
      have A1 := AT.out i q
      unfold Wl.key at A1
      have ES := Lib.hid (fun (h : P ≤ i) => show y = L.getD i Wr.Z ∧ Q = true from by
        have e : P = i := by omega
        rw [HY.out, HQ.out, e]
        unfold Wl.atV
        rw [if_pos (by rw [← HN.out]; exact q), decide_eq_true q]
        exact ⟨rfl, rfl⟩)
      obtain ⟨x, hx⟩ : ∃ x, x = L.getD i Wr.Z := ⟨_, rfl⟩
      rw [← hx] at c0 c1 c2 c3 c4 A1 ES
      have i0 : (0 : Int) ≤ (i : Int) := by omega
      have i1 : (i : Int) < (n : Int) := by omega
      clear hx hb
      cases z1 : ltB k x.key with
      | true =>
        rw [z1] at A1
        have pi : P ≤ i := of_decide_eq_true A1.symm
        have f1 : Op.bytesLess x.key.toList k.toList = false := ltB_asym z1
        have f2 : (x.key.toList == k.toList) = false := by
          rw [beq_eq_false_iff_ne]; intro e; rw [toList_inj e, ltB_irr] at z1; cases z1
        have ES := Lib.hid (ES.out pi)
        clear z1 A1
        have F1 := Lib.hid (show Below B w (setW wr B x) from setW_below HB.out (Nat.le_refl _))
        have F2 := Lib.hid (show RowAt (setW wr B x) B x.cs _ from setW_row HX.out)
        obtain ⟨g0, g1, g2, g3, g4, e0, e1, e2, e3, e4⟩ := wrZ HX.out
        go_wp2_with fail
        refine bodyPost_ret (results_cell_tmp rfl _ (setW wr B x) B _ _ _ rfl F2.out Try.underlying42 rfl (by kernel_rfl)) rfl ?_
        exact ⟨by rw [ES.out.1, ES.out.2]; rfl, F1.out⟩
      | false =>
        rw [z1, Bool.false_or] at A1
        cases z2 : (x.key.toList == k.toList) with
        | true =>
          rw [z2, Bool.and_true] at A1
          have f1 : Op.bytesLess x.key.toList k.toList = false := by
            have : x.key = k := toList_inj (beq_iff_eq.1 z2)
            rw [this]; exact ltB_irr k
          cases ab with
          | true =>
            have pi : ¬ P ≤ i := of_decide_eq_false A1.symm
            have f3 := z2
            clear z1 A1 ES
            go_wp2_with fail
            go_roundw
            case rel => exact ⟨i + 1, by omega, by go_num, HB, HX⟩
            case measure => simp [intOf]; omega
          | false =>
            have pi : P ≤ i := of_decide_eq_true A1.symm
            have ES := Lib.hid (ES.out pi)
            have f3 := z2
            clear z1 A1
            have F1 := Lib.hid (show Below B w (setW wr B x) from setW_below HB.out (Nat.le_refl _))
            have F2 := Lib.hid (show RowAt (setW wr B x) B x.cs _ from setW_row HX.out)
            obtain ⟨g0, g1, g2, g3, g4, e0, e1, e2, e3, e4⟩ := wrZ HX.out
            go_wp2_with fail
            refine bodyPost_ret (results_cell_tmp rfl _ (setW wr B x) B _ _ _ rfl F2.out Try.underlying42 rfl (by kernel_rfl)) rfl ?_
            exact ⟨by rw [ES.out.1, ES.out.2]; rfl, F1.out⟩
        | false =>
          rw [z2, Bool.and_false] at A1
          have pi : ¬ P ≤ i := of_decide_eq_false A1.symm
          have f1 : Op.bytesLess x.key.toList k.toList = true := by
            cases z3 : ltB x.key k with
            | true => exact z3
            | false =>
              have := ltB_total z3 z1
              rw [this] at z2
              simp at z2
          have f3 := z2
          clear z1 A1 ES
          cases ab
          all_goals go_wp2_with fail
          all_goals go_roundw
          all_goals first
            | exact ⟨i + 1, by omega, by go_num, HB, HX⟩
            | (simp [intOf]; omega)
    · have e : P = n := by omega
      have ES := Lib.hid (show y = Wr.Z ∧ Q = false from by
        rw [HY.out, HQ.out, e]
        unfold Wl.atV
        rw [if_neg (by rw [← HN.out]; omega), decide_eq_false (by omega)]
        exact ⟨rfl, rfl⟩)
      have F1 := Lib.hid (show Below B w (setW wr B Wr.Z) from setW_below HB.out (Nat.le_refl _))
      have F2 := Lib.hid (show RowAt (setW wr B Wr.Z) B Wr.Z.cs _ from setW_row HX.out)
      obtain ⟨g0, g1, g2, g3, g4, e0, e1, e2, e3, e4⟩ := wrZ HX.out
      have q2 : (n : Int) ≤ (i : Int) := by omega
      clear hb e
      go_wp2_with fail
      refine bodyPost_ret (results_cell_tmp rfl _ (setW wr B Wr.Z) B _ _ _ rfl F2.out Try.underlying42 rfl (by kernel_rfl)) rfl ?_
      exact ⟨by rw [ES.out.1, ES.out.2]; rfl, F1.out⟩

set_option maxRecDepth 100000 in
set_option maxHeartbeats 4000000 in
/-- Get -/
theorem rGetW (L : Wl) (b : Nat) (v vm : Value) (k : ByteArray) (w : World) (hr : RefRow w b v vm) (hn : NodeAtW w v L) (ho : OkWl L) :
    Calls Try.prog 16 #[.pointer (some ⟨b, 0, none⟩), .string k] w fun e w' => e = .returned (.tuple #[(L.getV k).v, .bool (L.has k)]) ∧ Below w.heap.size w w' := by
  obtain ⟨B, hB⟩ : ∃ B, B = w.heap.size := ⟨_, rfl⟩
  obtain ⟨W0, hW0⟩ : ∃ W, W = w.alloc (.cells #[.string ⟨#[]⟩, .bool false, .bool false, .string ⟨#[]⟩, .int .u64 0] 42) := ⟨_, rfl⟩
  have b0 : Below w.heap.size w W0 := by rw [hW0]; exact (Below.refl _ _).alloc (Nat.le_refl _) _
  have R0 : RowAt W0 w.heap.size Wr.Z.cs 42 := by rw [hW0]; exact RowAt.new w Wr.Z.cs 42
  have FN := rFromW L b v vm k false W0 (RowAt.below hr b0) (hn.below b0) ho
  have HI := Lib.hid (Wl.has_iff L k)
  rw [show L.frm k false = L.pos k from rfl] at FN
  have FN := Lib.hid FN
  have EK := Lib.hid (fun (h : L.pos k < L.length) => show (L.atV (L.pos k)).key = L.key (L.pos k) ∧ L.getD (L.pos k) Wr.Z = L.atV (L.pos k) by
    unfold Wl.atV Wl.key
    rw [if_pos h]; exact ⟨rfl, rfl⟩)
  have EV : L.getV k = if L.has k then L.getD (L.pos k) Wr.Z else Wr.Z := rfl
  obtain ⟨V, hV⟩ : ∃ V, V = L.getV k := ⟨_, rfl⟩
  rw [← hV] at EV ⊢
  obtain ⟨P, hP⟩ : ∃ P, P = L.pos k := ⟨_, rfl⟩
  obtain ⟨T, hT⟩ : ∃ T, T = L.has k := ⟨_, rfl⟩
  obtain ⟨n, hn2⟩ : ∃ n, n = L.length := ⟨_, rfl⟩
  rw [← hP, ← hn2] at FN HI EK
  rw [← hP] at EV
  rw [← hT] at HI EV ⊢
  obtain ⟨x, hx⟩ : ∃ x, x = L.atV P := ⟨_, rfl⟩
  obtain ⟨y, hy⟩ : ∃ y, y = L.getD P Wr.Z := ⟨_, rfl⟩
  obtain ⟨q, hq⟩ : ∃ y, y = L.key P := ⟨_, rfl⟩
  rw [← hx] at FN EK
  rw [← hy] at EK EV
  rw [← hq] at EK HI
  replace EV := Lib.hid EV
  rw [← hB] at b0 R0 ⊢
  have B0 := Lib.hid b0
  have R0 := Lib.hid R0
  have HB := Lib.hid hB
  have HW := Lib.hid hW0
  clear hr hn ho b0 hB hW0 hP hT hx hy hq hn2 hV
  obtain ⟨kk, g, z⟩ := x
  obtain ⟨m, t, u⟩ := z
  have EK : Hid (P < n → kk = q ∧ y = ⟨kk, g, ⟨m, t, u⟩⟩) := EK
  have FN : Hid (Calls Try.prog 18 #[.pointer (some ⟨b, 0, none⟩), .string k, .bool false] W0 fun e w' => e = .returned (.tuple #[.agg #[.string kk, .bool g, .bool m, .string t, .int .u64 (u : Int)], .bool (decide (P < n))]) ∧ Below W0.heap.size W0 w') := FN
  obtain ⟨Q, hQ⟩ : ∃ Q, Q = decide (P < n) := ⟨_, rfl⟩
  rw [← hQ] at FN
  have HQ := Lib.hid hQ
  clear hQ
  go_enter Try.func16, Try.ntmps16
  go_wp2_with fail
  rw [← HW.out, ← HB.out]
  refine FN.out.mono ?_
  rintro e w1 ⟨rfl, hb1⟩
  have BW := Lib.hid (show B ≤ W0.heap.size from by have := B0.out.size; have := HB.out; omega)
  have B1 := Lib.hid (show Below B w w1 from B0.out.trans (hb1.mono BW.out))
  have R1 := R0.out.below hb1
  have R2 : RowAt (w1.alloc (.cells #[.string kk, .bool g, .bool m, .string t, .int .u64 (u : Int)] 42)) B Wr.Z.cs 42 := R1.alloc _
  have B2 : Below B w (w1.alloc (.cells #[.string kk, .bool g, .bool m, .string t, .int .u64 (u : Int)] 42)) := B1.out.alloc (by have := R1.lt; omega) _
  have X2 : RowAt (w1.alloc (.cells #[.string kk, .bool g, .bool m, .string t, .int .u64 (u : Int)] 42)) w1.heap.size (Wr.cs ⟨kk, g, ⟨m, t, u⟩⟩) 42 := RowAt.new w1 (Wr.cs ⟨kk, g, ⟨m, t, u⟩⟩) _
  clear hb1 HW R1 FN
  go_upto_region 2 with fail
  generalize w1.alloc (.cells #[.string kk, .bool g, .bool m, .string t, .int .u64 (u : Int)] 42) = W2 at R2 B2 X2 ⊢
  generalize w1.heap.size = G at X2 ⊢
  obtain ⟨x0, x1, x2, x3, x4⟩ := wrF (x := ⟨kk, g, ⟨m, t, u⟩⟩) X2
  obtain ⟨g0, g1, g2, g3, g4, e0, e1, e2, e3, e4⟩ := wrZ R2
  have F1 := Lib.hid (show Below B w (setW W2 B Wr.Z) from setW_below B2 (Nat.le_refl _))
  have F2 := Lib.hid (show RowAt (setW W2 B Wr.Z) B Wr.Z.cs _ from setW_row R2)
  have F3 := Lib.hid (show Below B w (setW W2 B ⟨kk, g, ⟨m, t, u⟩⟩) from setW_below B2 (Nat.le_refl _))
  have F4 := Lib.hid (show RowAt (setW W2 B ⟨kk, g, ⟨m, t, u⟩⟩) B (Wr.cs ⟨kk, g, ⟨m, t, u⟩⟩) _ from setW_row R2)
  clear R2 B2 X2
  cases Q with
  | false =>
    have TF := Lib.hid (show T = false by
      cases T with
      | false => rfl
      | true => have := (HI.out.1 rfl).1; have := of_decide_eq_false HQ.out.symm; omega)
    have VZ := Lib.hid (show V = Wr.Z by rw [EV.out, TF.out]; rfl)
    have TF2 := TF.out
    subst TF2
    clear TF EV HI EK HQ
    go_wp2_with fail
    refine bodyPost_ret (results_cell_tmp rfl _ (setW W2 B Wr.Z) B _ _ _ rfl F2.out Try.underlying42 rfl (by kernel_rfl)) rfl ?_
    exact ⟨by first | rfl | (rw [VZ.out]; rfl), F1.out⟩
  | true =>
    have pn : P < n := of_decide_eq_true HQ.out.symm
    obtain ⟨q1, q2⟩ := EK.out pn
    have EY := Lib.hid q2
    have TE := Lib.hid (show T = (kk.toList == k.toList) by
      cases z : (kk.toList == k.toList) with
      | true => exact HI.out.2 ⟨pn, by rw [← q1]; exact toList_inj (beq_iff_eq.1 z)⟩
      | false =>
        cases T with
        | false => rfl
        | true =>
          have := (HI.out.1 rfl).2
          rw [← q1] at this
          rw [this] at z; simp at z)
    clear q1 q2 EK HI HQ pn
    cases z : (kk.toList == k.toList) with
    | true =>
      rw [z] at TE
      have VZ := Lib.hid (show V = ⟨kk, g, ⟨m, t, u⟩⟩ by rw [EV.out, TE.out, EY.out]; rfl)
      have T2 := TE.out
      subst T2
      clear TE EY EV
      go_wp2_with fail
      refine bodyPost_ret (results_cell_tmp rfl _ (setW W2 B ⟨kk, g, ⟨m, t, u⟩⟩) B _ _ _ rfl F4.out Try.underlying42 rfl (by kernel_rfl)) rfl ?_
      exact ⟨by first | rfl | (rw [VZ.out]; rfl), F3.out⟩
    | false =>
      rw [z] at TE
      have VZ := Lib.hid (show V = Wr.Z by rw [EV.out, TE.out]; rfl)
      have T2 := TE.out
      subst T2
      clear TE EY EV
      go_wp2_with fail
      refine bodyPost_ret (results_cell_tmp rfl _ (setW W2 B Wr.Z) B _ _ _ rfl F2.out Try.underlying42 rfl (by kernel_rfl)) rfl ?_
      exact ⟨by first | rfl | (rw [VZ.out]; rfl), F1.out⟩

end Go.Proofs.Ytnbkekbgedioeaa
