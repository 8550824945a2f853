/- ExprRuns: walked. -/
import Derived.Test.YtjahaegdmfgmgaaDoorG1l
namespace Go.Proofs.YtjahaegdmfgmgaaDoor.exprRuns
open Go.Proofs.YtjahaegdmfgmgaaDoor Go.Joins Go.ChangeShapes Go.WideShapes Go.ChangeAt Go.RowKit Ex Fl

set_option maxRecDepth 100000 in
set_option maxHeartbeats 2000000 in
theorem walk (p : List Cd) (x : Nat) (A : Option Addr) (c : Nat) (w : World) (h : SlC w A p) (hf : FitC p) (hl : p.length ≤ maxLen) (hx : Fits x) (ht : TabH w) :
    Calls Tryd.prog 3 #[.slice A p.length c, .int .u64 (x : Int)] w fun e w' => e = .returned (.bool true) ∧ Below w.heap.size w w' := by
  have AW := Lib.hid (awake14 w ht)
  have KR := Lib.hid (fun W (hb : Below w.heap.size w W) => xRun p x A c W (h.below hb) hf hl hx (ht.bel hb))
  have KT := Lib.hid (fun W (hb : Below w.heap.size w W) => xTrace p x A c W (h.below hb) hf hl hx (ht.bel hb))
  have KG := Lib.hid (fun W (hb : Below w.heap.size w W) => xRight14 p A c W (h.below hb) hf hl)
  have KH := Lib.hid (fun W (hb : Below w.heap.size w W) => rRight14 p A c W (h.below hb) hf hl)
  have e00 : (FloatKind.f64.format.order 0 0 == some Ordering.eq) = true := by decide +kernel
  unfold maxLen at hl
  cases hr : right p with
  | false =>
    have e1 : runV p x = (0, 1) := by unfold runV; rw [hr]; rfl
    have e2 : trcV p x = ([], 0) := by unfold trcV; rw [hr]; rfl
    simp only [e1] at KR
    simp only [e2] at KT
    have KT : Hid (∀ W, Below w.heap.size w W → Calls Tryd.prog 10 #[.slice A p.length c, .float .f64 x] W fun e w' => Below W.heap.size W w' ∧ ∃ A' c', e = .returned (.tuple #[.slice A' 0 c', .int .i64 0]) ∧ Sl w' A' []) := KT
    simp only [hr] at KG KH
    obtain ⟨n, hn⟩ : ∃ n, n = p.length := ⟨_, rfl⟩
    simp only [← hn] at KR KT KG KH hl ⊢
    clear h hf hx ht hr e1 e2 hn
    by_cases q1 : 100 < n
    · go_enter Tryd.func3, Tryd.ntmps3
      go_wp2_with fail
      refine AW.out.mono ?_
      rintro e w1 ⟨rfl, hb1⟩
      have B1 := Lib.hid hb1
      clear hb1
      go_wp2_with fail
      go_ret
      exact ⟨rfl, B1.out⟩
    · go_enter Tryd.func3, Tryd.ntmps3
      go_wp2_with fail
      refine AW.out.mono ?_
      rintro e w1 ⟨rfl, hb1⟩
      have B1 := Lib.hid hb1
      clear hb1
      go_wp2_with fail
      refine (KR.out _ B1.out).mono ?_
      rintro e w2 ⟨rfl, hb2⟩
      have B2 := Lib.hid (below_then B1.out hb2)
      clear hb2
      go_wp2_with fail
      refine (KT.out _ B2.out).mono ?_
      rintro e w3 ⟨hb3, A', c', rfl, _⟩
      have B3 := Lib.hid (below_then B2.out hb3)
      clear hb3
      go_wp2_with fail
      refine (KG.out _ B3.out).mono ?_
      rintro e w4 ⟨rfl, hb4⟩
      have B4 := Lib.hid (below_then B3.out hb4)
      clear hb4
      go_wp2_with fail
      refine (KH.out _ B4.out).mono ?_
      rintro e w5 ⟨rfl, hb5⟩
      have B5 := Lib.hid (below_then B4.out hb5)
      clear hb5
      go_wp2_with fail
      refine (KH.out _ B5.out).mono ?_
      rintro e w6 ⟨rfl, hb6⟩
      have B6 := Lib.hid (below_then B5.out hb6)
      clear hb6
      go_wp2_with fail
      go_ret
      exact ⟨rfl, B6.out⟩
  | true =>
    have e1 : runV p x = (if (go x p []).2 = p.length ∧ (go x p []).1.length = 1 then ((go x p []).1.getD 0 0, 0) else (0, 20)) := by unfold runV; rw [hr]; rfl
    have e2 : trcV p x = go x p [] := by unfold trcV; rw [hr]; rfl
    have KM := Lib.hid (fun W (hb : Below w.heap.size w W) => rTrace p x A c W (h.below hb) hf hx hr)
    obtain ⟨st, n1, n32⟩ := right_steps hr hf
    have gok := go_ok hx p [] st Ok.nil (by decide)
    simp only [hr] at KG KH
    simp only [e1] at KR
    simp only [e2] at KT
    obtain ⟨⟨gs, gn⟩, hG⟩ : ∃ G, G = go x p [] := ⟨_, rfl⟩
    simp only [← hG] at KR KT KM gok
    obtain ⟨n, hn⟩ : ∃ n, n = p.length := ⟨_, rfl⟩
    simp only [← hn] at KR KT KM KG KH gok hl n1 n32 ⊢
    obtain ⟨m, hm⟩ : ∃ m, m = gs.length := ⟨_, rfl⟩
    have KT : Hid (∀ W, Below w.heap.size w W → Calls Tryd.prog 10 #[.slice A n c, .float .f64 x] W fun e w' => Below W.heap.size W w' ∧ ∃ A' c', e = .returned (.tuple #[.slice A' m c', .int .i64 (gn : Int)]) ∧ Sl w' A' (gs.map fun a : Nat => (a : Int))) := by rw [hm]; exact KT
    have KM : Hid (∀ W, Below w.heap.size w W → Calls Tryd.prog 13 #[.slice A n c, .float .f64 x] W fun e w' => Below W.heap.size W w' ∧ ∃ A' c', e = .returned (.tuple #[.slice A' m c', .int .i64 (gn : Int)]) ∧ SlF w' A' gs) := by rw [hm]; exact KM
    obtain ⟨⟨Y, E⟩, hY⟩ : ∃ y : Nat × Int, y = (if gn = n ∧ m = 1 then (gs.getD 0 0, 0) else (0, 20)) := ⟨_, rfl⟩
    simp only [← hm] at KR gok
    simp only [← hY] at KR
    have HY := Lib.hid hY
    have HM := Lib.hid hm
    have HOK := Lib.hid gok.1
    have m8 : m ≤ 8 := gok.2.1
    have gnn : gn ≤ n := gok.2.2
    clear h hf hx ht hr e1 e2 hn st hG gok hY hm
    go_enter Tryd.func3, Tryd.ntmps3
    go_wp2_with fail
    refine AW.out.mono ?_
    rintro e w1 ⟨rfl, hb1⟩
    have B1 := Lib.hid hb1
    clear hb1
    go_wp2_with fail
    refine (KR.out _ B1.out).mono ?_
    rintro e w2 ⟨rfl, hb2⟩
    have B2 := Lib.hid (below_then B1.out hb2)
    clear hb2
    go_wp2_with fail
    refine (KT.out _ B2.out).mono ?_
    rintro e w3 ⟨hb3, A3, c3, rfl, s3⟩
    have B3 := Lib.hid (below_then B2.out hb3)
    have S3 := Lib.hid s3
    clear hb3 s3
    go_wp2_with fail
    refine (KG.out _ B3.out).mono ?_
    rintro e w4 ⟨rfl, hb4⟩
    have B4 := Lib.hid (below_then B3.out hb4)
    have S4 := Lib.hid (S3.out.below hb4)
    clear hb4
    go_wp2_with fail
    refine (KH.out _ B4.out).mono ?_
    rintro e w5 ⟨rfl, hb5⟩
    have B5 := Lib.hid (below_then B4.out hb5)
    have S5 := Lib.hid (S4.out.below hb5)
    clear hb5
    go_wp2_with fail
    refine (KH.out _ B5.out).mono ?_
    rintro e w6 ⟨rfl, hb6⟩
    have B6 := Lib.hid (below_then B5.out hb6)
    have S6 := Lib.hid (S5.out.below hb6)
    clear hb6
    go_wp2_with fail
    refine (KM.out _ B6.out).mono ?_
    rintro e w7 ⟨hb7, A7, c7, rfl, s7⟩
    have B7 := Lib.hid (below_then B6.out hb7)
    have S7 := Lib.hid (S6.out.below hb7)
    have F7 := Lib.hid s7
    clear hb7 s7 S3 S4 S5 S6 AW KR KT KG KH KM
    go_wp2_with fail
    go_loopw [12] (fun vi wr => ∃ j : Nat, j ≤ m ∧ vi = .int .i64 j ∧ Hid (Sl wr A3 (gs.map fun a : Nat => (a : Int))) ∧ Hid (SlF wr A7 gs) ∧ Hid (Below w.heap.size w wr)) (fun vi _ => m - (intOf vi).toNat)
    case atStart => exact ⟨0, Nat.zero_le _, rfl, S7, F7, B7⟩
    case round =>
      obtain ⟨j, hj, rfl, S8, F8, B8⟩ := hrel
      clear S7 F7 B7
      by_cases q : j < m
      · obtain ⟨b, o, rfl, hb, hcj⟩ := S8.out.at_ (k := j) (by rw [List.length_map, ← HM.out]; exact q)
        have cj := hcj j (by rw [List.length_map, ← HM.out]; exact q)
        obtain ⟨b2, o2, rfl, hb2, hdj⟩ := F8.out.at_ (k := j) (by rw [← HM.out]; exact q)
        have dj := hdj j (by rw [← HM.out]; exact q)
        obtain ⟨okf, okb⟩ := HOK.out.get (i := j) (by rw [← HM.out]; exact q)
        have ge : (gs.map fun a : Nat => (a : Int)).getD j 0 = ((gs.getD j 0 : Nat) : Int) := by
          have hjl : j < gs.length := by rw [← HM.out]; exact q
          simp only [List.getD_eq_getElem?_getD, List.getElem?_map, List.getElem?_eq_getElem hjl, Option.map_some, Option.getD_some]
        rw [ge] at cj
        obtain ⟨y, hy⟩ : ∃ y, y = gs.getD j 0 := ⟨_, rfl⟩
        rw [← hy] at cj dj okf okb
        have RB := Lib.hid (rbits y okf)
        rw [okb] at RB
        have i5 : (0 : Int) ≤ (j : Int) := by omega
        have i6 : (j : Int) < (m : Int) := by omega
        have ne : ((y : Int) != (y : Int)) = false := by simp
        clear hcj hdj hb hb2 hy okf okb ge
        go_wp2_with fail
        go_quiet ((go_at_call 14; exact Calls.quiet_of_same ((RB.out _).mono fun _ _ hh => ⟨hh.1, hh.2.symm⟩)))
        go_wp2_with fail
        go_roundw
        case rel => exact ⟨j + 1, by omega, by go_num, Lib.hid (S8.out.drewN _), Lib.hid (F8.out.drewN _), Lib.hid (below_drewN B8.out _)⟩
        case measure => simp [intOf]; omega
      · obtain rfl : j = m := by omega
        have hY := HY.out
        by_cases q1 : gn < n
        · rw [if_neg (by omega)] at hY
          injection hY with h1 h2
          subst h1; subst h2
          go_wp2_with fail
          go_ret
          exact ⟨rfl, B8.out⟩
        · obtain rfl : gn = n := by omega
          by_cases q2 : j = 1
          · rw [if_pos ⟨rfl, q2⟩] at hY
            injection hY with h1 h2
            subst h2
            subst q2
            obtain ⟨b, o, rfl, hb, hcj⟩ := S8.out.at_ (k := 0) (by rw [List.length_map, ← HM.out]; decide)
            have cj := hcj 0 (by rw [List.length_map, ← HM.out]; decide)
            have ge : (gs.map fun a : Nat => (a : Int)).getD 0 0 = (Y : Int) := by
              have hjl : 0 < gs.length := by rw [← HM.out]; decide
              rw [h1]
              simp only [List.getD_eq_getElem?_getD, List.getElem?_map, List.getElem?_eq_getElem hjl, Option.map_some, Option.getD_some]
            rw [ge, Nat.add_zero] at cj
            clear hcj hb ge h1
            go_wp2_with fail
            go_quiet (fail)
            go_wp2_with fail
            go_ret
            exact ⟨rfl, below_drewN B8.out _⟩
          · rw [if_neg (fun h => q2 h.2)] at hY
            injection hY with h1 h2
            subst h1; subst h2
            have q3 : ((j : Int) != 1) = true := by simp; omega
            go_wp2_with fail
            go_ret
            exact ⟨rfl, B8.out⟩

end Go.Proofs.YtjahaegdmfgmgaaDoor.exprRuns
