/- cloisonneref09: Same, Sweep: walked. -/
import Derived.Test.YtpafnjdaiagdiaaC9u
namespace Go.Proofs.Ytpafnjdaiagdiaa
open Go.RowKit

theorem getD_ext {a b : List Ver} (h : a.length = b.length) (hj : ∀ j, j < a.length → a.getD j Ver.Z = b.getD j Ver.Z) : a = b := by
  apply List.ext_getElem h
  intro j h1 h2
  have := hj j h1
  rwa [List.getD_eq_getElem?_getD, List.getD_eq_getElem?_getD, List.getElem?_eq_getElem h1, List.getElem?_eq_getElem h2] at this

open Classical in
set_option maxRecDepth 100000 in
set_option maxHeartbeats 2000000 in
/-- Same -/
theorem rSame9 (a b : List Ver) (A1 A2 : Option Addr) (c1 c2 : Nat) (w : World) (h1 : SlV w A1 a) (h2 : SlV w A2 b) (l1 : a.length ≤ 1000) (l2 : b.length ≤ 1000) :
    Calls Try.prog 19 #[.slice A1 a.length c1, .slice A2 b.length c2] w fun e w' => e = .returned (.bool (decide (a = b))) ∧ ∃ m, w' = w.drewN m := by
  obtain ⟨R, hR⟩ : ∃ R : Bool, R = decide (a = b) := ⟨_, rfl⟩
  obtain ⟨n, hn⟩ : ∃ n, n = a.length := ⟨_, rfl⟩
  obtain ⟨n2, hn2⟩ : ∃ n, n = b.length := ⟨_, rfl⟩
  rw [← hn] at l1
  rw [← hn2] at l2
  rw [← hR, ← hn, ← hn2]
  have HR := Lib.hid hR
  have HN := Lib.hid hn
  have HN2 := Lib.hid hn2
  have H1 := Lib.hid h1
  have H2 := Lib.hid h2
  have NV := Lib.hid neq_ver
  clear hR hn hn2 h1 h2
  go_enter Try.func19, Try.ntmps19
  by_cases q0 : n = n2
  · have q0' := Lib.hid q0
    subst q0
    go_wp2_with fail
    go_loopw [5] (fun vi wr => ∃ i : Nat, i ≤ n ∧ vi = .int .i64 i ∧ Hid (∀ j, j < i → a.getD j Ver.Z = b.getD j Ver.Z) ∧ Hid (∃ m, wr = w.drewN m)) (fun vi _ => n - (intOf vi).toNat)
    case atStart => exact ⟨0, Nat.zero_le _, rfl, Lib.hid (fun j hj => by cases hj), Lib.hid ⟨0, rfl⟩⟩
    case round =>
      obtain ⟨i, hi, rfl, HM, HW⟩ := hrel
      by_cases q : i < n
      · obtain ⟨mw, hw⟩ := HW.out
        have sw : Below w.heap.size w wr := by rw [hw]; exact below_drewN (Below.refl _ _) _
        have HW2 := Lib.hid hw
        obtain ⟨g1, o1, rfl, _, x⟩ := H1.out.at (by rw [← HN.out]; exact q)
        obtain ⟨g2, o2, rfl, _, y⟩ := H2.out.at (by rw [← HN2.out]; exact q)
        obtain ⟨c0, c1, c2, c3, c4⟩ := cells_later sw x
        obtain ⟨d0, d1, d2, d3, d4⟩ := cells_later sw y
        have NE := NV.out (a.getD i Ver.Z) (b.getD i Ver.Z)
        have ST := Lib.hid (fun (h : a.getD i Ver.Z = b.getD i Ver.Z) => show ∀ j, j < i + 1 → a.getD j Ver.Z = b.getD j Ver.Z from fun j hj => by
          by_cases e : j = i
          · rw [e]; exact h
          · exact HM.out j (by omega))
        have SN := Lib.hid (fun (h : a.getD i Ver.Z ≠ b.getD i Ver.Z) => show R = false by rw [HR.out]; exact decide_eq_false fun e => h (by rw [e]))
        obtain ⟨u, hu⟩ : ∃ u, u = a.getD i Ver.Z := ⟨_, rfl⟩
        obtain ⟨v, hv⟩ : ∃ v, v = b.getD i Ver.Z := ⟨_, rfl⟩
        rw [← hu] at c0 c1 c2 c3 c4
        rw [← hv] at d0 d1 d2 d3 d4
        rw [← hu, ← hv] at NE ST SN
        have NE : ∀ w, (binOp .neq 29 (.agg #[.int .i64 u.seq, .bool u.gone, .bool u.val.num, .string u.val.txt, .int .u64 (u.val.bits : Int)]) (.agg #[.int .i64 v.seq, .bool v.gone, .bool v.val.num, .string v.val.txt, .int .u64 (v.val.bits : Int)])).run Try.prog w = .ok (.bool (!(u.same v))) w := NE
        have i0 : (0 : Int) ≤ (i : Int) := by omega
        have i1 : (i : Int) < (n : Int) := by omega
        clear hu hv hw sw x y
        by_cases p : u = v
        · have E := Lib.hid (ST.out p)
          have p2 : u.same v = true := (Ver.same_iff u v).2 p
          rw [p2] at NE
          clear p p2
          go_wp2_with fail
          go_quiet (fail)
          go_wp2_with fail
          go_roundw
          case rel => exact ⟨i + 1, by omega, by go_num, E, Lib.hid (by rw [HW2.out, World.drewN_drewN]; exact ⟨_, rfl⟩)⟩
          case measure => simp [intOf]; omega
        · have E := Lib.hid (SN.out p)
          have p2 : u.same v = false := by
            cases z : u.same v with
            | false => rfl
            | true => exact absurd ((Ver.same_iff u v).1 z) p
          rw [p2] at NE
          clear p p2
          go_wp2_with fail
          go_quiet (fail)
          go_wp2_with fail
          go_ret
          exact ⟨by rw [E.out]; rfl, by rw [HW2.out, World.drewN_drewN]; exact ⟨_, rfl⟩⟩
      · obtain rfl : i = n := by omega
        have E := Lib.hid (show R = true by rw [HR.out]; exact decide_eq_true (getD_ext (by rw [← HN.out, ← HN2.out]) (by rw [← HN.out]; exact HM.out)))
        go_wp2_with fail
        go_ret
        exact ⟨by rw [E.out]; rfl, HW.out⟩
  · have E := Lib.hid (show R = false by rw [HR.out]; exact decide_eq_false fun e => q0 (by rw [HN.out, HN2.out, e]))
    have q1 : ((n : Int) == (n2 : Int)) = false := by simp; omega
    go_wp2_with fail
    go_ret
    exact ⟨by rw [E.out]; rfl, 0, rfl⟩
/-- of like ones -/
theorem rSameYes (a b : List Ver) (A1 A2 : Option Addr) (c1 c2 : Nat) (w : World) (h1 : SlV w A1 a) (h2 : SlV w A2 b) (l1 : a.length ≤ 1000) (l2 : b.length ≤ 1000) (h : a = b) :
    Calls Try.prog 19 #[.slice A1 a.length c1, .slice A2 b.length c2] w fun e w' => e = .returned (.bool true) ∧ ∃ m, w' = w.drewN m := by
  subst h
  exact (rSame9 a a A1 A2 c1 c2 w h1 h2 l1 l2).mono fun e w' ⟨k1, k2⟩ => ⟨by rw [k1]; simp, k2⟩

end Go.Proofs.Ytpafnjdaiagdiaa
