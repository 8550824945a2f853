/- expr's Run and Trace: walked. -/
import Derived.Test.YtjahaegdmfgmgaaDoorG1g
namespace Go.Proofs.YtjahaegdmfgmgaaDoor
open Go.RowKit Ex Fl

/-- what Run tells: bits and the error -/
def runV (p : List Cd) (x : Nat) : Nat × Int :=
  if right p then (if (go x p []).2 = p.length ∧ (go x p []).1.length = 1 then ((go x p []).1.getD 0 0, 0) else (0, 20)) else (0, 1)
/-- what Trace tells -/
def trcV (p : List Cd) (x : Nat) : List Nat × Nat := if right p then go x p [] else ([], 0)

set_option maxRecDepth 100000 in
set_option maxHeartbeats 1000000 in
/-- Run -/
theorem xRun (p : List Cd) (x : Nat) (A : Option Addr) (c : Nat) (w : World) (h : SlC w A p) (hf : FitC p) (hl : p.length ≤ maxLen) (hx : Fits x) (ht : TabH w) :
    Calls Tryd.prog 9 #[.slice A p.length c, .float .f64 x] w fun e w' => e = .returned (.tuple #[.float .f64 (runV p x).1, .int .i64 (runV p x).2]) ∧ Below w.heap.size w w' := by
  have RR := Lib.hid (xRight14 p A c w h hf hl)
  cases hr : right p with
  | false =>
    rw [hr] at RR
    have e : runV p x = (0, 1) := by unfold runV; rw [hr]; rfl
    rw [e]
    clear h hf hl hx ht hr e
    go_enter Tryd.func9, Tryd.ntmps9
    go_wp2_with fail
    refine RR.out.mono ?_
    rintro e w1 ⟨rfl, hb1⟩
    have B1 := Lib.hid hb1
    clear hb1
    go_wp2_with fail
    go_ret2
    exact ⟨rfl, B1.out⟩
  | true =>
    rw [hr] at RR
    have XR := Lib.hid (fun W (hb : Below w.heap.size w W) => xrun p x A c W (h.below hb) hf hx hr (ht.bel hb))
    have e : runV p x = (if (go x p []).2 = p.length ∧ (go x p []).1.length = 1 then ((go x p []).1.getD 0 0, 0) else (0, 20)) := by unfold runV; rw [hr]; rfl
    rw [e]
    obtain ⟨st, n1, n32⟩ := right_steps hr hf
    have gk := (go_ok hx p [] st Ok.nil (by decide)).2.2
    obtain ⟨⟨gs, gn⟩, hG⟩ : ∃ G, G = go x p [] := ⟨_, rfl⟩
    simp only [← hG] at XR gk ⊢
    change gn ≤ p.length at gk
    obtain ⟨n, hn⟩ : ∃ n, n = p.length := ⟨_, rfl⟩
    simp only [← hn] at XR RR gk n1 n32 ⊢
    obtain ⟨m, hm⟩ : ∃ m, m = gs.length := ⟨_, rfl⟩
    simp only [← hm]
    have XR : Hid (∀ W, Below w.heap.size w W → Calls Tryd.prog 21 #[.slice A n c, .float .f64 x] W fun e w' => Below W.heap.size W w' ∧ ∃ A' c', e = .returned (.tuple #[.slice A' m c', .int .i64 (gn : Int)]) ∧ SlF w' A' gs) := by rw [hm]; exact XR
    have HM := Lib.hid hm
    clear h hf hl hx ht hr e st hn hm hG
    by_cases q1 : gn < n
    · rw [if_neg (by omega)]
      go_enter Tryd.func9, Tryd.ntmps9
      go_wp2_with fail
      refine RR.out.mono ?_
      rintro e w1 ⟨rfl, hb1⟩
      have B1 := Lib.hid hb1
      clear hb1
      go_wp2_with fail
      refine (XR.out _ B1.out).mono ?_
      rintro e w2 ⟨hb2, B, cb, rfl, hs2⟩
      have B2 := Lib.hid (below_then B1.out hb2)
      clear hb2 hs2
      go_wp2_with fail
      go_ret2
      exact ⟨rfl, B2.out⟩
    · obtain rfl : gn = n := by omega
      by_cases q2 : m = 1
      · rw [if_pos ⟨rfl, q2⟩]
        subst q2
        go_enter Tryd.func9, Tryd.ntmps9
        go_wp2_with fail
        refine RR.out.mono ?_
        rintro e w1 ⟨rfl, hb1⟩
        have B1 := Lib.hid hb1
        clear hb1
        go_wp2_with fail
        refine (XR.out _ B1.out).mono ?_
        rintro e w2 ⟨hb2, B, cb, rfl, hs2⟩
        have B2 := Lib.hid (below_then B1.out hb2)
        obtain ⟨b, o, rfl, hb, hcj⟩ := hs2 (by rw [← HM.out]; decide)
        have cj := hcj 0 (by rw [← HM.out]; decide)
        rw [Nat.add_zero] at cj
        clear hb2 hcj hb
        go_wp2_with fail
        go_ret2
        exact ⟨rfl, B2.out⟩
      · rw [if_neg (fun h => q2 h.2)]
        go_enter Tryd.func9, Tryd.ntmps9
        go_wp2_with fail
        refine RR.out.mono ?_
        rintro e w1 ⟨rfl, hb1⟩
        have B1 := Lib.hid hb1
        clear hb1
        go_wp2_with fail
        refine (XR.out _ B1.out).mono ?_
        rintro e w2 ⟨hb2, B, cb, rfl, hs2⟩
        have B2 := Lib.hid (below_then B1.out hb2)
        have q3 : ((m : Int) != 1) = true := by simp; omega
        clear hb2 hs2
        go_wp2_with fail
        go_ret2
        exact ⟨rfl, B2.out⟩

theorem cell_newI (w : World) (v : Value) (t : TypeId) : (w.alloc (.cells #[v] t)).cell? ⟨w.heap.size, 0, none⟩ = some v := by
  rw [World.cell?_alloc_at _ _ _ _ rfl]; rfl
/-- what Trace leaves -/
def TrcP (g : List Nat × Nat) (w : World) (e : Ending) (w' : World) : Prop :=
  Below w.heap.size w w' ∧ ∃ A c, e = .returned (.tuple #[.slice A g.1.length c, .int .i64 (g.2 : Int)]) ∧ Sl w' A (g.1.map fun a : Nat => (a : Int))

set_option maxRecDepth 100000 in
set_option maxHeartbeats 1000000 in
/-- Trace -/
theorem xTrace (p : List Cd) (x : Nat) (A : Option Addr) (c : Nat) (w : World) (h : SlC w A p) (hf : FitC p) (hl : p.length ≤ maxLen) (hx : Fits x) (ht : TabH w) :
    Calls Tryd.prog 10 #[.slice A p.length c, .float .f64 x] w (TrcP (trcV p x) w) := by
  have RR := Lib.hid (xRight14 p A c w h hf hl)
  cases hr : right p with
  | false =>
    rw [hr] at RR
    have e : trcV p x = ([], 0) := by unfold trcV; rw [hr]; rfl
    rw [e]
    clear h hf hl hx ht hr e
    go_enter Tryd.func10, Tryd.ntmps10
    go_wp2_with fail
    refine RR.out.mono ?_
    rintro e w1 ⟨rfl, hb1⟩
    have B1 := Lib.hid hb1
    clear hb1
    go_wp2_with fail
    go_ret2
    exact ⟨B1.out, none, 0, rfl, Sl.nil _ _⟩
  | true =>
    rw [hr] at RR
    have XR := Lib.hid (fun W (hb : Below w.heap.size w W) => xrun p x A c W (h.below hb) hf hx hr (ht.bel hb))
    have e : trcV p x = go x p [] := by unfold trcV; rw [hr]; rfl
    rw [e]
    obtain ⟨st, n1, n32⟩ := right_steps hr hf
    have gok := go_ok hx p [] st Ok.nil (by decide)
    obtain ⟨⟨gs, gn⟩, hG⟩ : ∃ G, G = go x p [] := ⟨_, rfl⟩
    simp only [← hG] at XR gok ⊢
    obtain ⟨n, hn⟩ : ∃ n, n = p.length := ⟨_, rfl⟩
    simp only [← hn] at XR RR n1 n32 ⊢
    obtain ⟨m, hm⟩ : ∃ m, m = gs.length := ⟨_, rfl⟩
    simp only [← hm] at gok
    have XR : Hid (∀ W, Below w.heap.size w W → Calls Tryd.prog 21 #[.slice A n c, .float .f64 x] W fun e w' => Below W.heap.size W w' ∧ ∃ A' c', e = .returned (.tuple #[.slice A' m c', .int .i64 (gn : Int)]) ∧ SlF w' A' gs) := by rw [hm]; exact XR
    have HM := Lib.hid hm
    have HOK := Lib.hid gok.1
    have m8 : m ≤ 8 := gok.2.1
    clear h hf hl hx ht hr e st hn hm hG gok
    go_enter Tryd.func10, Tryd.ntmps10
    go_wp2_with fail
    refine RR.out.mono ?_
    rintro e w1 ⟨rfl, hb1⟩
    have B1 := Lib.hid hb1
    clear hb1
    go_wp2_with fail
    refine (XR.out _ B1.out).mono ?_
    rintro e w2 ⟨hb2, B, cb, rfl, hs2⟩
    have B2 := Lib.hid (below_then B1.out hb2)
    have S2 := Lib.hid hs2
    clear hb2 hs2
    go_wp2_with fail
    go_loopw [8, 22] (fun vl vi wr => ∃ j : Nat, j ≤ m ∧ vi = .int .i64 j ∧ Hid (Own wr w2.heap.size vl ((gs.take j).map fun a : Nat => (a : Int))) ∧ Hid (Below w2.heap.size w2 wr)) (fun _ vi _ => m - (intOf vi).toNat)
    case atStart => exact ⟨0, Nat.zero_le _, rfl, Lib.hid (Own.nil _ _), Lib.hid (Below.refl _ _)⟩
    case round =>
      obtain ⟨j, hj, rfl, HO, HB⟩ := hrel
      by_cases q : j < m
      · obtain ⟨b, o, rfl, hb, hcj⟩ := (S2.out.below HB.out).at_ (k := j) (by rw [← HM.out]; exact q)
        have cj := hcj j (by rw [← HM.out]; exact q)
        have okj := (HOK.out.get (i := j) (by rw [← HM.out]; exact q)).2
        have MJ := show (gs.take (j + 1)).map (fun a : Nat => (a : Int)) = (gs.take j).map (fun a : Nat => (a : Int)) ++ [((gs.getD j 0 : Nat) : Int)] from by
          have hjl : j < gs.length := by rw [← HM.out]; exact q
          rw [List.take_succ_eq_append_getElem hjl, List.map_append]
          simp only [List.map_cons, List.map_nil, List.getD_eq_getElem?_getD, List.getElem?_eq_getElem hjl, Option.getD_some]
        obtain ⟨y, hy⟩ : ∃ y, y = gs.getD j 0 := ⟨_, rfl⟩
        rw [← hy] at cj MJ okj
        have MJ2 := Lib.hid MJ
        have NB := Lib.hid (nbits y)
        rw [okj] at NB
        have i5 : (0 : Int) ≤ (j : Int) := by omega
        have i6 : (j : Int) < (m : Int) := by omega
        have hsz := HB.out.size
        have LL := Lib.hid (show ((gs.take j).map fun a : Nat => (a : Int)).length ≤ 100 by rw [List.length_map, List.length_take]; omega)
        clear hcj hy MJ hb okj
        go_wp2_with fail
        refine (NB.out _).mono ?_
        rintro e w' ⟨rfl, rfl⟩
        go_wp2_with (at_builtin; refine wp_put1 rfl (.tmp 26) (.tmp 29) rfl w2.heap.size _ _ rfl (HO.out.alloc _) _ _ rfl (cell_newI _ _ _) (by have := LL.out; omega) (by simp; omega) ?_; intro v3 w3 hown3 hb3; have HO3 := Lib.hid hown3; have HB3 := Lib.hid ((HB.out.alloc hsz _).trans hb3); clear hown3 hb3)
        go_roundw
        case rel => exact ⟨j + 1, by omega, by go_num, Lib.hid (by rw [MJ2.out]; exact HO3.out), HB3⟩
        case measure => simp [intOf]; omega
      · obtain rfl : j = m := by omega
        have own2 := HO.out
        rw [show gs.take j = gs from List.take_of_length_le (by rw [← HM.out]; exact Nat.le_refl _)] at own2
        obtain ⟨A3, c3, rfl, _, s3, _⟩ := own2.form
        have S3 := Lib.hid s3
        clear own2 s3
        go_wp2_with fail
        go_ret2
        refine ⟨below_then B2.out HB.out, A3, c3, ?_, S3.out⟩
        have lm : gs.length = (gs.map fun a : Nat => (a : Int)).length := by rw [List.length_map]
        show _ = Ending.returned (.tuple #[.slice A3 gs.length c3, .int .i64 (gn : Int)])
        rw [lm]
        rfl

end Go.Proofs.YtjahaegdmfgmgaaDoor
