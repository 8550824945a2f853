/- expr's step (which catches what is odd), run, Run, Trace: walked. -/
import Derived.Test.YtjahaegdmfgmgaaDoorG1e
import Derived.Defers
import Derived.Recover
import Derived.Outline
import Derived.Test.YtjahaegdmfgmgaaDoorOw
namespace Go.Proofs.YtjahaegdmfgmgaaDoor
open Go.RowKit Ex Fl

set_option maxRecDepth 100000 in
/-- what step defers, in a frame that panics -/
theorem catch_odd (w : World) :
    CallsD Tryd.prog 34 #[] (.panicking oddE) w fun e u' w' =>
      e = .returned (.tuple #[]) ∧ u' = .panicking [{ v := .iface 64 (.agg #[]), recovered := true }] ∧ w' = w.alloc (.cells #[] 64) := by
  have hta : ∀ w, (Instr.typeAssert (.iface 64 (.agg #[])) 20 64 true).run Tryd.prog w = .ok (.tuple #[.agg #[], .bool true]) w := fun w => by kernel_rfl
  refine callsD_of_wpS Tryd.func34 rfl fun c₀ cs hu => ?_
  unfold oddE at hu
  apply wpS_seq
  apply wpS_region
  simp [wpOpsS, go_sem, recoverD, hu, Tryd.ntmps34, Exit.thenS]
  apply wpS_seq
  apply wpS_region
  simp [wpOpsS, go_sem, hta, Exit.thenS]
  apply wpS_seq
  apply wpS_region
  simp [wpOpsS, go_sem, Exit.thenS]
  refine wpS_cond (t := false) (by simp [Act.eval, Array.replicate]) ?_
  simp only [Bool.false_eq_true, if_false]
  refine wpS_of_wp (wp_skip ?_)
  cases c₀
  simp_all [bodyPostS, results, Tryd.results34]

set_option maxRecDepth 100000 in
/-- .. in a frame that returns -/
theorem catch_none (w : World) :
    CallsD Tryd.prog 34 #[] .returning w fun e u' w' => e = .returned (.tuple #[]) ∧ u' = .returning ∧ w' = w.alloc (.cells #[] 64) := by
  have hta : ∀ w, (Instr.typeAssert .nilIface 20 64 true).run Tryd.prog w = .ok (.tuple #[.agg #[], .bool false]) w := fun w => by kernel_rfl
  refine callsD_of_wpS Tryd.func34 rfl fun c₀ cs hu => ?_
  apply wpS_seq
  apply wpS_region
  simp [wpOpsS, go_sem, recoverD, hu, Tryd.ntmps34, Exit.thenS]
  apply wpS_seq
  apply wpS_region
  simp [wpOpsS, go_sem, hta, Exit.thenS]
  apply wpS_seq
  apply wpS_region
  simp [wpOpsS, go_sem, Exit.thenS]
  refine wpS_cond (t := false) (by simp [Act.eval, Array.replicate]) ?_
  simp only [Bool.false_eq_true, if_false]
  refine wpS_of_wp (wp_skip ?_)
  cases c₀
  simp_all [bodyPostS, results, Tryd.results34]

/-- what step leaves -/
def StepP (r : Option (List Nat)) (w : World) (e : Ending) (w' : World) : Prop :=
  Below w.heap.size w w' ∧ (∀ l, r = some l → ∃ v, e = .returned (.tuple #[v, .bool true]) ∧ OwnF w' w.heap.size v l) ∧ (r = none → e = .returned (.tuple #[.slice none 0 0, .bool false]))

set_option maxRecDepth 100000 in
set_option maxHeartbeats 1000000 in
/-- step -/
theorem xstep (c : Cd) (x : Nat) (s : List Nat) (A : Option Addr) (cc : Nat) (w : World) (h : SlF w A s) (hc : s.length ≤ cc) (hn : A = none → cc = 0) (h8 : s.length ≤ 8) (hs : Ok s) (hi : isC c = true) (ht : TabH w) :
    Calls Tryd.prog 29 #[.slice A s.length cc, .agg #[.int .i64 c.op, .int .u64 (c.b : Int)], .float .f64 x] w (StepP (stp c x s) w) := by
  obtain ⟨op, own⟩ := c
  show Calls Tryd.prog 29 #[.slice A s.length cc, .agg #[.int .i64 op, .int .u64 (own : Int)], .float .f64 x] w _
  have r0 := RowAt.new w [.int .i64 op, .int .u64 (own : Int)] 42
  have hb0 := (Below.refl w.heap.size w).alloc (Nat.le_refl _) (.cells [.int .i64 op, .int .u64 (own : Int)].toArray 42)
  have XB := Lib.hid (show Calls Tryd.prog 35 #[.slice A s.length cc, .agg #[.int .i64 op, .int .u64 (own : Int)], .float .f64 x] (w.alloc (.cells [.int .i64 op, .int .u64 (own : Int)].toArray 42)) _ from xbehind ⟨op, own⟩ x s A cc _ (h.below hb0) hc hn h8 hs hi (ht.bel hb0))
  have B0 := Lib.hid hb0
  obtain ⟨c0, c1⟩ := cells2 r0
  obtain ⟨n, hnn⟩ : ∃ n, n = s.length := ⟨_, rfl⟩
  obtain ⟨r, hr⟩ : ∃ r, r = stp ⟨op, own⟩ x s := ⟨_, rfl⟩
  rw [← hnn, ← hr] at XB
  rw [← hnn, ← hr]
  clear h hc hn h8 hs hi ht r0 hb0 hnn hr
  cases r with
  | none =>
    go_enter_defers Tryd.func29, Tryd.ntmps29
    go_wp2_with fail
    refine XB.out.mono ?_
    rintro e w2 hp
    obtain rfl := hp.2.2 rfl
    have HB := Lib.hid (below_then B0.out hp.1)
    clear hp
    go_wp2_with fail
    refine leaves_cons (f := 34) (args := #[]) (by simp) (by simp [go_sem]) ?_
    refine (catch_odd _).mono ?_
    rintro e u' w3 ⟨rfl, rfl, rfl⟩
    simp [Leaves, settle, results, Tryd.results29, go_sem]
    exact ⟨HB.out.alloc HB.out.size _, (fun l e => by cases e), fun _ => rfl⟩
  | some l =>
    go_enter_defers Tryd.func29, Tryd.ntmps29
    go_wp2_with fail
    refine XB.out.mono ?_
    rintro e w2 hp
    obtain ⟨v, rfl, hown⟩ := hp.2.1 l rfl
    have HB := Lib.hid (below_then B0.out hp.1)
    have HO := Lib.hid (hown.more B0.out.size)
    clear hp hown
    go_wp2_with fail
    refine leaves_cons (f := 34) (args := #[]) (by simp) (by simp [go_sem]) ?_
    refine (catch_none _).mono ?_
    rintro e u' w3 ⟨rfl, rfl, rfl⟩
    simp [Leaves, settle, results, Tryd.results29, go_sem]
    exact ⟨HB.out.alloc HB.out.size _, (fun l' e => by injection e with e; subst e; exact ⟨v, rfl, HO.out.alloc _⟩), fun e => by cases e⟩

theorem go_drop {x : Nat} {p : List Cd} {i : Nat} {s : List Nat} (hi : i < p.length) : go x (p.drop i) s = match stp (p.getD i Cd.Z) x s with | none => (s, 0) | some t => ((go x (p.drop (i + 1)) t).1, (go x (p.drop (i + 1)) t).2 + 1) := by
  rw [List.drop_eq_getElem_cons hi, go, List.getD_eq_getElem?_getD, List.getElem?_eq_getElem hi]
  rfl
/-- what run leaves -/
def RunP (g : List Nat × Nat) (w : World) (e : Ending) (w' : World) : Prop :=
  Below w.heap.size w w' ∧ ∃ A c, e = .returned (.tuple #[.slice A g.1.length c, .int .i64 (g.2 : Int)]) ∧ SlF w' A g.1

set_option maxRecDepth 100000 in
set_option maxHeartbeats 1000000 in
/-- run -/
theorem xrun (p : List Cd) (x : Nat) (A : Option Addr) (c : Nat) (w : World) (h : SlC w A p) (hf : FitC p) (hx : Fits x) (hr : right p = true) (ht : TabH w) :
    Calls Tryd.prog 21 #[.slice A p.length c, .float .f64 x] w (RunP (go x p []) w) := by
  obtain ⟨st, n1, n32⟩ := right_steps hr hf
  obtain ⟨G, hG⟩ : ∃ G, G = go x p [] := ⟨_, rfl⟩
  rw [← hG]
  have HG := Lib.hid (show G = ((go x (p.drop 0) []).1, 0 + (go x (p.drop 0) []).2) by rw [hG, List.drop_zero, Nat.zero_add])
  obtain ⟨n, hn⟩ : ∃ n, n = p.length := ⟨_, rfl⟩
  have HN := Lib.hid hn
  rw [← hn] at n1 n32 ⊢
  have HS := Lib.hid h
  have HT := Lib.hid ht
  have ST := Lib.hid st
  have HX := Lib.hid hx
  clear h hf ht hr hn st hG hx
  go_enter Tryd.func21, Tryd.ntmps21
  go_wp2_with fail
  go_loopw [6, 13] (fun vs vi wr => ∃ (i : Nat) (s : List Nat) (B : Option Addr) (cb m : Nat), i ≤ n ∧ vs = .slice B m cb ∧ vi = .int .i64 i ∧ Hid (m = s.length ∧ m ≤ cb ∧ (B = none → cb = 0) ∧ m ≤ 8) ∧ Hid (SlF wr B s) ∧ Hid (Ok s) ∧ Hid (G = ((go x (p.drop i) s).1, i + (go x (p.drop i) s).2)) ∧ Hid (Below w.heap.size w wr)) (fun _ vi _ => n - (intOf vi).toNat)
  case atStart => exact ⟨0, [], none, 0, 0, Nat.zero_le _, rfl, rfl, Lib.hid ⟨rfl, Nat.le_refl _, fun _ => rfl, by decide⟩, Lib.hid (SlF.nil _ _), Lib.hid Ok.nil, HG, Lib.hid (Below.refl _ _)⟩
  case round =>
    obtain ⟨i, s, B, cb, m, hi, rfl, rfl, HM, HSF, HOK, HGO, HB⟩ := hrel
    obtain ⟨hm, hmc, hnb, hm8⟩ := HM.out
    by_cases q : i < n
    · obtain ⟨b, o, rfl, hb, c0, c1⟩ := (HS.out.below HB.out).at_ (by rw [← HN.out]; exact q)
      have SX := ST.out (p.getD i Cd.Z) (by
        rw [List.getD_eq_getElem?_getD, List.getElem?_eq_getElem (by rw [← HN.out]; exact q)]
        exact List.getElem_mem _)
      have HE2 := HGO.out
      rw [go_drop (by rw [← HN.out]; exact q)] at HE2
      obtain ⟨⟨op, bb⟩, hxx⟩ : ∃ x, x = p.getD i Cd.Z := ⟨_, rfl⟩
      rw [← hxx] at c0 c1 SX HE2
      change wr.cell? _ = some (.int .i64 op) at c0
      change wr.cell? _ = some (.int .u64 (bb : Int)) at c1
      have ba := HB.out.alloc HB.out.size (.cells #[.int .i64 op, .int .u64 (bb : Int)] 42)
      have BA := Lib.hid ba
      have XS := Lib.hid (xstep ⟨op, bb⟩ x s B cb _ (HSF.out.alloc (.cells #[.int .i64 op, .int .u64 (bb : Int)] 42)) (by omega) hnb (by omega) HOK.out SX.1 (HT.out.bel ba))
      have XS : Hid (Calls Tryd.prog 29 #[.slice B s.length cb, .agg #[.int .i64 op, .int .u64 (bb : Int)], .float .f64 x] (wr.alloc (.cells #[.int .i64 op, .int .u64 (bb : Int)] 42)) (StepP (stp ⟨op, bb⟩ x s) (wr.alloc (.cells #[.int .i64 op, .int .u64 (bb : Int)] 42)))) := XS
      rw [← hm] at XS
      have i0 : (0 : Int) ≤ (i : Int) := by omega
      have i1 : (i : Int) < (n : Int) := by omega
      cases hk : stp ⟨op, bb⟩ x s with
      | none =>
        rw [hk] at XS HE2
        have HE3 := Lib.hid (show G.1.length = m ∧ G.2 = i ∧ G.1 = s by rw [HE2]; exact ⟨hm.symm, rfl, rfl⟩)
        clear hxx SX HE2 hb hk ba hm hmc hnb hm8
        go_wp2_with fail
        refine XS.out.mono ?_
        rintro e w2 hp
        obtain rfl := hp.2.2 rfl
        have B2 := Lib.hid (BA.out.trans (hp.1.mono BA.out.size))
        have S2 := Lib.hid (SlF.below (w := wr.alloc (.cells #[.int .i64 op, .int .u64 (bb : Int)] 42)) (HSF.out.alloc _) hp.1)
        clear hp
        go_wp2_with fail
        go_ret2
        obtain ⟨e1, e2, e3⟩ := HE3.out
        exact ⟨B2.out, B, cb, by rw [e1, e2]; rfl, by rw [e3]; exact S2.out⟩
      | some t =>
        rw [hk] at XS HE2
        have ok2 := stp_ok (c := ⟨op, bb⟩) HX.out SX.2 SX.1 HOK.out hk
        have HE3 := Lib.hid (show G = ((go x (p.drop (i + 1)) t).1, (i + 1) + (go x (p.drop (i + 1)) t).2) by rw [HE2]; simp only []; rw [show i + ((go x (p.drop (i + 1)) t).2 + 1) = i + 1 + (go x (p.drop (i + 1)) t).2 by omega])
        have OK2 := Lib.hid ok2
        clear hxx SX HE2 hb hk ba hm hmc hnb hm8 ok2
        go_wp2_with fail
        refine XS.out.mono ?_
        rintro e w2 hp
        obtain ⟨v, rfl, hown⟩ := hp.2.1 t rfl
        obtain ⟨A2, c2, rfl, h2c, h2s, h2n⟩ := hown.sl
        have B2 := Lib.hid (BA.out.trans (hp.1.mono BA.out.size))
        obtain ⟨m2, hm2⟩ : ∃ m2, m2 = t.length := ⟨_, rfl⟩
        rw [← hm2]
        have M2 := Lib.hid (show m2 = t.length ∧ m2 ≤ c2 ∧ (A2 = none → c2 = 0) ∧ m2 ≤ 8 from ⟨hm2, by omega, h2n, by have := OK2.out.2.1; omega⟩)
        have S2 := Lib.hid h2s
        clear hp hown h2c h2s h2n hm2
        go_wp2_with fail
        go_roundw
        case rel => exact ⟨i + 1, t, A2, c2, m2, by omega, rfl, by go_num, M2, S2, Lib.hid OK2.out.1, HE3, B2⟩
        case measure => simp [intOf]; omega
    · obtain rfl : i = n := by omega
      have HE3 := Lib.hid (show G.1.length = m ∧ G.2 = i ∧ G.1 = s by
        rw [HGO.out, HN.out, List.drop_length]; exact ⟨hm.symm, rfl, rfl⟩)
      clear hm hmc hnb hm8
      go_wp2_with fail
      go_ret2
      obtain ⟨e1, e2, e3⟩ := HE3.out
      exact ⟨HB.out, B, cb, by rw [e1, e2]; rfl, by rw [e3]; exact HSF.out⟩

end Go.Proofs.YtjahaegdmfgmgaaDoor
