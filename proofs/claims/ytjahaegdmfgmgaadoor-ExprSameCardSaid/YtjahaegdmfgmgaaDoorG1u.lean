/- cloisonneref14: Trace, walked. -/
import Derived.Test.YtjahaegdmfgmgaaDoorG1t
namespace Go.Proofs.YtjahaegdmfgmgaaDoor
open Go.RowKit Ex Fl

set_option maxRecDepth 100000 in
theorem wp_putNF2 {w : World} {ops : Array Oper} {rest : List Oper} {o : Oper} {a : Act} {Q : Exit → Act → World → Prop} (hgd : o.guard = none) (s x : Operand)
    (ho : o.op = .call { callee := .builtin .append, args := #[s, x], argTypes := #[34, 34] })
    (B : Nat) (v : Value) (zs : List Nat) (hs : a.eval s = v) (hown : OwnF w B v zs) (A : Option Addr) (c : Nat) (ys : List Nat) (n : Nat) (hn : ys.length = n) (hx : a.eval x = .slice A n c)
    (hA : SlF w A ys) (hnil : A = none → ys = [] ∧ c = 0) (hl : zs.length + ys.length ≤ 1099511627776) (hB : B ≤ w.heap.size)
    (h : ∀ v' w', OwnF w' B v' (zs ++ ys) → Below B w w' → wpList Tryd.prog ops Q rest (a.put o.dst v') w') : wpList Tryd.prog ops Q (o :: rest) a w := by
  subst hn
  exact wp_putNF hgd s x ho B v zs hs hown A c ys hx hA hnil hl hB h
/-- Step -/
theorem rStep (op : Int) (own x : Nat) (t : List Nat) (w : World) (A : Option Addr) (cc : Nat) (h : SlF w A t) (ht : Ok t) (hl : t.length = tk op) (hcc : t.length ≤ cc) (o1 : 1 ≤ op) (o2 : op ≤ 16) (hx : Fits x) :
    Calls Tryd.prog 25 #[.int .i64 op, .float .f64 own, .float .f64 x, .slice A t.length cc] w (StpR (mk op own x (t.getD 0 0) (t.getD 1 0) (t.getD 2 0)) w) := by
  have L1 : tk op = 1 → ∃ a, t = [a] ∧ Fits a := fun e => by
    obtain ⟨a, rfl⟩ := len1 (hl.trans e)
    exact ⟨a, rfl, (ht a (by simp)).1⟩
  have L2 : tk op = 2 → ∃ a b, t = [a, b] ∧ Fits a ∧ Fits b := fun e => by
    obtain ⟨a, b, rfl⟩ := len2 (hl.trans e)
    exact ⟨a, b, rfl, (ht a (by simp)).1, (ht b (by simp)).1⟩
  rcases op16 o1 o2 with rfl | rfl | rfl | rfl | rfl | rfl | rfl | rfl | rfl | rfl | rfl | rfl | rfl | rfl | rfl | rfl
  · exact rstep1 own x w A _ cc hx
  · exact rstep2 own x w A _ cc
  · obtain ⟨a, b, rfl, fa, fb⟩ := L2 rfl
    exact rstep3 a b own x w A _ cc h rfl hcc
  · obtain ⟨a, b, rfl, fa, fb⟩ := L2 rfl
    exact rstep4 a b own x w A _ cc h rfl hcc
  · obtain ⟨a, b, rfl, fa, fb⟩ := L2 rfl
    exact rstep5 a b own x w A _ cc h rfl hcc
  · obtain ⟨a, b, rfl, fa, fb⟩ := L2 rfl
    exact rstep6 a b own x w A _ cc h rfl hcc
  · obtain ⟨a, b, rfl, fa, fb⟩ := L2 rfl
    exact rstep7 a b own x w A _ cc h rfl hcc fa fb
  · obtain ⟨a, b, rfl, fa, fb⟩ := L2 rfl
    exact rstep8 a b own x w A _ cc h rfl hcc fa fb
  · obtain ⟨a, rfl, fa⟩ := L1 rfl
    exact rstep9 a own x w A _ cc h rfl hcc fa
  · obtain ⟨a, rfl, fa⟩ := L1 rfl
    exact rstep10 a own x w A _ cc h rfl hcc
  · obtain ⟨a, rfl, fa⟩ := L1 rfl
    exact rstep11 a own x w A _ cc h rfl hcc fa
  · obtain ⟨a, rfl, fa⟩ := L1 rfl
    exact rstep12 a own x w A _ cc h rfl hcc
  · obtain ⟨a, b, rfl, fa, fb⟩ := L2 rfl
    exact rstep13 a b own x w A _ cc h rfl hcc
  · exact rstep14 own x w A _ cc
  · obtain ⟨a, rfl, fa⟩ := L1 rfl
    show Calls _ _ _ w (StpR (if fin a then some [a] else none) w)
    cases hf : fin a
    · exact rstep15n a own x w A _ cc h rfl hcc fa hf
    · exact rstep15y a own x w A _ cc h rfl hcc fa hf
  · obtain ⟨a, b, c, rfl⟩ := len3 hl
    exact rstep16 a b c own x w A _ cc h rfl hcc (ht c (by simp)).1

set_option maxRecDepth 100000 in
set_option maxHeartbeats 2000000 in
/-- Trace -/
theorem rTrace (p : List Cd) (x : Nat) (A : Option Addr) (c : Nat) (w : World) (h : SlC w A p) (hf : FitC p) (hx : Fits x) (hr : right p = true) :
    Calls Tryd.prog 13 #[.slice A p.length c, .float .f64 x] w (RunP (go x p []) w) := by
  obtain ⟨st, n1, n32⟩ := right_steps hr hf
  obtain ⟨G, hG⟩ : ∃ G, G = go x p [] := ⟨_, rfl⟩
  rw [← hG]
  have HG := Lib.hid (show G = ((go x (p.drop 0) []).1, 0 + (go x (p.drop 0) []).2) by rw [hG, List.drop_zero, Nat.zero_add])
  obtain ⟨n, hn⟩ : ∃ n, n = p.length := ⟨_, rfl⟩
  have HN := Lib.hid hn
  rw [← hn] at n1 n32 ⊢
  have HS := Lib.hid h
  have ST := Lib.hid st
  have HX := Lib.hid hx
  clear h hf hr hn st hG hx
  go_enter Tryd.func13, Tryd.ntmps13
  go_wp2_with fail
  go_loopw [6, 7] (fun vs vi wr => ∃ (i : Nat) (s : List Nat) (B : Option Addr) (cb m : Nat), i ≤ n ∧ vs = .slice B m cb ∧ vi = .int .i64 i ∧ Hid (m = s.length ∧ m ≤ cb ∧ (B = none → cb = 0) ∧ m ≤ 8) ∧ Hid (SlF wr B s) ∧ Hid (Ok s) ∧ Hid (G = ((go x (p.drop i) s).1, i + (go x (p.drop i) s).2)) ∧ Hid (Below w.heap.size w wr)) (fun _ vi _ => n - (intOf vi).toNat)
  case atStart => exact ⟨0, [], some ⟨w.heap.size, 0, none⟩, 0, 0, Nat.zero_le _, rfl, rfl, Lib.hid ⟨rfl, Nat.le_refl _, (fun e => by cases e), by decide⟩, Lib.hid (SlF.nil _ _), Lib.hid Ok.nil, HG, Lib.hid ((Below.refl _ _).alloc (Nat.le_refl _) _)⟩
  case round =>
    obtain ⟨i, s, B, cb, m, hi, rfl, rfl, HM, HSF, HOK, HGO, HB⟩ := hrel
    obtain ⟨hm, hmc, hnb, hm8⟩ := HM.out
    by_cases q : i < n
    · obtain ⟨b, o, rfl, hb, c0, c1⟩ := (HS.out.below HB.out).at_ (by rw [← HN.out]; exact q)
      have SX := ST.out (p.getD i Cd.Z) (by
        rw [List.getD_eq_getElem?_getD, List.getElem?_eq_getElem (by rw [← HN.out]; exact q)]
        exact List.getElem_mem _)
      have HE2 := HGO.out
      rw [go_drop (by rw [← HN.out]; exact q)] at HE2
      obtain ⟨⟨op, bb⟩, hxx⟩ : ∃ x, x = p.getD i Cd.Z := ⟨_, rfl⟩
      rw [← hxx] at c0 c1 SX HE2
      obtain ⟨o1, o2, _⟩ := (isC_iff _).1 SX.1
      change 1 ≤ op at o1
      change op ≤ 16 at o2
      change wr.cell? _ = some (.int .i64 op) at c0
      change wr.cell? _ = some (.int .u64 (bb : Int)) at c1
      have XN := Lib.hid (rNeeds op o1 o2)
      have i0 : (0 : Int) ≤ (i : Int) := by omega
      have i1 : (i : Int) < (n : Int) := by omega
      have t3 := tk_le op
      have p2 := pt_le op
      by_cases bd : bad op m
      · have hk : stp ⟨op, bb⟩ x s = none := by unfold stp; rw [if_pos (show bad op s.length by rw [← hm]; exact bd)]
        rw [hk] at HE2
        have HE3 := Lib.hid (show G.1.length = m ∧ G.2 = i ∧ G.1 = s by rw [HE2]; exact ⟨hm.symm, rfl, rfl⟩)
        unfold bad at bd
        obtain ⟨t, ht⟩ : ∃ t, t = tk op := ⟨_, rfl⟩
        obtain ⟨u, hu⟩ : ∃ u, u = pt op := ⟨_, rfl⟩
        simp only [← ht, ← hu] at XN t3 p2 bd
        by_cases p1 : m < t
        · clear hxx SX HE2 hb hk hm hmc hnb ht hu o1 o2 bd
          go_wp2_with fail
          refine (XN.out _).mono ?_
          rintro e w2 ⟨rfl, rfl⟩
          go_wp2_with fail
          go_ret2
          obtain ⟨e1, e2, e3⟩ := HE3.out
          exact ⟨HB.out, B, cb, by rw [e1, e2]; rfl, by rw [e3]; exact HSF.out⟩
        · have q4 : (8 : Int) < (m : Int) - (t : Int) + (u : Int) := by omega
          have q5 : ¬ (m : Int) < (t : Int) := by omega
          clear hxx SX HE2 hb hk hm hmc hnb ht hu o1 o2 bd
          go_wp2_with fail
          refine (XN.out _).mono ?_
          rintro e w2 ⟨rfl, rfl⟩
          go_wp2_with fail
          go_ret2
          obtain ⟨e1, e2, e3⟩ := HE3.out
          exact ⟨HB.out, B, cb, by rw [e1, e2]; rfl, by rw [e3]; exact HSF.out⟩
      · have SN := stp_none (c := ⟨op, bb⟩) (x := x) (s := s) (by rw [← hm]; exact bd)
        change stp ⟨op, bb⟩ x s = (mk op bb x ((s.drop (s.length - tk op)).getD 0 0) ((s.drop (s.length - tk op)).getD 1 0) ((s.drop (s.length - tk op)).getD 2 0)).map (s.take (s.length - tk op) ++ ·) at SN
        rw [← hm] at SN
        unfold bad at bd
        obtain ⟨k, hk⟩ : ∃ k, k = m - tk op := ⟨_, rfl⟩
        have tl : tk op = m - k := by omega
        rw [← hk] at SN
        have ld : (s.drop k).length = m - k := by rw [List.length_drop, ← hm]
        have lt : (s.take k).length = k := by rw [List.length_take, ← hm]; omega
        have RS := Lib.hid (fun W A' c' (hS : SlF W A' (s.drop k)) (hc : m - k ≤ c') => rStep op bb x (s.drop k) W A' c' hS (HOK.out.drop k) (by rw [ld, tl]) (by rw [ld]; exact hc) o1 o2 HX.out)
        simp only [ld] at RS
        obtain ⟨r, hr⟩ : ∃ r, r = mk op bb x ((s.drop k).getD 0 0) ((s.drop k).getD 1 0) ((s.drop k).getD 2 0) := ⟨_, rfl⟩
        simp only [← hr] at RS
        rw [← hr] at SN
        have RL := Lib.hid (show ∀ l, r = some l → l.length ≤ 2 from fun l e => by
          have := mk_len o1 o2 l (hr.symm.trans e)
          have := pt_le op
          omega)
        have OK2 := Lib.hid (fun t (e : stp ⟨op, bb⟩ x s = some t) => stp_ok (c := ⟨op, bb⟩) HX.out SX.2 SX.1 HOK.out e)
        have SZ := Lib.hid (show cb = k → ∀ W A', SlF W A' (s.drop k) from fun e W A' hp => by rw [ld] at hp; omega)
        have SP := Lib.hid (show ∀ W, SlF W B s → SlF W (Option.map (fun x => x.add k) B) (s.drop k) from fun W hS => hS.sliced k)
        have LT := Lib.hid lt
        obtain ⟨u, hu⟩ : ∃ u, u = pt op := ⟨_, rfl⟩
        obtain ⟨t, ht⟩ : ∃ t, t = tk op := ⟨_, rfl⟩
        simp only [← ht, ← hu] at XN t3 p2 bd hk
        have q4 : ¬ (8 : Int) < (m : Int) - (t : Int) + (u : Int) := by omega
        have q5 : ¬ (m : Int) < (t : Int) := by omega
        have ek : (m : Int) - (t : Int) = (k : Int) := by omega
        have j0 : k ≤ m := by omega
        have j1 : k ≤ cb := by omega
        have EK := Lib.hid ek
        have wk : IntKind.i64.wrap (k : Int) = (k : Int) := by rw [IntKind.wrap_i64]; omega
        have SN2 := Lib.hid SN
        have HE3 := Lib.hid HE2
        have HNB := Lib.hid hnb
        have HMM := Lib.hid hm
        clear hxx SX HE2 hb hm hnb ht hu o1 o2 bd SN tl ld lt hr hk
        by_cases qc : cb = k
        · have SX := Lib.hid (fun W (_ : SlF W B s) => SZ.out qc W)
          rw [show m - k = 0 by omega] at RS
          have qk := qc.symm
          subst qk
          clear SP SZ
          go_wp2_with fail
          refine (XN.out _).mono ?_
          rintro e w2 ⟨rfl, rfl⟩
          go_wp2_with fail
          refine wp_region_held_drew (S := fun W : World => W.cell? ⟨b, o + i * 2, none⟩ = some (.int .i64 op) ∧ W.cell? ⟨b, o + i * 2 + 1, none⟩ = some (.int .u64 (bb : Int))) (by kernel_rfl) (⟨c0, c1⟩) (fun hHeld => ?_)
          refine rgnTake 0 rfl (by kernel_rfl) (by kernel_rfl) (by kernel_rfl) (fun _ _ _ h => h) (by rfl) (v := ?v1) ?hy1 hHeld ?rest1
          case hy1 => (intro v hSw; obtain ⟨x0, x1⟩ := hSw;first | (go_simp; done) | (go_simp; with_reducible rfl))
          try simp only [Act.put, List.setIfInBounds_toArray, List.set_cons_zero, List.set_cons_succ]
          refine rgnTake 1 rfl (by kernel_rfl) (by kernel_rfl) (by kernel_rfl) (fun _ _ _ h => h) (by rfl) (v := ?v2) ?hy2 hHeld ?rest2
          case hy2 => (intro v hSw; obtain ⟨x0, x1⟩ := hSw;first | (go_simp; done) | (go_simp; with_reducible rfl))
          try simp only [Act.put, List.setIfInBounds_toArray, List.set_cons_zero, List.set_cons_succ]
          refine rgnTake 2 rfl (by kernel_rfl) (by kernel_rfl) (by kernel_rfl) (fun _ _ _ h => h) (by rfl) (v := ?v3) ?hy3 hHeld ?rest3
          case hy3 => (intro v hSw; obtain ⟨x0, x1⟩ := hSw;first | (go_simp; done) | (go_simp; with_reducible rfl))
          try simp only [Act.put, List.setIfInBounds_toArray, List.set_cons_zero, List.set_cons_succ]
          refine rgnTake 3 rfl (by kernel_rfl) (by kernel_rfl) (by kernel_rfl) (fun _ _ _ h => h) (by rfl) (v := ?v4) ?hy4 hHeld ?rest4
          case hy4 => (intro v hSw; obtain ⟨x0, x1⟩ := hSw;first | (go_simp; done) | (go_simp; with_reducible rfl))
          try simp only [Act.put, List.setIfInBounds_toArray, List.set_cons_zero, List.set_cons_succ]
          refine rgnTake 4 rfl (by kernel_rfl) (by kernel_rfl) (by kernel_rfl) (fun _ _ _ h => h) (by rfl) (v := ?v5) ?hy5 hHeld ?rest5
          case hy5 => (intro v hSw; obtain ⟨x0, x1⟩ := hSw;first | (go_simp; done) | (go_simp; with_reducible rfl))
          try simp only [Act.put, List.setIfInBounds_toArray, List.set_cons_zero, List.set_cons_succ]
          refine rgnTake 5 rfl (by kernel_rfl) (by kernel_rfl) (by kernel_rfl) (fun _ _ _ h => h) (by rfl) (v := ?v6) ?hy6 hHeld ?rest6
          case hy6 => (intro v hSw; obtain ⟨x0, x1⟩ := hSw;first | (go_simp; done) | (go_simp; with_reducible rfl))
          try simp only [Act.put, List.setIfInBounds_toArray, List.set_cons_zero, List.set_cons_succ]
          refine rgnTake 6 rfl (by kernel_rfl) (by kernel_rfl) (by kernel_rfl) (fun _ _ _ h => h) (by rfl) (v := ?v7) ?hy7 hHeld ?rest7
          case hy7 => (intro v hSw; obtain ⟨x0, x1⟩ := hSw;first | (go_simp; done) | (go_simp; with_reducible rfl))
          try simp only [Act.put, List.setIfInBounds_toArray, List.set_cons_zero, List.set_cons_succ]
          refine rgnTake 7 rfl (by kernel_rfl) (by kernel_rfl) (by kernel_rfl) (fun _ _ _ h => h) (by rfl) (v := ?v8) ?hy8 hHeld ?rest8
          case hy8 => (intro v hSw; obtain ⟨x0, x1⟩ := hSw;first | (go_simp; done) | (go_simp; with_reducible rfl))
          try simp only [Act.put, List.setIfInBounds_toArray, List.set_cons_zero, List.set_cons_succ]
          refine rgnTake 8 rfl (by kernel_rfl) (by kernel_rfl) (by kernel_rfl) (fun _ _ _ h => h) (by rfl) (v := ?v9) ?hy9 hHeld ?rest9
          case hy9 => (intro v hSw; obtain ⟨x0, x1⟩ := hSw;first | (go_simp; done) | (go_simp; with_reducible rfl))
          try simp only [Act.put, List.setIfInBounds_toArray, List.set_cons_zero, List.set_cons_succ]
          refine rgnTake 9 rfl (by kernel_rfl) (by kernel_rfl) (by kernel_rfl) (fun _ _ _ h => h) (by rfl) (v := ?v10) ?hy10 hHeld ?rest10
          case hy10 => (intro v hSw; obtain ⟨x0, x1⟩ := hSw;first | (go_simp; done) | (go_simp; with_reducible rfl))
          try simp only [Act.put, List.setIfInBounds_toArray, List.set_cons_zero, List.set_cons_succ]
          refine rgnTake 10 rfl (by kernel_rfl) (by kernel_rfl) (by kernel_rfl) (fun _ _ _ h => h) (by rfl) (v := ?v11) ?hy11 hHeld ?rest11
          case hy11 => (intro v hSw; first | (go_simp; done) | (go_simp; with_reducible rfl))
          try simp only [Act.put, List.setIfInBounds_toArray, List.set_cons_zero, List.set_cons_succ]
          refine rgnTake 11 rfl (by kernel_rfl) (by kernel_rfl) (by kernel_rfl) (fun _ _ _ h => h) (by rfl) (v := ?v12) ?hy12 hHeld ?rest12
          case hy12 => (intro v hSw; first | (go_simp; done) | (go_simp; with_reducible rfl))
          try simp only [Act.put, List.setIfInBounds_toArray, List.set_cons_zero, List.set_cons_succ]
          refine rgnTake 12 rfl (by kernel_rfl) (by kernel_rfl) (by kernel_rfl) (fun _ _ _ h => h) (by rfl) (v := ?v13) ?hy13 hHeld ?rest13
          case hy13 => (intro v hSw; first | (go_simp; done) | (go_simp; with_reducible rfl))
          try simp only [Act.put, List.setIfInBounds_toArray, List.set_cons_zero, List.set_cons_succ]
          refine rgnTake 13 rfl (by kernel_rfl) (by kernel_rfl) (by kernel_rfl) (fun _ _ _ h => h) (by rfl) (v := ?v14) ?hy14 hHeld ?rest14
          case hy14 => (intro v hSw; first | (go_simp; done) | (go_simp; with_reducible rfl))
          try simp only [Act.put, List.setIfInBounds_toArray, List.set_cons_zero, List.set_cons_succ]
          refine rgnTake 14 rfl (by kernel_rfl) (by kernel_rfl) (by kernel_rfl) (fun _ _ _ h => h) (by rfl) (v := ?v15) ?hy15 hHeld ?rest15
          case hy15 => (intro v hSw; first | (go_simp; done) | (go_simp; with_reducible rfl))
          try simp only [Act.put, List.setIfInBounds_toArray, List.set_cons_zero, List.set_cons_succ]
          refine rgnTake 15 rfl (by kernel_rfl) (by kernel_rfl) (by kernel_rfl) (fun _ _ _ h => h) (by rfl) (v := ?v16) ?hy16 hHeld ?rest16
          case hy16 => (intro v hSw; first | (go_simp; done) | (go_simp; with_reducible rfl))
          try simp only [Act.put, List.setIfInBounds_toArray, List.set_cons_zero, List.set_cons_succ]
          refine rgnTake 16 rfl (by kernel_rfl) (by kernel_rfl) (by kernel_rfl) (fun _ _ _ h => h) (by rfl) (v := ?v17) ?hy17 hHeld ?rest17
          case hy17 => (intro v hSw; first | (go_simp; done) | (go_simp; with_reducible rfl))
          try simp only [Act.put, List.setIfInBounds_toArray, List.set_cons_zero, List.set_cons_succ]
          refine rgnTake 17 rfl (by kernel_rfl) (by kernel_rfl) (by kernel_rfl) (fun _ _ _ h => h) (by rfl) (v := ?v18) ?hy18 hHeld ?rest18
          case hy18 => (intro v hSw; first | (go_simp; done) | (go_simp; with_reducible rfl))
          try simp only [Act.put, List.setIfInBounds_toArray, List.set_cons_zero, List.set_cons_succ]
          cases r with
          | none =>
            have SN3 := Lib.hid (show stp ⟨op, bb⟩ x s = none from SN2.out)
            refine rgnOne 18 rfl (by kernel_rfl) (fun K hK => ?_)
            go_simp
            refine (RS.out _ _ _ (by first | exact SX.out _ HSF.out.drew _ | exact SX.out _ HSF.out.drew) (by omega)).mono ?_
            rintro e w3 hp
            obtain ⟨v3, rfl⟩ := hp.2.2 rfl
            have B3 := Lib.hid (HB.out.drew.trans (hp.1.mono HB.out.drew.size))
            have S3 := Lib.hid (SlF.below (w := wr.drew) HSF.out.drew hp.1)
            have C3 := Lib.hid (show w3.cell? ⟨b, o + i * 2, none⟩ = some (.int .i64 op) ∧ w3.cell? ⟨b, o + i * 2 + 1, none⟩ = some (.int .u64 (bb : Int)) from ⟨(hp.1.cell (p := ⟨b, o + i * 2, none⟩) (World.block_lt_of_cell? wr _ c0)).trans c0, (hp.1.cell (p := ⟨b, o + i * 2 + 1, none⟩) (World.block_lt_of_cell? wr _ c1)).trans c1⟩)
            refine hK.out _ _ (C3.out) (fun hHeld => ?_)
            clear hK K
            try simp only [Act.put, List.setIfInBounds_toArray, List.set_cons_zero, List.set_cons_succ]
            refine rgnTake 19 rfl (by kernel_rfl) (by kernel_rfl) (by kernel_rfl) (fun _ _ _ h => h) (by rfl) (v := ?v19) ?hy19 hHeld ?rest19
            case hy19 => (intro v hSw; first | (go_simp; done) | (go_simp; with_reducible rfl))
            try simp only [Act.put, List.setIfInBounds_toArray, List.set_cons_zero, List.set_cons_succ]
            refine rgnTake 20 rfl (by kernel_rfl) (by kernel_rfl) (by kernel_rfl) (fun _ _ _ h => h) (by rfl) (v := ?v20) ?hy20 hHeld ?rest20
            case hy20 => (intro v hSw; first | (go_simp; done) | (go_simp; with_reducible rfl))
            try simp only [Act.put, List.setIfInBounds_toArray, List.set_cons_zero, List.set_cons_succ]
            refine rgnTake 21 rfl (by kernel_rfl) (by kernel_rfl) (by kernel_rfl) (fun _ _ _ h => h) (by rfl) (v := ?v21) ?hy21 hHeld ?rest21
            case hy21 => (intro v hSw; first | (go_simp; done) | (go_simp; with_reducible rfl))
            try simp only [Act.put, List.setIfInBounds_toArray, List.set_cons_zero, List.set_cons_succ]
            refine rgnTake 22 rfl (by kernel_rfl) (by kernel_rfl) (by kernel_rfl) (fun _ _ _ h => h) (by rfl) (v := ?v22) ?hy22 hHeld ?rest22
            case hy22 => (intro v hSw; first | (go_simp; done) | (go_simp; with_reducible rfl))
            try simp only [Act.put, List.setIfInBounds_toArray, List.set_cons_zero, List.set_cons_succ]
            refine rgnTake 23 rfl (by kernel_rfl) (by kernel_rfl) (by kernel_rfl) (fun _ _ _ h => h) (by rfl) (v := ?v23) ?hy23 hHeld ?rest23
            case hy23 => (intro v hSw; first | (go_simp; done) | (go_simp; with_reducible rfl))
            try simp only [Act.put, List.setIfInBounds_toArray, List.set_cons_zero, List.set_cons_succ]
            refine wpAnyH_done (by kernel_rfl) ?_ _
            clear c0 c1 hp
            have HE4 := Lib.hid (show G.1.length = m ∧ G.2 = i ∧ G.1 = s by rw [HE3.out, SN3.out]; exact ⟨HMM.out.symm, rfl, rfl⟩)
            go_wp2_with fail
            go_ret2
            obtain ⟨e1, e2, e3⟩ := HE4.out
            exact ⟨B3.out, B, _, by rw [e1, e2]; rfl, by rw [e3]; exact S3.out⟩
          | some l =>
            refine rgnOne 18 rfl (by kernel_rfl) (fun K hK => ?_)
            go_simp
            refine (RS.out _ _ _ (by first | exact SX.out _ HSF.out.drew _ | exact SX.out _ HSF.out.drew) (by omega)).mono ?_
            rintro e w3 hp
            obtain ⟨A3, d3, rfl, sl3, nl3⟩ := hp.2.1 l rfl
            have B3 := Lib.hid (HB.out.drew.trans (hp.1.mono HB.out.drew.size))
            have S3 := Lib.hid (SlF.below (w := wr.drew) HSF.out.drew hp.1)
            have C3 := Lib.hid (show w3.cell? ⟨b, o + i * 2, none⟩ = some (.int .i64 op) ∧ w3.cell? ⟨b, o + i * 2 + 1, none⟩ = some (.int .u64 (bb : Int)) from ⟨(hp.1.cell (p := ⟨b, o + i * 2, none⟩) (World.block_lt_of_cell? wr _ c0)).trans c0, (hp.1.cell (p := ⟨b, o + i * 2 + 1, none⟩) (World.block_lt_of_cell? wr _ c1)).trans c1⟩)
            refine hK.out _ _ (C3.out) (fun hHeld => ?_)
            clear hK K
            try simp only [Act.put, List.setIfInBounds_toArray, List.set_cons_zero, List.set_cons_succ]
            refine rgnTake 19 rfl (by kernel_rfl) (by kernel_rfl) (by kernel_rfl) (fun _ _ _ h => h) (by rfl) (v := ?v24) ?hy24 hHeld ?rest24
            case hy24 => (intro v hSw; first | (go_simp; done) | (go_simp; with_reducible rfl))
            try simp only [Act.put, List.setIfInBounds_toArray, List.set_cons_zero, List.set_cons_succ]
            refine rgnTake 20 rfl (by kernel_rfl) (by kernel_rfl) (by kernel_rfl) (fun _ _ _ h => h) (by rfl) (v := ?v25) ?hy25 hHeld ?rest25
            case hy25 => (intro v hSw; first | (go_simp; done) | (go_simp; with_reducible rfl))
            try simp only [Act.put, List.setIfInBounds_toArray, List.set_cons_zero, List.set_cons_succ]
            refine rgnTake 21 rfl (by kernel_rfl) (by kernel_rfl) (by kernel_rfl) (fun _ _ _ h => h) (by rfl) (v := ?v26) ?hy26 hHeld ?rest26
            case hy26 => (intro v hSw; first | (go_simp; done) | (go_simp; with_reducible rfl))
            try simp only [Act.put, List.setIfInBounds_toArray, List.set_cons_zero, List.set_cons_succ]
            refine rgnTake 22 rfl (by kernel_rfl) (by kernel_rfl) (by kernel_rfl) (fun _ _ _ h => h) (by rfl) (v := ?v27) ?hy27 hHeld ?rest27
            case hy27 => (intro v hSw; first | (go_simp; done) | (go_simp; with_reducible rfl))
            try simp only [Act.put, List.setIfInBounds_toArray, List.set_cons_zero, List.set_cons_succ]
            refine rgnTake 23 rfl (by kernel_rfl) (by kernel_rfl) (by kernel_rfl) (fun _ _ _ h => h) (by rfl) (v := ?v28) ?hy28 hHeld ?rest28
            case hy28 => (intro v hSw; first | (go_simp; done) | (go_simp; with_reducible rfl))
            try simp only [Act.put, List.setIfInBounds_toArray, List.set_cons_zero, List.set_cons_succ]
            refine wpAnyH_done (by kernel_rfl) ?_ _
            have SL3 := Lib.hid sl3
            have NL3 := Lib.hid nl3
            clear c0 c1 hp sl3 nl3
            have OM := Lib.hid (OwnF.made w3 w3.heap.size (Nat.le_refl _) [] (by simp))
            have BM := Lib.hid ((Below.refl w3.heap.size w3).alloc (Nat.le_refl _) (.cells (([] : List Nat).map (Value.float .f64)).toArray 25))
            have l2 := RL.out l rfl
            have T2 := Lib.hid (OK2.out _ SN2.out)
            have HE4 := Lib.hid (show G = ((go x (p.drop (i + 1)) (s.take k ++ l)).1, (i + 1) + (go x (p.drop (i + 1)) (s.take k ++ l)).2) by
              rw [HE3.out, SN2.out]
              simp only [Option.map_some]
              rw [show i + ((go x (p.drop (i + 1)) (s.take k ++ l)).2 + 1) = i + 1 + (go x (p.drop (i + 1)) (s.take k ++ l)).2 by omega])
            have j2 : (0 : Int) ≤ (k : Int) := by omega
            have ZB := Lib.hid (fun (e : B = none) => show s.take k = [] ∧ k = 0 from ⟨List.eq_nil_of_length_eq_zero (by have := HNB.out e; rw [LT.out]; omega), HNB.out e⟩)
            go_wp2_with (first
              | (at_builtin; refine wp_putNF2 rfl (.tmp 69) (.tmp 75) rfl w3.heap.size _ [] rfl OM.out B _ (s.take k) k LT.out rfl ((S3.out.alloc _).take k) ZB.out (by simp; omega) (by simp) ?_; intro v4 w4 hown4 hb4; have HO4 := Lib.hid hown4; have HB4 := Lib.hid (BM.out.trans hb4); clear hown4 hb4)
              | (at_builtin; refine wp_putNF rfl (.tmp 76) (.tmp 77) rfl w3.heap.size _ _ rfl HO4.out A3 d3 l rfl (SL3.out.below HB4.out) (fun e => NL3.out e) (by simp; omega) HB4.out.size ?_; intro v5 w5 hown5 hb5; have HB5 := Lib.hid (HB4.out.trans hb5); obtain ⟨A5, c5, rfl, h5c, h5s, h5n⟩ := hown5.sl; have S5 := Lib.hid h5s; have M5 := Lib.hid (And.intro h5c h5n); clear hown5 hb5 h5s h5c h5n))
            go_roundw
            case rel =>
              refine ⟨i + 1, s.take k ++ l, A5, c5, (s.take k ++ l).length, by omega, ?_, by go_num, Lib.hid ⟨rfl, M5.out.1, M5.out.2, T2.out.2.1⟩, S5, Lib.hid T2.out.1, HE4, Lib.hid (B3.out.trans (HB5.out.mono B3.out.size))⟩
              simp
            case measure => simp [intOf]; omega
        · have SX := Lib.hid (fun W (hS : SlF W B s) => SP.out W hS)
          clear SP SZ
          go_wp2_with fail
          refine (XN.out _).mono ?_
          rintro e w2 ⟨rfl, rfl⟩
          go_wp2_with fail
          refine wp_region_held_drew (S := fun W : World => W.cell? ⟨b, o + i * 2, none⟩ = some (.int .i64 op) ∧ W.cell? ⟨b, o + i * 2 + 1, none⟩ = some (.int .u64 (bb : Int))) (by kernel_rfl) (⟨c0, c1⟩) (fun hHeld => ?_)
          refine rgnTake 0 rfl (by kernel_rfl) (by kernel_rfl) (by kernel_rfl) (fun _ _ _ h => h) (by rfl) (v := ?v29) ?hy29 hHeld ?rest29
          case hy29 => (intro v hSw; obtain ⟨x0, x1⟩ := hSw;first | (go_simp; done) | (go_simp; with_reducible rfl))
          try simp only [Act.put, List.setIfInBounds_toArray, List.set_cons_zero, List.set_cons_succ]
          refine rgnTake 1 rfl (by kernel_rfl) (by kernel_rfl) (by kernel_rfl) (fun _ _ _ h => h) (by rfl) (v := ?v30) ?hy30 hHeld ?rest30
          case hy30 => (intro v hSw; obtain ⟨x0, x1⟩ := hSw;first | (go_simp; done) | (go_simp; with_reducible rfl))
          try simp only [Act.put, List.setIfInBounds_toArray, List.set_cons_zero, List.set_cons_succ]
          refine rgnTake 2 rfl (by kernel_rfl) (by kernel_rfl) (by kernel_rfl) (fun _ _ _ h => h) (by rfl) (v := ?v31) ?hy31 hHeld ?rest31
          case hy31 => (intro v hSw; obtain ⟨x0, x1⟩ := hSw;first | (go_simp; done) | (go_simp; with_reducible rfl))
          try simp only [Act.put, List.setIfInBounds_toArray, List.set_cons_zero, List.set_cons_succ]
          refine rgnTake 3 rfl (by kernel_rfl) (by kernel_rfl) (by kernel_rfl) (fun _ _ _ h => h) (by rfl) (v := ?v32) ?hy32 hHeld ?rest32
          case hy32 => (intro v hSw; obtain ⟨x0, x1⟩ := hSw;first | (go_simp; done) | (go_simp; with_reducible rfl))
          try simp only [Act.put, List.setIfInBounds_toArray, List.set_cons_zero, List.set_cons_succ]
          refine rgnTake 4 rfl (by kernel_rfl) (by kernel_rfl) (by kernel_rfl) (fun _ _ _ h => h) (by rfl) (v := ?v33) ?hy33 hHeld ?rest33
          case hy33 => (intro v hSw; obtain ⟨x0, x1⟩ := hSw;first | (go_simp; done) | (go_simp; with_reducible rfl))
          try simp only [Act.put, List.setIfInBounds_toArray, List.set_cons_zero, List.set_cons_succ]
          refine rgnTake 5 rfl (by kernel_rfl) (by kernel_rfl) (by kernel_rfl) (fun _ _ _ h => h) (by rfl) (v := ?v34) ?hy34 hHeld ?rest34
          case hy34 => (intro v hSw; obtain ⟨x0, x1⟩ := hSw;first | (go_simp; done) | (go_simp; with_reducible rfl))
          try simp only [Act.put, List.setIfInBounds_toArray, List.set_cons_zero, List.set_cons_succ]
          refine rgnTake 6 rfl (by kernel_rfl) (by kernel_rfl) (by kernel_rfl) (fun _ _ _ h => h) (by rfl) (v := ?v35) ?hy35 hHeld ?rest35
          case hy35 => (intro v hSw; obtain ⟨x0, x1⟩ := hSw;first | (go_simp; done) | (go_simp; with_reducible rfl))
          try simp only [Act.put, List.setIfInBounds_toArray, List.set_cons_zero, List.set_cons_succ]
          refine rgnTake 7 rfl (by kernel_rfl) (by kernel_rfl) (by kernel_rfl) (fun _ _ _ h => h) (by rfl) (v := ?v36) ?hy36 hHeld ?rest36
          case hy36 => (intro v hSw; obtain ⟨x0, x1⟩ := hSw;first | (go_simp; done) | (go_simp; with_reducible rfl))
          try simp only [Act.put, List.setIfInBounds_toArray, List.set_cons_zero, List.set_cons_succ]
          refine rgnTake 8 rfl (by kernel_rfl) (by kernel_rfl) (by kernel_rfl) (fun _ _ _ h => h) (by rfl) (v := ?v37) ?hy37 hHeld ?rest37
          case hy37 => (intro v hSw; obtain ⟨x0, x1⟩ := hSw;first | (go_simp; done) | (go_simp; with_reducible rfl))
          try simp only [Act.put, List.setIfInBounds_toArray, List.set_cons_zero, List.set_cons_succ]
          refine rgnTake 9 rfl (by kernel_rfl) (by kernel_rfl) (by kernel_rfl) (fun _ _ _ h => h) (by rfl) (v := ?v38) ?hy38 hHeld ?rest38
          case hy38 => (intro v hSw; obtain ⟨x0, x1⟩ := hSw;first | (go_simp; done) | (go_simp; with_reducible rfl))
          try simp only [Act.put, List.setIfInBounds_toArray, List.set_cons_zero, List.set_cons_succ]
          refine rgnTake 10 rfl (by kernel_rfl) (by kernel_rfl) (by kernel_rfl) (fun _ _ _ h => h) (by rfl) (v := ?v39) ?hy39 hHeld ?rest39
          case hy39 => (intro v hSw; first | (go_simp; done) | (go_simp; with_reducible rfl))
          try simp only [Act.put, List.setIfInBounds_toArray, List.set_cons_zero, List.set_cons_succ]
          refine rgnTake 11 rfl (by kernel_rfl) (by kernel_rfl) (by kernel_rfl) (fun _ _ _ h => h) (by rfl) (v := ?v40) ?hy40 hHeld ?rest40
          case hy40 => (intro v hSw; first | (go_simp; done) | (go_simp; with_reducible rfl))
          try simp only [Act.put, List.setIfInBounds_toArray, List.set_cons_zero, List.set_cons_succ]
          refine rgnTake 12 rfl (by kernel_rfl) (by kernel_rfl) (by kernel_rfl) (fun _ _ _ h => h) (by rfl) (v := ?v41) ?hy41 hHeld ?rest41
          case hy41 => (intro v hSw; first | (go_simp; done) | (go_simp; with_reducible rfl))
          try simp only [Act.put, List.setIfInBounds_toArray, List.set_cons_zero, List.set_cons_succ]
          refine rgnTake 13 rfl (by kernel_rfl) (by kernel_rfl) (by kernel_rfl) (fun _ _ _ h => h) (by rfl) (v := ?v42) ?hy42 hHeld ?rest42
          case hy42 => (intro v hSw; first | (go_simp; done) | (go_simp; with_reducible rfl))
          try simp only [Act.put, List.setIfInBounds_toArray, List.set_cons_zero, List.set_cons_succ]
          refine rgnTake 14 rfl (by kernel_rfl) (by kernel_rfl) (by kernel_rfl) (fun _ _ _ h => h) (by rfl) (v := ?v43) ?hy43 hHeld ?rest43
          case hy43 => (intro v hSw; first | (go_simp; done) | (go_simp; with_reducible rfl))
          try simp only [Act.put, List.setIfInBounds_toArray, List.set_cons_zero, List.set_cons_succ]
          refine rgnTake 15 rfl (by kernel_rfl) (by kernel_rfl) (by kernel_rfl) (fun _ _ _ h => h) (by rfl) (v := ?v44) ?hy44 hHeld ?rest44
          case hy44 => (intro v hSw; first | (go_simp; done) | (go_simp; with_reducible rfl))
          try simp only [Act.put, List.setIfInBounds_toArray, List.set_cons_zero, List.set_cons_succ]
          refine rgnTake 16 rfl (by kernel_rfl) (by kernel_rfl) (by kernel_rfl) (fun _ _ _ h => h) (by rfl) (v := ?v45) ?hy45 hHeld ?rest45
          case hy45 => (intro v hSw; first | (go_simp; done) | (go_simp; with_reducible rfl))
          try simp only [Act.put, List.setIfInBounds_toArray, List.set_cons_zero, List.set_cons_succ]
          refine rgnTake 17 rfl (by kernel_rfl) (by kernel_rfl) (by kernel_rfl) (fun _ _ _ h => h) (by rfl) (v := ?v46) ?hy46 hHeld ?rest46
          case hy46 => (intro v hSw; first | (go_simp; done) | (go_simp; with_reducible rfl))
          try simp only [Act.put, List.setIfInBounds_toArray, List.set_cons_zero, List.set_cons_succ]
          cases r with
          | none =>
            have SN3 := Lib.hid (show stp ⟨op, bb⟩ x s = none from SN2.out)
            refine rgnOne 18 rfl (by kernel_rfl) (fun K hK => ?_)
            go_simp
            refine (RS.out _ _ _ (by first | exact SX.out _ HSF.out.drew _ | exact SX.out _ HSF.out.drew) (by omega)).mono ?_
            rintro e w3 hp
            obtain ⟨v3, rfl⟩ := hp.2.2 rfl
            have B3 := Lib.hid (HB.out.drew.trans (hp.1.mono HB.out.drew.size))
            have S3 := Lib.hid (SlF.below (w := wr.drew) HSF.out.drew hp.1)
            have C3 := Lib.hid (show w3.cell? ⟨b, o + i * 2, none⟩ = some (.int .i64 op) ∧ w3.cell? ⟨b, o + i * 2 + 1, none⟩ = some (.int .u64 (bb : Int)) from ⟨(hp.1.cell (p := ⟨b, o + i * 2, none⟩) (World.block_lt_of_cell? wr _ c0)).trans c0, (hp.1.cell (p := ⟨b, o + i * 2 + 1, none⟩) (World.block_lt_of_cell? wr _ c1)).trans c1⟩)
            refine hK.out _ _ (C3.out) (fun hHeld => ?_)
            clear hK K
            try simp only [Act.put, List.setIfInBounds_toArray, List.set_cons_zero, List.set_cons_succ]
            refine rgnTake 19 rfl (by kernel_rfl) (by kernel_rfl) (by kernel_rfl) (fun _ _ _ h => h) (by rfl) (v := ?v47) ?hy47 hHeld ?rest47
            case hy47 => (intro v hSw; first | (go_simp; done) | (go_simp; with_reducible rfl))
            try simp only [Act.put, List.setIfInBounds_toArray, List.set_cons_zero, List.set_cons_succ]
            refine rgnTake 20 rfl (by kernel_rfl) (by kernel_rfl) (by kernel_rfl) (fun _ _ _ h => h) (by rfl) (v := ?v48) ?hy48 hHeld ?rest48
            case hy48 => (intro v hSw; first | (go_simp; done) | (go_simp; with_reducible rfl))
            try simp only [Act.put, List.setIfInBounds_toArray, List.set_cons_zero, List.set_cons_succ]
            refine rgnTake 21 rfl (by kernel_rfl) (by kernel_rfl) (by kernel_rfl) (fun _ _ _ h => h) (by rfl) (v := ?v49) ?hy49 hHeld ?rest49
            case hy49 => (intro v hSw; first | (go_simp; done) | (go_simp; with_reducible rfl))
            try simp only [Act.put, List.setIfInBounds_toArray, List.set_cons_zero, List.set_cons_succ]
            refine rgnTake 22 rfl (by kernel_rfl) (by kernel_rfl) (by kernel_rfl) (fun _ _ _ h => h) (by rfl) (v := ?v50) ?hy50 hHeld ?rest50
            case hy50 => (intro v hSw; first | (go_simp; done) | (go_simp; with_reducible rfl))
            try simp only [Act.put, List.setIfInBounds_toArray, List.set_cons_zero, List.set_cons_succ]
            refine rgnTake 23 rfl (by kernel_rfl) (by kernel_rfl) (by kernel_rfl) (fun _ _ _ h => h) (by rfl) (v := ?v51) ?hy51 hHeld ?rest51
            case hy51 => (intro v hSw; first | (go_simp; done) | (go_simp; with_reducible rfl))
            try simp only [Act.put, List.setIfInBounds_toArray, List.set_cons_zero, List.set_cons_succ]
            refine wpAnyH_done (by kernel_rfl) ?_ _
            clear c0 c1 hp
            have HE4 := Lib.hid (show G.1.length = m ∧ G.2 = i ∧ G.1 = s by rw [HE3.out, SN3.out]; exact ⟨HMM.out.symm, rfl, rfl⟩)
            go_wp2_with fail
            go_ret2
            obtain ⟨e1, e2, e3⟩ := HE4.out
            exact ⟨B3.out, B, _, by rw [e1, e2]; rfl, by rw [e3]; exact S3.out⟩
          | some l =>
            refine rgnOne 18 rfl (by kernel_rfl) (fun K hK => ?_)
            go_simp
            refine (RS.out _ _ _ (by first | exact SX.out _ HSF.out.drew _ | exact SX.out _ HSF.out.drew) (by omega)).mono ?_
            rintro e w3 hp
            obtain ⟨A3, d3, rfl, sl3, nl3⟩ := hp.2.1 l rfl
            have B3 := Lib.hid (HB.out.drew.trans (hp.1.mono HB.out.drew.size))
            have S3 := Lib.hid (SlF.below (w := wr.drew) HSF.out.drew hp.1)
            have C3 := Lib.hid (show w3.cell? ⟨b, o + i * 2, none⟩ = some (.int .i64 op) ∧ w3.cell? ⟨b, o + i * 2 + 1, none⟩ = some (.int .u64 (bb : Int)) from ⟨(hp.1.cell (p := ⟨b, o + i * 2, none⟩) (World.block_lt_of_cell? wr _ c0)).trans c0, (hp.1.cell (p := ⟨b, o + i * 2 + 1, none⟩) (World.block_lt_of_cell? wr _ c1)).trans c1⟩)
            refine hK.out _ _ (C3.out) (fun hHeld => ?_)
            clear hK K
            try simp only [Act.put, List.setIfInBounds_toArray, List.set_cons_zero, List.set_cons_succ]
            refine rgnTake 19 rfl (by kernel_rfl) (by kernel_rfl) (by kernel_rfl) (fun _ _ _ h => h) (by rfl) (v := ?v52) ?hy52 hHeld ?rest52
            case hy52 => (intro v hSw; first | (go_simp; done) | (go_simp; with_reducible rfl))
            try simp only [Act.put, List.setIfInBounds_toArray, List.set_cons_zero, List.set_cons_succ]
            refine rgnTake 20 rfl (by kernel_rfl) (by kernel_rfl) (by kernel_rfl) (fun _ _ _ h => h) (by rfl) (v := ?v53) ?hy53 hHeld ?rest53
            case hy53 => (intro v hSw; first | (go_simp; done) | (go_simp; with_reducible rfl))
            try simp only [Act.put, List.setIfInBounds_toArray, List.set_cons_zero, List.set_cons_succ]
            refine rgnTake 21 rfl (by kernel_rfl) (by kernel_rfl) (by kernel_rfl) (fun _ _ _ h => h) (by rfl) (v := ?v54) ?hy54 hHeld ?rest54
            case hy54 => (intro v hSw; first | (go_simp; done) | (go_simp; with_reducible rfl))
            try simp only [Act.put, List.setIfInBounds_toArray, List.set_cons_zero, List.set_cons_succ]
            refine rgnTake 22 rfl (by kernel_rfl) (by kernel_rfl) (by kernel_rfl) (fun _ _ _ h => h) (by rfl) (v := ?v55) ?hy55 hHeld ?rest55
            case hy55 => (intro v hSw; first | (go_simp; done) | (go_simp; with_reducible rfl))
            try simp only [Act.put, List.setIfInBounds_toArray, List.set_cons_zero, List.set_cons_succ]
            refine rgnTake 23 rfl (by kernel_rfl) (by kernel_rfl) (by kernel_rfl) (fun _ _ _ h => h) (by rfl) (v := ?v56) ?hy56 hHeld ?rest56
            case hy56 => (intro v hSw; first | (go_simp; done) | (go_simp; with_reducible rfl))
            try simp only [Act.put, List.setIfInBounds_toArray, List.set_cons_zero, List.set_cons_succ]
            refine wpAnyH_done (by kernel_rfl) ?_ _
            have SL3 := Lib.hid sl3
            have NL3 := Lib.hid nl3
            clear c0 c1 hp sl3 nl3
            have OM := Lib.hid (OwnF.made w3 w3.heap.size (Nat.le_refl _) [] (by simp))
            have BM := Lib.hid ((Below.refl w3.heap.size w3).alloc (Nat.le_refl _) (.cells (([] : List Nat).map (Value.float .f64)).toArray 25))
            have l2 := RL.out l rfl
            have T2 := Lib.hid (OK2.out _ SN2.out)
            have HE4 := Lib.hid (show G = ((go x (p.drop (i + 1)) (s.take k ++ l)).1, (i + 1) + (go x (p.drop (i + 1)) (s.take k ++ l)).2) by
              rw [HE3.out, SN2.out]
              simp only [Option.map_some]
              rw [show i + ((go x (p.drop (i + 1)) (s.take k ++ l)).2 + 1) = i + 1 + (go x (p.drop (i + 1)) (s.take k ++ l)).2 by omega])
            have j2 : (0 : Int) ≤ (k : Int) := by omega
            have ZB := Lib.hid (fun (e : B = none) => show s.take k = [] ∧ cb = 0 from ⟨List.eq_nil_of_length_eq_zero (by have := HNB.out e; rw [LT.out]; omega), HNB.out e⟩)
            go_wp2_with (first
              | (at_builtin; refine wp_putNF2 rfl (.tmp 69) (.tmp 75) rfl w3.heap.size _ [] rfl OM.out B _ (s.take k) k LT.out rfl ((S3.out.alloc _).take k) ZB.out (by simp; omega) (by simp) ?_; intro v4 w4 hown4 hb4; have HO4 := Lib.hid hown4; have HB4 := Lib.hid (BM.out.trans hb4); clear hown4 hb4)
              | (at_builtin; refine wp_putNF rfl (.tmp 76) (.tmp 77) rfl w3.heap.size _ _ rfl HO4.out A3 d3 l rfl (SL3.out.below HB4.out) (fun e => NL3.out e) (by simp; omega) HB4.out.size ?_; intro v5 w5 hown5 hb5; have HB5 := Lib.hid (HB4.out.trans hb5); obtain ⟨A5, c5, rfl, h5c, h5s, h5n⟩ := hown5.sl; have S5 := Lib.hid h5s; have M5 := Lib.hid (And.intro h5c h5n); clear hown5 hb5 h5s h5c h5n))
            go_roundw
            case rel =>
              refine ⟨i + 1, s.take k ++ l, A5, c5, (s.take k ++ l).length, by omega, ?_, by go_num, Lib.hid ⟨rfl, M5.out.1, M5.out.2, T2.out.2.1⟩, S5, Lib.hid T2.out.1, HE4, Lib.hid (B3.out.trans (HB5.out.mono B3.out.size))⟩
              simp
            case measure => simp [intOf]; omega
    · obtain rfl : i = n := by omega
      have HE3 := Lib.hid (show G.1.length = m ∧ G.2 = i ∧ G.1 = s by
        rw [HGO.out, HN.out, List.drop_length]; exact ⟨hm.symm, rfl, rfl⟩)
      clear hm hmc hnb hm8
      go_wp2_with fail
      go_ret2
      obtain ⟨e1, e2, e3⟩ := HE3.out
      exact ⟨HB.out, B, cb, by rw [e1, e2]; rfl, by rw [e3]; exact HSF.out⟩

end Go.Proofs.YtjahaegdmfgmgaaDoor
