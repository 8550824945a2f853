/- ExprDepth: walked. -/
import Derived.Test.YtjahaegdmfgmgaaDoorG1l
namespace Go.Proofs.YtjahaegdmfgmgaaDoor.exprDepth
open Go.Proofs.YtjahaegdmfgmgaaDoor Go.Joins Go.ChangeShapes Go.WideShapes Go.ChangeAt Go.RowKit Ex Fl

set_option maxRecDepth 100000 in
set_option maxHeartbeats 2000000 in
theorem walk (p : List Cd) (x y : Nat) (A : Option Addr) (c : Nat) (w : World) (h : SlC w A p) (hf : FitC p) (hl : p.length ≤ maxLen) (hx : Fits x) (hy : Fits y) (ht : TabH w) :
    Calls Tryd.prog 4 #[.slice A p.length c, .int .u64 (x : Int), .int .u64 (y : Int)] w fun e w' => e = .returned (.bool true) ∧ Below w.heap.size w w' := by
  have AW := Lib.hid (awake14 w ht)
  have KD := Lib.hid (fun W (hb : Below w.heap.size w W) => xDepth14 p A c W (h.below hb) hf hl (ht.bel hb))
  have KX := Lib.hid (fun W (hb : Below w.heap.size w W) => xTrace p x A c W (h.below hb) hf hl hx (ht.bel hb))
  have KY := Lib.hid (fun W (hb : Below w.heap.size w W) => xTrace p y A c W (h.below hb) hf hl hy (ht.bel hb))
  have KH := Lib.hid (fun W (hb : Below w.heap.size w W) => rRight14 p A c W (h.below hb) hf hl)
  unfold maxLen at hl
  by_cases q1 : 100 < p.length
  · obtain ⟨n, hn⟩ : ∃ n, n = p.length := ⟨_, rfl⟩
    rw [← hn] at q1 hl ⊢
    clear h hf hx hy ht hn KD KX KY KH
    go_enter Tryd.func4, Tryd.ntmps4
    go_wp2_with fail
    refine AW.out.mono ?_
    rintro e w1 ⟨rfl, hb1⟩
    have B1 := Lib.hid hb1
    clear hb1
    go_wp2_with fail
    go_ret
    exact ⟨rfl, B1.out⟩
  cases hr : right p with
  | false =>
    have e1 : dep p = none := by unfold dep; rw [hr]; rfl
    simp only [e1] at KD
    simp only [hr] at KH
    obtain ⟨n, hn⟩ : ∃ n, n = p.length := ⟨_, rfl⟩
    simp only [← hn] at KD KH hl q1 ⊢
    clear h hf hx hy ht hr e1 hn KX KY
    go_enter Tryd.func4, Tryd.ntmps4
    go_wp2_with fail
    refine AW.out.mono ?_
    rintro e w1 ⟨rfl, hb1⟩
    have B1 := Lib.hid hb1
    clear hb1
    go_wp2_with fail
    refine (KD.out _ B1.out).mono ?_
    rintro e w2 ⟨rfl, hb2⟩
    have B2 := Lib.hid (below_then B1.out hb2)
    clear hb2
    go_wp2_with fail
    refine (KH.out _ B2.out).mono ?_
    rintro e w3 ⟨rfl, hb3⟩
    have B3 := Lib.hid (below_then B2.out hb3)
    clear hb3
    go_wp2_with fail
    go_ret
    exact ⟨rfl, B3.out⟩
  | true =>
    have e1 : dep p = hts p 0 := by unfold dep; rw [hr]; rfl
    have e2 : trcV p x = go x p [] := by unfold trcV; rw [hr]; rfl
    have e3 : trcV p y = go y p [] := by unfold trcV; rw [hr]; rfl
    have KE := Lib.hid (fun W (hb : Below w.heap.size w W) => rDepth14 p A c W (h.below hb) hf hr)
    obtain ⟨st, n1, n32⟩ := right_steps hr hf
    have HTS := Lib.hid (fun (hc : ∀ c, c ∈ p → c.op ≠ 15) => go_hts hx p [] st hc Ok.nil (by decide))
    have ALI := Lib.hid (fun (hc : ∀ c, c ∈ p → c.op ≠ 15) => go_alike hx hy p [] [] st hc Ok.nil (by decide) Ok.nil rfl)
    have gkx := (go_ok hx p [] st Ok.nil (by decide)).2.2
    simp only [hr] at KH
    simp only [e1] at KD
    simp only [e2] at KX
    simp only [e3] at KY
    obtain ⟨⟨gs, gn⟩, hG⟩ : ∃ G, G = go x p [] := ⟨_, rfl⟩
    obtain ⟨⟨gs2, gn2⟩, hG2⟩ : ∃ G, G = go y p [] := ⟨_, rfl⟩
    simp only [← hG] at KX HTS ALI gkx
    simp only [← hG2] at KY ALI
    obtain ⟨n, hn⟩ : ∃ n, n = p.length := ⟨_, rfl⟩
    obtain ⟨m, hm⟩ : ∃ m, m = gs.length := ⟨_, rfl⟩
    obtain ⟨m2, hm2⟩ : ∃ m, m = gs2.length := ⟨_, rfl⟩
    have KX : Hid (∀ W, Below w.heap.size w W → Calls Tryd.prog 10 #[.slice A n c, .float .f64 x] W fun e w' => Below W.heap.size W w' ∧ ∃ A' c', e = .returned (.tuple #[.slice A' m c', .int .i64 (gn : Int)]) ∧ Sl w' A' (gs.map fun a : Nat => (a : Int))) := by rw [hm, hn]; exact KX
    have KY : Hid (∀ W, Below w.heap.size w W → Calls Tryd.prog 10 #[.slice A n c, .float .f64 y] W fun e w' => Below W.heap.size W w' ∧ ∃ A' c', e = .returned (.tuple #[.slice A' m2 c', .int .i64 (gn2 : Int)]) ∧ Sl w' A' (gs2.map fun a : Nat => (a : Int))) := by rw [hm2, hn]; exact KY
    obtain ⟨D, hD⟩ : ∃ D, D = hts p 0 := ⟨_, rfl⟩
    have HTS : Hid ((∀ c, c ∈ p → c.op ≠ 15) → (gn = n ↔ D.isSome = true) ∧ ∀ d, D = some d → m = d) := Lib.hid (fun hc => by
      have := HTS.out hc
      rw [hn, hD, hm]
      exact this)
    have ALI : Hid ((∀ c, c ∈ p → c.op ≠ 15) → m = m2 ∧ gn = gn2) := Lib.hid (fun hc => by
      have := ALI.out hc
      rw [hm, hm2]
      exact this)
    rw [← hD] at KD KE
    obtain ⟨dv, hdv⟩ : ∃ v : Nat, v = D.getD 0 := ⟨_, rfl⟩
    obtain ⟨db, hdb⟩ : ∃ v : Bool, v = D.isSome := ⟨_, rfl⟩
    simp only [← hdv, ← hdb] at KD KE
    rw [← hdb] at HTS
    have HDV := Lib.hid (show db = true → D = some dv from fun e => by
      rw [hdb] at e
      cases D with
      | none => cases e
      | some d => rw [hdv]; rfl)
    simp only [← hn] at KD KE KH q1 n1 n32 gkx hl ⊢
    have HN := Lib.hid hn
    have HS := Lib.hid h
    have nd : ((dv : Int) != (dv : Int)) = false := by simp
    have ndb : (db != db) = false := by simp
    have nb2 : (db == db) = true := by simp
    clear h hf hx hy ht hr e1 e2 e3 st hG hG2 hn hm hm2 hD hdv hdb
    change gn ≤ n at gkx
    go_enter Tryd.func4, Tryd.ntmps4
    go_wp2_with fail
    refine AW.out.mono ?_
    rintro e w1 ⟨rfl, hb1⟩
    have B1 := Lib.hid hb1
    clear hb1
    go_wp2_with fail
    refine (KD.out _ B1.out).mono ?_
    rintro e w2 ⟨rfl, hb2⟩
    have B2 := Lib.hid (below_then B1.out hb2)
    clear hb2
    go_wp2_with fail
    refine (KH.out _ B2.out).mono ?_
    rintro e w3 ⟨rfl, hb3⟩
    have B3 := Lib.hid (below_then B2.out hb3)
    clear hb3
    go_wp2_with fail
    refine (KE.out _ B3.out).mono ?_
    rintro e w4 ⟨rfl, hb4⟩
    have B4 := Lib.hid (below_then B3.out hb4)
    clear hb4 AW KD KH KE
    go_wp2_with fail
    go_loopw [11] (fun vi wr => ∃ j : Nat, j ≤ n ∧ vi = .int .i64 j ∧ wr = w4 ∧ Hid (∀ i, i < j → (p.getD i Cd.Z).op ≠ 15)) (fun vi _ => n - (intOf vi).toNat)
    case atStart => exact ⟨0, Nat.zero_le _, rfl, rfl, Lib.hid (fun i hi => by cases hi)⟩
    case round =>
      obtain ⟨j, hj, rfl, rfl, HC⟩ := hrel
      by_cases q : j < n
      · obtain ⟨b, o, rfl, hb, c0, c1⟩ := (HS.out.below B4.out).at_ (by rw [← HN.out]; exact q)
        obtain ⟨op, hop⟩ : ∃ op, op = (p.getD j Cd.Z).op := ⟨_, rfl⟩
        rw [← hop] at c0
        have HOP := Lib.hid hop
        have i5 : (0 : Int) ≤ (j : Int) := by omega
        have i6 : (j : Int) < (n : Int) := by omega
        clear hop hb c1
        by_cases z : op = 15
        · subst z
          go_wp2_with fail
          go_ret
          exact ⟨rfl, B4.out⟩
        · have z2 : (op == 15) = false := by simp [z]
          have HZ := Lib.hid z
          clear z
          go_wp2_with fail
          go_roundw
          case rel => exact ⟨j + 1, by omega, by go_num, by first | rfl | trivial, Lib.hid (fun i hi => by
            by_cases e : i = j
            · rw [e, ← HOP.out]; exact HZ.out
            · exact HC.out i (by omega))⟩
          case measure => simp [intOf]; omega
      · obtain rfl : j = n := by omega
        have hc : ∀ c, c ∈ p → c.op ≠ 15 := fun c hc => by
          obtain ⟨i, hi, rfl⟩ := List.getElem_of_mem hc
          have := HC.out i (by rw [HN.out]; exact hi)
          rwa [List.getD_eq_getElem?_getD, List.getElem?_eq_getElem hi] at this
        obtain ⟨a1, a2⟩ := ALI.out hc
        obtain ⟨t1, t2⟩ := HTS.out hc
        subst a1
        subst a2
        have hfin : (((gn : Int) == (j : Int)) == db) = true := by
          cases db
          · have : ¬ gn = j := fun e => by have := t1.1 e; cases this
            simp; omega
          · have := t1.2 rfl
            simp; omega
        have hlen : db = true → m = dv := fun e => t2 dv (HDV.out e)
        clear hc t1 t2 HC HTS ALI HDV HN
        go_wp2_with fail
        refine (KX.out _ B4.out).mono ?_
        rintro e w5 ⟨hb5, A5, c5, rfl, _⟩
        have B5 := Lib.hid (below_then B4.out hb5)
        clear hb5
        go_wp2_with fail
        refine (KY.out _ B5.out).mono ?_
        rintro e w6 ⟨hb6, A6, c6, rfl, _⟩
        have B6 := Lib.hid (below_then B5.out hb6)
        clear hb6
        cases db with
        | false =>
          have f1 : ((gn : Int) == (j : Int)) = false := by simpa using hfin
          clear hfin hlen
          go_wp2_with fail
          go_ret
          exact ⟨rfl, B6.out⟩
        | true =>
          have f1 : ((gn : Int) == (j : Int)) = true := by simpa using hfin
          obtain rfl := hlen rfl
          clear hfin hlen
          go_wp2_with fail
          go_ret
          exact ⟨rfl, B6.out⟩

end Go.Proofs.YtjahaegdmfgmgaaDoor.exprDepth
