/- Proved parts: D2x. Conditions: each theorem's own. -/
import Derived.Test.YtnbkekbgedioeaaM21
import Derived.Test.YtnbkekbgedioeaaM28
import Derived.Test.YtnbkekbgedioeaaM27
import Derived.Test.YtnbkekbgedioeaaM6
namespace Go.Proofs.Ytnbkekbgedioeaa
open Go.RowKit

/-- append(v, y), of a row in blocks from B0 on -/
theorem app_one {w : World} {v : Value} {l : Wl} {B0 : Nat} (hv : NodeAtW w v l) (hB : ∀ k, v.ownBlock = some k → B0 ≤ k) (h0 : B0 ≤ w.heap.size) (y : Wr) (hl : l.length ≤ 1000) :
    ∃ v' w', (∀ ty, (Builtin.append_ #[27, 27] ty #[v, .slice (some ⟨w.heap.size, 0, none⟩) 1 1]).run Try.prog (w.alloc (.cells #[.string y.key, .bool y.gone, .bool y.val.num, .string y.val.txt, .int .u64 (y.val.bits : Int)] 42)) = .ok v' w') ∧
      NodeAtW w' v' (l ++ [y]) ∧ (∀ k, v'.ownBlock = some k → B0 ≤ k) ∧ Below B0 w w' := by
  have b3 : Below w.heap.size w (w.alloc (.cells y.cs.toArray 42)) := (Below.refl _ _).alloc (Nat.le_refl _) _
  have key := fun ty => app_row 27 ty Try.underlying27 (hv.below b3) (NodeAtW.one (RowAt.new w y.cs 42)) (by rw [List.length_singleton]; omega)
  obtain ⟨v', w', hr, p1, p2, p3⟩ := key 27
  refine ⟨v', w', fun ty => ?_, p1, fun k e => ?_, (b3.mono h0).trans (p2.below_of (fun k e => hB k e) (by have := b3.size; omega))⟩
  · obtain ⟨v2, w2, hr2, _⟩ := key ty
    have e : (Builtin.append_ #[27, 27] ty #[v, .slice (some ⟨w.heap.size, 0, none⟩) 1 1]).run Try.prog (w.alloc (.cells y.cs.toArray 42)) = (Builtin.append_ #[27, 27] 27 #[v, .slice (some ⟨w.heap.size, 0, none⟩) 1 1]).run Try.prog (w.alloc (.cells y.cs.toArray 42)) := rfl
    exact e.trans hr
  · rcases p3 k e with z | z
    · exact hB k z
    · have := b3.size; omega

set_option maxRecDepth 100000 in
set_option maxHeartbeats 4000000 in
/-- Write -/
theorem rWriteW {w0 w : World} {N : Nat → Prop} {b : Nat} {v vm : Value} {vs : List Value} {m : Ws} (x : Wr) (h : Side w0 N w (sOs TR b v vm vs m)) (ok : m.Ok) (hf : x.val.Fits) (hk : x.key.size ≤ 1000000) :
    Calls Try.prog 24 #[.pointer (some ⟨b, 0, none⟩), .agg #[.string x.key, .bool x.gone, .bool x.val.num, .string x.val.txt, .int .u64 (x.val.bits : Int)]] w fun e w' =>
      e = .returned (.int .i64 (m.L.wE x)) ∧ (m.wr x).Ok ∧ ∃ v' vm' vs', Side w0 N w' (sOs TR b v' vm' vs' (m.wr x)) := by
  have OKW := Lib.hid (Ws.ok_wr ok (x := x) hf.1)
  have h0 : Side w0 N w (sOs TR b v vm vs m ++ []) := by rw [List.append_nil]; exact h
  obtain ⟨W0, hW0⟩ : ∃ W, W = w.alloc (.cells #[.string x.key, .bool x.gone, .bool x.val.num, .string x.val.txt, .int .u64 (x.val.bits : Int)] 42) := ⟨_, rfl⟩
  obtain ⟨B, hB⟩ : ∃ B, B = w.heap.size := ⟨_, rfl⟩
  have b0 : Below w.heap.size w W0 := by rw [hW0]; exact (Below.refl _ _).alloc (Nat.le_refl _) _
  have R0 : RowAt W0 B x.cs 42 := by rw [hW0, hB]; exact RowAt.new w x.cs 42
  obtain ⟨A, c, rfl, sl, -⟩ := (Sets.node h0).sl
  obtain ⟨n, hn⟩ : ∃ n, n = m.L.length := ⟨_, rfl⟩
  have OL := ok.l.len
  have PL := Wl.pos_le m.L x.key
  have EW : m.L.wE x = if Wl.may x then (if m.L.has x.key = false ∧ 16 ≤ n then 18 else 0) else 1 := by unfold Wl.wE; rw [hn]
  have PB := Lib.hid (Wl.put_big ok.l.len x)
  rw [← hn] at OL PL PB h
  have HRW := Lib.hid (fun W (hb : Below w.heap.size w W) => show W.cell? ⟨b, 0, none⟩ = some (.slice A n c) from by
    have := (Sets.row h0).below hb; rw [← hn] at this; exact this.cell 0)
  have H0 := Lib.hid (fun W (hb : Below w.heap.size w W) => h.below hb)
  have SLW := Lib.hid sl
  have RI := Lib.hid ok.l.rise
  have HN := Lib.hid hn
  have HB := Lib.hid hB
  have HW := Lib.hid hW0
  have KK := Lib.hid (fun W => rKey1 x.key W hk)
  have KV := Lib.hid (fun W => vrRight x.val W hf)
  have CF := Lib.hid (fun W (hb : Below (B + 1) W0 W) => wrF (x := x) (show RowAt W B x.cs 42 from (hb.block B (by omega)).trans R0))
  have SZ := Lib.hid (show W0.heap.size = B + 1 by rw [hW0, hB]; simp)
  have BW0 := Lib.hid b0
  obtain ⟨K1, hK1⟩ : ∃ K, K = keyOk x.key := ⟨_, rfl⟩
  obtain ⟨K2, hK2⟩ : ∃ K, K = x.val.ok := ⟨_, rfl⟩
  have EMY : Wl.may x = (K1 && K2) := by rw [hK1, hK2]; rfl
  simp only [← hK1] at KK
  simp only [← hK2] at KV
  rw [EMY] at EW
  obtain ⟨E, hE⟩ : ∃ E, E = m.L.wE x := ⟨_, rfl⟩
  rw [← hE] at EW ⊢
  have HE := Lib.hid hE
  replace EW := Lib.hid EW
  obtain ⟨P, hP⟩ : ∃ P, P = m.L.pos x.key := ⟨_, rfl⟩
  rw [← hP] at PL
  have HP := Lib.hid hP
  clear h h0 ok hf hk b0 R0 sl hn hB hW0 hK1 hK2 EMY hE hP
  obtain ⟨kk, g, y⟩ := x
  obtain ⟨mm, t, u⟩ := y
  have HP : Hid (P = m.L.pos kk) := HP
  have KK : Hid (∀ W, Calls Try.prog 33 #[.string kk] W fun e w' => e = .returned (.bool K1) ∧ w' = W) := KK
  have KV : Hid (∀ W, Calls Try.prog 34 #[.agg #[.bool mm, .string t, .int .u64 (u : Int)]] W fun e w' => e = .returned (.bool K2) ∧ Below W.heap.size W w') := KV
  have CF : Hid (∀ W, Below (B + 1) W0 W → W.cell? ⟨B, 0, none⟩ = some (.string kk) ∧ W.cell? ⟨B, 1, none⟩ = some (.bool g) ∧ W.cell? ⟨B, 2, none⟩ = some (.bool mm) ∧ W.cell? ⟨B, 3, none⟩ = some (.string t) ∧ W.cell? ⟨B, 4, none⟩ = some (.int .u64 (u : Int))) := CF
  have HW : Hid (W0 = w.alloc (.cells #[.string kk, .bool g, .bool mm, .string t, .int .u64 (u : Int)] 42)) := HW
  have EW : Hid (E = if (K1 && K2) = true then (if m.L.has kk = false ∧ 16 ≤ n then 18 else 0) else 1) := EW
  show Calls Try.prog 24 #[.pointer (some ⟨b, 0, none⟩), .agg #[.string kk, .bool g, .bool mm, .string t, .int .u64 (u : Int)]] w _
  have BB := Lib.hid (show ∀ W, Below (B + 1) W0 W → Below w.heap.size w W from fun W hb => BW0.out.trans (hb.mono (by have := HB.out; omega)))
  go_enter Try.func24, Try.ntmps24
  go_upto_region 1 with fail
  rw [← HW.out, ← HB.out]
  obtain ⟨d0, d1, d2, d3, d4⟩ := CF.out W0 (Below.refl _ _)
  cases K1 with
  | false =>
    have e1 : E = 1 := by rw [EW.out]; rfl
    have EM := Lib.hid (show m.wr ⟨kk, g, ⟨mm, t, u⟩⟩ = m from by unfold Ws.wr Wl.wL; rw [← HE.out, e1, if_neg (by decide)])
    subst e1
    have H1 := Lib.hid (H0.out _ BW0.out)
    clear EW HE
    go_wp2_with fail
    refine (KK.out _).mono ?_
    rintro e w1 ⟨rfl, rfl⟩
    go_wp2_with fail
    go_ret
    first | exact ⟨rfl, OKW.out, _, _, _, by rw [EM.out]; exact H1.out⟩ | exact ⟨OKW.out, _, _, _, by rw [EM.out]; exact H1.out⟩
  | true =>
    cases K2 with
    | false =>
      have e1 : E = 1 := by rw [EW.out]; rfl
      have EM := Lib.hid (show m.wr ⟨kk, g, ⟨mm, t, u⟩⟩ = m from by unfold Ws.wr Wl.wL; rw [← HE.out, e1, if_neg (by decide)])
      subst e1
      clear EW HE
      go_wp2_with fail
      refine (KK.out _).mono ?_
      rintro e w1 ⟨rfl, rfl⟩
      go_wp2_with fail
      refine (KV.out _).mono ?_
      rintro e w2 ⟨rfl, hb2⟩
      have H1 := Lib.hid (H0.out _ (below_then BW0.out hb2))
      clear hb2 d0 d1 d2 d3 d4
      go_wp2_with fail
      go_ret
      first | exact ⟨rfl, OKW.out, _, _, _, by rw [EM.out]; exact H1.out⟩ | exact ⟨OKW.out, _, _, _, by rw [EM.out]; exact H1.out⟩
    | true =>
      have ML := Lib.hid (show ∀ i, (Wl.mid m.L ⟨kk, g, ⟨mm, t, u⟩⟩ i).length ≤ 100 from fun i => by
        have : m.L.length ≤ 16 := by rw [← HN.out]; exact OL
        unfold Wl.mid
        split
        · rw [List.length_take]; omega
        · rw [List.length_append, List.length_cons, List.length_take, List.length_drop, List.length_take]; omega)
      have EE := Lib.hid (show E = if 16 < (m.L.put ⟨kk, g, ⟨mm, t, u⟩⟩).length then 18 else 0 by
        rw [EW.out, if_pos (show (true && true) = true from rfl)]
        by_cases z : 16 < (m.L.put ⟨kk, g, ⟨mm, t, u⟩⟩).length
        · rw [if_pos z, if_pos (PB.out.1 z)]
        · rw [if_neg z, if_neg (fun a => z (PB.out.2 a))])
      clear EW PB
      go_wp2_with fail
      refine (KK.out _).mono ?_
      rintro e w1 ⟨rfl, rfl⟩
      go_wp2_with fail
      refine (KV.out _).mono ?_
      rintro e w2 ⟨rfl, hb2⟩
      have B2 := Lib.hid (show Below (B + 1) w1 w2 from by have := hb2; rw [SZ.out] at this; exact this)
      have MD := NodeAtW.made w2
      have BM := Lib.hid (show Below (B + 1) w1 (w2.alloc (.cells #[] 42)) from B2.out.alloc (by have := B2.out.size; have := SZ.out; omega) _)
      have GM := Lib.hid (show B + 1 ≤ w2.heap.size from by have := B2.out.size; have := SZ.out; omega)
      replace MD := Lib.hid MD
      clear hb2 d0 d1 d2 d3 d4
      go_wp2_with fail
      go_loopw [5, 6, 7] (fun vo vp vi wr => ∃ i : Nat, i ≤ n ∧ vi = .int .i64 i ∧ vp = .bool (Wl.isPut m.L ⟨kk, g, ⟨mm, t, u⟩⟩ i) ∧ Hid (NodeAtW wr vo (Wl.mid m.L ⟨kk, g, ⟨mm, t, u⟩⟩ i) ∧ ∀ k, vo.ownBlock = some k → B + 1 ≤ k) ∧ Hid (Below (B + 1) w1 wr)) (fun _ _ vi _ => n - (intOf vi).toNat)
      case atStart => exact ⟨0, Nat.zero_le _, rfl, by rw [Wl.isPut_zero], Lib.hid ⟨by rw [Wl.mid_zero]; exact MD.out, fun k e => by have e : w2.heap.size = k := Option.some.inj e; have := GM.out; omega⟩, BM⟩
      case round =>
        obtain ⟨i, hi, rfl, rfl, HV, HL⟩ := hrel
        have hb := BB.out _ HL.out
        obtain ⟨d0, d1, d2, d3, d4⟩ := CF.out _ HL.out
        have r0 := HRW.out _ hb
        by_cases q : i < n
        · skip
          obtain ⟨gb, o, rfl, hbb, c0, c1, c2, c3, c4⟩ := (SLW.out.below hb).at (j := i) (by rw [← HN.out]; exact q)
          have LT := Lib.hid (Wl.le_of (L := m.L) (k := kk) RI.out (j := i) (by rw [← HN.out]; exact q))
          obtain ⟨m1, m2, m3⟩ := Wl.mid_succ (L := m.L) RI.out ⟨kk, g, ⟨mm, t, u⟩⟩ (i := i) (by rw [← HN.out]; exact q)
          simp only at m1 m2 m3
          rw [← HP.out] at m1 m2 m3
          unfold Wl.key at m1 m3 LT
          rw [← HP.out] at LT
          obtain ⟨y, hy⟩ : ∃ y, y = m.L.getD i Wr.Z := ⟨_, rfl⟩
          rw [← hy] at c0 c1 c2 c3 c4 m1 m3 LT
          have CC := Lib.hid (show ∀ W, Below (B + 1) w1 W → W.cell? ⟨gb, o + i * 5, none⟩ = some (.string y.key) ∧ W.cell? ⟨gb, o + i * 5 + 1, none⟩ = some (.bool y.gone) ∧ W.cell? ⟨gb, o + i * 5 + 2, none⟩ = some (.bool y.val.num) ∧ W.cell? ⟨gb, o + i * 5 + 3, none⟩ = some (.string y.val.txt) ∧ W.cell? ⟨gb, o + i * 5 + 4, none⟩ = some (.int .u64 (y.val.bits : Int)) from fun W hw => by
            obtain ⟨gb', o', e, -, k⟩ := (SLW.out.below (BB.out _ hw)).at (j := i) (by rw [← HN.out]; exact q)
            injection e with e
            injection e with e1 e2 _
            subst e1; subst e2
            rw [← hy] at k
            exact k)
          clear hy hbb
          have i0 : (0 : Int) ≤ (i : Int) := by omega
          have i1 : (i : Int) < (n : Int) := by omega
          rcases Nat.lt_trichotomy i P with z | z | z
          · skip
            have M3 := Lib.hid (show Wl.mid m.L ⟨kk, g, ⟨mm, t, u⟩⟩ (i + 1) = Wl.mid m.L ⟨kk, g, ⟨mm, t, u⟩⟩ i ++ [y] from by
              rw [m3, if_neg (by omega), if_neg (fun e => by have := LT.out.2.1.1 e; omega), List.append_nil])
            have IP2 := Lib.hid (show Wl.isPut m.L ⟨kk, g, ⟨mm, t, u⟩⟩ (i + 1) = false from by unfold Wl.isPut; rw [show m.L.pos (Wr.key ⟨kk, g, ⟨mm, t, u⟩⟩) = P from HP.out.symm]; exact decide_eq_false (by omega))
            have ip : Wl.isPut m.L ⟨kk, g, ⟨mm, t, u⟩⟩ i = false := by unfold Wl.isPut; rw [show m.L.pos (Wr.key ⟨kk, g, ⟨mm, t, u⟩⟩) = P from HP.out.symm]; exact decide_eq_false (by omega)
            have f2 : Op.bytesLess y.key.toList kk.toList = true := LT.out.2.2.2 z
            have f1 : Op.bytesLess kk.toList y.key.toList = false := ltB_asym f2
            have f4 : (y.key.toList == kk.toList) = false := by
              rw [beq_eq_false_iff_ne]; intro e; rw [e, bl_irr] at f2; cases f2
            have f3 : (kk.toList == y.key.toList) = false := by
              rw [beq_eq_false_iff_ne]; intro e; rw [← e, bl_irr] at f2; cases f2
            rw [ip]
            clear m1 m2 m3 LT ip
            go_wp2_with fail
            go_quiet (fail)
            go_wp2_with fail
            go_quiet (fail)
            generalize hq1 : wr.drewN _ = wq1
            generalize hq2 : wq1.drewN _ = wq
            have hv : NodeAtW wq u5 (Wl.mid m.L ⟨kk, g, ⟨mm, t, u⟩⟩ i) := by rw [← hq2, ← hq1]; exact HV.out.1.keep fun _ _ => rfl
            have bq : Below (B + 1) w1 wq := by rw [← hq2, ← hq1]; exact below_drewN (below_drewN HL.out _) _
            have ho := HV.out.2
            have hlen : (Wl.mid m.L ⟨kk, g, ⟨mm, t, u⟩⟩ i).length ≤ 1000 := by have := ML.out i; omega
            clear hq1 hq2 HV HL c0 c1 c2 c3 c4 r0 d0 d1 d2 d3 d4
            obtain ⟨c0, c1, c2, c3, c4⟩ := CC.out _ bq
            have r0 := HRW.out _ (BB.out _ bq)
            obtain ⟨v', w', hrun, p1, p2, p3⟩ := app_one hv ho (by have := bq.size; have := SZ.out; omega) y hlen
            have HRN := Lib.hid hrun
            rw [← M3.out] at p1
            have HV3 := Lib.hid (show NodeAtW w' v' (Wl.mid m.L ⟨kk, g, ⟨mm, t, u⟩⟩ (i + 1)) ∧ ∀ k, v'.ownBlock = some k → B + 1 ≤ k from ⟨p1, p2⟩)
            have HL3 := Lib.hid (show Below (B + 1) w1 w' from bq.trans p3)
            clear hv ho bq hrun p1 p2 p3 hlen
            go_wp2_with (at_builtin; refine Lib.wpList_append_run _ rfl (.tmp 58) (.tmp 66) 27 27 rfl _ _ rfl rfl _ _ (HRN.out _) ?_)
            go_roundw
            case rel => exact ⟨i + 1, by omega, by go_num, by rw [IP2.out], HV3, HL3⟩
            case measure => simp [intOf]; omega
          · skip
            have ip : Wl.isPut m.L ⟨kk, g, ⟨mm, t, u⟩⟩ i = false := by unfold Wl.isPut; rw [show m.L.pos (Wr.key ⟨kk, g, ⟨mm, t, u⟩⟩) = P from HP.out.symm]; exact decide_eq_false (by omega)
            have IP2 := Lib.hid (show Wl.isPut m.L ⟨kk, g, ⟨mm, t, u⟩⟩ (i + 1) = true from by unfold Wl.isPut; rw [show m.L.pos (Wr.key ⟨kk, g, ⟨mm, t, u⟩⟩) = P from HP.out.symm]; exact decide_eq_true (by omega))
            rw [ip, decide_eq_true z] at m1
            rw [if_pos z] at m3
            simp only [Bool.not_false, Bool.true_and] at m1
            have hlen : (Wl.mid m.L ⟨kk, g, ⟨mm, t, u⟩⟩ i).length ≤ 100 := ML.out i
            have f2 : Op.bytesLess y.key.toList kk.toList = false := by
              cases k : Op.bytesLess y.key.toList kk.toList with
              | false => rfl
              | true => have := LT.out.2.2.1 k; omega
            rw [ip]
            obtain ⟨F1, hF1⟩ : ∃ F, F = Op.bytesLess kk.toList y.key.toList := ⟨_, rfl⟩
            obtain ⟨F3, hF3⟩ : ∃ F, F = (kk.toList == y.key.toList) := ⟨_, rfl⟩
            have m1 : (F1 || F3) = true := by rw [hF1, hF3]; exact m1
            have F4 : (y.key.toList == kk.toList) = F3 := by rw [hF3]; exact Bool.beq_comm
            have M3 := Lib.hid m3
            have f1 := hF1.symm
            have f3 := hF3.symm
            clear m2 m3 LT ip hF1 hF3
            subst z
            cases F3 with
            | true =>
              have M4 := Lib.hid (show Wl.mid m.L ⟨kk, g, ⟨mm, t, u⟩⟩ (i + 1) = Wl.mid m.L ⟨kk, g, ⟨mm, t, u⟩⟩ i ++ [⟨kk, g, ⟨mm, t, u⟩⟩] from by
                rw [M3.out, if_pos (beq_iff_eq.1 F4), List.append_nil])
              cases F1
              all_goals
                go_wp2_with fail
                go_quiet (fail)
                generalize hq1 : wr.drewN _ = wq
                have hv : NodeAtW wq u5 (Wl.mid m.L ⟨kk, g, ⟨mm, t, u⟩⟩ i) := by rw [← hq1]; exact HV.out.1.keep fun _ _ => rfl
                have bq : Below (B + 1) w1 wq := by rw [← hq1]; exact below_drewN HL.out _
                have ho := HV.out.2
                clear hq1 HV HL c0 c1 c2 c3 c4 r0 d0 d1 d2 d3 d4 f1 f2 m1
                obtain ⟨d0, d1, d2, d3, d4⟩ := CF.out _ bq
                obtain ⟨v3, w3, hrun, p1, p2, p3⟩ := app_one hv ho (by have := bq.size; have := SZ.out; omega) ⟨kk, g, ⟨mm, t, u⟩⟩ (by omega)
                have HRN := Lib.hid hrun
                have b3 : Below (B + 1) w1 w3 := bq.trans p3
                have P1 := Lib.hid p1
                have P2 := Lib.hid p2
                have B3 := Lib.hid b3
                clear hv ho bq hrun p1 p2 p3
                go_wp2_with (at_builtin; refine Lib.wpList_append_run _ rfl (.tmp 43) (.tmp 45) 27 27 rfl _ _ rfl rfl _ _ (HRN.out _) ?_)
                clear d0 d1 d2 d3 d4 HRN b3
                obtain ⟨d0, d1, d2, d3, d4⟩ := CF.out _ B3.out
                obtain ⟨c0, c1, c2, c3, c4⟩ := CC.out _ B3.out
                have r0 := HRW.out _ (BB.out _ B3.out)
                go_quiet (fail)
                go_wp2_with fail
                go_roundw
                case rel => exact ⟨i + 1, by omega, by go_num, by rw [IP2.out], Lib.hid (And.intro (by rw [M4.out]; exact P1.out.keep fun _ _ => rfl) P2.out), Lib.hid (below_drewN B3.out _)⟩
                case measure => simp [intOf]; omega
            | false =>
              have M4 := Lib.hid (show Wl.mid m.L ⟨kk, g, ⟨mm, t, u⟩⟩ (i + 1) = (Wl.mid m.L ⟨kk, g, ⟨mm, t, u⟩⟩ i ++ [⟨kk, g, ⟨mm, t, u⟩⟩]) ++ [y] from by
                rw [M3.out, if_neg (beq_eq_false_iff_ne.1 F4)])
              have e1 : F1 = true := by rw [Bool.or_false] at m1; exact m1
              subst e1
              go_wp2_with fail
              go_quiet (fail)
              generalize hq1 : wr.drewN _ = wq
              have hv : NodeAtW wq u5 (Wl.mid m.L ⟨kk, g, ⟨mm, t, u⟩⟩ i) := by rw [← hq1]; exact HV.out.1.keep fun _ _ => rfl
              have bq : Below (B + 1) w1 wq := by rw [← hq1]; exact below_drewN HL.out _
              have ho := HV.out.2
              clear hq1 HV HL c0 c1 c2 c3 c4 r0 d0 d1 d2 d3 d4 f1 f2 m1
              obtain ⟨d0, d1, d2, d3, d4⟩ := CF.out _ bq
              obtain ⟨v3, w3, hrun, p1, p2, p3⟩ := app_one hv ho (by have := bq.size; have := SZ.out; omega) ⟨kk, g, ⟨mm, t, u⟩⟩ (by omega)
              have HRN := Lib.hid hrun
              have b3 : Below (B + 1) w1 w3 := bq.trans p3
              have P1 := Lib.hid p1
              have P2 := Lib.hid p2
              have B3 := Lib.hid b3
              clear hv ho bq hrun p1 p2 p3
              go_wp2_with (at_builtin; refine Lib.wpList_append_run _ rfl (.tmp 43) (.tmp 45) 27 27 rfl _ _ rfl rfl _ _ (HRN.out _) ?_)
              clear d0 d1 d2 d3 d4 HRN b3
              obtain ⟨d0, d1, d2, d3, d4⟩ := CF.out _ B3.out
              obtain ⟨c0, c1, c2, c3, c4⟩ := CC.out _ B3.out
              have r0 := HRW.out _ (BB.out _ B3.out)
              go_quiet (fail)
              generalize hq2 : w3.drewN _ = wq2
              have hv : NodeAtW wq2 v3 (Wl.mid m.L ⟨kk, g, ⟨mm, t, u⟩⟩ i ++ [⟨kk, g, ⟨mm, t, u⟩⟩]) := by rw [← hq2]; exact P1.out.keep fun _ _ => rfl
              have bq : Below (B + 1) w1 wq2 := by rw [← hq2]; exact below_drewN B3.out _
              have ho := P2.out
              have hlen : (Wl.mid m.L ⟨kk, g, ⟨mm, t, u⟩⟩ i ++ [(⟨kk, g, ⟨mm, t, u⟩⟩ : Wr)]).length ≤ 1000 := by rw [List.length_append, List.length_singleton]; omega
              replace M3 := M4
              clear hq2 P1 P2 B3 c0 c1 c2 c3 c4 r0 d0 d1 d2 d3 d4 M4
              obtain ⟨c0, c1, c2, c3, c4⟩ := CC.out _ bq
              have r0 := HRW.out _ (BB.out _ bq)
              obtain ⟨v', w', hrun, p1, p2, p3⟩ := app_one hv ho (by have := bq.size; have := SZ.out; omega) y hlen
              have HRN := Lib.hid hrun
              rw [← M3.out] at p1
              have HV3 := Lib.hid (show NodeAtW w' v' (Wl.mid m.L ⟨kk, g, ⟨mm, t, u⟩⟩ (i + 1)) ∧ ∀ k, v'.ownBlock = some k → B + 1 ≤ k from ⟨p1, p2⟩)
              have HL3 := Lib.hid (show Below (B + 1) w1 w' from bq.trans p3)
              clear hv ho bq hrun p1 p2 p3 hlen
              go_wp2_with (at_builtin; refine Lib.wpList_append_run _ rfl (.tmp 58) (.tmp 66) 27 27 rfl _ _ rfl rfl _ _ (HRN.out _) ?_)
              go_roundw
              case rel => exact ⟨i + 1, by omega, by go_num, by rw [IP2.out], HV3, HL3⟩
              case measure => simp [intOf]; omega
          · skip
            have M3 := Lib.hid (show Wl.mid m.L ⟨kk, g, ⟨mm, t, u⟩⟩ (i + 1) = Wl.mid m.L ⟨kk, g, ⟨mm, t, u⟩⟩ i ++ [y] from by
              rw [m3, if_neg (by omega), if_neg (fun e => by have := LT.out.2.1.1 e; omega), List.append_nil])
            have IP2 := Lib.hid (show Wl.isPut m.L ⟨kk, g, ⟨mm, t, u⟩⟩ (i + 1) = true from by unfold Wl.isPut; rw [show m.L.pos (Wr.key ⟨kk, g, ⟨mm, t, u⟩⟩) = P from HP.out.symm]; exact decide_eq_true (by omega))
            have ip : Wl.isPut m.L ⟨kk, g, ⟨mm, t, u⟩⟩ i = true := by unfold Wl.isPut; rw [show m.L.pos (Wr.key ⟨kk, g, ⟨mm, t, u⟩⟩) = P from HP.out.symm]; exact decide_eq_true (by omega)
            have f4 : (y.key.toList == kk.toList) = false := by
              rw [beq_eq_false_iff_ne]; intro e; have := LT.out.2.1.1 e; omega
            rw [ip]
            clear m1 m2 m3 LT ip
            go_wp2_with fail
            go_quiet (fail)
            go_wp2_with fail
            go_quiet (fail)
            generalize hq1 : wr.drewN _ = wq1
            generalize hq2 : wq1.drewN _ = wq
            have hv : NodeAtW wq u5 (Wl.mid m.L ⟨kk, g, ⟨mm, t, u⟩⟩ i) := by rw [← hq2, ← hq1]; exact HV.out.1.keep fun _ _ => rfl
            have bq : Below (B + 1) w1 wq := by rw [← hq2, ← hq1]; exact below_drewN (below_drewN HL.out _) _
            have ho := HV.out.2
            have hlen : (Wl.mid m.L ⟨kk, g, ⟨mm, t, u⟩⟩ i).length ≤ 1000 := by have := ML.out i; omega
            clear hq1 hq2 HV HL c0 c1 c2 c3 c4 r0 d0 d1 d2 d3 d4
            obtain ⟨c0, c1, c2, c3, c4⟩ := CC.out _ bq
            have r0 := HRW.out _ (BB.out _ bq)
            obtain ⟨v', w', hrun, p1, p2, p3⟩ := app_one hv ho (by have := bq.size; have := SZ.out; omega) y hlen
            have HRN := Lib.hid hrun
            rw [← M3.out] at p1
            have HV3 := Lib.hid (show NodeAtW w' v' (Wl.mid m.L ⟨kk, g, ⟨mm, t, u⟩⟩ (i + 1)) ∧ ∀ k, v'.ownBlock = some k → B + 1 ≤ k from ⟨p1, p2⟩)
            have HL3 := Lib.hid (show Below (B + 1) w1 w' from bq.trans p3)
            clear hv ho bq hrun p1 p2 p3 hlen
            go_wp2_with (at_builtin; refine Lib.wpList_append_run _ rfl (.tmp 58) (.tmp 66) 27 27 rfl _ _ rfl rfl _ _ (HRN.out _) ?_)
            go_roundw
            case rel => exact ⟨i + 1, by omega, by go_num, by rw [IP2.out], HV3, HL3⟩
            case measure => simp [intOf]; omega
        · obtain rfl : i = n := by omega
          clear hb d0 d1 d2 d3 d4 r0
          have ME := Wl.mid_end m.L ⟨kk, g, ⟨mm, t, u⟩⟩
          rw [← HN.out] at ME
          by_cases z : P < i
          · have ip : Wl.isPut m.L ⟨kk, g, ⟨mm, t, u⟩⟩ i = true := by unfold Wl.isPut; rw [show m.L.pos (Wr.key ⟨kk, g, ⟨mm, t, u⟩⟩) = P from HP.out.symm]; exact decide_eq_true z
            rw [ip, if_pos rfl, List.append_nil] at ME
            rw [ip]
            have HV4 := HV.out.1
            rw [← ME] at HV4
            have HO := Lib.hid HV.out.2
            have HV5 := Lib.hid HV4
            clear ME ip HV HV4
            have r0 := HRW.out _ (BB.out _ HL.out)
            generalize wr = w4 at *
            obtain ⟨A5, c5, e5, -⟩ := HV5.out.sl
            obtain ⟨q5, hq5⟩ : ∃ q, q = (m.L.put ⟨kk, g, ⟨mm, t, u⟩⟩).length := ⟨_, rfl⟩
            rw [← hq5] at e5 EE
            subst e5
            have hW := BB.out _ HL.out
            have H1 := Lib.hid (H0.out _ hW)
            have H2 : Hid (Side w0 N w4 [Ob.row b [.slice A i c, vm] TR, oWr (.slice A5 q5 c5) (m.L.put ⟨kk, g, ⟨mm, t, u⟩⟩), oVec 27 vm vs, oMk vs m.M]) :=
              Lib.hid (Sets.moved (H0.out w (Below.refl _ _)) (j := 1) rfl HV5.out (Chg.of_below hW) (fun k e => .inr (by have := HO.out k e; have := HB.out; omega)))
            have H3 : Hid (Side w0 N (w4.setCell ⟨b, 0, none⟩ (.slice A5 q5 c5)) (sOs TR b (.slice A5 q5 c5) vm vs ⟨m.L.put ⟨kk, g, ⟨mm, t, u⟩⟩, m.M⟩)) :=
              Lib.hid (H2.out.rowSet (i := 0) (g := b) (cs' := [.slice A5 q5 c5, vm]) rfl ((Chg.refl (fun k => k = b) w4).setCell (p := ⟨b, 0, none⟩) (.inl rfl) (.slice A5 q5 c5)) ((H2.out.rowAt (i := 0) rfl).set 0 _))
            have z0 := (H2.out.rowAt (i := 0) rfl).frozen 0
            have r4 := HRW.out _ hW
            have EW2 := Lib.hid (show m.wr ⟨kk, g, ⟨mm, t, u⟩⟩ = if E = 0 then ⟨m.L.put ⟨kk, g, ⟨mm, t, u⟩⟩, m.M⟩ else m from by
              unfold Ws.wr Wl.wL
              rw [← HE.out]
              split <;> rfl)
            clear hW hq5
            clear r4
            by_cases z2 : 16 < q5
            · skip
              have e18 : E = 18 := by rw [EE.out, if_pos z2]
              have EM := Lib.hid (show m.wr ⟨kk, g, ⟨mm, t, u⟩⟩ = m from by rw [EW2.out, e18, if_neg (by decide)])
              clear EE HE EW2 HV5 HO HL H2 H3
              subst e18
              go_wp2_with fail
              go_ret
              first | exact ⟨rfl, OKW.out, _, _, _, by rw [EM.out]; exact H1.out⟩ | exact ⟨OKW.out, _, _, _, by rw [EM.out]; exact H1.out⟩
            · skip
              have e0 : E = 0 := by rw [EE.out, if_neg z2]
              have EM := Lib.hid (show m.wr ⟨kk, g, ⟨mm, t, u⟩⟩ = ⟨m.L.put ⟨kk, g, ⟨mm, t, u⟩⟩, m.M⟩ from by rw [EW2.out, e0, if_pos rfl])
              clear EE HE EW2 HV5 HO HL H2 H1
              subst e0
              go_wp2_with fail
              go_ret
              first | exact ⟨rfl, OKW.out, _, _, _, by rw [EM.out]; exact H3.out⟩ | exact ⟨OKW.out, _, _, _, by rw [EM.out]; exact H3.out⟩
          · have ip : Wl.isPut m.L ⟨kk, g, ⟨mm, t, u⟩⟩ i = false := by unfold Wl.isPut; rw [show m.L.pos (Wr.key ⟨kk, g, ⟨mm, t, u⟩⟩) = P from HP.out.symm]; exact decide_eq_false z
            rw [ip, if_neg (by decide)] at ME
            rw [ip]
            obtain ⟨d0, d1, d2, d3, d4⟩ := CF.out _ HL.out
            have r0 := HRW.out _ (BB.out _ HL.out)
            obtain ⟨v4, w4, hrun, p1, p2, p3⟩ := app_one HV.out.1 HV.out.2 (by have := HL.out.size; have := SZ.out; omega) ⟨kk, g, ⟨mm, t, u⟩⟩ (by have := ML.out i; omega)
            rw [← ME] at p1
            have HRN := Lib.hid hrun
            have HO := Lib.hid p2
            have HV5 := Lib.hid p1
            have hl4 : Below (B + 1) w1 w4 := HL.out.trans p3
            clear HV HL
            have HL := Lib.hid hl4
            clear hrun p1 p2 p3 hl4 ME ip
            obtain ⟨A5, c5, e5, -⟩ := HV5.out.sl
            obtain ⟨q5, hq5⟩ : ∃ q, q = (m.L.put ⟨kk, g, ⟨mm, t, u⟩⟩).length := ⟨_, rfl⟩
            rw [← hq5] at e5 EE
            subst e5
            have hW := BB.out _ HL.out
            have H1 := Lib.hid (H0.out _ hW)
            have H2 : Hid (Side w0 N w4 [Ob.row b [.slice A i c, vm] TR, oWr (.slice A5 q5 c5) (m.L.put ⟨kk, g, ⟨mm, t, u⟩⟩), oVec 27 vm vs, oMk vs m.M]) :=
              Lib.hid (Sets.moved (H0.out w (Below.refl _ _)) (j := 1) rfl HV5.out (Chg.of_below hW) (fun k e => .inr (by have := HO.out k e; have := HB.out; omega)))
            have H3 : Hid (Side w0 N (w4.setCell ⟨b, 0, none⟩ (.slice A5 q5 c5)) (sOs TR b (.slice A5 q5 c5) vm vs ⟨m.L.put ⟨kk, g, ⟨mm, t, u⟩⟩, m.M⟩)) :=
              Lib.hid (H2.out.rowSet (i := 0) (g := b) (cs' := [.slice A5 q5 c5, vm]) rfl ((Chg.refl (fun k => k = b) w4).setCell (p := ⟨b, 0, none⟩) (.inl rfl) (.slice A5 q5 c5)) ((H2.out.rowAt (i := 0) rfl).set 0 _))
            have z0 := (H2.out.rowAt (i := 0) rfl).frozen 0
            have r4 := HRW.out _ hW
            have EW2 := Lib.hid (show m.wr ⟨kk, g, ⟨mm, t, u⟩⟩ = if E = 0 then ⟨m.L.put ⟨kk, g, ⟨mm, t, u⟩⟩, m.M⟩ else m from by
              unfold Ws.wr Wl.wL
              rw [← HE.out]
              split <;> rfl)
            clear hW hq5
            by_cases z2 : 16 < q5
            · skip
              have e18 : E = 18 := by rw [EE.out, if_pos z2]
              have EM := Lib.hid (show m.wr ⟨kk, g, ⟨mm, t, u⟩⟩ = m from by rw [EW2.out, e18, if_neg (by decide)])
              clear EE HE EW2 HV5 HO HL H2 H3
              subst e18
              go_wp2_with (at_builtin; refine Lib.wpList_append_run _ rfl (.tmp 70) (.tmp 72) 27 27 rfl _ _ rfl rfl _ _ (HRN.out _) ?_)
              go_ret
              first | exact ⟨rfl, OKW.out, _, _, _, by rw [EM.out]; exact H1.out⟩ | exact ⟨OKW.out, _, _, _, by rw [EM.out]; exact H1.out⟩
            · skip
              have e0 : E = 0 := by rw [EE.out, if_neg z2]
              have EM := Lib.hid (show m.wr ⟨kk, g, ⟨mm, t, u⟩⟩ = ⟨m.L.put ⟨kk, g, ⟨mm, t, u⟩⟩, m.M⟩ from by rw [EW2.out, e0, if_pos rfl])
              clear EE HE EW2 HV5 HO HL H2 H1
              subst e0
              go_wp2_with (at_builtin; refine Lib.wpList_append_run _ rfl (.tmp 70) (.tmp 72) 27 27 rfl _ _ rfl rfl _ _ (HRN.out _) ?_)
              go_ret
              first | exact ⟨rfl, OKW.out, _, _, _, by rw [EM.out]; exact H3.out⟩ | exact ⟨OKW.out, _, _, _, by rw [EM.out]; exact H3.out⟩

end Go.Proofs.Ytnbkekbgedioeaa
