/- Proved parts: B5u B5v B5w B5x B5y. Conditions: each theorem's own. -/
import Derived.Test.YtbfgpdgiaclphaaM45
import Derived.StillTailTactics
import Derived.Test.YtbfgpdgiaclphaaM15
import Derived.Test.YtbfgpdgiaclphaaM18
import Derived.Lib.SliceRun
namespace Go.Proofs.Ytbfgpdgiaclphaa
open Go.RowKit

def ahdE (l : List En) (i : Nat) : ByteArray := if i = 0 then ⟨#[]⟩ else (l.getD (i - 1) En.Z).key
theorem enOk_eq (l : List En) (i : Nat) (sq : Int) (x : En) : enOk (prevE l i) sq x = (flw (ahdE l i) x.key && (x.val.ok && (decide (1 ≤ x.seq) && decide (x.seq ≤ sq)))) := by
  unfold enOk prevE ahdE
  by_cases z : i = 0
  · rw [if_pos z, if_pos z, flw_first]; simp
  · rw [if_neg z, if_neg z, flw_next]
    cases keyOk x.key <;> cases x.val.ok <;> cases decide (1 ≤ x.seq) <;> cases decide (x.seq ≤ sq) <;> simp
theorem slEn_belowR {w w' : World} {A : Option Addr} {l : List En} (h : SlEn w A l) (hb : Below w.heap.size w w') : SlEn w' A l := fun hp => by
  obtain ⟨b, o, rfl, hlt, hc⟩ := h hp
  refine ⟨b, o, rfl, Nat.lt_of_lt_of_le hlt hb.size, fun j hj => ?_⟩
  obtain ⟨c0, c1, c2, c3, c4⟩ := hc j hj
  exact ⟨(hb.cell (p := ⟨b, o + j * 5, none⟩) hlt).trans c0, (hb.cell (p := ⟨b, o + j * 5 + 1, none⟩) hlt).trans c1, (hb.cell (p := ⟨b, o + j * 5 + 2, none⟩) hlt).trans c2, (hb.cell (p := ⟨b, o + j * 5 + 3, none⟩) hlt).trans c3, (hb.cell (p := ⟨b, o + j * 5 + 4, none⟩) hlt).trans c4⟩
set_option maxRecDepth 100000 in
set_option maxHeartbeats 4000000 in
/-- may -/
theorem xMayER (l : List En) (A : Option Addr) (c : Nat) (sq : Int) (w : World) (h : SlEn w A l) (hf : FitsE l) (hl : l.length ≤ 100000) :
    Calls Try.prog 26 #[.slice A l.length c, .int .i64 sq] w fun e w' => e = .returned (.bool (mayE l sq)) ∧ Below w.heap.size w w' := by
  obtain ⟨n, hn⟩ : ∃ n, n = l.length := ⟨_, rfl⟩
  obtain ⟨R, hR⟩ : ∃ R, R = mayE l sq := ⟨_, rfl⟩
  rw [← hn] at hl
  rw [← hn, ← hR]
  have HN := Lib.hid hn
  have HR := Lib.hid hR
  have HS := Lib.hid h
  have HF := Lib.hid hf
  clear hn hR h hf
  go_enter Try.func26, Try.ntmps26
  go_wp2_with fail
  go_loopw [5, 10] (fun va vi wr => ∃ i : Nat, i ≤ n ∧ vi = .int .i64 i ∧ va = .string (ahdE l i) ∧ Hid (∀ j, j < i → enOk (prevE l j) sq (l.getD j En.Z) = true) ∧ Hid (Below w.heap.size w wr)) (fun _ vi _ => n - (intOf vi).toNat)
  case atStart => exact ⟨0, Nat.zero_le _, rfl, rfl, Lib.hid (fun j hj => by cases hj), Lib.hid (Below.refl _ _)⟩
  case round =>
    obtain ⟨i, hi, rfl, rfl, HM, HB⟩ := hrel
    by_cases q : i < n
    · obtain ⟨bb, o, rfl, hb, c0, c1, c2, c3, c4⟩ := (slEn_belowR HS.out HB.out).at (j := i) (by rw [← HN.out]; exact q)
      have RN := Lib.hid (fun (hm : enOk (prevE l i) sq (l.getD i En.Z) = false) => show R = false by rw [HR.out]; exact mayE_no (by rw [← HN.out]; exact q) hm)
      have XF := Lib.hid (HF.out.get (i := i) (by rw [← HN.out]; exact q))
      obtain ⟨a, ha⟩ : ∃ a, a = ahdE l i := ⟨_, rfl⟩
      have AN := Lib.hid (show ahdE l (i + 1) = (l.getD i En.Z).key from rfl)
      obtain ⟨x, hx⟩ : ∃ x, x = l.getD i En.Z := ⟨_, rfl⟩
      have HMY := Lib.hid (show enOk (prevE l i) sq x = true → ∀ j, j < i + 1 → enOk (prevE l j) sq (l.getD j En.Z) = true from fun hm j hj => by
        by_cases e : j = i
        · rw [e, ← hx]; exact hm
        · exact HM.out j (by omega))
      have EM := Lib.hid (enOk_eq l i sq x)
      rw [← hx] at c0 c1 c2 c3 c4 RN XF AN
      rw [← ha] at EM
      obtain ⟨k, g, v⟩ := x
      obtain ⟨m, t, u⟩ := v
      have VR := Lib.hid (fun w' => vpRight ⟨m, t, u⟩ w' XF.out.1)
      have FR := Lib.hid (fun w' => xFollowsR k a w' (Nat.le_trans XF.out.2.1 (by decide)))
      obtain ⟨K1, hK1⟩ : ∃ K, K = flw a k := ⟨_, rfl⟩
      obtain ⟨K2, hK2⟩ : ∃ K, K = Val.ok ⟨m, t, u⟩ := ⟨_, rfl⟩
      simp only [← hK1] at FR
      simp only [← hK2] at VR
      have EM := Lib.hid (show enOk (prevE l i) sq ⟨k, g, ⟨m, t, u⟩⟩ = (K1 && (K2 && (decide (1 ≤ g) && decide (g ≤ sq)))) from by rw [EM.out, hK1, hK2])
      have VR : Hid (∀ w', Calls Try.prog 30 #[.agg #[.bool m, .string t, .int .u64 (u : Int)]] w' fun e w'' => e = .returned (.bool K2) ∧ Below w'.heap.size w' w'') := VR
      have i0 : (0 : Int) ≤ (i : Int) := by omega
      have i1 : (i : Int) < (n : Int) := by omega
      rw [← ha]
      obtain ⟨r1, hr1⟩ : ∃ r, r = wr.alloc (.cells #[.string k, .int .i64 g, .bool m, .string t, .int .u64 (u : Int)] 77) := ⟨_, rfl⟩
      have R1 := Lib.hid (show RowAt r1 wr.heap.size [.string k, .int .i64 g, .bool m, .string t, .int .u64 (u : Int)] 77 from by rw [hr1]; exact RowAt.new wr _ _)
      have B1 := Lib.hid (show Below w.heap.size w r1 from by rw [hr1]; exact HB.out.alloc HB.out.size _)
      have HR1 := Lib.hid hr1
      clear hx hK1 hK2 hb hi ha hr1
      have c0 : wr.cell? ⟨bb, o + i * 5, none⟩ = some (.string k) := c0
      have c1 : wr.cell? ⟨bb, o + i * 5 + 1, none⟩ = some (.int .i64 g) := c1
      have c2 : wr.cell? ⟨bb, o + i * 5 + 2, none⟩ = some (.bool m) := c2
      have c3 : wr.cell? ⟨bb, o + i * 5 + 3, none⟩ = some (.string t) := c3
      have c4 : wr.cell? ⟨bb, o + i * 5 + 4, none⟩ = some (.int .u64 (u : Int)) := c4
      go_wp2_with fail
      rw [← HR1.out]
      refine (FR.out _).mono ?_
      rintro e w1 ⟨rfl, hw1⟩
      have hw1 := hw1.symm
      subst hw1
      clear c0 c1 c2 c3 c4
      obtain ⟨q0, q1, q2, q3, q4⟩ := row5 R1.out
      cases K1 with
      | false =>
        have e := RN.out (by rw [EM.out]; rfl)
        subst e
        go_wp2_with fail
        go_ret
        exact ⟨rfl, B1.out⟩
      | true =>
        go_wp2_with fail
        refine (VR.out _).mono ?_
        rintro e w2 ⟨rfl, hb2⟩
        have R2 := Lib.hid (R1.out.below hb2)
        have B2 := Lib.hid (below_then B1.out hb2)
        clear hb2 q0 q1 q2 q3 q4
        obtain ⟨q0, q1, q2, q3, q4⟩ := row5 R2.out
        cases K2 with
        | false =>
          have e := RN.out (by rw [EM.out]; rfl)
          subst e
          go_wp2_with fail
          go_ret
          exact ⟨rfl, B2.out⟩
        | true =>
          by_cases z3 : g < 1
          · have e := RN.out (by rw [EM.out, decide_eq_false (show ¬ 1 ≤ g by omega)]; rfl)
            subst e
            go_wp2_with fail
            go_ret
            exact ⟨rfl, B2.out⟩
          · by_cases z4 : sq < g
            · have e := RN.out (by rw [EM.out, decide_eq_false (show ¬ g ≤ sq by omega)]; simp)
              subst e
              go_wp2_with fail
              go_ret
              exact ⟨rfl, B2.out⟩
            · have HM2 := Lib.hid (HMY.out (by rw [EM.out, decide_eq_true (show 1 ≤ g by omega), decide_eq_true (show g ≤ sq by omega)]; rfl))
              go_wp2_with fail
              go_roundw
              case rel => exact ⟨i + 1, by omega, by go_num, by rw [AN.out], HM2, B2⟩
              case measure => simp [intOf]; omega
    · obtain rfl : i = n := by omega
      have e := HR.out
      rw [mayE_yes (fun j hj => HM.out j (by rw [HN.out]; exact hj))] at e
      subst e
      go_wp2_with fail
      go_ret
      exact ⟨rfl, HB.out⟩
theorem mayE_at {l : List En} {sq : Int} (h : mayE l sq = true) {i : Nat} (hi : i < l.length) : (l.getD i En.Z).val.ok = true ∧ (l.getD i En.Z).key.size ≤ 32 := by
  have := List.all_eq_true.1 h i (List.mem_range.2 hi)
  unfold enOk keyOk at this
  simp only [Bool.and_eq_true, decide_eq_true_eq] at this
  exact ⟨this.2.1, this.1.2⟩
set_option maxRecDepth 100000 in
set_option maxHeartbeats 4000000 in
/-- weigh -/
theorem xWeighR (l : List En) (A : Option Addr) (c : Nat) (sq : Int) (w : World) (h : SlEn w A l) (hf : FitsE l) (hl : l.length ≤ 100000) (hm : mayE l sq = true) :
    Calls Try.prog 27 #[.slice A l.length c] w fun e w' => e = .returned (.int .i64 ((loadL l).live : Nat)) ∧ Below w.heap.size w w' := by
  obtain ⟨n, hn⟩ : ∃ n, n = l.length := ⟨_, rfl⟩
  have WG : ∀ i, i < n → Ch.wgt ((loadL l).key i, (loadL l).chn i) = (l.getD i En.Z).key.size + (l.getD i En.Z).val.pack.size := fun i hi => by
    have hi2 : i < (loadL l).length := by rw [loadL_len, ← hn]; exact hi
    have e : (loadL l)[i]? = some ((l.getD i En.Z).key, [(l.getD i En.Z).ver]) := by
      unfold loadL
      rw [List.getElem?_map, List.getD_eq_getElem?_getD, List.getElem?_eq_getElem (by rw [← hn]; exact hi)]; rfl
    rw [List.getElem?_eq_getElem hi2] at e
    injection e with e
    rw [← Ch.getE _ hi2, e]
    have := (Val.pack_size _ (mayE_at hm (by rw [← hn]; exact hi)).1).2
    show (if weightL [(l.getD i En.Z).ver] = 0 then 0 else _) = _
    have e2 : weightL [(l.getD i En.Z).ver] = (l.getD i En.Z).val.pack.size := by
      unfold weightL
      rw [if_neg]
      · rfl
      · rintro (z | z)
        · cases z
        · cases z
    rw [e2, if_neg (by omega)]
    show _ + (l.getD i En.Z).key.size = _
    omega
  have SA := Lib.hid (show sumTo Ch.wgt (loadL l) n = (loadL l).live by rw [hn, ← loadL_len l]; exact sumTo_all _ _)
  have SU := Lib.hid (fun i (hi : i < n) => show sumTo Ch.wgt (loadL l) (i + 1) = sumTo Ch.wgt (loadL l) i + ((l.getD i En.Z).key.size + (l.getD i En.Z).val.pack.size) from by
    rw [sumTo_succ Ch.wgt (loadL l) (by rw [loadL_len, ← hn]; exact hi), WG i hi])
  have SB : ∀ i, i ≤ n → sumTo Ch.wgt (loadL l) i ≤ i * 200 := fun i => by
    induction i with
    | zero => intro _; simp [sumTo]
    | succ i ih =>
      intro hi
      have := ih (by omega)
      have e := SU.out i (by omega)
      obtain ⟨o1, o2⟩ := mayE_at hm (i := i) (by omega)
      have := (Val.pack_size _ o1).1
      rw [e]; omega
  have SB := Lib.hid SB
  have OK := Lib.hid (fun i (hi : i < n) => mayE_at hm (i := i) (by rw [← hn]; exact hi))
  rw [← hn] at hl
  rw [← hn]
  have HN := Lib.hid hn
  have HS := Lib.hid h
  have HF := Lib.hid hf
  obtain ⟨T, hT⟩ : ∃ T, T = (loadL l).live := ⟨_, rfl⟩
  rw [← hT] at SA ⊢
  clear hn h hf hm WG hT
  go_enter Try.func27, Try.ntmps27
  go_wp2_with fail
  go_loopw [3, 8] (fun va vi wr => ∃ i : Nat, i ≤ n ∧ vi = .int .i64 i ∧ va = .int .i64 (sumTo Ch.wgt (loadL l) i : Nat) ∧ Hid (Below w.heap.size w wr)) (fun _ vi _ => n - (intOf vi).toNat)
  case atStart => exact ⟨0, Nat.zero_le _, rfl, by simp [sumTo], Lib.hid (Below.refl _ _)⟩
  case round =>
    obtain ⟨i, hi, rfl, rfl, HB⟩ := hrel
    by_cases q : i < n
    · obtain ⟨bb, o, rfl, hb, c0, c1, c2, c3, c4⟩ := (slEn_belowR HS.out HB.out).at (j := i) (by rw [← HN.out]; exact q)
      have XF := HF.out.get (i := i) (by rw [← HN.out]; exact q)
      have XO := OK.out i q
      have su := SU.out i q
      have sb := SB.out (i + 1) (by omega)
      obtain ⟨x, hx⟩ : ∃ x, x = l.getD i En.Z := ⟨_, rfl⟩
      rw [← hx] at c0 c1 c2 c3 c4 XF XO su
      have CW := Lib.hid (fun W => xWeightR x.key x.val W XF.1 XF.2.2 (by omega) XO.1)
      obtain ⟨z, hz⟩ : ∃ z, z = x.key.size + x.val.pack.size := ⟨_, rfl⟩
      simp only [← hz] at CW su
      obtain ⟨a, ha⟩ : ∃ a, a = sumTo Ch.wgt (loadL l) i := ⟨_, rfl⟩
      obtain ⟨a2, ha2⟩ : ∃ a, a = sumTo Ch.wgt (loadL l) (i + 1) := ⟨_, rfl⟩
      rw [← ha] at su
      rw [← ha2] at su sb
      have WR := Lib.hid (show wrap64 ((a : Int) + (z : Int)) = (a2 : Int) by rw [su]; unfold wrap64; omega)
      have HA2 := Lib.hid ha2
      rw [← ha]
      obtain ⟨k, g, v⟩ := x
      obtain ⟨m, t, u⟩ := v
      have CW : Hid (∀ W, Calls Try.prog 55 #[.string k, .agg #[.bool m, .string t, .int .u64 (u : Int)]] W fun e w' => e = .returned (.int .i64 (z : Int)) ∧ Below W.heap.size W w') := CW
      have i0 : (0 : Int) ≤ (i : Int) := by omega
      have i1 : (i : Int) < (n : Int) := by omega
      have c0 : wr.cell? ⟨bb, o + i * 5, none⟩ = some (.string k) := c0
      have c1 : wr.cell? ⟨bb, o + i * 5 + 1, none⟩ = some (.int .i64 g) := c1
      have c2 : wr.cell? ⟨bb, o + i * 5 + 2, none⟩ = some (.bool m) := c2
      have c3 : wr.cell? ⟨bb, o + i * 5 + 3, none⟩ = some (.string t) := c3
      have c4 : wr.cell? ⟨bb, o + i * 5 + 4, none⟩ = some (.int .u64 (u : Int)) := c4
      have B1 := Lib.hid (HB.out.alloc HB.out.size (.cells #[.string k, .int .i64 g, .bool m, .string t, .int .u64 (u : Int)] 77))
      clear hx hz ha ha2 hb su sb XF XO
      go_wp2_with fail
      refine (CW.out _).mono ?_
      rintro e w2 ⟨rfl, hb2⟩
      have B2 := Lib.hid (below_then B1.out hb2)
      clear hb2 c0 c1 c2 c3 c4
      go_wp2_with fail
      go_roundw
      case rel => exact ⟨i + 1, by omega, by go_num, by rw [← HA2.out, ← WR.out], B2⟩
      case measure => simp [intOf]; omega
    · obtain rfl : i = n := by omega
      rw [SA.out]
      go_wp2_with fail
      go_ret
      exact ⟨rfl, HB.out⟩

end Go.Proofs.Ytbfgpdgiaclphaa

namespace Go.Proofs.Ytbfgpdgiaclphaa
open Go.RowKit

section
variable {w0 w : World} {N : Nat → Prop} {b : Nat} {s : Sh} {L : Ch} {P : Nat} {os2 : List Ob}
theorem withW_of {k : ByteArray} : ∀ {ws : List Wr} {L : Ch} (q : Int), L.Rise → (∀ x, x ∈ ws → x.key ≠ k) → (L.withW ws q).of k = L.of k
  | [], _, _, _, _ => rfl
  | x :: ws, L, q, h, hn => by
    have e : L.withW (x :: ws) q = (L.put x.key (x.ver q)).withW ws q := rfl
    rw [e, withW_of q (Ch.rise_put h) fun y hy => hn y (List.mem_cons_of_mem _ hy), Ch.of_put h, if_neg (fun z => hn x (by simp) z.symm)]
theorem wrOk_parts {p : Option ByteArray} {x : Wr} (h : wrOk p x = true) : x.val.ok = true ∧ x.key.size ≤ 32 := by
  unfold wrOk keyOk at h
  simp only [Bool.and_eq_true, decide_eq_true_eq] at h
  exact ⟨h.2.1, h.1.2⟩
theorem wgt_snoc {k : ByteArray} {l : List Ver} {x : Wr} (q : Int) (h : x.val.ok = true) : Ch.wgt (k, l ++ [x.ver q]) = if x.gone then 0 else k.size + x.val.pack.size := by
  have e : lastL (l ++ [x.ver q]) = x.ver q := by unfold lastL; rw [List.length_append, List.length_singleton, Nat.add_sub_cancel, snoc_last]
  show (if weightL (l ++ [x.ver q]) = 0 then 0 else _ + k.size) = _
  have e2 : weightL (l ++ [x.ver q]) = if x.gone then 0 else x.val.pack.size := by
    unfold weightL
    rw [e]
    by_cases z : x.gone = true
    · rw [if_pos (.inr z), if_pos z]
    · rw [if_neg, if_neg z]
      · rfl
      · rintro (y | y)
        · rw [List.length_append] at y; simp at y
        · exact z y
  rw [e2]
  have := (Val.pack_size _ h).2
  cases x.gone with
  | true => simp
  | false =>
    simp only [Bool.false_eq_true, if_false]
    rw [if_neg (by omega)]; omega
/-- one write more -/
theorem live_step {L : Ch} {ws : List Wr} {q : Int} (h : L.Rise) (hm : mayW ws = true) {i : Nat} (hi : i < ws.length) :
    (L.withW (ws.take (i + 1)) q).live + Ch.wgt ((ws.getD i Wr.Z).key, L.of (ws.getD i Wr.Z).key) = (L.withW (ws.take i) q).live + (if (ws.getD i Wr.Z).gone then 0 else (ws.getD i Wr.Z).key.size + (ws.getD i Wr.Z).val.pack.size) := by
  obtain ⟨o1, _⟩ := wrOk_parts (mayW_at hm hi)
  rw [withW_succ L ws q hi, Ch.put_give]
  have hr : (L.withW (ws.take i) q).Rise := Sim.rise_with h _ _
  have e : (L.withW (ws.take i) q).of (ws.getD i Wr.Z).key = L.of (ws.getD i Wr.Z).key := withW_of q h fun x hx z => by
    obtain ⟨j, hj, rfl⟩ := List.getElem_of_mem hx
    rw [List.length_take] at hj
    have := mayW_rise hm (i := j) (j := i) (by omega) hi
    rw [List.getElem_take] at z
    rw [List.getD_eq_getElem?_getD, List.getElem?_eq_getElem (by omega)] at this
    have z : (ws[j]).key = (ws.getD i Wr.Z).key := z
    rw [show (some ws[j]).getD Wr.Z = ws[j] from rfl, z, ltB_irr] at this
    cases this
  have := (sums_give (L.withW (ws.take i) q) (ws.getD i Wr.Z).key ((L.withW (ws.take i) q).of (ws.getD i Wr.Z).key ++ [(ws.getD i Wr.Z).ver q])).1
  rw [wgt_snoc q o1, e] at this
  rw [e]
  exact this
set_option maxRecDepth 100000 in
set_option maxHeartbeats 4000000 in
/-- with -/
theorem xWithR (h : Side w0 N w (s.os b ++ os2)) (a : s.At L P) (ws : List Wr) (A : Option Addr) (c : Nat) (q : Int) (hw : SlWr w A ws) (hf : FitsW ws) (ht : ∀ x, x ∈ ws → x.val.txt.size ≤ 1000) (hm : mayW ws = true) (hG : ∀ i, i ≤ ws.length → GoodC (L.withW (ws.take i) q) ∧ (L.withW (ws.take i) q).length ≤ 10000) :
    Calls Try.prog 31 #[PtrM b, .slice A ws.length c] w fun e w' => e = .returned (.int .i64 ((L.withW ws q).live : Nat)) ∧ Below w.heap.size w w' := by
  have LV := Lib.hid (xLiveR h)
  have hx1 := a.x1
  have ni := mayW_size hm
  have SU := Lib.hid (fun i (hi : i < ws.length) => live_step (q := q) a.f.good.rise hm hi)
  have SB := Lib.hid (fun i (hi : i ≤ ws.length) => show (L.withW (ws.take i) q).live ≤ 30000000 from by
    have := sum_le (f := Ch.wgt) (B := 3000) (wgt_le (hG i hi).1)
    have := (hG i hi).2
    unfold Ch.live; omega)
  have KC := Lib.hid (fun k W (hb : Below w.heap.size w W) => show Calls Try.prog 35 #[PtrS b, .string k] W fun e w' => ∃ A c, e = .returned (.slice A (L.of k).length c) ∧ SlV w' A (L.of k) ∧ Below W.heap.size W w' from (xChainR (h.below hb) a.f k).mono fun e w' ⟨A', c', h1, _, h3, h4⟩ => ⟨A', c', h1, h3, h4⟩)
  have KS := Lib.hid (fun k W A' c' (hk : k.size ≤ 32) (hs : SlV W A' (L.of k)) => xSumsR k (L.of k) A' c' W hs (good_of a.f.good a.f.right k).1 (good_of a.f.good a.f.right k).2.1 (by omega))
  have WS := Lib.hid (fun k (hk : k.size ≤ 32) => wgt_small (k := k) (good_of a.f.good a.f.right k).1 (good_of a.f.good a.f.right k).2.1 (by omega))
  have XF := Lib.hid (fun i (hi : i < ws.length) => show (ws.getD i Wr.Z).val.Fits ∧ (ws.getD i Wr.Z).val.txt.size ≤ 1000 ∧ (ws.getD i Wr.Z).val.ok = true ∧ (ws.getD i Wr.Z).key.size ≤ 32 from by
    obtain ⟨o1, o2⟩ := wrOk_parts (mayW_at hm hi)
    refine ⟨(hf.get hi).1, ht _ ?_, o1, o2⟩
    rw [List.getD_eq_getElem?_getD, List.getElem?_eq_getElem hi]
    exact List.getElem_mem _)
  obtain ⟨n, hn⟩ : ∃ n, n = ws.length := ⟨_, rfl⟩
  obtain ⟨x1, hx⟩ : ∃ x, x = s.x1 := ⟨_, rfl⟩
  rw [← hx] at LV hx1
  have E0 := Lib.hid (show x1 = ((L.withW (ws.take 0) q).live : Nat) from hx1)
  have EN := Lib.hid (show (L.withW (ws.take n) q).live = (L.withW ws q).live from by rw [hn, List.take_length])
  rw [← hn] at ni
  rw [← hn]
  have HN := Lib.hid hn
  have HS := Lib.hid hw
  obtain ⟨T, hT⟩ : ∃ T, T = (L.withW ws q).live := ⟨_, rfl⟩
  rw [← hT] at EN ⊢
  clear h a hw hf ht hm hG hx1 hn hT hx
  go_enter Try.func31, Try.ntmps31
  go_wp2_with fail
  refine LV.out.mono ?_
  rintro e w1 ⟨rfl, hb⟩
  have B1 := Lib.hid hb
  rw [E0.out]
  clear hb LV E0
  go_wp2_with fail
  go_loopw [5, 12] (fun va vi wr => ∃ i : Nat, i ≤ n ∧ vi = .int .i64 i ∧ va = .int .i64 ((L.withW (ws.take i) q).live : Nat) ∧ Hid (Below w.heap.size w wr)) (fun _ vi _ => n - (intOf vi).toNat)
  case atStart => exact ⟨0, Nat.zero_le _, rfl, rfl, B1⟩
  case round =>
    obtain ⟨i, hi, rfl, rfl, HB⟩ := hrel
    by_cases z : i < n
    · obtain ⟨bb, o, rfl, hb, c0, c1, c2, c3, c4⟩ := (HS.out.below HB.out).at (j := i) (by rw [← HN.out]; exact z)
      obtain ⟨f1, f2, f3, f4⟩ := XF.out i (by rw [← HN.out]; exact z)
      have su := SU.out i (by rw [← HN.out]; exact z)
      have sb := SB.out i (by rw [← HN.out]; exact hi)
      have sb2 := SB.out (i + 1) (by rw [← HN.out]; exact z)
      obtain ⟨x, hx⟩ : ∃ x, x = ws.getD i Wr.Z := ⟨_, rfl⟩
      rw [← hx] at c0 c1 c2 c3 c4 f1 f2 f3 f4 su
      have ws_ := WS.out x.key f4
      have CW := Lib.hid (fun W => xWeightR x.key x.val W f1 f2 (by omega) f3)
      have KC1 := Lib.hid (fun W (hb : Below w.heap.size w W) => KC.out x.key W hb)
      have KS1 := Lib.hid (fun W A' c' (hs : SlV W A' (L.of x.key)) => KS.out x.key W A' c' f4 hs)
      obtain ⟨y, hy⟩ : ∃ z, z = x.key.size + x.val.pack.size := ⟨_, rfl⟩
      obtain ⟨u, hu⟩ : ∃ u, u = Ch.wgt (x.key, L.of x.key) := ⟨_, rfl⟩
      obtain ⟨u2, hu2⟩ : ∃ u, u = Ch.aliv (x.key, L.of x.key) := ⟨_, rfl⟩
      obtain ⟨m, hm⟩ : ∃ m, m = (L.of x.key).length := ⟨_, rfl⟩
      simp only [← hy] at CW su
      rw [← hu] at su ws_
      simp only [← hu, ← hu2, ← hm] at KS1
      simp only [← hm] at KC1
      obtain ⟨v0, hv0⟩ : ∃ a, a = (L.withW (ws.take i) q).live := ⟨_, rfl⟩
      obtain ⟨v1, hv1⟩ : ∃ a, a = (L.withW (ws.take (i + 1)) q).live := ⟨_, rfl⟩
      rw [← hv0] at su sb
      rw [← hv1] at su sb2
      obtain ⟨d, hd⟩ : ∃ d : Int, d = (v0 : Int) - (u : Int) := ⟨_, rfl⟩
      have WD := Lib.hid (show IntKind.i64.wrap ((v0 : Int) - (u : Int)) = d by rw [IntKind.wrap_i64]; omega)
      have WF := Lib.hid (fun (hg : x.gone = false) => show wrap64 (d + (y : Int)) = (v1 : Int) by rw [hg] at su; simp at su; unfold wrap64; omega)
      have WT := Lib.hid (fun (hg : x.gone = true) => show d = (v1 : Int) by rw [hg] at su; simp at su; omega)
      have HV1 := Lib.hid hv1
      rw [← hv0]
      obtain ⟨k, g, v⟩ := x
      obtain ⟨nm, t, bt⟩ := v
      have CW : Hid (∀ W, Calls Try.prog 55 #[.string k, .agg #[.bool nm, .string t, .int .u64 (bt : Int)]] W fun e w' => e = .returned (.int .i64 (y : Int)) ∧ Below W.heap.size W w') := CW
      have i0 : (0 : Int) ≤ (i : Int) := by omega
      have i1 : (i : Int) < (n : Int) := by omega
      have c0 : wr.cell? ⟨bb, o + i * 5, none⟩ = some (.string k) := c0
      have c1 : wr.cell? ⟨bb, o + i * 5 + 1, none⟩ = some (.bool g) := c1
      have c2 : wr.cell? ⟨bb, o + i * 5 + 2, none⟩ = some (.bool nm) := c2
      have c3 : wr.cell? ⟨bb, o + i * 5 + 3, none⟩ = some (.string t) := c3
      have c4 : wr.cell? ⟨bb, o + i * 5 + 4, none⟩ = some (.int .u64 (bt : Int)) := c4
      obtain ⟨X, hX⟩ : ∃ X, X = wr.heap.size := ⟨_, rfl⟩
      obtain ⟨r1, hr1⟩ : ∃ r, r = wr.alloc (.cells #[.string k, .bool g, .bool nm, .string t, .int .u64 (bt : Int)] 45) := ⟨_, rfl⟩
      have R1 := Lib.hid (show RowAt r1 X [.string k, .bool g, .bool nm, .string t, .int .u64 (bt : Int)] 45 from by rw [hr1, hX]; exact RowAt.new wr _ _)
      have BB := Lib.hid (show Below w.heap.size w r1 from by rw [hr1]; exact HB.out.alloc HB.out.size _)
      have HR1 := Lib.hid hr1
      have HX := Lib.hid hX
      clear hx hy hu hu2 hm hv0 hv1 hd hb su sb sb2 f1 f2 f3 f4 ws_ hr1 hX
      go_wp2_with fail
      rw [← HR1.out, ← HX.out]
      clear c0 c1 c2 c3 c4
      have BX := Lib.hid (show Below r1.heap.size r1 r1.drew from (Below.refl _ _).drew)
      have CF := Lib.hid (fun W (hb : Below r1.heap.size r1 W) => row5 (R1.out.below hb))
      have c0 := (CF.out _ BX.out).1
      refine wp_region_held_drew (S := (fun w' => w'.cell? ⟨X, 0, none⟩ = some (.string k))) (by kernel_rfl) (c0) (fun hHeld => ?_)
      refine rgnTake 0 rfl (by kernel_rfl) (by kernel_rfl) (by kernel_rfl) (fun _ _ _ h => h) (by rfl) (v := ?v1) ?hy1 hHeld ?rest1
      case hy1 => (intro v hSw; first | (go_simp; done) | (go_simp; with_reducible rfl))
      try simp only [Act.put, List.setIfInBounds_toArray, List.set_cons_zero, List.set_cons_succ]
      refine rgnTake 1 rfl (by kernel_rfl) (by kernel_rfl) (by kernel_rfl) (fun _ _ _ h => h) (by rfl) (v := ?v2) ?hy2 hHeld ?rest2
      case hy2 => (intro v hSw; first | (go_simp; done) | (go_simp; with_reducible rfl))
      try simp only [Act.put, List.setIfInBounds_toArray, List.set_cons_zero, List.set_cons_succ]
      refine rgnTake 2 rfl (by kernel_rfl) (by kernel_rfl) (by kernel_rfl) (fun _ _ _ h => h) (by rfl) (v := ?v3) ?hy3 hHeld ?rest3
      case hy3 => (intro v hSw; first | (go_simp; done) | (go_simp; with_reducible rfl))
      try simp only [Act.put, List.setIfInBounds_toArray, List.set_cons_zero, List.set_cons_succ]
      refine rgnTake 3 rfl (by kernel_rfl) (by kernel_rfl) (by kernel_rfl) (fun _ _ _ h => h) (by rfl) (v := ?v4) ?hy4 hHeld ?rest4
      case hy4 => (intro v hSw; first | (go_simp; done) | (go_simp; with_reducible rfl))
      try simp only [Act.put, List.setIfInBounds_toArray, List.set_cons_zero, List.set_cons_succ]
      refine rgnTake 4 rfl (by kernel_rfl) (by kernel_rfl) (by kernel_rfl) (fun _ _ _ h => h) (by rfl) (v := ?v5) ?hy5 hHeld ?rest5
      case hy5 => (intro v hSw; first | (go_simp; done) | (go_simp; with_reducible rfl))
      try simp only [Act.put, List.setIfInBounds_toArray, List.set_cons_zero, List.set_cons_succ]
      refine rgnTake 5 rfl (by kernel_rfl) (by kernel_rfl) (by kernel_rfl) (fun _ _ _ h => h) (by rfl) (v := ?v6) ?hy6 hHeld ?rest6
      case hy6 => (intro v hSw; first | (go_simp; done) | (go_simp; with_reducible rfl))
      try simp only [Act.put, List.setIfInBounds_toArray, List.set_cons_zero, List.set_cons_succ]
      refine rgnTake 6 rfl (by kernel_rfl) (by kernel_rfl) (by kernel_rfl) (fun _ _ _ h => h) (by rfl) (v := ?v7) ?hy7 hHeld ?rest7
      case hy7 => (intro v hSw; first | (go_simp; done) | (go_simp; with_reducible rfl))
      try simp only [Act.put, List.setIfInBounds_toArray, List.set_cons_zero, List.set_cons_succ]
      refine rgnTake 7 rfl (by kernel_rfl) (by kernel_rfl) (by kernel_rfl) (fun _ _ _ h => h) (by rfl) (v := ?v8) ?hy8 hHeld ?rest8
      case hy8 => (intro v hSw; first | (go_simp; done) | (go_simp; with_reducible rfl))
      try simp only [Act.put, List.setIfInBounds_toArray, List.set_cons_zero, List.set_cons_succ]
      refine rgnOne 8 rfl (by kernel_rfl) (fun K hK => ?_)
      go_simp
      refine (KC1.out _ (below_then BB.out BX.out)).mono ?_
      rintro r W3 ⟨A3, c3, rfl, hs3, hb3⟩
      have S3 := Lib.hid hs3
      have B3 := Lib.hid (below_then BX.out hb3)
      clear hs3 hb3
      refine hK.out _ _ ((CF.out _ B3.out).1) (fun hHeld => ?_)
      clear hK K
      try simp only [Act.put, List.setIfInBounds_toArray, List.set_cons_zero, List.set_cons_succ]
      refine rgnOne 9 rfl (by kernel_rfl) (fun K hK => ?_)
      go_simp
      refine (KS1.out _ _ _ S3.out).mono ?_
      rintro r W4 ⟨rfl, hb4⟩
      have B4 := Lib.hid (below_then B3.out hb4)
      clear hb4
      refine hK.out _ _ ((CF.out _ B4.out).1) (fun hHeld => ?_)
      clear hK K
      try simp only [Act.put, List.setIfInBounds_toArray, List.set_cons_zero, List.set_cons_succ]
      have hfd : ∀ w, (Instr.field 52 (.agg #[.int .i64 (u : Int), .int .i64 (u2 : Int), .int .i64 (m : Int)]) 0).run Try.prog w = .ok (.int .i64 (u : Int)) w := fun _ => by kernel_rfl
      refine rgnTake 10 rfl (by kernel_rfl) (by kernel_rfl) (by kernel_rfl) (fun _ _ _ h => h) (by rfl) (v := ?v9) ?hy9 hHeld ?rest9
      case hy9 => (intro v hSw; first | (go_simp; done) | (go_simp; with_reducible rfl))
      try simp only [Act.put, List.setIfInBounds_toArray, List.set_cons_zero, List.set_cons_succ]
      refine rgnTake 11 rfl (by kernel_rfl) (by kernel_rfl) (by kernel_rfl) (fun _ _ _ h => h) (by rfl) (v := ?v10) ?hy10 hHeld ?rest10
      case hy10 => (intro v hSw; first | (go_simp; done) | (go_simp; with_reducible rfl))
      try simp only [Act.put, List.setIfInBounds_toArray, List.set_cons_zero, List.set_cons_succ]
      refine rgnTake 12 rfl (by kernel_rfl) (by kernel_rfl) (by kernel_rfl) (fun _ _ _ h => h) (by rfl) (v := ?v11) ?hy11 hHeld ?rest11
      case hy11 => (intro v hSw; first | (go_simp; done) | (go_simp; with_reducible rfl))
      try simp only [Act.put, List.setIfInBounds_toArray, List.set_cons_zero, List.set_cons_succ]
      refine wpAnyH_done (by kernel_rfl) ?_ _
      rw [WD.out]
      have BE := Lib.hid (below_then BB.out B4.out)
      have R4 := Lib.hid (R1.out.below B4.out)
      clear c0 hfd
      obtain ⟨e0, e1, e2, e3, e4⟩ := row5 R4.out
      cases g with
      | true =>
        have ev := WT.out rfl
        go_wp2_with fail
        go_roundw
        case rel => exact ⟨i + 1, by omega, by go_num, by rw [← HV1.out, ← ev], BE⟩
        case measure => simp [intOf]; omega
      | false =>
        have ev := Lib.hid (WF.out rfl)
        go_wp2_with fail
        refine (CW.out _).mono ?_
        rintro r W5 ⟨rfl, hb5⟩
        have BF := Lib.hid (below_then BE.out hb5)
        clear hb5 e0 e1 e2 e3 e4
        go_wp2_with fail
        go_roundw
        case rel => exact ⟨i + 1, by omega, by go_num, by rw [← HV1.out, ← ev.out], BF⟩
        case measure => simp [intOf]; omega
    · obtain rfl : i = n := by omega
      rw [EN.out]
      go_wp2_with fail
      go_ret
      exact ⟨rfl, HB.out⟩
set_option maxRecDepth 100000 in
set_option maxHeartbeats 4000000 in
/-- fits -/
theorem xFitsR (h : Side w0 N w (s.os b ++ os2)) (a : s.At L P) (ws : List Wr) (A : Option Addr) (c : Nat) (hw : SlWr w A ws) (hf : FitsW ws) (ht : ∀ x, x ∈ ws → x.val.txt.size ≤ 1000) (hm : mayW ws = true)
    (hG : (s.r.seq : Int) < s.g3 → ∀ i, i ≤ ws.length → GoodC (L.withW (ws.take i) ((s.r.seq : Int) + 1)) ∧ (L.withW (ws.take i) ((s.r.seq : Int) + 1)).length ≤ 10000) :
    Calls Try.prog 14 #[PtrM b, .slice A ws.length c] w fun e w' => e = .returned (.int .i64 (spcE s.r L ws s.g2 s.g3)) ∧ Below w.heap.size w w' := by
  have SQ := Lib.hid (fun W (hb : Below w.heap.size w W) => xSeqR (h.below hb))
  have WT := Lib.hid (fun (hs : (s.r.seq : Int) < s.g3) W (hb : Below w.heap.size w W) => xWithR (h.below hb) a ws A c ((s.r.seq : Int) + 1) (hw.below hb) hf ht hm (hG hs))
  have CX := Lib.hid (fun W (hb : Below w.heap.size w W) => show W.cell? ⟨b, 3, none⟩ = some (.int .i64 s.g3) ∧ W.cell? ⟨b, 2, none⟩ = some (.int .i64 s.g2) from ⟨(Sh.cells (h.below hb)).2.2.2.1, (Sh.cells (h.below hb)).2.2.1⟩)
  obtain ⟨n, hn⟩ : ∃ n, n = ws.length := ⟨_, rfl⟩
  obtain ⟨q, hq⟩ : ∃ q : Int, q = (s.r.seq : Nat) := ⟨_, rfl⟩
  obtain ⟨v, hv⟩ : ∃ v : Int, v = ((L.withW ws ((s.r.seq : Int) + 1)).live : Nat) := ⟨_, rfl⟩
  obtain ⟨T, hT⟩ : ∃ T, T = spcE s.r L ws s.g2 s.g3 := ⟨_, rfl⟩
  have ET := Lib.hid (show T = if s.g3 ≤ q then 17 else if s.g2 < v then 15 else 0 from by rw [hT, hq, hv]; rfl)
  obtain ⟨g2, hg2⟩ : ∃ g, g = s.g2 := ⟨_, rfl⟩
  obtain ⟨g3, hg3⟩ : ∃ g, g = s.g3 := ⟨_, rfl⟩
  rw [← hT]
  simp only [← hn, ← hv] at WT
  simp only [← hq, ← hg3] at WT
  simp only [← hq] at SQ
  rw [← hg2, ← hg3] at ET
  simp only [← hg2, ← hg3] at CX
  rw [← hn]
  clear h a hw hf ht hm hG hn hq hv hT hg2 hg3
  have BX := Lib.hid (show Below w.heap.size w w.drew from (Below.refl _ _).drew)
  have SQ' := Lib.hid (SQ.out _ BX.out)
  have c3 := (CX.out _ BX.out).1
  go_enter Try.func14, Try.ntmps14
  go_wp2_with fail
  refine wp_region_held_drew (S := (fun w' => w'.cell? ⟨b, 3, none⟩ = some (.int .i64 g3))) (by kernel_rfl) (c3) (fun hHeld => ?_)
  refine rgnTake 0 rfl (by kernel_rfl) (by kernel_rfl) (by kernel_rfl) (fun _ _ _ h => h) (by rfl) (v := ?v12) ?hy12 hHeld ?rest12
  case hy12 => (intro v hSw; first | (go_simp; done) | (go_simp; with_reducible rfl))
  try simp only [Act.put, List.setIfInBounds_toArray, List.set_cons_zero, List.set_cons_succ]
  refine rgnTake 2 rfl (by kernel_rfl) (by kernel_rfl) (by kernel_rfl) (fun _ _ _ h => h) (by rfl) (v := ?v13) ?hy13 hHeld ?rest13
  case hy13 => (intro v hSw; first | (go_simp; done) | (go_simp; with_reducible rfl))
  try simp only [Act.put, List.setIfInBounds_toArray, List.set_cons_zero, List.set_cons_succ]
  refine rgnTake 3 rfl (by kernel_rfl) (by kernel_rfl) (by kernel_rfl) (fun _ _ _ h => h) (by rfl) (v := ?v14) ?hy14 hHeld ?rest14
  case hy14 => (intro v hSw; first | (go_simp; done) | (go_simp; with_reducible rfl))
  try simp only [Act.put, List.setIfInBounds_toArray, List.set_cons_zero, List.set_cons_succ]
  refine rgnTake 4 rfl (by kernel_rfl) (by kernel_rfl) (by kernel_rfl) (fun _ _ _ h => h) (by rfl) (v := ?v15) ?hy15 hHeld ?rest15
  case hy15 => (intro v hSw; first | (go_simp; done) | (go_simp; with_reducible rfl))
  try simp only [Act.put, List.setIfInBounds_toArray, List.set_cons_zero, List.set_cons_succ]
  refine rgnTake 5 rfl (by kernel_rfl) (by kernel_rfl) (by kernel_rfl) (fun _ _ _ h => h) (by rfl) (v := ?v16) ?hy16 hHeld ?rest16
  case hy16 => (intro v hSw; first | (go_simp; done) | (go_simp; with_reducible rfl))
  try simp only [Act.put, List.setIfInBounds_toArray, List.set_cons_zero, List.set_cons_succ]
  refine rgnTake 6 rfl (by kernel_rfl) (by kernel_rfl) (by kernel_rfl) (fun _ _ _ h => h) (by rfl) (v := ?v17) ?hy17 hHeld ?rest17
  case hy17 => (intro v hSw; first | (go_simp; done) | (go_simp; with_reducible rfl))
  try simp only [Act.put, List.setIfInBounds_toArray, List.set_cons_zero, List.set_cons_succ]
  refine rgnOne 1 rfl (by kernel_rfl) (fun K hK => ?_)
  go_simp
  refine SQ'.out.mono ?_
  rintro r W1 ⟨rfl, hb1⟩
  have B1 := Lib.hid (below_then BX.out hb1)
  clear hb1
  refine hK.out _ _ ((CX.out _ B1.out).1) (fun hHeld => ?_)
  clear hK K
  try simp only [Act.put, List.setIfInBounds_toArray, List.set_cons_zero, List.set_cons_succ]
  by_cases z : g3 ≤ q
  · have e := ET.out
    rw [if_pos z] at e
    subst e
    refine rgnTake 7 rfl (by kernel_rfl) (by kernel_rfl) (by kernel_rfl) (fun _ _ _ h => h) (by rfl) (v := ?v18) ?hy18 hHeld ?rest18
    case hy18 => (intro v hSw; first | (go_simp; done) | (go_simp; with_reducible rfl))
    try simp only [Act.put, List.setIfInBounds_toArray, List.set_cons_zero, List.set_cons_succ]
    refine wpAnyH_done (by kernel_rfl) ?_ _
    go_wp2_with fail
    go_ret
    exact ⟨rfl, B1.out⟩
  · have e := ET.out
    rw [if_neg z] at e
    have E := Lib.hid e
    clear e
    have WT' := Lib.hid (WT.out (by omega) W1.drew B1.out.drew)
    have c2 := (CX.out W1.drew B1.out.drew).2
    have BY := Lib.hid (show Below w.heap.size w W1.drew from B1.out.drew)
    refine rgnTake 7 rfl (by kernel_rfl) (by kernel_rfl) (by kernel_rfl) (fun _ _ _ h => h) (by rfl) (v := ?v19) ?hy19 hHeld ?rest19
    case hy19 => (intro v hSw; first | (go_simp; done) | (go_simp; with_reducible rfl))
    try simp only [Act.put, List.setIfInBounds_toArray, List.set_cons_zero, List.set_cons_succ]
    refine wpAnyH_done (by kernel_rfl) ?_ _
    go_wp2_with fail
    refine wp_region_held_drew (S := (fun w' => w'.cell? ⟨b, 2, none⟩ = some (.int .i64 g2))) (by kernel_rfl) (c2) (fun hHeld => ?_)
    refine rgnTake 0 rfl (by kernel_rfl) (by kernel_rfl) (by kernel_rfl) (fun _ _ _ h => h) (by rfl) (v := ?v20) ?hy20 hHeld ?rest20
    case hy20 => (intro v hSw; first | (go_simp; done) | (go_simp; with_reducible rfl))
    try simp only [Act.put, List.setIfInBounds_toArray, List.set_cons_zero, List.set_cons_succ]
    refine rgnTake 1 rfl (by kernel_rfl) (by kernel_rfl) (by kernel_rfl) (fun _ _ _ h => h) (by rfl) (v := ?v21) ?hy21 hHeld ?rest21
    case hy21 => (intro v hSw; first | (go_simp; done) | (go_simp; with_reducible rfl))
    try simp only [Act.put, List.setIfInBounds_toArray, List.set_cons_zero, List.set_cons_succ]
    refine rgnTake 3 rfl (by kernel_rfl) (by kernel_rfl) (by kernel_rfl) (fun _ _ _ h => h) (by rfl) (v := ?v22) ?hy22 hHeld ?rest22
    case hy22 => (intro v hSw; first | (go_simp; done) | (go_simp; with_reducible rfl))
    try simp only [Act.put, List.setIfInBounds_toArray, List.set_cons_zero, List.set_cons_succ]
    refine rgnTake 4 rfl (by kernel_rfl) (by kernel_rfl) (by kernel_rfl) (fun _ _ _ h => h) (by rfl) (v := ?v23) ?hy23 hHeld ?rest23
    case hy23 => (intro v hSw; first | (go_simp; done) | (go_simp; with_reducible rfl))
    try simp only [Act.put, List.setIfInBounds_toArray, List.set_cons_zero, List.set_cons_succ]
    refine rgnTake 5 rfl (by kernel_rfl) (by kernel_rfl) (by kernel_rfl) (fun _ _ _ h => h) (by rfl) (v := ?v24) ?hy24 hHeld ?rest24
    case hy24 => (intro v hSw; first | (go_simp; done) | (go_simp; with_reducible rfl))
    try simp only [Act.put, List.setIfInBounds_toArray, List.set_cons_zero, List.set_cons_succ]
    refine rgnTake 6 rfl (by kernel_rfl) (by kernel_rfl) (by kernel_rfl) (fun _ _ _ h => h) (by rfl) (v := ?v25) ?hy25 hHeld ?rest25
    case hy25 => (intro v hSw; first | (go_simp; done) | (go_simp; with_reducible rfl))
    try simp only [Act.put, List.setIfInBounds_toArray, List.set_cons_zero, List.set_cons_succ]
    refine rgnTake 7 rfl (by kernel_rfl) (by kernel_rfl) (by kernel_rfl) (fun _ _ _ h => h) (by rfl) (v := ?v26) ?hy26 hHeld ?rest26
    case hy26 => (intro v hSw; first | (go_simp; done) | (go_simp; with_reducible rfl))
    try simp only [Act.put, List.setIfInBounds_toArray, List.set_cons_zero, List.set_cons_succ]
    refine rgnOne 2 rfl (by kernel_rfl) (fun K hK => ?_)
    go_simp
    refine WT'.out.mono ?_
    rintro r W2 ⟨rfl, hb2⟩
    have B2 := Lib.hid (below_then BY.out hb2)
    clear hb2
    refine hK.out _ _ ((CX.out _ B2.out).2) (fun hHeld => ?_)
    clear hK K
    try simp only [Act.put, List.setIfInBounds_toArray, List.set_cons_zero, List.set_cons_succ]
    by_cases z2 : g2 < v
    · have e := E.out
      rw [if_pos z2] at e
      subst e
      refine rgnTake 8 rfl (by kernel_rfl) (by kernel_rfl) (by kernel_rfl) (fun _ _ _ h => h) (by rfl) (v := ?v27) ?hy27 hHeld ?rest27
      case hy27 => (intro v hSw; first | (go_simp; done) | (go_simp; with_reducible rfl))
      try simp only [Act.put, List.setIfInBounds_toArray, List.set_cons_zero, List.set_cons_succ]
      refine wpAnyH_done (by kernel_rfl) ?_ _
      go_wp2_with fail
      go_ret
      exact ⟨rfl, B2.out⟩
    · have e := E.out
      rw [if_neg z2] at e
      subst e
      refine rgnTake 8 rfl (by kernel_rfl) (by kernel_rfl) (by kernel_rfl) (fun _ _ _ h => h) (by rfl) (v := ?v28) ?hy28 hHeld ?rest28
      case hy28 => (intro v hSw; first | (go_simp; done) | (go_simp; with_reducible rfl))
      try simp only [Act.put, List.setIfInBounds_toArray, List.set_cons_zero, List.set_cons_succ]
      refine wpAnyH_done (by kernel_rfl) ?_ _
      go_wp2_with fail
      go_ret
      exact ⟨rfl, B2.out⟩
end

end Go.Proofs.Ytbfgpdgiaclphaa

namespace Go.Proofs.Ytbfgpdgiaclphaa
open Go.RowKit

section
variable {w0 w : World} {N : Nat → Prop} {b : Nat} {s : Sh} {L : Ch} {P : Nat} {os2 : List Ob}
theorem since_eq {L : Ch} {k : ByteArray} {q : Int} (hq : 0 ≤ q) : since L k q = decide (q < (if decide (0 < (L.of k).length) = true then lastL (L.of k) else Ver.Z).seq) := by
  unfold since
  by_cases z : 0 < (L.of k).length
  · rw [decide_eq_true z, if_pos rfl, Bool.true_and]
  · rw [decide_eq_false z, if_neg (by decide)]
    rw [decide_eq_false (show ¬ q < Ver.Z.seq from by show ¬ q < 0; omega)]; rfl
set_option maxRecDepth 100000 in
set_option maxHeartbeats 4000000 in
/-- behind's closure -/
theorem xBehind1R {b3 b5 : Nat} {q : Int} (x : Wr) (W : World) (h : Side w0 N W (s.os b ++ os2)) (a : s.AtF L P) (hq : 0 ≤ q) (h3 : W.cell? ⟨b3, 0, none⟩ = some (PtrM b)) (h5 : W.cell? ⟨b5, 0, none⟩ = some (.int .i64 q)) :
    Calls Try.prog 52 #[x.v, .pointer (some ⟨b3, 0, none⟩), .pointer (some ⟨b5, 0, none⟩)] W fun e w' => e = .returned (.bool (since L x.key q)) ∧ Below W.heap.size W w' := by
  have E0 := since_eq (L := L) (k := x.key) hq
  obtain ⟨g1, g2, _⟩ := good_of a.good a.right x.key
  have KC := Lib.hid (fun W' (hb : Below W.heap.size W W') => show Calls Try.prog 35 #[PtrS b, .string x.key] W' fun e w' => ∃ A c, e = .returned (.slice A (L.of x.key).length c) ∧ SlV w' A (L.of x.key) ∧ Below W'.heap.size W' w' from (xChainR (h.below hb) a x.key).mono fun e w' ⟨A', c', h1, _, h3, h4⟩ => ⟨A', c', h1, h3, h4⟩)
  have KL0 := fun W' A' c' (hs : SlV W' A' (L.of x.key)) => xLast9 (L.of x.key) A' c' W' hs g1
  simp only [g2, Bool.true_and] at KL0
  obtain ⟨y, hy⟩ : ∃ y, y = (if decide (0 < (L.of x.key).length) = true then lastL (L.of x.key) else Ver.Z) := ⟨_, rfl⟩
  obtain ⟨D, hD⟩ : ∃ D, D = decide (0 < (L.of x.key).length) := ⟨_, rfl⟩
  obtain ⟨m, hm⟩ : ∃ m, m = (L.of x.key).length := ⟨_, rfl⟩
  simp only [← hy] at KL0
  rw [← hy] at E0
  simp only [← hD] at KL0
  simp only [← hm] at KL0 KC
  obtain ⟨T, hT⟩ : ∃ T, T = since L x.key q := ⟨_, rfl⟩
  rw [← hT] at E0 ⊢
  obtain ⟨k, gx, v⟩ := x
  obtain ⟨nx, tx, bx⟩ := v
  obtain ⟨sq, gn, u⟩ := y
  obtain ⟨nu, t, bt⟩ := u
  have KL := Lib.hid (show ∀ W' A' c', SlV W' A' (L.of k) → Calls Try.prog 53 #[.slice A' m c'] W' fun e w' => e = .returned (.tuple #[.agg #[.int .i64 sq, .bool gn, .bool nu, .string t, .int .u64 (bt : Int)], .bool D]) ∧ Below W'.heap.size W' w' from KL0)
  have E := Lib.hid E0
  obtain ⟨w1, hw1⟩ : ∃ w1, w1 = W.alloc (.cells #[.string k, .bool gx, .bool nx, .string tx, .int .u64 (bx : Int)] 45) := ⟨_, rfl⟩
  obtain ⟨X, hX⟩ : ∃ X, X = W.heap.size := ⟨_, rfl⟩
  have R1 : RowAt w1 X [.string k, .bool gx, .bool nx, .string tx, .int .u64 (bx : Int)] 45 := by rw [hw1, hX]; exact RowAt.new W _ _
  have b1 : Below W.heap.size W w1 := by rw [hw1]; exact (Below.refl _ _).alloc (Nat.le_refl _) _
  have CF := Lib.hid (fun W' (hb : Below W.heap.size W W') (hr : RowAt W' X [.string k, .bool gx, .bool nx, .string tx, .int .u64 (bx : Int)] 45) => show W'.cell? ⟨b3, 0, none⟩ = some (PtrM b) ∧ W'.cell? ⟨X, 0, none⟩ = some (.string k) from ⟨(hb.cell (p := ⟨b3, 0, none⟩) (World.block_lt_of_cell? W _ h3)).trans h3, hr.cell 0⟩)
  have C5 := Lib.hid (fun W' (hb : Below W.heap.size W W') => show W'.cell? ⟨b5, 0, none⟩ = some (.int .i64 q) from (hb.cell (p := ⟨b5, 0, none⟩) (World.block_lt_of_cell? W _ h5)).trans h5)
  have CF := Lib.hid (fun W' (hb : Below w1.heap.size w1 W') => CF.out W' (below_then b1 hb) (R1.below hb))
  have KC := Lib.hid (fun W' (hb : Below w1.heap.size w1 W') => KC.out W' (below_then b1 hb))
  have HW1 := Lib.hid hw1
  have HX := Lib.hid hX
  have BW := Lib.hid b1
  obtain ⟨wd, hwd⟩ : ∃ wd, wd = w1.drew := ⟨_, rfl⟩
  have BX := Lib.hid (show Below w1.heap.size w1 wd from by rw [hwd]; exact (Below.refl _ _).drew)
  have HWD := Lib.hid hwd
  have LW := Lib.hid b1.size
  clear h a hq h3 h5 g1 g2 hy hD hm hT hw1 hX R1 b1 hwd E0 KL0
  show Calls Try.prog 52 #[.agg #[.string k, .bool gx, .bool nx, .string tx, .int .u64 (bx : Int)], .pointer (some ⟨b3, 0, none⟩), .pointer (some ⟨b5, 0, none⟩)] W _
  go_enter Try.func52, Try.ntmps52
  go_wp2_with fail
  rw [← HW1.out, ← HX.out]
  refine wp_region_held_drew (S := (fun w' => w'.cell? ⟨b3, 0, none⟩ = some (PtrM b) ∧ w'.cell? ⟨X, 0, none⟩ = some (.string k))) (by kernel_rfl) (by have := CF.out _ BX.out; rw [HWD.out] at this; exact this) (fun hHeld => ?_)
  rw [← HWD.out] at hHeld ⊢
  refine rgnTake 0 rfl (by kernel_rfl) (by kernel_rfl) (by kernel_rfl) (fun _ _ _ h => h) (by rfl) (v := ?v1) ?hy1 hHeld ?rest1
  case hy1 => (intro v hSw; obtain ⟨y0, y1⟩ := hSw; first | (go_simp; done) | (go_simp; with_reducible rfl))
  try simp only [Act.put, List.setIfInBounds_toArray, List.set_cons_zero, List.set_cons_succ]
  refine rgnTake 1 rfl (by kernel_rfl) (by kernel_rfl) (by kernel_rfl) (fun _ _ _ h => h) (by rfl) (v := ?v2) ?hy2 hHeld ?rest2
  case hy2 => (intro v hSw; obtain ⟨y0, y1⟩ := hSw; first | (go_simp; done) | (go_simp; with_reducible rfl))
  try simp only [Act.put, List.setIfInBounds_toArray, List.set_cons_zero, List.set_cons_succ]
  refine rgnTake 2 rfl (by kernel_rfl) (by kernel_rfl) (by kernel_rfl) (fun _ _ _ h => h) (by rfl) (v := ?v3) ?hy3 hHeld ?rest3
  case hy3 => (intro v hSw; obtain ⟨y0, y1⟩ := hSw; first | (go_simp; done) | (go_simp; with_reducible rfl))
  try simp only [Act.put, List.setIfInBounds_toArray, List.set_cons_zero, List.set_cons_succ]
  refine rgnTake 3 rfl (by kernel_rfl) (by kernel_rfl) (by kernel_rfl) (fun _ _ _ h => h) (by rfl) (v := ?v4) ?hy4 hHeld ?rest4
  case hy4 => (intro v hSw; obtain ⟨y0, y1⟩ := hSw; first | (go_simp; done) | (go_simp; with_reducible rfl))
  try simp only [Act.put, List.setIfInBounds_toArray, List.set_cons_zero, List.set_cons_succ]
  refine rgnTake 4 rfl (by kernel_rfl) (by kernel_rfl) (by kernel_rfl) (fun _ _ _ h => h) (by rfl) (v := ?v5) ?hy5 hHeld ?rest5
  case hy5 => (intro v hSw; obtain ⟨y0, y1⟩ := hSw; first | (go_simp; done) | (go_simp; with_reducible rfl))
  try simp only [Act.put, List.setIfInBounds_toArray, List.set_cons_zero, List.set_cons_succ]
  refine rgnTwo 5 10 rfl rfl (by kernel_rfl) (fun K hK => ?_) (fun K hK => ?_)
  · go_simp
    refine (KC.out _ BX.out).mono ?_
    rintro r W1 ⟨A1, c1, rfl, hs1, hb1⟩
    have S1 := Lib.hid hs1
    have B1 := Lib.hid (below_then BX.out hb1)
    refine hK.out _ _ (CF.out _ B1.out) (fun hHeld => ?_)
    clear hK K hs1
    try simp only [Act.put, List.setIfInBounds_toArray, List.set_cons_zero, List.set_cons_succ]
    clear hb1
    refine rgnTwo 6 10 rfl rfl (by kernel_rfl) (fun K hK => ?_) (fun K hK => ?_)
    · go_simp
      refine (KL.out _ _ _ S1.out).mono ?_
      rintro r W2 ⟨rfl, hb2⟩
      have B2 := Lib.hid (below_then B1.out hb2)
      refine hK.out _ _ (CF.out _ B2.out) (fun hHeld => ?_)
      clear hK K
      try simp only [Act.put, List.setIfInBounds_toArray, List.set_cons_zero, List.set_cons_succ]
      clear hb2
      refine rgnTake 7 rfl (by kernel_rfl) (by kernel_rfl) (by kernel_rfl) (fun _ _ _ h => h) (by rfl) (v := ?v6) ?hy6 hHeld ?rest6
      case hy6 => (intro v hSw; obtain ⟨y0, y1⟩ := hSw; first | (go_simp; done) | (go_simp; with_reducible rfl))
      try simp only [Act.put, List.setIfInBounds_toArray, List.set_cons_zero, List.set_cons_succ]
      refine rgnTake 8 rfl (by kernel_rfl) (by kernel_rfl) (by kernel_rfl) (fun _ _ _ h => h) (by rfl) (v := ?v7) ?hy7 hHeld ?rest7
      case hy7 => (intro v hSw; obtain ⟨y0, y1⟩ := hSw; first | (go_simp; done) | (go_simp; with_reducible rfl))
      try simp only [Act.put, List.setIfInBounds_toArray, List.set_cons_zero, List.set_cons_succ]
      refine rgnTake 9 rfl (by kernel_rfl) (by kernel_rfl) (by kernel_rfl) (fun _ _ _ h => h) (by rfl) (v := ?v8) ?hy8 hHeld ?rest8
      case hy8 => (intro v hSw; obtain ⟨y0, y1⟩ := hSw; first | (go_simp; done) | (go_simp; with_reducible rfl))
      try simp only [Act.put, List.setIfInBounds_toArray, List.set_cons_zero, List.set_cons_succ]
      obtain ⟨W3, hW3⟩ : ∃ W3, W3 = W2.alloc (.cells #[.int .i64 0, .bool false, .bool false, .string ⟨#[]⟩, .int .u64 0] 60) := ⟨_, rfl⟩
      obtain ⟨p, hp⟩ : ∃ p, p = W2.heap.size := ⟨_, rfl⟩
      have BK := Lib.hid (show Below w1.heap.size w1 W3 from by rw [hW3]; exact B2.out.alloc B2.out.size _)
      have B3 := Lib.hid (below_then BW.out BK.out)
      have PA := Lib.hid (show RowAt W3 p Ver.Z.cs 60 from by rw [hW3, hp]; exact RowAt.new W2 _ _)
      have PK := Lib.hid (show w1.heap.size ≤ p from by rw [hp]; exact B2.out.size)
      have PL := Lib.hid (Nat.le_trans LW.out PK.out)
      have HW3 := Lib.hid hW3
      have HP := Lib.hid hp
      clear hW3 hp
      refine rgnOne 10 rfl (by kernel_rfl) (fun K hK => ?_)
      go_simp
      rw [← HW3.out, ← HP.out]
      refine hK.out _ _ (CF.out _ BK.out) (fun hHeld => ?_)
      clear hK K HW3 HP
      try simp only [Act.put, List.setIfInBounds_toArray, List.set_cons_zero, List.set_cons_succ]
      refine rgnOne 11 rfl (by kernel_rfl) (fun K hK => ?_)
      have f0 := PA.out.frozen 0
      have f1 := PA.out.frozen 1
      have f2 := PA.out.frozen 2
      have f3 := PA.out.frozen 3
      have f4 := PA.out.frozen 4
      obtain ⟨d0, d1, d2, d3, d4⟩ := row5 PA.out
      go_simp
      have hS := Lib.hid (setV_row (w := W3) (g := p) (x := ⟨sq, gn, ⟨nu, t, bt⟩⟩) (y := Ver.Z) PA.out)
      have hBl := Lib.hid (setV_below (B := W.heap.size) (w := W3) (g := p) (x := ⟨sq, gn, ⟨nu, t, bt⟩⟩) B3.out PL.out)
      have hBk := Lib.hid (setV_below (B := w1.heap.size) (w := W3) (g := p) (x := ⟨sq, gn, ⟨nu, t, bt⟩⟩) BK.out PK.out)
      obtain ⟨W4, hW4⟩ : ∃ W4, W4 = setV W3 p ⟨sq, gn, ⟨nu, t, bt⟩⟩ := ⟨_, rfl⟩
      rw [← hW4] at hS hBl hBk
      refine hK.out _ _ (by have := CF.out _ hBk.out; rw [hW4] at this; exact this) (fun hHeld => ?_)
      have hW5 : W4 = ((((W3.setCell ⟨p, 0, none⟩ (.int .i64 sq)).setCell ⟨p, 1, none⟩ (.bool gn)).setCell ⟨p, 2, none⟩ (.bool nu)).setCell ⟨p, 3, none⟩ (.string t)).setCell ⟨p, 4, none⟩ (.int .u64 (bt : Int)) := hW4
      rw [← hW5] at hHeld ⊢
      clear hK K f0 f1 f2 f3 f4 d0 d1 d2 d3 d4 hW5 hW4
      try simp only [Act.put, List.setIfInBounds_toArray, List.set_cons_zero, List.set_cons_succ]
      refine rgnTake 12 rfl (by kernel_rfl) (by kernel_rfl) (by kernel_rfl) (fun _ _ _ h => h) (by rfl) (v := ?v9) ?hy9 hHeld ?rest9
      case hy9 => (intro v hSw; obtain ⟨y0, y1⟩ := hSw; first | (go_simp; done) | (go_simp; with_reducible rfl))
      try simp only [Act.put, List.setIfInBounds_toArray, List.set_cons_zero, List.set_cons_succ]
      refine wpAnyH_done (by kernel_rfl) ?_ _
      clear hHeld
      have s0 : W4.cell? ⟨p, 0, none⟩ = some (.int .i64 sq) := hS.out.cell 0
      have c5 := C5.out _ hBl.out
      go_wp2_with fail
      go_ret
      exact ⟨by rw [E.out]; rfl, hBl.out⟩
    · obtain ⟨V1, hV1⟩ : ∃ W3, W3 = W1.alloc (.cells #[.int .i64 0, .bool false, .bool false, .string ⟨#[]⟩, .int .u64 0] 60) := ⟨_, rfl⟩
      obtain ⟨p, hp⟩ : ∃ p, p = W1.heap.size := ⟨_, rfl⟩
      have bv : Below W1.heap.size W1 V1 := by rw [hV1]; exact (Below.refl _ _).alloc (Nat.le_refl _) _
      have PA1 := Lib.hid (show RowAt V1 p Ver.Z.cs 60 from by rw [hV1, hp]; exact RowAt.new W1 _ _)
      have PK := Lib.hid (show w1.heap.size ≤ p from by rw [hp]; exact B1.out.size)
      have PL := Lib.hid (Nat.le_trans LW.out PK.out)
      have S1' := Lib.hid (S1.out.below bv)
      have B1' := Lib.hid (below_then B1.out bv)
      have HV1 := Lib.hid hV1
      have HP := Lib.hid hp
      clear hV1 hp bv S1 B1
      go_simp
      rw [← HV1.out, ← HP.out]
      refine hK.out _ _ (CF.out _ B1'.out) (fun hHeld => ?_)
      clear hK K HV1 HP
      try simp only [Act.put, List.setIfInBounds_toArray, List.set_cons_zero, List.set_cons_succ]
      have S1 := S1'
      have B1 := B1'
      refine rgnOne 6 rfl (by kernel_rfl) (fun K hK => ?_)
      go_simp
      refine (KL.out _ _ _ S1.out).mono ?_
      rintro r W2 ⟨rfl, hb2⟩
      have B2 := Lib.hid (below_then B1.out hb2)
      refine hK.out _ _ (CF.out _ B2.out) (fun hHeld => ?_)
      clear hK K
      try simp only [Act.put, List.setIfInBounds_toArray, List.set_cons_zero, List.set_cons_succ]
      refine rgnTake 7 rfl (by kernel_rfl) (by kernel_rfl) (by kernel_rfl) (fun _ _ _ h => h) (by rfl) (v := ?v10) ?hy10 hHeld ?rest10
      case hy10 => (intro v hSw; obtain ⟨y0, y1⟩ := hSw; first | (go_simp; done) | (go_simp; with_reducible rfl))
      try simp only [Act.put, List.setIfInBounds_toArray, List.set_cons_zero, List.set_cons_succ]
      refine rgnTake 8 rfl (by kernel_rfl) (by kernel_rfl) (by kernel_rfl) (fun _ _ _ h => h) (by rfl) (v := ?v11) ?hy11 hHeld ?rest11
      case hy11 => (intro v hSw; obtain ⟨y0, y1⟩ := hSw; first | (go_simp; done) | (go_simp; with_reducible rfl))
      try simp only [Act.put, List.setIfInBounds_toArray, List.set_cons_zero, List.set_cons_succ]
      refine rgnTake 9 rfl (by kernel_rfl) (by kernel_rfl) (by kernel_rfl) (fun _ _ _ h => h) (by rfl) (v := ?v12) ?hy12 hHeld ?rest12
      case hy12 => (intro v hSw; obtain ⟨y0, y1⟩ := hSw; first | (go_simp; done) | (go_simp; with_reducible rfl))
      try simp only [Act.put, List.setIfInBounds_toArray, List.set_cons_zero, List.set_cons_succ]
      have PA := Lib.hid (PA1.out.below hb2)
      have BK := B2
      have B3 := Lib.hid (below_then BW.out BK.out)
      clear hb2
      obtain ⟨W3, hW3⟩ : ∃ W3, W3 = W2 := ⟨_, rfl⟩
      rw [← hW3] at PA BK B3 ⊢
      clear hW3
      refine rgnOne 11 rfl (by kernel_rfl) (fun K hK => ?_)
      have f0 := PA.out.frozen 0
      have f1 := PA.out.frozen 1
      have f2 := PA.out.frozen 2
      have f3 := PA.out.frozen 3
      have f4 := PA.out.frozen 4
      obtain ⟨d0, d1, d2, d3, d4⟩ := row5 PA.out
      go_simp
      have hS := Lib.hid (setV_row (w := W3) (g := p) (x := ⟨sq, gn, ⟨nu, t, bt⟩⟩) (y := Ver.Z) PA.out)
      have hBl := Lib.hid (setV_below (B := W.heap.size) (w := W3) (g := p) (x := ⟨sq, gn, ⟨nu, t, bt⟩⟩) B3.out PL.out)
      have hBk := Lib.hid (setV_below (B := w1.heap.size) (w := W3) (g := p) (x := ⟨sq, gn, ⟨nu, t, bt⟩⟩) BK.out PK.out)
      obtain ⟨W4, hW4⟩ : ∃ W4, W4 = setV W3 p ⟨sq, gn, ⟨nu, t, bt⟩⟩ := ⟨_, rfl⟩
      rw [← hW4] at hS hBl hBk
      refine hK.out _ _ (by have := CF.out _ hBk.out; rw [hW4] at this; exact this) (fun hHeld => ?_)
      have hW5 : W4 = ((((W3.setCell ⟨p, 0, none⟩ (.int .i64 sq)).setCell ⟨p, 1, none⟩ (.bool gn)).setCell ⟨p, 2, none⟩ (.bool nu)).setCell ⟨p, 3, none⟩ (.string t)).setCell ⟨p, 4, none⟩ (.int .u64 (bt : Int)) := hW4
      rw [← hW5] at hHeld ⊢
      clear hK K f0 f1 f2 f3 f4 d0 d1 d2 d3 d4 hW5 hW4
      try simp only [Act.put, List.setIfInBounds_toArray, List.set_cons_zero, List.set_cons_succ]
      refine rgnTake 12 rfl (by kernel_rfl) (by kernel_rfl) (by kernel_rfl) (fun _ _ _ h => h) (by rfl) (v := ?v13) ?hy13 hHeld ?rest13
      case hy13 => (intro v hSw; obtain ⟨y0, y1⟩ := hSw; first | (go_simp; done) | (go_simp; with_reducible rfl))
      try simp only [Act.put, List.setIfInBounds_toArray, List.set_cons_zero, List.set_cons_succ]
      refine wpAnyH_done (by kernel_rfl) ?_ _
      clear hHeld
      have s0 : W4.cell? ⟨p, 0, none⟩ = some (.int .i64 sq) := hS.out.cell 0
      have c5 := C5.out _ hBl.out
      go_wp2_with fail
      go_ret
      exact ⟨by rw [E.out]; rfl, hBl.out⟩
  · obtain ⟨V1, hV1⟩ : ∃ W3, W3 = wd.alloc (.cells #[.int .i64 0, .bool false, .bool false, .string ⟨#[]⟩, .int .u64 0] 60) := ⟨_, rfl⟩
    obtain ⟨p, hp⟩ : ∃ p, p = wd.heap.size := ⟨_, rfl⟩
    have bv : Below wd.heap.size wd V1 := by rw [hV1]; exact (Below.refl _ _).alloc (Nat.le_refl _) _
    have PA1 := Lib.hid (show RowAt V1 p Ver.Z.cs 60 from by rw [hV1, hp]; exact RowAt.new wd _ _)
    have PK := Lib.hid (show w1.heap.size ≤ p from by rw [hp]; exact BX.out.size)
    have PL := Lib.hid (Nat.le_trans LW.out PK.out)
    have BX' := Lib.hid (below_then BX.out bv)
    have HV1 := Lib.hid hV1
    have HP := Lib.hid hp
    clear hV1 hp bv BX
    go_simp
    rw [← HV1.out, ← HP.out]
    refine hK.out _ _ (CF.out _ BX'.out) (fun hHeld => ?_)
    clear hK K HV1 HP
    try simp only [Act.put, List.setIfInBounds_toArray, List.set_cons_zero, List.set_cons_succ]
    have BX := BX'
    refine rgnOne 5 rfl (by kernel_rfl) (fun K hK => ?_)
    go_simp
    refine (KC.out _ BX.out).mono ?_
    rintro r W1 ⟨A1, c1, rfl, hs1, hb1⟩
    have S1 := Lib.hid hs1
    have B1 := Lib.hid (below_then BX.out hb1)
    refine hK.out _ _ (CF.out _ B1.out) (fun hHeld => ?_)
    clear hK K hs1
    try simp only [Act.put, List.setIfInBounds_toArray, List.set_cons_zero, List.set_cons_succ]
    have PA2 := Lib.hid (PA1.out.below hb1)
    clear hb1
    refine rgnOne 6 rfl (by kernel_rfl) (fun K hK => ?_)
    go_simp
    refine (KL.out _ _ _ S1.out).mono ?_
    rintro r W2 ⟨rfl, hb2⟩
    have B2 := Lib.hid (below_then B1.out hb2)
    refine hK.out _ _ (CF.out _ B2.out) (fun hHeld => ?_)
    clear hK K
    try simp only [Act.put, List.setIfInBounds_toArray, List.set_cons_zero, List.set_cons_succ]
    refine rgnTake 7 rfl (by kernel_rfl) (by kernel_rfl) (by kernel_rfl) (fun _ _ _ h => h) (by rfl) (v := ?v14) ?hy14 hHeld ?rest14
    case hy14 => (intro v hSw; obtain ⟨y0, y1⟩ := hSw; first | (go_simp; done) | (go_simp; with_reducible rfl))
    try simp only [Act.put, List.setIfInBounds_toArray, List.set_cons_zero, List.set_cons_succ]
    refine rgnTake 8 rfl (by kernel_rfl) (by kernel_rfl) (by kernel_rfl) (fun _ _ _ h => h) (by rfl) (v := ?v15) ?hy15 hHeld ?rest15
    case hy15 => (intro v hSw; obtain ⟨y0, y1⟩ := hSw; first | (go_simp; done) | (go_simp; with_reducible rfl))
    try simp only [Act.put, List.setIfInBounds_toArray, List.set_cons_zero, List.set_cons_succ]
    refine rgnTake 9 rfl (by kernel_rfl) (by kernel_rfl) (by kernel_rfl) (fun _ _ _ h => h) (by rfl) (v := ?v16) ?hy16 hHeld ?rest16
    case hy16 => (intro v hSw; obtain ⟨y0, y1⟩ := hSw; first | (go_simp; done) | (go_simp; with_reducible rfl))
    try simp only [Act.put, List.setIfInBounds_toArray, List.set_cons_zero, List.set_cons_succ]
    have PA := Lib.hid (PA2.out.below hb2)
    have BK := B2
    have B3 := Lib.hid (below_then BW.out BK.out)
    clear hb2
    obtain ⟨W3, hW3⟩ : ∃ W3, W3 = W2 := ⟨_, rfl⟩
    rw [← hW3] at PA BK B3 ⊢
    clear hW3
    refine rgnOne 11 rfl (by kernel_rfl) (fun K hK => ?_)
    have f0 := PA.out.frozen 0
    have f1 := PA.out.frozen 1
    have f2 := PA.out.frozen 2
    have f3 := PA.out.frozen 3
    have f4 := PA.out.frozen 4
    obtain ⟨d0, d1, d2, d3, d4⟩ := row5 PA.out
    go_simp
    have hS := Lib.hid (setV_row (w := W3) (g := p) (x := ⟨sq, gn, ⟨nu, t, bt⟩⟩) (y := Ver.Z) PA.out)
    have hBl := Lib.hid (setV_below (B := W.heap.size) (w := W3) (g := p) (x := ⟨sq, gn, ⟨nu, t, bt⟩⟩) B3.out PL.out)
    have hBk := Lib.hid (setV_below (B := w1.heap.size) (w := W3) (g := p) (x := ⟨sq, gn, ⟨nu, t, bt⟩⟩) BK.out PK.out)
    obtain ⟨W4, hW4⟩ : ∃ W4, W4 = setV W3 p ⟨sq, gn, ⟨nu, t, bt⟩⟩ := ⟨_, rfl⟩
    rw [← hW4] at hS hBl hBk
    refine hK.out _ _ (by have := CF.out _ hBk.out; rw [hW4] at this; exact this) (fun hHeld => ?_)
    have hW5 : W4 = ((((W3.setCell ⟨p, 0, none⟩ (.int .i64 sq)).setCell ⟨p, 1, none⟩ (.bool gn)).setCell ⟨p, 2, none⟩ (.bool nu)).setCell ⟨p, 3, none⟩ (.string t)).setCell ⟨p, 4, none⟩ (.int .u64 (bt : Int)) := hW4
    rw [← hW5] at hHeld ⊢
    clear hK K f0 f1 f2 f3 f4 d0 d1 d2 d3 d4 hW5 hW4
    try simp only [Act.put, List.setIfInBounds_toArray, List.set_cons_zero, List.set_cons_succ]
    refine rgnTake 12 rfl (by kernel_rfl) (by kernel_rfl) (by kernel_rfl) (fun _ _ _ h => h) (by rfl) (v := ?v17) ?hy17 hHeld ?rest17
    case hy17 => (intro v hSw; obtain ⟨y0, y1⟩ := hSw; first | (go_simp; done) | (go_simp; with_reducible rfl))
    try simp only [Act.put, List.setIfInBounds_toArray, List.set_cons_zero, List.set_cons_succ]
    refine wpAnyH_done (by kernel_rfl) ?_ _
    clear hHeld
    have s0 : W4.cell? ⟨p, 0, none⟩ = some (.int .i64 sq) := hS.out.cell 0
    have c5 := C5.out _ hBl.out
    go_wp2_with fail
    go_ret
    exact ⟨by rw [E.out]; rfl, hBl.out⟩
set_option maxRecDepth 100000 in
set_option maxHeartbeats 4000000 in
/-- slices.IndexFunc, of behind's closure -/
theorem xIndexFuncR {b3 b5 : Nat} {q : Int} (ws : List Wr) (A : Option Addr) (c : Nat) (hw : SlWr w A ws) (hl : ws.length ≤ 1000) (h : Side w0 N w (s.os b ++ os2)) (a : s.AtF L P) (hq : 0 ≤ q) (h3 : w.cell? ⟨b3, 0, none⟩ = some (PtrM b)) (h5 : w.cell? ⟨b5, 0, none⟩ = some (.int .i64 q)) :
    Calls Try.prog 75 #[.slice A ws.length c, .func (.func 52) #[] #[.pointer (some ⟨b3, 0, none⟩), .pointer (some ⟨b5, 0, none⟩)]] w fun e w' => ∃ z : Int, e = .returned (.int .i64 z) ∧ decide (0 ≤ z) = ws.any (fun x => since L x.key q) ∧ Below w.heap.size w w' := by
  have KB := Lib.hid (fun i W (hb : Below w.heap.size w W) => xBehind1R (b3 := b3) (b5 := b5) (ws.getD i Wr.Z) W (h.below hb) a hq ((hb.cell (p := ⟨b3, 0, none⟩) (World.block_lt_of_cell? w _ h3)).trans h3) ((hb.cell (p := ⟨b5, 0, none⟩) (World.block_lt_of_cell? w _ h5)).trans h5))
  obtain ⟨T, hT⟩ : ∃ T, T = ws.any (fun x => since L x.key q) := ⟨_, rfl⟩
  rw [← hT]
  have AY := Lib.hid (fun i (hi : i < ws.length) (hh : since L (ws.getD i Wr.Z).key q = true) => show T = true from by
    rw [hT, List.any_eq_true]
    refine ⟨ws[i], List.getElem_mem hi, ?_⟩
    rwa [List.getD_eq_getElem?_getD, List.getElem?_eq_getElem hi] at hh)
  have AN := Lib.hid (fun (hh : ∀ i, i < ws.length → since L (ws.getD i Wr.Z).key q = false) => show T = false from by
    rw [hT, List.any_eq_false]
    intro x hx
    obtain ⟨i, hi, rfl⟩ := List.getElem_of_mem hx
    have := hh i hi
    rw [List.getD_eq_getElem?_getD, List.getElem?_eq_getElem hi] at this
    exact Bool.eq_false_iff.1 this)
  obtain ⟨n, hn⟩ : ∃ n, n = ws.length := ⟨_, rfl⟩
  rw [← hn] at hl AY AN ⊢
  have HN := Lib.hid hn
  have HS := Lib.hid hw
  clear h a hq h3 h5 hT hn hw
  go_enter Try.func75, Try.ntmps75
  go_wp2_with fail
  go_loopw [8] (fun vi wr => ∃ i : Nat, i ≤ n ∧ vi = .int .i64 i ∧ Hid (∀ j, j < i → since L (ws.getD j Wr.Z).key q = false) ∧ Hid (Below w.heap.size w wr)) (fun vi _ => n - (intOf vi).toNat)
  case atStart => exact ⟨0, Nat.zero_le _, rfl, Lib.hid (fun j hj => by cases hj), Lib.hid (Below.refl _ _)⟩
  case round =>
    obtain ⟨i, hi, rfl, HM, HB⟩ := hrel
    by_cases z : i < n
    · obtain ⟨bb, o, rfl, hb, c0, c1, c2, c3, c4⟩ := (HS.out.below HB.out).at (j := i) (by rw [← HN.out]; exact z)
      have KB1 := KB.out i wr HB.out
      have AY1 := Lib.hid (AY.out i z)
      have HM2 := Lib.hid (fun (hf : since L (ws.getD i Wr.Z).key q = false) j (hj : j < i + 1) => show since L (ws.getD j Wr.Z).key q = false from by
        by_cases e : j = i
        · rw [e]; exact hf
        · exact HM.out j (by omega))
      obtain ⟨x, hx⟩ : ∃ x, x = ws.getD i Wr.Z := ⟨_, rfl⟩
      rw [← hx] at c0 c1 c2 c3 c4 KB1 AY1 HM2
      obtain ⟨S, hS⟩ : ∃ S, S = since L x.key q := ⟨_, rfl⟩
      rw [← hS] at KB1 AY1 HM2
      obtain ⟨k, g, v⟩ := x
      obtain ⟨nm, t, bt⟩ := v
      have KB1 := Lib.hid KB1
      have KB1 : Hid (Calls Try.prog 52 #[.agg #[.string k, .bool g, .bool nm, .string t, .int .u64 (bt : Int)], .pointer (some ⟨b3, 0, none⟩), .pointer (some ⟨b5, 0, none⟩)] wr fun e w' => e = .returned (.bool S) ∧ Below wr.heap.size wr w') := KB1
      have i0 : (0 : Int) ≤ (i : Int) := by omega
      have i1 : (i : Int) < (n : Int) := by omega
      have c0 : wr.cell? ⟨bb, o + i * 5, none⟩ = some (.string k) := c0
      have c1 : wr.cell? ⟨bb, o + i * 5 + 1, none⟩ = some (.bool g) := c1
      have c2 : wr.cell? ⟨bb, o + i * 5 + 2, none⟩ = some (.bool nm) := c2
      have c3 : wr.cell? ⟨bb, o + i * 5 + 3, none⟩ = some (.string t) := c3
      have c4 : wr.cell? ⟨bb, o + i * 5 + 4, none⟩ = some (.int .u64 (bt : Int)) := c4
      clear hx hS hb
      go_wp2_with fail
      refine KB1.out.mono ?_
      rintro r w2 ⟨rfl, hb2⟩
      have B2 := Lib.hid (below_then HB.out hb2)
      clear hb2 c0 c1 c2 c3 c4
      cases S with
      | true =>
        have e := Lib.hid (AY1.out rfl)
        go_wp2_with fail
        go_ret
        exact ⟨_, rfl, by rw [e.out]; exact decide_eq_true i0, B2.out⟩
      | false =>
        have HM3 := Lib.hid (HM2.out rfl)
        go_wp2_with fail
        go_roundw
        case rel => exact ⟨i + 1, by omega, by go_num, HM3, B2⟩
        case measure => simp [intOf]; omega
    · obtain rfl : i = n := by omega
      have e := Lib.hid (AN.out HM.out)
      go_wp2_with fail
      go_ret
      exact ⟨_, rfl, by rw [e.out]; rfl, HB.out⟩
set_option maxRecDepth 100000 in
set_option maxHeartbeats 4000000 in
/-- behind -/
theorem xBehindR (ws : List Wr) (A : Option Addr) (c : Nat) (q : Int) (hw : SlWr w A ws) (hl : ws.length ≤ 1000) (h : Side w0 N w (s.os b ++ os2)) (a : s.AtF L P) (hq : 0 ≤ q) :
    Calls Try.prog 23 #[PtrM b, .slice A ws.length c, .int .i64 q] w fun e w' => e = .returned (.bool (ws.any (fun x => since L x.key q))) ∧ Below w.heap.size w w' := by
  obtain ⟨X, hX⟩ : ∃ X, X = w.heap.size := ⟨_, rfl⟩
  obtain ⟨w2, hw2⟩ : ∃ w2, w2 = (w.alloc (.cells #[PtrM b] 27)).alloc (.cells #[.int .i64 q] 3) := ⟨_, rfl⟩
  have r1 : RowAt w2 X [PtrM b] 27 := by rw [hw2, hX]; exact (RowAt.new w [PtrM b] _).alloc _
  have r2 : RowAt w2 (X + 1) [.int .i64 q] 3 := by
    have := RowAt.new (w.alloc (.cells #[PtrM b] 27)) [.int .i64 q] 3
    rw [World.size_alloc, ← hX] at this
    rw [hw2]; exact this
  have hb : Below w.heap.size w w2 := by rw [hw2]; exact ((Below.refl _ _).alloc (Nat.le_refl _) _).alloc (by simp) _
  have KI := Lib.hid (xIndexFuncR (b3 := X) (b5 := X + 1) ws A c (hw.below hb) hl (h.below hb) a hq (r1.cell 0) (r2.cell 0))
  obtain ⟨T, hT⟩ : ∃ T, T = ws.any (fun x => since L x.key q) := ⟨_, rfl⟩
  rw [← hT] at KI ⊢
  obtain ⟨n, hn⟩ : ∃ n, n = ws.length := ⟨_, rfl⟩
  rw [← hn] at KI ⊢
  have HW2 := Lib.hid hw2
  have HX := Lib.hid hX
  have HB := Lib.hid hb
  have CC := Lib.hid (show Calls Try.prog 51 #[.slice A n c, .func (.func 52) #[] #[.pointer (some ⟨X, 0, none⟩), .pointer (some ⟨X + 1, 0, none⟩)]] w2 fun e w' => e = .returned (.bool T) ∧ Below w2.heap.size w2 w' from by
    clear h a hq hw hl hX hw2 r1 r2 hb hT hn
    go_enter Try.func51, Try.ntmps51
    go_wp2_with fail
    refine KI.out.mono ?_
    rintro e w3 ⟨z, rfl, hz, hb3⟩
    have HZ := Lib.hid hz
    have B3 := Lib.hid hb3
    clear hz hb3
    go_wp2_with fail
    go_ret
    exact ⟨by rw [← HZ.out]; rfl, B3.out⟩)
  clear h a hq hw hl hX hw2 r1 r2 hb hT hn KI
  go_enter Try.func23, Try.ntmps23
  go_wp2_with fail
  rw [← HW2.out, ← HX.out]
  refine CC.out.mono ?_
  rintro e w3 ⟨rfl, hb3⟩
  have B3 := Lib.hid (below_then HB.out hb3)
  clear hb3
  go_wp2_with fail
  go_ret
  exact ⟨rfl, B3.out⟩
end

end Go.Proofs.Ytbfgpdgiaclphaa

namespace Go.Proofs.Ytbfgpdgiaclphaa
open Go.RowKit

section
variable {w0 w : World} {N : Nat → Prop} {b : Nat} {s : Sh} {L : Ch} {P : Nat} {os2 : List Ob}
set_option maxRecDepth 100000 in
set_option maxHeartbeats 4000000 in
/-- Check -/
theorem xCheckR (h : Side w0 N w (s.os b ++ os2)) (a : s.At L P) (ws : List Wr) (A : Option Addr) (c : Nat) (q : Int) (hw : SlWr w A ws) (hf : FitsW ws) (ht : ∀ x, x ∈ ws → x.val.txt.size ≤ 1000) (hl : ws.length ≤ 1000)
    (hG : mayW ws = true → (s.r.seq : Int) < s.g3 → ∀ i, i ≤ ws.length → GoodC (L.withW (ws.take i) ((s.r.seq : Int) + 1)) ∧ (L.withW (ws.take i) ((s.r.seq : Int) + 1)).length ≤ 10000) :
    Calls Try.prog 11 #[PtrM b, .slice A ws.length c, .int .i64 q] w fun e w' => e = .returned (.int .i64 (chkE s.r L ws q s.g2 s.g3)) ∧ Below w.heap.size w w' := by
  have MY := Lib.hid (fun W (hb : Below w.heap.size w W) => xMayR ws A c W (hw.below hb) hf)
  have FL := Lib.hid (fun W (hb : Below w.heap.size w W) => xFloorR (h.below hb))
  have SQ := Lib.hid (fun W (hb : Below w.heap.size w W) => xSeqR (h.below hb))
  have BH := Lib.hid (fun (hq : 0 ≤ q) W (hb : Below w.heap.size w W) => xBehindR ws A c q (hw.below hb) hl (h.below hb) a.f hq)
  have FT := Lib.hid (fun (hm : mayW ws = true) W (hb : Below w.heap.size w W) => xFitsR (h.below hb) a ws A c (hw.below hb) hf ht hm (hG hm))
  obtain ⟨n, hn⟩ : ∃ n, n = ws.length := ⟨_, rfl⟩
  obtain ⟨M, hM⟩ : ∃ n, n = mayW ws := ⟨_, rfl⟩
  obtain ⟨f, hfl⟩ : ∃ n, n = s.r.floor := ⟨_, rfl⟩
  obtain ⟨y, hy⟩ : ∃ n, n = s.r.seq := ⟨_, rfl⟩
  obtain ⟨S, hS⟩ : ∃ n, n = ws.any (fun x => since L x.key q) := ⟨_, rfl⟩
  obtain ⟨Z, hZ⟩ : ∃ n, n = spcE s.r L ws s.g2 s.g3 := ⟨_, rfl⟩
  obtain ⟨T, hT⟩ : ∃ n, n = chkE s.r L ws q s.g2 s.g3 := ⟨_, rfl⟩
  have ET := Lib.hid (show T = if M = false then 1 else if q < (f : Int) ∨ (y : Int) < q then 14 else if S = true then 13 else Z from by rw [hT, hM, hfl, hy, hS, hZ]; rfl)
  rw [← hT]
  simp only [← hn, ← hM] at MY
  simp only [← hfl] at FL
  simp only [← hy] at SQ
  simp only [← hn, ← hS] at BH
  simp only [← hn, ← hZ, ← hM] at FT
  rw [← hn]
  clear h a hw hf ht hl hG hn hM hfl hy hS hZ hT
  go_enter Try.func11, Try.ntmps11
  go_wp2_with fail
  refine (MY.out _ (Below.refl _ _)).mono ?_
  rintro e w1 ⟨rfl, hb1⟩
  have B1 := Lib.hid hb1
  clear hb1
  cases M with
  | false =>
    have e : T = 1 := ET.out
    subst e
    go_wp2_with fail
    go_ret
    exact ⟨rfl, B1.out⟩
  | true =>
    go_wp2_with fail
    refine (FL.out _ B1.out).mono ?_
    rintro e w2 ⟨rfl, hb2⟩
    have B2 := Lib.hid (below_then B1.out hb2)
    clear hb2
    by_cases z1 : q < (f : Int)
    · have e : T = 14 := by rw [ET.out, if_neg (by decide), if_pos (.inl z1)]
      subst e
      go_wp2_with fail
      go_ret
      exact ⟨rfl, B2.out⟩
    · go_wp2_with fail
      refine (SQ.out _ B2.out).mono ?_
      rintro e w3 ⟨rfl, hb3⟩
      have B3 := Lib.hid (below_then B2.out hb3)
      clear hb3
      by_cases z2 : (y : Int) < q
      · have e : T = 14 := by rw [ET.out, if_neg (by decide), if_pos (.inr z2)]
        subst e
        go_wp2_with fail
        go_ret
        exact ⟨rfl, B3.out⟩
      · have E := Lib.hid (show T = if S = true then 13 else Z from by rw [ET.out, if_neg (by decide), if_neg (by rintro (z | z) <;> omega)])
        have BH' := Lib.hid (BH.out (by omega) _ B3.out)
        go_wp2_with fail
        refine BH'.out.mono ?_
        rintro e w4 ⟨rfl, hb4⟩
        have B4 := Lib.hid (below_then B3.out hb4)
        clear hb4
        cases S with
        | true =>
          have e : T = 13 := E.out
          subst e
          go_wp2_with fail
          go_ret
          exact ⟨rfl, B4.out⟩
        | false =>
          have e : T = Z := E.out
          subst e
          have FT' := Lib.hid (FT.out (by simp) _ B4.out)
          go_wp2_with fail
          refine FT'.out.mono ?_
          rintro e w5 ⟨rfl, hb5⟩
          have B5 := Lib.hid (below_then B4.out hb5)
          clear hb5
          go_wp2_with fail
          go_ret
          exact ⟨rfl, B5.out⟩
theorem SlWr.side {W : World} {A : Option Addr} {ws : List Wr} {os : List Ob} (hw : SlWr w0 A ws) (hA : 0 < ws.length → ∀ a, A = some a → N a.block) (h : Side w0 N W os) : SlWr W A ws := fun hp => by
  obtain ⟨g, o, rfl, hlt, hc⟩ := hw hp
  have hN := hA hp _ rfl
  have e : ∀ j, W.cell? ⟨g, j, none⟩ = w0.cell? ⟨g, j, none⟩ := fun j => World.cell?_of_block (h.chg.block g hlt fun z => z hN)
  refine ⟨g, o, rfl, Nat.lt_of_lt_of_le hlt h.size, fun j hj => ?_⟩
  rw [e, e, e, e, e]
  exact hc j hj
/-- the ring turned -/
def Sh.ringTo (s : Sh) (r : Rg) : Sh := { s with r := r }
theorem Sh.At.ring (a : s.At L P) (r : Rg) : (s.ringTo r).At L P := ⟨⟨a.f.fine, a.f.t0, a.f.n1, a.f.n2, a.f.n3, a.f.n4, a.f.good, a.f.right, a.f.n5⟩, a.x1, a.x2, a.x3⟩
theorem xPushR (x : Int) (h : Side w0 N w (s.os b)) : Calls Try.prog 15 #[PtrR s.q, .int .u64 x] w fun e w' => e = .returned (.tuple #[.int .i64 (s.r.told x : Nat), .int .i64 (s.r.no x)]) ∧ Side w0 N w' ((s.ringTo (s.r.push x)).os b) :=
  h.call (i := 6) (o := oRing s.q s.r) (o' := oRing s.q (s.r.push x)) rfl fun F ⟨v, e, hp, ok⟩ _ => (xPush0 s.q v s.r x w hp ok).mono fun e w' ⟨h1, v', h2, h3⟩ => ⟨h1, by rw [‹F = _›]; exact h3.1, rfoot s.q v', ⟨v', rfl, h2, Rg.push_ok ok x⟩, by rw [‹F = _›]; exact h3.2⟩
theorem Sh.Hd.trans {a b c : Sh} (h : Sh.Hd a b) (k : Sh.Hd b c) : Sh.Hd a c := ⟨k.1.trans h.1, k.2.1.trans h.2.1, k.2.2.1.trans h.2.2.1, k.2.2.2.1.trans h.2.2.2.1, k.2.2.2.2.1.trans h.2.2.2.2.1, k.2.2.2.2.2.1.trans h.2.2.2.2.2.1, k.2.2.2.2.2.2.trans h.2.2.2.2.2.2⟩
/-- what adding one write of a commit asks -/
theorem add_asks {L : Ch} {q : Int} {ws : List Wr} {K : Nat} (o : OkL L q) (hb : Bnd L K 500) (hq0 : 0 ≤ q) (hq : q + 1 ≤ 1073741824) (hm : mayW ws = true) (hf : FitsW ws) {i : Nat} (hi : i < ws.length) :
    GoodL ((L.withW (ws.take i) (q + 1)).of (ws.getD i Wr.Z).key ++ [(ws.getD i Wr.Z).ver (q + 1)]) ∧ rightL ((L.withW (ws.take i) (q + 1)).of (ws.getD i Wr.Z).key ++ [(ws.getD i Wr.Z).ver (q + 1)]) = true ∧ (ws.getD i Wr.Z).key.size ≤ 32 ∧ (L.withW (ws.take i) (q + 1)).length ≤ K + i := by
  obtain ⟨o1, _, b1⟩ := withW_keeps o hb hq0 hq hm hf i (by omega)
  obtain ⟨o2, _, b2⟩ := withW_keeps o hb hq0 hq hm hf (i + 1) (by omega)
  rw [withW_succ L ws (q + 1) hi] at o2 b2
  have e : ((L.withW (ws.take i) (q + 1)).put (ws.getD i Wr.Z).key ((ws.getD i Wr.Z).ver (q + 1))).of (ws.getD i Wr.Z).key = (L.withW (ws.take i) (q + 1)).of (ws.getD i Wr.Z).key ++ [(ws.getD i Wr.Z).ver (q + 1)] := by
    rw [Ch.of_put o1.rise, if_pos rfl]
  have r := o2.of_right (ws.getD i Wr.Z).key
  have f := o2.of_fits (ws.getD i Wr.Z).key
  have n := b2.2 (ws.getD i Wr.Z).key
  rw [e] at r f n
  exact ⟨⟨f, fun y hy => by have := Val.ok_txt (right_ok r hy); omega, by omega⟩, r, (wrOk_parts (mayW_at hm hi)).2, b1.1⟩
set_option maxRecDepth 100000 in
set_option maxHeartbeats 4000000 in
/-- Commit -/
theorem xCommitR (h : Side w0 N w (s.os b)) (a : s.At L P) (ws : List Wr) (A : Option Addr) (c : Nat) (x : Int) (hw : SlWr w0 A ws) (hA : 0 < ws.length → ∀ a, A = some a → N a.block) (hf : FitsW ws) (ht : ∀ x, x ∈ ws → x.val.txt.size ≤ 1000)
    (o : OkL L s.r.seq) (hb : Bnd L 3900 500) (hq : s.g3 ≤ 1073741824) (hP : P + 16 ≤ 13200) :
    Calls Try.prog 7 #[PtrM b, .slice A ws.length c, .int .u64 x] w fun e w' => e = .returned (.tuple #[.int .i64 (comN s.r L ws x s.g2 s.g3), .int .i64 (comE s.r L ws x s.g2 s.g3)]) ∧
      ∃ s', Side w0 N w' (s'.os b) ∧ Sh.Hd (s.ringTo (comR s.r L ws x s.g2 s.g3)) s' ∧ s'.At (comL s.r L ws x s.g2 s.g3) (P + (if comE s.r L ws x s.g2 s.g3 = 0 then 16 else 0)) := by
  have h0 : Side w0 N w (s.os b ++ []) := by rw [List.append_nil]; exact h
  have hG : mayW ws = true → (s.r.seq : Int) < s.g3 → ∀ i, i ≤ ws.length → GoodC (L.withW (ws.take i) ((s.r.seq : Int) + 1)) ∧ (L.withW (ws.take i) ((s.r.seq : Int) + 1)).length ≤ 10000 := fun hm hs => o.goods hb (by omega) (by omega) hm hf (by decide) (by decide)
  have MY := Lib.hid (fun W (hW : Side w0 N W (s.os b)) => xMayR ws A c W (hw.side hA hW) hf)
  have FT := Lib.hid (fun (hm : mayW ws = true) W (hW : Side w0 N W (s.os b)) => xFitsR (os2 := []) (by rw [List.append_nil]; exact hW) a ws A c (hw.side hA hW) hf ht hm (hG hm))
  have PU := Lib.hid (fun W (hW : Side w0 N W (s.os b)) => xPushR x hW)
  have HA := Lib.hid a
  have HH := Lib.hid h
  obtain ⟨Z, hZ⟩ : ∃ n, n = spcE s.r L ws s.g2 s.g3 := ⟨_, rfl⟩
  obtain ⟨M, hM⟩ : ∃ n, n = mayW ws := ⟨_, rfl⟩
  obtain ⟨n, hn⟩ : ∃ n, n = ws.length := ⟨_, rfl⟩
  have NOP := Lib.hid (fun (hc : comE s.r L ws x s.g2 s.g3 ≠ 0) W (hW : Side w0 N W (s.os b)) => show ∃ s', Side w0 N W (s'.os b) ∧ Sh.Hd (s.ringTo (comR s.r L ws x s.g2 s.g3)) s' ∧ s'.At (comL s.r L ws x s.g2 s.g3) (P + (if comE s.r L ws x s.g2 s.g3 = 0 then 16 else 0)) from by
    have e1 : comR s.r L ws x s.g2 s.g3 = s.r := by unfold comR; rw [if_neg hc]
    have e2 : comL s.r L ws x s.g2 s.g3 = L := by unfold comL; rw [if_neg hc]
    rw [e1, e2, if_neg hc]
    exact ⟨s, hW, ⟨rfl, rfl, rfl, rfl, rfl, rfl, rfl⟩, HA.out⟩)
  have EC := Lib.hid (show comE s.r L ws x s.g2 s.g3 = if M = false then 1 else if Z ≠ 0 then Z else s.r.no x from by rw [hM, hZ]; rfl)
  have EN := Lib.hid (show comN s.r L ws x s.g2 s.g3 = if comE s.r L ws x s.g2 s.g3 = 0 then (s.r.seq : Int) + 1 else 0 from rfl)
  have ER := Lib.hid (fun (hc : comE s.r L ws x s.g2 s.g3 = 0) => show comR s.r L ws x s.g2 s.g3 = s.r.push x ∧ comL s.r L ws x s.g2 s.g3 = L.withW ws ((s.r.seq : Int) + 1) from ⟨by unfold comR; rw [if_pos hc], by unfold comL; rw [if_pos hc]⟩)
  have ZS := Lib.hid (fun (hz : Z = 0) => show (s.r.seq : Int) < s.g3 from by
    rw [hZ] at hz
    unfold spcE at hz
    by_cases q : s.g3 ≤ (s.r.seq : Int)
    · rw [if_pos q] at hz; cases hz
    · omega)
  obtain ⟨y, hy⟩ : ∃ y : Nat, y = s.r.seq := ⟨_, rfl⟩
  have AK := Lib.hid (fun (hm : M = true) (hs : (y : Int) < s.g3) i (hi : i < n) => add_asks (q := (y : Int)) (by rw [hy]; exact o) hb (by omega) (by omega) (by rw [← hM]; exact hm) hf (i := i) (by rw [← hn]; exact hi))
  have n16 := Lib.hid (fun (hm : M = true) => show n ≤ 16 from by rw [hn]; exact mayW_size (by rw [← hM]; exact hm))
  have WI := Lib.hid (fun i (hi : i < n) => withW_succ L ws ((y : Int) + 1) (i := i) (by rw [← hn]; exact hi))
  have WN := Lib.hid (show L.withW (ws.take n) ((y : Int) + 1) = L.withW ws ((y : Int) + 1) from by rw [hn, List.take_length])
  have WS := Lib.hid (fun W os (hW : Side w0 N W os) => show SlWr W A ws from hw.side hA hW)
  have PN := Lib.hid (fun (ho : s.r.no x ≠ 0) => show s.ringTo (s.r.push x) = s from by unfold Rg.push; rw [if_neg ho]; rfl)
  have TO := Lib.hid (show s.r.told x = if s.r.no x = 0 then y + 1 else 0 from by rw [hy]; rfl)
  simp only [← hy] at EN ER ZS
  simp only [← hn, ← hM] at MY
  simp only [← hn, ← hZ, ← hM] at FT
  obtain ⟨E, hE⟩ : ∃ n, n = comE s.r L ws x s.g2 s.g3 := ⟨_, rfl⟩
  obtain ⟨CN, hCN⟩ : ∃ n, n = comN s.r L ws x s.g2 s.g3 := ⟨_, rfl⟩
  obtain ⟨O, hO⟩ : ∃ n, n = s.r.no x := ⟨_, rfl⟩
  obtain ⟨TT, hTT⟩ : ∃ n, n = s.r.told x := ⟨_, rfl⟩
  simp only [← hE] at NOP EC EN ER
  simp only [← hCN] at EN
  simp only [← hO] at EC TO PU PN
  simp only [← hTT] at TO PU
  rw [← hn, ← hE, ← hCN]
  have HP := Lib.hid hP
  have HN := Lib.hid hn
  have HQ := Lib.hid (show ∀ W, Side w0 N W (s.os b) → W.cell? ⟨b, 4, none⟩ = some (.pointer (some ⟨s.q, 0, none⟩)) from fun W hW => (Sh.cells (os2 := []) (by rw [List.append_nil]; exact hW)).2.2.2.2.1)
  clear h0 h a hw hA hf ht o hb hq hP hG hZ hM hn hE hCN hO hTT
  have hy' := Lib.hid hy
  clear hy
  go_enter Try.func7, Try.ntmps7
  go_wp2_with fail
  refine (MY.out _ HH.out).mono ?_
  rintro e w1 ⟨rfl, hb1⟩
  have H1 := Lib.hid (HH.out.below hb1)
  clear hb1
  cases M with
  | false =>
    have e : E = 1 := EC.out
    subst e
    have ec : CN = 0 := EN.out
    subst ec
    go_wp2_with fail
    go_ret2
    exact ⟨rfl, NOP.out (by decide) _ H1.out⟩
  | true =>
    have FT' := Lib.hid (FT.out (by simp) _ H1.out)
    go_wp2_with fail
    refine FT'.out.mono ?_
    rintro e w2 ⟨rfl, hb2⟩
    have H2 := Lib.hid (H1.out.below hb2)
    clear hb2
    by_cases z0 : Z = 0
    · have HZ := Lib.hid z0
      have ZS' := Lib.hid (ZS.out z0)
      subst z0
      have c4 := HQ.out _ H2.out
      go_wp2_with fail
      refine (PU.out _ H2.out).mono ?_
      rintro e w3 ⟨rfl, h3⟩
      have H3 := Lib.hid h3
      clear h3 c4
      by_cases z1 : O = 0
      · subst z1
        have e : E = 0 := by rw [EC.out]; rfl
        subst e
        have ec : CN = (y : Int) + 1 := by rw [EN.out]; rfl
        have et : TT = y + 1 := by rw [TO.out]; rfl
        obtain ⟨q', hq'⟩ : ∃ q' : Int, q' = (y : Int) + 1 := ⟨_, rfl⟩
        have et2 : ((TT : Nat) : Int) = q' := by rw [hq', et]; rfl
        rw [← hq'] at ec
        obtain ⟨er, el⟩ := ER.out rfl
        simp only [← hq'] at el WI WN AK
        have ERL := Lib.hid (And.intro er el)
        have A3 := Lib.hid (HA.out.ring (s.r.push x))
        have AK' := Lib.hid (AK.out (by simp) ZS'.out)
        have N16 := n16.out (by simp)
        subst ec
        clear er el hq' et AK n16 ZS ER
        go_wp2_with fail
        clear et2
        go_loopw [38] (fun vi wr => ∃ (i : Nat) (si : Sh), i ≤ n ∧ vi = .int .i64 i ∧ Hid (Side w0 N wr (si.os b)) ∧ Hid (Sh.Hd (s.ringTo (s.r.push x)) si) ∧ Hid (si.At (L.withW (ws.take i) CN) (P + i))) (fun vi _ => n - (intOf vi).toNat)
        case atStart => exact ⟨0, s.ringTo (s.r.push x), Nat.zero_le _, rfl, H3, Lib.hid ⟨rfl, rfl, rfl, rfl, rfl, rfl, rfl⟩, A3⟩
        case round =>
          obtain ⟨i, si, hi, rfl, HS, HD, HAi⟩ := hrel
          by_cases z : i < n
          · obtain ⟨bb, o, ea, hb, c0, c1, c2, c3, c4⟩ := (WS.out _ _ HS.out).at (j := i) (by rw [← HN.out]; exact z)
            obtain ⟨k1, k2, k3, k4⟩ := AK'.out i z
            have wi := WI.out i z
            obtain ⟨y0, hy0⟩ : ∃ x, x = ws.getD i Wr.Z := ⟨_, rfl⟩
            rw [← hy0] at c0 c1 c2 c3 c4 k1 k2 k3 wi
            have KA := Lib.hid (fun W (hW : Side w0 N W (si.os b)) => (xAddR (k := y0.key) (y0.ver CN) hW HAi.out (by have := HP.out; omega) (by omega) k1 k2 (by omega)).mono (R' := fun e w' => e = .returned (.tuple #[]) ∧ ∃ s', Side w0 N w' (s'.os b) ∧ Sh.Hd (s.ringTo (s.r.push x)) s' ∧ s'.At (L.withW (ws.take (i + 1)) CN) (P + (i + 1))) fun e w' ⟨q1, s', q2, q3, q4⟩ => ⟨q1, s', q2, HD.out.trans q3, by rw [wi]; exact q4⟩)
            obtain ⟨k, g, v⟩ := y0
            obtain ⟨nm, t, bt⟩ := v
            have KA : Hid (∀ W, Side w0 N W (si.os b) → Calls Try.prog 16 #[PtrS b, .string k, .agg #[.int .i64 CN, .bool g, .bool nm, .string t, .int .u64 (bt : Int)]] W fun e w' => e = .returned (.tuple #[]) ∧ ∃ s', Side w0 N w' (s'.os b) ∧ Sh.Hd (s.ringTo (s.r.push x)) s' ∧ s'.At (L.withW (ws.take (i + 1)) CN) (P + (i + 1))) := KA
            subst ea
            have i0 : (0 : Int) ≤ (i : Int) := by omega
            have i1 : (i : Int) < (n : Int) := by omega
            have c0 : wr.cell? ⟨bb, o + i * 5, none⟩ = some (.string k) := c0
            have c1 : wr.cell? ⟨bb, o + i * 5 + 1, none⟩ = some (.bool g) := c1
            have c2 : wr.cell? ⟨bb, o + i * 5 + 2, none⟩ = some (.bool nm) := c2
            have c3 : wr.cell? ⟨bb, o + i * 5 + 3, none⟩ = some (.string t) := c3
            have c4 : wr.cell? ⟨bb, o + i * 5 + 4, none⟩ = some (.int .u64 (bt : Int)) := c4
            obtain ⟨X, hX⟩ : ∃ X, X = wr.heap.size := ⟨_, rfl⟩
            obtain ⟨r1, hr1⟩ : ∃ r, r = wr.alloc (.cells #[.string k, .bool g, .bool nm, .string t, .int .u64 (bt : Int)] 45) := ⟨_, rfl⟩
            have R1 := Lib.hid (show RowAt r1 X [.string k, .bool g, .bool nm, .string t, .int .u64 (bt : Int)] 45 from by rw [hr1, hX]; exact RowAt.new wr _ _)
            have S1 := Lib.hid (show Side w0 N r1.drew (si.os b) from by rw [hr1]; exact (HS.out.below ((Below.refl _ _).alloc (Nat.le_refl _) _)).below (Below.refl _ _).drew)
            have HR1 := Lib.hid hr1
            have HX := Lib.hid hX
            have KA1 := Lib.hid (KA.out _ S1.out)
            clear hy0 hb k1 k2 k3 k4 wi hr1 hX KA
            go_wp2_with fail
            rw [← HR1.out, ← HX.out]
            clear c0 c1 c2 c3 c4
            obtain ⟨c0, c1, c2, c3, c4⟩ := row5 (w := r1.drew) R1.out
            go_still_tail 11, (by kernel_rfl)
            change wpList _ _ _ _ _ r1.drew
            go_wp2_with fail
            refine KA1.out.mono ?_
            rintro e w5 ⟨rfl, s5, h5, d5, a5⟩
            have H5 := Lib.hid h5
            have D5 := Lib.hid d5
            have A5 := Lib.hid a5
            clear h5 d5 a5 c0 c1 c2 c3 c4
            go_wp2_with fail
            go_roundw
            case rel => exact ⟨i + 1, s5, by omega, by go_num, H5, D5, A5⟩
            case measure => simp [intOf]; omega
          · obtain rfl : i = n := by omega
            have a5 := HAi.out
            rw [WN.out] at a5
            have A5 := Lib.hid (a5.more (P' := P + 16) (by omega) HP.out)
            clear a5
            go_wp2_with fail
            go_ret2
            refine ⟨rfl, si, HS.out, ?_, ?_⟩
            · rw [ERL.out.1]; exact HD.out
            · rw [ERL.out.2]; exact A5.out
      · have e : E = O := by rw [EC.out]; simp
        subst e
        have ec : CN = 0 := by rw [EN.out, if_neg z1]
        have h3 := H3.out
        rw [PN.out z1] at h3
        have np := NOP.out z1 _ h3
        rw [if_neg z1] at np
        have NP := Lib.hid np
        clear np
        subst ec
        clear h3
        go_wp2_with fail
        go_ret2
        exact ⟨rfl, NP.out⟩
    · have e : E = Z := by rw [EC.out, if_neg (by decide), if_pos z0]
      subst e
      have ec : CN = 0 := by rw [EN.out, if_neg z0]
      subst ec
      go_wp2_with fail
      go_ret2
      have np := NOP.out z0 _ H2.out
      rw [if_neg z0] at np
      exact ⟨rfl, np⟩
end

end Go.Proofs.Ytbfgpdgiaclphaa

namespace Go.Proofs.Ytbfgpdgiaclphaa
open Go.RowKit

set_option maxRecDepth 100000 in
set_option maxHeartbeats 4000000 in
/-- Right -/
theorem xRightR (A : Option Addr) (c : Nat) (zs : List Int) (g1 g2 g3 : Int) (w : World) (h : Sl w A zs) (hm : zs.length ≤ maxLen) :
    Calls Try.prog 25 #[.agg #[.slice A zs.length c, .int .i64 g1, .int .i64 g2, .int .i64 g3]] w fun e w' => e = .returned (.bool (stOk zs g1 g2 g3)) ∧ Below w.heap.size w w' := by
  have b0 : Below w.heap.size w (w.alloc (.cells #[.slice A zs.length c, .int .i64 g1, .int .i64 g2, .int .i64 g3] 24)) := (Below.refl _ _).alloc (Nat.le_refl _) _
  have CR := Lib.hid (lright A c zs _ (h.below b0) hm)
  have B0 := Lib.hid b0
  obtain ⟨n, hn⟩ : ∃ n, n = zs.length := ⟨_, rfl⟩
  obtain ⟨R, hR⟩ : ∃ R, R = La.right zs := ⟨_, rfl⟩
  obtain ⟨T, hT⟩ : ∃ T, T = stOk zs g1 g2 g3 := ⟨_, rfl⟩
  have eT : T = (R && (decide (1 ≤ g1) && (decide (g1 ≤ 16) && (decide (0 ≤ g2) && (decide (g2 ≤ 1048576) && (decide (1 ≤ g3) && decide (g3 ≤ 1073741824))))))) := by rw [hT, hR]; rfl
  rw [← hT]
  rw [← hR, ← hn] at CR
  rw [← hn] at B0 ⊢
  have ET := Lib.hid eT
  clear h hm hn hR hT eT b0
  go_enter Try.func25, Try.ntmps25
  go_wp2_with fail
  refine CR.out.mono ?_
  rintro e w1 ⟨rfl, rfl⟩
  have B1 := B0
  clear CR
  cases R with
  | false =>
    have e := Lib.hid (show T = false from ET.out)
    go_wp2_with fail
    go_ret
    exact ⟨by rw [e.out]; rfl, B1.out⟩
  | true =>
  by_cases p1 : (1 : Int) ≤ g1
  case neg =>
    have d1 : decide ((1 : Int) ≤ g1) = false := decide_eq_false p1
    have e := Lib.hid (show T = false by rw [ET.out, d1]; simp)
    clear p1
    go_wp2_with fail
    go_ret
    exact ⟨by rw [e.out]; rfl, B1.out⟩
  have d1 : decide ((1 : Int) ≤ g1) = true := decide_eq_true p1
  by_cases p2 : g1 ≤ (16 : Int)
  case neg =>
    have d2 : decide (g1 ≤ (16 : Int)) = false := decide_eq_false p2
    have e := Lib.hid (show T = false by rw [ET.out, d2]; simp)
    clear p1 p2
    go_wp2_with fail
    go_ret
    exact ⟨by rw [e.out]; rfl, B1.out⟩
  have d2 : decide (g1 ≤ (16 : Int)) = true := decide_eq_true p2
  by_cases p3 : (0 : Int) ≤ g2
  case neg =>
    have d3 : decide ((0 : Int) ≤ g2) = false := decide_eq_false p3
    have e := Lib.hid (show T = false by rw [ET.out, d3]; simp)
    clear p1 p2 p3
    go_wp2_with fail
    go_ret
    exact ⟨by rw [e.out]; rfl, B1.out⟩
  have d3 : decide ((0 : Int) ≤ g2) = true := decide_eq_true p3
  by_cases p4 : g2 ≤ (1048576 : Int)
  case neg =>
    have d4 : decide (g2 ≤ (1048576 : Int)) = false := decide_eq_false p4
    have e := Lib.hid (show T = false by rw [ET.out, d4]; simp)
    clear p1 p2 p3 p4
    go_wp2_with fail
    go_ret
    exact ⟨by rw [e.out]; rfl, B1.out⟩
  have d4 : decide (g2 ≤ (1048576 : Int)) = true := decide_eq_true p4
  by_cases p5 : (1 : Int) ≤ g3
  case neg =>
    have d5 : decide ((1 : Int) ≤ g3) = false := decide_eq_false p5
    have e := Lib.hid (show T = false by rw [ET.out, d5]; simp)
    clear p1 p2 p3 p4 p5
    go_wp2_with fail
    go_ret
    exact ⟨by rw [e.out]; rfl, B1.out⟩
  have d5 : decide ((1 : Int) ≤ g3) = true := decide_eq_true p5
  clear p1 p2 p3 p4 p5
  cases d6 : decide (g3 ≤ (1073741824 : Int)) with
  | false =>
    have e := Lib.hid (show T = false by rw [ET.out, d6]; simp)
    go_wp2_with fail
    go_ret
    exact ⟨by rw [e.out]; rfl, B1.out⟩
  | true =>
    have e := Lib.hid (show T = true by rw [ET.out, d1, d2, d3, d4, d5, d6]; rfl)
    go_wp2_with fail
    go_ret
    exact ⟨by rw [e.out]; rfl, B1.out⟩

set_option maxHeartbeats 4000000 in
set_option maxRecDepth 100000 in
/-- slices.Clone of a label -/
theorem scloneA (A : Option Addr) (c : Nat) (zs : List Int) (w : World) (h : Sl w A zs) (hl : zs.length ≤ 1024) :
    Calls Try.prog 28 #[.slice A zs.length c] w fun e w' => ∃ v, e = .returned v ∧ Own w' w.heap.size v zs ∧ Below w.heap.size w w' := by
  have RUN := fun w' : World => Lib.run_eql_slice_nil (P := Try.prog) w' 22 31 A zs.length c 0 0 Try.underlying22
  cases A with
  | none =>
    have e : zs = [] := by
      cases zs with
      | nil => rfl
      | cons z l => obtain ⟨_, _, e, _⟩ := h (by simp); cases e
    subst e
    simp only [Option.isNone_none, List.length_nil] at RUN
    have HO := Lib.hid (show Own w w.heap.size (.slice none 0 0) [] from ⟨by simp, .inl ⟨rfl, rfl⟩⟩)
    clear h hl
    go_enter Try.func28, Try.ntmps28
    go_wp2_with fail
    go_ret
    exact ⟨_, rfl, HO.out, Below.refl _ _⟩
  | some a =>
    have HA := Lib.hid h
    have OM := Lib.hid (Own.made w w.heap.size (Nat.le_refl _) [] (by simp))
    have BM := Lib.hid ((Below.refl w.heap.size w).alloc (Nat.le_refl _) (.cells (([] : List Int).map (Value.int .u64)).toArray 31))
    simp only [Option.isNone_some] at RUN
    clear h
    go_enter Try.func28, Try.ntmps28
    go_wp2_with (at_builtin; refine wp_putN rfl (.tmp 5) (.tmp 6) rfl w.heap.size _ [] rfl OM.out (some a) c zs rfl (HA.out.alloc _) (fun e => by cases e) (by simp; omega) (by simp) ?_; intro v2 w2 hown2 hb2; have HO2 := Lib.hid hown2; have HB2 := Lib.hid (BM.out.trans hb2); clear hown2 hb2)
    go_ret
    exact ⟨v2, rfl, by simpa using HO2.out, HB2.out⟩

end Go.Proofs.Ytbfgpdgiaclphaa
