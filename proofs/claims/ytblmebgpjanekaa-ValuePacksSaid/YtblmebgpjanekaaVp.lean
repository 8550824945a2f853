/- ValuePacks: for every value the law returns true, and its argument reads behind the call as it read before. -/
import Derived.Test.YtblmebgpjanekaaVo
import Derived.Test.YtblmebgpjanekaaVw
import Derived.Test.YtblmebgpjanekaaVu
import Derived.Deep.RegionHeld3
import Derived.ChangeMaps5
namespace Go.Proofs.Ytblmebgpjanekaa.valuePacks
open Go.Proofs.Ytblmebgpjanekaa Go.ChangeShapes Go.WideShapes Go.ChangeAt Go.RowKit
open Go.ChangeMaps (open_string shut_string)

set_option maxRecDepth 100000 in
set_option maxHeartbeats 2000000 in
theorem walk (hv : ValueAt) (x : Val) (w : World) (hf : x.Fits) :
    Calls Try.prog 3 #[x.v] w fun e w' => e = .returned (.bool true) ∧ Below w.heap.size w w' := by
  have hm := hf.2
  unfold maxLen at hm
  have AW := Lib.hid (awake4 hv)
  have B0 := Lib.hid ((Below.refl w.heap.size w).alloc (Nat.le_refl _) (.cells #[.bool x.num, .string x.txt, .int .u64 (x.bits : Int)] 24))
  have X0 := Lib.hid (BoxV.new w x.num x.txt x.bits 24)
  have HF := Lib.hid hf
  have HV := Lib.hid hv
  obtain ⟨n, hn⟩ : ∃ n, n = x.num := ⟨_, rfl⟩
  obtain ⟨t, ht⟩ : ∃ t, t = x.txt := ⟨_, rfl⟩
  obtain ⟨b, hb⟩ : ∃ b, b = x.bits := ⟨_, rfl⟩
  have hxv : x.v = .agg #[.bool n, .string t, .int .u64 (b : Int)] := by rw [hn, ht, hb]; rfl
  have HXV := Lib.hid hxv
  rw [← hn, ← ht, ← hb] at B0 X0
  rw [← ht] at hm
  rw [hxv]
  have HT := Lib.hid ht
  have HB := Lib.hid hb
  clear hf hv hn ht hb hxv
  by_cases h300 : 300 < t.size
  · go_enter Try.func3, Try.ntmps3
    go_wp2_with fail
    refine (AW.out _).mono ?_
    rintro e w1 ⟨rfl, hb1⟩
    have X1 := X0.out.below hb1
    obtain ⟨a0, a1, a2⟩ := X1
    have B1 := Lib.hid (below_then B0.out hb1)
    clear hb1
    go_wp2_with fail
    go_ret
    exact ⟨rfl, B1.out⟩
  have PK := Lib.hid (show ∀ w, Calls Try.prog 8 #[.agg #[.bool n, .string t, .int .u64 (b : Int)]] w _ from fun w => HXV.out ▸ HV.out.pack x w HF.out (by rw [← HT.out]; omega))
  have RG := Lib.hid (show ∀ w, Calls Try.prog 9 #[.agg #[.bool n, .string t, .int .u64 (b : Int)]] w _ from fun w => HXV.out ▸ HV.out.right x w HF.out)
  have RR := Lib.hid (show ∀ w, Calls Try.prog 10 #[.agg #[.bool n, .string t, .int .u64 (b : Int)]] w _ from fun w => HXV.out ▸ vrRight x w HF.out)
  have RP := Lib.hid (show ∀ w, Calls Try.prog 13 #[.agg #[.bool n, .string t, .int .u64 (b : Int)]] w _ from fun w => HXV.out ▸ vrPack x w HF.out (by rw [← HT.out]; omega))
  have WT := Lib.hid (show ∀ w, Calls Try.prog 11 #[.agg #[.bool n, .string t, .int .u64 (b : Int)]] w _ from fun w => HXV.out ▸ HV.out.weight x w HF.out (by rw [← HT.out]; omega))
  cases hok : x.ok with
  | false =>
    rw [hok] at PK RG RR WT
    simp only [Bool.false_eq_true, if_false] at PK WT
    go_enter Try.func3, Try.ntmps3
    go_wp2_with fail
    refine (AW.out _).mono ?_
    rintro e w1 ⟨rfl, hb1⟩
    have X1 := Lib.hid (X0.out.below hb1)
    obtain ⟨a0, a1, a2⟩ := X1.out
    have B1 := Lib.hid (below_then B0.out hb1)
    clear hb1
    go_wp2_with fail
    refine (PK.out _).mono ?_
    rintro e w2 ⟨rfl, hb2⟩
    have X2 := Lib.hid (X1.out.below hb2)
    obtain ⟨a0, a1, a2⟩ := X2.out
    have B2 := Lib.hid (below_then B1.out hb2)
    clear hb2
    go_wp2_with fail
    go_region_held3 (fun w' => w'.cell? ⟨w.heap.size, 0, none⟩ = some (.bool n) ∧ w'.cell? ⟨w.heap.size, 1, none⟩ = some (.string t) ∧ w'.cell? ⟨w.heap.size, 2, none⟩ = some (.int .u64 (b : Int)))
      (first
        | go_keep
        | exact HC4.out
        | exact HC3.out)
      (first
        | (go_at_call 9; (with_reducible refine (RG.out _).mono ?_); rintro e w3 ⟨rfl, hb3⟩; have X3 := Lib.hid (BoxV.below ⟨by first | exact a0 | exact HC4.out.1, by first | exact a1 | exact HC4.out.2.1, by first | exact a2 | exact HC4.out.2.2⟩ hb3); have HC3 := Lib.hid (show w3.cell? ⟨w.heap.size, 0, none⟩ = some (.bool n) ∧ w3.cell? ⟨w.heap.size, 1, none⟩ = some (.string t) ∧ w3.cell? ⟨w.heap.size, 2, none⟩ = some (.int .u64 (b : Int)) from ⟨X3.out.c0, X3.out.c1, X3.out.c2⟩))
        | (go_at_call 10; (with_reducible refine (RR.out _).mono ?_); rintro e w4 ⟨rfl, hb4⟩; have X4 := Lib.hid (BoxV.below ⟨by first | exact a0 | exact HC3.out.1, by first | exact a1 | exact HC3.out.2.1, by first | exact a2 | exact HC3.out.2.2⟩ hb4); have HC4 := Lib.hid (show w4.cell? ⟨w.heap.size, 0, none⟩ = some (.bool n) ∧ w4.cell? ⟨w.heap.size, 1, none⟩ = some (.string t) ∧ w4.cell? ⟨w.heap.size, 2, none⟩ = some (.int .u64 (b : Int)) from ⟨X4.out.c0, X4.out.c1, X4.out.c2⟩)))
    have BR := Lib.hid (below_then B2.out (below_then (bel_call4 hb3) hb4))
    obtain ⟨d0, d1, d2⟩ := X4.out
    clear hb3 hb4
    go_wp2_with fail
    refine (RR.out _).mono ?_
    rintro e w5 ⟨rfl, hb5⟩
    have X5 := Lib.hid (X4.out.below hb5)
    obtain ⟨e0, e1, e2⟩ := X5.out
    have B5 := Lib.hid (below_then BR.out hb5)
    clear hb5
    go_wp2_with fail
    refine (WT.out _).mono ?_
    rintro e w6 ⟨rfl, hb6⟩
    have B6 := Lib.hid (below_then B5.out hb6)
    clear hb6
    go_wp2_with fail
    go_ret
    exact ⟨by first | rfl | simp, B6.out⟩
  | true =>
    rw [hok] at PK RG RR WT
    simp only [if_true] at PK WT
    obtain ⟨P, hP⟩ : ∃ P, P = x.pack := ⟨_, rfl⟩
    have ps := Val.pack_size x hok
    rw [← hP] at PK RP WT ps
    have UP := Lib.hid (show ∀ w, Calls Try.prog 12 #[.string P] w fun e w' => e = .returned (.tuple #[.agg #[.bool n, .string t, .int .u64 (b : Int)], .int .i64 0]) ∧ Below w.heap.size w w' from fun w => by
      have h := HV.out.unpack P w (by omega)
      rw [hP, Val.un_pack x hok HF.out.1] at h
      rw [hP, ← HXV.out]
      exact h)
    have TS := str_eq (rfl : P = P)
    have p1 := ps.1
    clear ps hP hok
    go_enter Try.func3, Try.ntmps3
    go_wp2_with fail
    refine (AW.out _).mono ?_
    rintro e w1 ⟨rfl, hb1⟩
    have X1 := Lib.hid (X0.out.below hb1)
    obtain ⟨a0, a1, a2⟩ := X1.out
    have B1 := Lib.hid (below_then B0.out hb1)
    clear hb1
    go_wp2_with fail
    refine (PK.out _).mono ?_
    rintro e w2 ⟨rfl, hb2⟩
    have X2 := Lib.hid (X1.out.below hb2)
    obtain ⟨a0, a1, a2⟩ := X2.out
    have B2 := Lib.hid (below_then B1.out hb2)
    clear hb2
    go_wp2_with fail
    go_region_held3 (fun w' => w'.cell? ⟨w.heap.size, 0, none⟩ = some (.bool n) ∧ w'.cell? ⟨w.heap.size, 1, none⟩ = some (.string t) ∧ w'.cell? ⟨w.heap.size, 2, none⟩ = some (.int .u64 (b : Int)))
      (first
        | go_keep
        | exact HC4.out
        | exact HC3.out)
      (first
        | (go_at_call 9; (with_reducible refine (RG.out _).mono ?_); rintro e w3 ⟨rfl, hb3⟩; have X3 := Lib.hid (BoxV.below ⟨by first | exact a0 | exact HC4.out.1, by first | exact a1 | exact HC4.out.2.1, by first | exact a2 | exact HC4.out.2.2⟩ hb3); have HC3 := Lib.hid (show w3.cell? ⟨w.heap.size, 0, none⟩ = some (.bool n) ∧ w3.cell? ⟨w.heap.size, 1, none⟩ = some (.string t) ∧ w3.cell? ⟨w.heap.size, 2, none⟩ = some (.int .u64 (b : Int)) from ⟨X3.out.c0, X3.out.c1, X3.out.c2⟩))
        | (go_at_call 10; (with_reducible refine (RR.out _).mono ?_); rintro e w4 ⟨rfl, hb4⟩; have X4 := Lib.hid (BoxV.below ⟨by first | exact a0 | exact HC3.out.1, by first | exact a1 | exact HC3.out.2.1, by first | exact a2 | exact HC3.out.2.2⟩ hb4); have HC4 := Lib.hid (show w4.cell? ⟨w.heap.size, 0, none⟩ = some (.bool n) ∧ w4.cell? ⟨w.heap.size, 1, none⟩ = some (.string t) ∧ w4.cell? ⟨w.heap.size, 2, none⟩ = some (.int .u64 (b : Int)) from ⟨X4.out.c0, X4.out.c1, X4.out.c2⟩)))
    have BR := Lib.hid (below_then B2.out (below_then (bel_call4 hb3) hb4))
    obtain ⟨d0, d1, d2⟩ := X4.out
    clear hb3 hb4
    go_wp2_with fail
    refine (RR.out _).mono ?_
    rintro e w5 ⟨rfl, hb5⟩
    have X5 := Lib.hid (X4.out.below hb5)
    obtain ⟨e0, e1, e2⟩ := X5.out
    have B5 := Lib.hid (below_then BR.out hb5)
    clear hb5
    go_wp2_with fail
    refine (UP.out _).mono ?_
    rintro e w6 ⟨rfl, hb6⟩
    have X6 := Lib.hid (X5.out.below hb6)
    obtain ⟨g0, g1, g2⟩ := X6.out
    have l6 : w.heap.size < w6.heap.size := World.block_lt_of_cell? w6 _ g0
    have B6 := Lib.hid (below_then B5.out hb6)
    have X7 := Lib.hid (show BoxV (w6.alloc (.cells #[.bool n, .string t, .int .u64 (b : Int)] 24)) w.heap.size n t b from X6.out.below ((Below.refl _ _).alloc (Nat.le_refl _) _))
    obtain ⟨k0, k1, k2⟩ := X7.out
    clear hb6
    go_wp2_with fail
    refine (RP.out _).mono ?_
    rintro e w8 ⟨rfl, hb8⟩
    have X8 := Lib.hid (X7.out.below hb8)
    have Y8 := Lib.hid ((BoxV.new w6 n t b 24).below hb8)
    obtain ⟨m0, m1, m2⟩ := X8.out
    obtain ⟨o0, o1, o2⟩ := Y8.out
    have B8 := Lib.hid (below_then (B6.out.alloc B6.out.size _) hb8)
    clear hb8
    have TT := str_eq (rfl : t = t)
    go_wp2_with fail
    refine (WT.out _).mono ?_
    rintro e w9 ⟨rfl, hb9⟩
    have B9 := Lib.hid (below_then B8.out hb9)
    clear hb9
    go_wp2_with fail
    go_ret
    exact ⟨by first | rfl | simp, B9.out⟩

set_option maxRecDepth 100000 in
theorem lifted (hv : ValueAt) (os : Os) (started : os.Started) (H : Type) (enc : TypeId × Value → H) :
    ReturnsInHanded {} Try.checked os 3 .any (Rows.valuePacksSpec.pre6 enc Try.prog Try.f3 Rows.valuePacksRow.domain false) (Rows.valuePacksSpec.post enc Try.prog Try.f3 false true false false) := by
  refine returnsInHanded_of_change (C := Try.checked) own started (by kernel_rfl) Try.func3
    (ChangeSpec.witness6 (enc := enc) (C := Try.checked) false ⟨#[], #[.agg #[.bool false, .string ⟨#[]⟩, .int .u64 0]], []⟩ 8 (by kernel_rfl) (by kernel_rfl) (by kernel_rfl) (by kernel_rfl)) ?_
  intro W base args ds gs before hval0 hW hcnd _
  have hval : ∀ (j : Nat) t v, Try.f3.params[j]? = some t → args[j]? = some v → Value.okWide Try.prog W .any base t v := hval0
  have hW' := hW
  obtain ⟨p, q, hA0, hV, rfl, hfz, hnd⟩ := hW
  have hA : DataW.TrodAll enc Try.prog W 0 (fun _ => true) true Try.f3.params.toList args.toList ds p := hA0
  rw [Try.params3] at hA hval
  obtain ⟨v0, vs0, d0, ds0, p0, q0, hargs, rfl, rfl, h0, r0⟩ := trodAll_cons hA
  obtain ⟨rfl, rfl, rfl⟩ := trodAll_nil r0
  obtain rfl : args = #[v0] := by cases args; simp_all
  obtain ⟨rfl, rfl⟩ := trodVars_none hV
  obtain ⟨x, rfl, fx, rfl⟩ := open_val (hval 0 24 v0 rfl rfl) h0
  clear hA0 hval0
  simp only [List.append_nil] at hW'
  refine (walk hv x W fx).mono fun e W' ⟨he, hg⟩ => ?_
  subst he
  refine ⟨_, rfl, [d0], [], [], [], [] ++ [], [], hW', ?_, ?_, ?_, hg.frame _, fun h => by cases h⟩
  · exact trodAll_cons_mk (shut_bool Try.underlying4 _) trodAll_mk0
  · exact trodAll_cons_mk (Below.trod laidOut (by kernel_rfl) (of_decide_eq_true (by kernel_rfl)) h0 hg (fun x hx => by cases hx)) trodAll_mk0
  · rfl

theorem over (hv : ValueAt) : Rows.valuePacksRow.holds Try.pinned (OpenSpec.ofChange Rows.valuePacksSpec) :=
  OpenClaim.holds_of_wide 3 Try.f3 rfl rfl rfl rfl rfl rfl rfl ⟨rfl, rfl, rfl, rfl, rfl⟩ rfl rfl rfl rfl rfl (by kernel_rfl) Try.func3 (by kernel_rfl)
    (of_decide_eq_true (by kernel_rfl)) (by unfold Func.isWrapper; first | (rw [if_pos (by decide +kernel)]; kernel_rfl) | (rw [if_neg (by decide +kernel)]; exact ⟨rfl, rfl⟩))
    (fun os started H enc _ => lifted hv os started H enc)

/-- ████ THE STATEMENT ████ -/
theorem proved : Rows.ValuePacksSaid :=
  over valueAt
#print axioms proved

end Go.Proofs.Ytblmebgpjanekaa.valuePacks
