/- ValueOrders: for any two values the law returns true, and its arguments read behind the call as they read before. -/
import Derived.Test.YtblmebgpjanekaaVo
import Derived.Test.YtblmebgpjanekaaVw
import Derived.Test.YtblmebgpjanekaaVu
import Derived.Deep.RegionHeld3
import Derived.ChangeMaps5
namespace Go.Proofs.Ytblmebgpjanekaa.valueOrders
open Go.Proofs.Ytblmebgpjanekaa Go.ChangeShapes Go.WideShapes Go.ChangeAt Go.RowKit
open Go.ChangeMaps (open_string shut_string)

/-- two boxes -/
structure Box2 (w : World) (g : Nat) (n m : Bool) (t u : ByteArray) (b d : Nat) : Prop where
  x : BoxV w g n t b
  y : BoxV w (g + 1) m u d
theorem Box2.below {w w' : World} {g : Nat} {n m : Bool} {t u : ByteArray} {b d : Nat} (h : Box2 w g n m t u b d) (hb : Below w.heap.size w w') : Box2 w' g n m t u b d := ⟨h.x.below hb, h.y.below hb⟩
theorem Box2.new (w : World) (n m : Bool) (t u : ByteArray) (b d : Nat) (ty : TypeId) :
    Box2 ((w.alloc (.cells #[.bool n, .string t, .int .u64 (b : Int)] ty)).alloc (.cells #[.bool m, .string u, .int .u64 (d : Int)] ty)) w.heap.size n m t u b d := by
  refine ⟨(BoxV.new w n t b ty).below ((Below.refl _ _).alloc (Nat.le_refl _) _), ?_⟩
  have h := BoxV.new (w.alloc (.cells #[.bool n, .string t, .int .u64 (b : Int)] ty)) m u d ty
  rw [show (w.alloc (.cells #[.bool n, .string t, .int .u64 (b : Int)] ty)).heap.size = w.heap.size + 1 by simp] at h
  exact h

set_option maxRecDepth 100000 in
set_option maxHeartbeats 2000000 in
theorem walk (hv : ValueAt) (x y : Val) (w : World) (hx : x.Fits) (hy : y.Fits) :
    Calls Try.prog 6 #[x.v, y.v] w fun e w' => e = .returned (.bool true) ∧ Below w.heap.size w w' := by
  have hm := hx.2
  have hk := hy.2
  unfold maxLen at hm hk
  have AW := Lib.hid (awake4 hv)
  have HX := Lib.hid hx
  have HY := Lib.hid hy
  have HV := Lib.hid hv
  obtain ⟨n, hn⟩ : ∃ n, n = x.num := ⟨_, rfl⟩
  obtain ⟨t, ht⟩ : ∃ t, t = x.txt := ⟨_, rfl⟩
  obtain ⟨b, hb⟩ : ∃ b, b = x.bits := ⟨_, rfl⟩
  obtain ⟨m, hm2⟩ : ∃ m, m = y.num := ⟨_, rfl⟩
  obtain ⟨u, hu⟩ : ∃ u, u = y.txt := ⟨_, rfl⟩
  obtain ⟨d, hd⟩ : ∃ d, d = y.bits := ⟨_, rfl⟩
  have hxv : x.v = .agg #[.bool n, .string t, .int .u64 (b : Int)] := by rw [hn, ht, hb]; rfl
  have hyv : y.v = .agg #[.bool m, .string u, .int .u64 (d : Int)] := by rw [hm2, hu, hd]; rfl
  have HXV := Lib.hid hxv
  have HYV := Lib.hid hyv
  have B0 := Lib.hid (((Below.refl w.heap.size w).alloc (Nat.le_refl _) (.cells #[.bool n, .string t, .int .u64 (b : Int)] 24)).alloc (by simp) (.cells #[.bool m, .string u, .int .u64 (d : Int)] 24))
  have X0 := Lib.hid (Box2.new w n m t u b d 24)
  rw [← ht] at hm
  rw [← hu] at hk
  rw [hxv, hyv]
  have HT := Lib.hid ht
  have HU := Lib.hid hu
  clear hx hy hv hn ht hb hxv hm2 hu hd hyv
  by_cases h300 : 300 < t.size ∨ 300 < u.size
  · rcases (show 300 < t.size ∨ (¬ 300 < t.size ∧ 300 < u.size) by omega) with h3 | ⟨h3, h4⟩
    all_goals
      clear h300
      go_enter Try.func6, Try.ntmps6
      go_wp2_with fail
      refine (AW.out _).mono ?_
      rintro e w1 ⟨rfl, hb1⟩
      obtain ⟨⟨a0, a1, a2⟩, ⟨c0, c1, c2⟩⟩ := X0.out.below hb1
      have B1 := Lib.hid (below_then B0.out hb1)
      clear hb1
      go_wp2_with fail
      go_ret
      exact ⟨rfl, B1.out⟩
  have t3 : ¬ 300 < t.size := fun h => h300 (.inl h)
  have u3 : ¬ 300 < u.size := fun h => h300 (.inr h)
  clear h300
  obtain ⟨N, hN⟩ : ∃ N : Int, N = if x.ok && y.ok then Val.cmp x y else 0 := ⟨_, rfl⟩
  have CM := Lib.hid (show ∀ w, Calls Try.prog 21 #[.agg #[.bool n, .string t, .int .u64 (b : Int)], .agg #[.bool m, .string u, .int .u64 (d : Int)]] w fun e w' => e = .returned (.int .i64 N) ∧ Below w.heap.size w w' from fun w => by
    rw [← HXV.out, ← HYV.out, hN]; exact HV.out.compare x y w HX.out HY.out (by rw [← HT.out]; omega) (by rw [← HU.out]; omega))
  have RX := Lib.hid (show ∀ w, Calls Try.prog 10 #[.agg #[.bool n, .string t, .int .u64 (b : Int)]] w _ from fun w => HXV.out ▸ vrRight x w HX.out)
  have RY := Lib.hid (show ∀ w, Calls Try.prog 10 #[.agg #[.bool m, .string u, .int .u64 (d : Int)]] w _ from fun w => HYV.out ▸ vrRight y w HY.out)
  cases hox : x.ok with
  | false =>
    have N0 : N = 0 := by rw [hN, hox]; rfl
    subst N0
    rw [hox] at RX
    clear hN
    go_enter Try.func6, Try.ntmps6
    go_wp2_with fail
    refine (AW.out _).mono ?_
    rintro e w1 ⟨rfl, hb1⟩
    have X1 := Lib.hid (X0.out.below hb1)
    obtain ⟨⟨a0, a1, a2⟩, ⟨c0, c1, c2⟩⟩ := X1.out
    have B1 := Lib.hid (below_then B0.out hb1)
    clear hb1
    go_wp2_with fail
    refine (CM.out _).mono ?_
    rintro e w2 ⟨rfl, hb2⟩
    have X2 := Lib.hid (X1.out.below hb2)
    obtain ⟨⟨a0, a1, a2⟩, ⟨c0, c1, c2⟩⟩ := X2.out
    have B2 := Lib.hid (below_then B1.out hb2)
    clear hb2
    go_wp2_with fail
    refine (RX.out _).mono ?_
    rintro e w3 ⟨rfl, hb3⟩
    have B3 := Lib.hid (below_then B2.out hb3)
    clear hb3
    go_wp2_with fail
    go_ret
    exact ⟨by first | rfl | simp, B3.out⟩
  | true =>
  cases hoy : y.ok with
  | false =>
    have N0 : N = 0 := by rw [hN, hox, hoy]; rfl
    subst N0
    rw [hox] at RX
    rw [hoy] at RY
    clear hN
    go_enter Try.func6, Try.ntmps6
    go_wp2_with fail
    refine (AW.out _).mono ?_
    rintro e w1 ⟨rfl, hb1⟩
    have X1 := Lib.hid (X0.out.below hb1)
    obtain ⟨⟨a0, a1, a2⟩, ⟨c0, c1, c2⟩⟩ := X1.out
    have B1 := Lib.hid (below_then B0.out hb1)
    clear hb1
    go_wp2_with fail
    refine (CM.out _).mono ?_
    rintro e w2 ⟨rfl, hb2⟩
    have X2 := Lib.hid (X1.out.below hb2)
    obtain ⟨⟨a0, a1, a2⟩, ⟨c0, c1, c2⟩⟩ := X2.out
    have B2 := Lib.hid (below_then B1.out hb2)
    clear hb2
    go_wp2_with fail
    refine (RX.out _).mono ?_
    rintro e w3 ⟨rfl, hb3⟩
    have X3 := Lib.hid (X2.out.below hb3)
    obtain ⟨⟨a0, a1, a2⟩, ⟨c0, c1, c2⟩⟩ := X3.out
    have B3 := Lib.hid (below_then B2.out hb3)
    clear hb3
    go_wp2_with fail
    refine (RY.out _).mono ?_
    rintro e w4 ⟨rfl, hb4⟩
    have B4 := Lib.hid (below_then B3.out hb4)
    clear hb4
    go_wp2_with fail
    go_ret
    exact ⟨by first | rfl | simp, B4.out⟩
  | true =>
  have N1 : N = Val.cmp x y := by rw [hN, hox, hoy]; rfl
  rw [hox] at RX
  rw [hoy] at RY
  have CN := Lib.hid (show ∀ w, Calls Try.prog 21 #[.agg #[.bool m, .string u, .int .u64 (d : Int)], .agg #[.bool n, .string t, .int .u64 (b : Int)]] w fun e w' => e = .returned (.int .i64 (-N)) ∧ Below w.heap.size w w' from fun w => by
    have h := HV.out.compare y x w HY.out HX.out (by rw [← HU.out]; omega) (by rw [← HT.out]; omega)
    rw [hox, hoy, Val.cmp_neg x y, ← N1, HXV.out, HYV.out] at h
    exact h)
  have RC := Lib.hid (show ∀ w, Calls Try.prog 22 #[.agg #[.bool n, .string t, .int .u64 (b : Int)], .agg #[.bool m, .string u, .int .u64 (d : Int)]] w fun e w' => e = .returned (.int .i64 N) ∧ Below w.heap.size w w' from fun w => by
    rw [← HXV.out, ← HYV.out, N1]; exact vrCompare x y w HX.out HY.out)
  obtain ⟨P, hP⟩ : ∃ P, P = x.pack := ⟨_, rfl⟩
  obtain ⟨Q, hQ⟩ : ∃ Q, Q = y.pack := ⟨_, rfl⟩
  have PX := Lib.hid (show ∀ w, Calls Try.prog 13 #[.agg #[.bool n, .string t, .int .u64 (b : Int)]] w fun e w' => e = .returned (.string P) ∧ Below w.heap.size w w' from fun w => by
    rw [← HXV.out, hP]; exact vrPack x w HX.out (by rw [← HT.out]; omega))
  have PY := Lib.hid (show ∀ w, Calls Try.prog 13 #[.agg #[.bool m, .string u, .int .u64 (d : Int)]] w fun e w' => e = .returned (.string Q) ∧ Below w.heap.size w w' from fun w => by
    rw [← HYV.out, hQ]; exact vrPack y w HY.out (by rw [← HU.out]; omega))
  obtain ⟨hl1, hl2⟩ := Val.cmp_pack x y HX.out.1 HY.out.1
  rw [← N1, ← hP, ← hQ] at hl1 hl2
  have NR := Val.cmp_range x y
  rw [← N1] at NR
  have EQ : (P.toList == Q.toList) = decide (N = 0) := by
    rw [Bool.eq_iff_iff, beq_iff_eq, decide_eq_true_eq]
    constructor
    · intro e
      rw [e, Val.less_irr] at hl1
      rw [e, Val.less_irr] at hl2
      have h1 := of_decide_eq_false hl1.symm
      have h2 := of_decide_eq_false hl2.symm
      omega
    · intro e
      exact Val.less_total _ _ (by rw [hl1]; exact decide_eq_false (by omega)) (by rw [hl2]; exact decide_eq_false (by omega))
  clear hN N1 hP hQ hox hoy
  rcases NR with rfl | rfl | rfl
  all_goals
    have L1 := hl1
    have L2 := hl2
    have L3 := EQ
    simp only [show decide ((-1 : Int) < 0) = true from rfl, show decide ((0 : Int) < -1) = false from rfl, show decide ((0 : Int) < 0) = false from rfl, show decide ((1 : Int) < 0) = false from rfl, show decide ((0 : Int) < 1) = true from rfl, show decide ((-1 : Int) = 0) = false from rfl, show decide ((1 : Int) = 0) = false from rfl] at L1 L2 L3
    clear hl1 hl2 EQ
    go_enter Try.func6, Try.ntmps6
    go_wp2_with fail
    refine (AW.out _).mono ?_
    rintro e w1 ⟨rfl, hb1⟩
    have X1 := Lib.hid (X0.out.below hb1)
    obtain ⟨⟨a0, a1, a2⟩, ⟨c0, c1, c2⟩⟩ := X1.out
    have B1 := Lib.hid (below_then B0.out hb1)
    clear hb1
    go_wp2_with fail
    refine (CM.out _).mono ?_
    rintro e w2 ⟨rfl, hb2⟩
    have X2 := Lib.hid (X1.out.below hb2)
    obtain ⟨⟨a0, a1, a2⟩, ⟨c0, c1, c2⟩⟩ := X2.out
    have B2 := Lib.hid (below_then B1.out hb2)
    clear hb2
    go_wp2_with fail
    refine (RX.out _).mono ?_
    rintro e w3 ⟨rfl, hb3⟩
    have X3 := Lib.hid (X2.out.below hb3)
    obtain ⟨⟨a0, a1, a2⟩, ⟨c0, c1, c2⟩⟩ := X3.out
    have B3 := Lib.hid (below_then B2.out hb3)
    clear hb3
    go_wp2_with fail
    refine (RY.out _).mono ?_
    rintro e w4 ⟨rfl, hb4⟩
    have X4 := Lib.hid (X3.out.below hb4)
    have X4d := X4.out
    obtain ⟨⟨a0, a1, a2⟩, ⟨c0, c1, c2⟩⟩ := X4.out
    have B4 := Lib.hid (below_then B3.out hb4)
    clear hb4 X4d
    go_wp2_with fail
    go_region_held3 (fun w' => w'.cell? ⟨w.heap.size, 0, none⟩ = some (.bool n) ∧ w'.cell? ⟨w.heap.size, 1, none⟩ = some (.string t) ∧ w'.cell? ⟨w.heap.size, 2, none⟩ = some (.int .u64 (b : Int)) ∧ w'.cell? ⟨w.heap.size + 1, 0, none⟩ = some (.bool m) ∧ w'.cell? ⟨w.heap.size + 1, 1, none⟩ = some (.string u) ∧ w'.cell? ⟨w.heap.size + 1, 2, none⟩ = some (.int .u64 (d : Int)))
      (first
        | go_keep
        | exact HC6.out
        | exact HC5.out)
      (first
        | (go_at_call_of 13 (Value.agg #[Value.bool n, Value.string t, Value.int IntKind.u64 (b : Int)]); (with_reducible refine (PX.out _).mono ?_); rintro e w5 ⟨rfl, hb5⟩; have X5 := Lib.hid (Box2.below ⟨⟨by first | exact a0 | exact HC6.out.1, by first | exact a1 | exact HC6.out.2.1, by first | exact a2 | exact HC6.out.2.2.1⟩, ⟨by first | exact c0 | exact HC6.out.2.2.2.1, by first | exact c1 | exact HC6.out.2.2.2.2.1, by first | exact c2 | exact HC6.out.2.2.2.2.2⟩⟩ hb5); have HC5 := Lib.hid (show w5.cell? ⟨w.heap.size, 0, none⟩ = some (.bool n) ∧ w5.cell? ⟨w.heap.size, 1, none⟩ = some (.string t) ∧ w5.cell? ⟨w.heap.size, 2, none⟩ = some (.int .u64 (b : Int)) ∧ w5.cell? ⟨w.heap.size + 1, 0, none⟩ = some (.bool m) ∧ w5.cell? ⟨w.heap.size + 1, 1, none⟩ = some (.string u) ∧ w5.cell? ⟨w.heap.size + 1, 2, none⟩ = some (.int .u64 (d : Int)) from ⟨X5.out.x.c0, X5.out.x.c1, X5.out.x.c2, X5.out.y.c0, X5.out.y.c1, X5.out.y.c2⟩))
        | (go_at_call_of 13 (Value.agg #[Value.bool m, Value.string u, Value.int IntKind.u64 (d : Int)]); (with_reducible refine (PY.out _).mono ?_); rintro e w6 ⟨rfl, hb6⟩; have X6 := Lib.hid (Box2.below ⟨⟨by first | exact a0 | exact HC5.out.1, by first | exact a1 | exact HC5.out.2.1, by first | exact a2 | exact HC5.out.2.2.1⟩, ⟨by first | exact c0 | exact HC5.out.2.2.2.1, by first | exact c1 | exact HC5.out.2.2.2.2.1, by first | exact c2 | exact HC5.out.2.2.2.2.2⟩⟩ hb6); have HC6 := Lib.hid (show w6.cell? ⟨w.heap.size, 0, none⟩ = some (.bool n) ∧ w6.cell? ⟨w.heap.size, 1, none⟩ = some (.string t) ∧ w6.cell? ⟨w.heap.size, 2, none⟩ = some (.int .u64 (b : Int)) ∧ w6.cell? ⟨w.heap.size + 1, 0, none⟩ = some (.bool m) ∧ w6.cell? ⟨w.heap.size + 1, 1, none⟩ = some (.string u) ∧ w6.cell? ⟨w.heap.size + 1, 2, none⟩ = some (.int .u64 (d : Int)) from ⟨X6.out.x.c0, X6.out.x.c1, X6.out.x.c2, X6.out.y.c0, X6.out.y.c1, X6.out.y.c2⟩)))
    have B6 := Lib.hid (below_then B4.out (below_then (bel_call4 hb5) hb6))
    obtain ⟨f0, f1, f2, f3, f4, f5⟩ := HC6.out
    clear hb5 hb6
    go_wp2_with fail
    refine (RC.out _).mono ?_
    rintro e w7 ⟨rfl, hb7⟩
    have X7 := Lib.hid (X6.out.below hb7)
    obtain ⟨⟨a0, a1, a2⟩, ⟨c0, c1, c2⟩⟩ := X7.out
    have B7 := Lib.hid (below_then B6.out hb7)
    clear hb7
    go_wp2_with fail
    refine (CN.out _).mono ?_
    rintro e w8 ⟨rfl, hb8⟩
    have B8 := Lib.hid (below_then B7.out hb8)
    clear hb8
    go_wp2_with fail
    go_ret
    exact ⟨by first | rfl | simp, B8.out⟩

set_option maxRecDepth 100000 in
theorem lifted (hv : ValueAt) (os : Os) (started : os.Started) (H : Type) (enc : TypeId × Value → H) :
    ReturnsInHanded {} Try.checked os 6 .any (Rows.valueOrdersSpec.pre6 enc Try.prog Try.f6 Rows.valueOrdersRow.domain false) (Rows.valueOrdersSpec.post enc Try.prog Try.f6 false true false false) := by
  refine returnsInHanded_of_change (C := Try.checked) own started (by kernel_rfl) Try.func6
    (ChangeSpec.witness6 (enc := enc) (C := Try.checked) false ⟨#[], #[.agg #[.bool false, .string ⟨#[]⟩, .int .u64 0], .agg #[.bool false, .string ⟨#[]⟩, .int .u64 0]], []⟩ 8 (by kernel_rfl) (by kernel_rfl) (by kernel_rfl) (by kernel_rfl)) ?_
  intro W base args ds gs before hval0 hW hcnd _
  have hval : ∀ (j : Nat) t v, Try.f6.params[j]? = some t → args[j]? = some v → Value.okWide Try.prog W .any base t v := hval0
  have hW' := hW
  obtain ⟨p, q, hA0, hV, rfl, hfz, hnd⟩ := hW
  have hA : DataW.TrodAll enc Try.prog W 0 (fun _ => true) true Try.f6.params.toList args.toList ds p := hA0
  rw [Try.params6] at hA hval
  obtain ⟨v0, vs0, d0, ds0, p0, q0, hargs0, rfl, rfl, h0, r0⟩ := trodAll_cons hA
  obtain ⟨v1, vs1, d1, ds1, p1, q1, hargs1, rfl, rfl, h1, r1⟩ := trodAll_cons r0
  obtain ⟨rfl, rfl, rfl⟩ := trodAll_nil r1
  obtain rfl : args = #[v0, v1] := by cases args; simp_all
  obtain ⟨rfl, rfl⟩ := trodVars_none hV
  obtain ⟨x0, rfl, w0, rfl⟩ := open_val (hval 0 24 v0 rfl rfl) h0
  obtain ⟨x1, rfl, w1, rfl⟩ := open_val (hval 1 24 v1 rfl rfl) h1
  clear hA0 hval0
  simp only [List.append_nil] at hW'
  refine (walk hv x0 x1 W w0 w1).mono fun e W' ⟨he, hg⟩ => ?_
  subst he
  refine ⟨_, rfl, [d0, d1], [], [], [], [] ++ ([] ++ []), [], hW', ?_, ?_, ?_, hg.frame _, fun h => by cases h⟩
  · exact trodAll_cons_mk (shut_bool Try.underlying4 _) trodAll_mk0
  · exact (trodAll_cons_mk (Below.trod laidOut (by kernel_rfl) (of_decide_eq_true (by kernel_rfl)) h0 hg (fun x hx => by cases hx)) (trodAll_cons_mk (Below.trod laidOut (by kernel_rfl) (of_decide_eq_true (by kernel_rfl)) h1 hg (fun x hx => by cases hx)) trodAll_mk0))
  · rfl

theorem over (hv : ValueAt) : Rows.valueOrdersRow.holds Try.pinned (OpenSpec.ofChange Rows.valueOrdersSpec) :=
  OpenClaim.holds_of_wide 6 Try.f6 rfl rfl rfl rfl rfl rfl rfl ⟨rfl, rfl, rfl, rfl, rfl⟩ rfl rfl rfl rfl rfl (by kernel_rfl) Try.func6 (by kernel_rfl)
    (of_decide_eq_true (by kernel_rfl)) (by unfold Func.isWrapper; first | (rw [if_pos (by decide +kernel)]; kernel_rfl) | (rw [if_neg (by decide +kernel)]; exact ⟨rfl, rfl⟩))
    (fun os started H enc _ => lifted hv os started H enc)

/-- ████ THE STATEMENT ████ -/
theorem proved : Rows.ValueOrdersSaid :=
  over valueAt
#print axioms proved

end Go.Proofs.Ytblmebgpjanekaa.valueOrders
