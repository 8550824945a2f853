/- AggTells: walked. -/
import Derived.Test.YtoljhoabbaigdaaI1i
namespace Go.Proofs.Ytoljhoabbaigdaa.aggTells
open Go.Proofs.Ytoljhoabbaigdaa Go.Joins Go.ChangeShapes Go.WideShapes Go.ChangeAt Go.RowKit Ex Fl Ag Ieee
attribute [local go_sem] Oper.semAt_some

section
variable {P : Program} {ops : Array Oper} {Q : Exit → Act → World → Prop} {md : Region.Mode} {S : World → Prop}
/-- number i is not wanted -/
theorem rgnSkip (i : Nat) {oi : Oper} {fuel : Nat} {listed : Array Bool} {a : Act} {w : World} (hi : ops.toList[i]? = some oi)
    (hs : Region.noSelect ops = true) (hf : Region.free md ops listed i = true) (hr : (Region.ready md ops listed).contains i = true)
    (hQ : ∀ c a w, Q (.panic c) (a.put oi.dst undef) w → Q (.panic c) a w) (hw : Region.wanted oi (yielded ops a.tmps) = false) (hS : S w)
    (h : wpAnyH P md ops Q S fuel (listed.setIfInBounds i true) (a.put oi.dst undef) w) : wpAnyH P md ops Q S (fuel + 1) listed a w :=
  wpAnyH_take (by rw [← Array.getElem?_toList]; exact hi) hs hf hr hQ (.inr ⟨hw, rfl⟩) hS h
end

set_option maxRecDepth 100000 in
set_option maxHeartbeats 4000000 in
theorem walk (l : List Int) (at_ : Int) (A : Option Addr) (c : Nat) (w : World) (h : Sl w A l) (hu : La.U64 l) (hl : l.length ≤ maxLen) :
    Calls Try.prog 3 #[.slice A l.length c, .int .i64 at_] w fun e w' => e = .returned (.bool true) ∧ Below w.heap.size w w' := by
  have AW := Lib.hid (awake15 w)
  unfold maxLen at hl
  obtain ⟨n, hn⟩ : ∃ n, n = l.length := ⟨_, rfl⟩
  rw [← hn] at hl ⊢
  by_cases q0 : 200 < n
  · clear h hu hn
    go_enter Try.func3, Try.ntmps3
    go_wp2_with fail
    refine AW.out.mono ?_
    rintro e w1 ⟨rfl, hb1⟩
    have B1 := Lib.hid hb1
    clear hb1
    go_wp2_with fail
    go_ret
    exact ⟨rfl, B1.out⟩
  obtain ⟨F, hF⟩ : ∃ F, F = fls l := ⟨_, rfl⟩
  have nF : n = F.length := by rw [hF]; unfold fls; rw [List.length_map, hn]
  have FF : AllFits F := by rw [hF]; exact fls_fits hu
  have XF := Lib.hid (fun W (hb : Below w.heap.size w W) => xFloats l A c W (h.below hb) (by omega))
  obtain ⟨t0, t1, t2, t3, t4, ht⟩ := tal_parts F
  have XO := Lib.hid (fun A' c' W (h' : SlF W A' F) => xOf15 F A' c' W h' FF (by omega))
  have RO := Lib.hid (fun A' c' W (h' : SlF W A' F) => rOf15 F A' c' W h' FF (by omega))
  have RK := Lib.hid (fun A' c' W k (hk : k ≤ n) (h' : SlF W A' F) => show Calls Try.prog 9 #[.slice A' k c'] W fun e w' => e = .returned (tal (F.take k)) ∧ Below W.heap.size W w' by
    have := rOf15 (F.take k) A' c' W (h'.take k) (FF.take k) (by rw [List.length_take]; omega)
    rwa [List.length_take, Nat.min_eq_left (by omega)] at this)
  have XA := Lib.hid (fun g W i (hi : i < n) (ha : AdrAt W g (F.take i)) => show Calls Try.prog 12 #[PtrA g, .float .f64 (F.getD i 0)] W fun e w' => e = .returned (.int .i64 0) ∧ Hid (AdrAt w' g (F.take (i + 1))) ∧ Chg (fun k => k = g) W w' by
    refine (xAdd g (F.take i) (F.getD i 0) W ha (FF.get (by omega)) (FF.take i) (by rw [List.length_take]; omega)).mono ?_
    rintro e w' ⟨k1, k2, k3⟩
    rw [← take_snoc (by omega)] at k2
    exact ⟨k1, k2, k3⟩)
  have XT := Lib.hid (fun g W k (ha : AdrAt W g (F.take k)) => xTally g (F.take k) W ha (by rw [List.length_take]; omega))
  have XC := Lib.hid (fun i (hi : i < n) A' W (h' : SlF W A' F) => show ∃ b o, A' = some ⟨b, o, none⟩ ∧ b < W.heap.size ∧ W.cell? ⟨b, o + i, none⟩ = some (.float .f64 (F.getD i 0)) by
    obtain ⟨b, o, e, hlt, k⟩ := h'.at_ (k := i) (by omega)
    exact ⟨b, o, e, hlt, k i (by omega)⟩)
  have NF := Lib.hid nF
  have TN := Lib.hid (show F.take n = F by rw [nF]; exact List.take_length)
  rw [← hF, ← nF, ← hn] at XF
  rw [← nF, ht] at XO RO
  have HT := Lib.hid ht
  have ET := eql_tal t0 t1 t2 t3 t4
  -- where it is parted
  obtain ⟨U, hU⟩ : ∃ U : Int, U = IntKind.u64.wrap at_ := ⟨_, rfl⟩
  have U0 : 0 ≤ U := by rw [hU, IntKind.wrap_u64]; omega
  have U1 : U ≤ 18446744073709551615 := by rw [hU, IntKind.wrap_u64]; omega
  have eU := hU.symm
  have n200 : n ≤ 200 := by omega
  clear h hu hn hF ht FF nF hU hl q0
  go_enter Try.func3, Try.ntmps3
  go_wp2_with fail
  refine AW.out.mono ?_
  rintro e w1 ⟨rfl, hb1⟩
  have B1 := Lib.hid hb1
  clear hb1
  go_wp2_with fail
  refine (XF.out _ B1.out).mono ?_
  rintro e w2 ⟨⟨A', c', rfl, s2, nc, hnil⟩, hb2⟩
  have S2 := Lib.hid s2
  have HNC := Lib.hid nc
  have B2 := Lib.hid (below_then B1.out hb2)
  clear hb2 s2 hnil
  go_wp2_with fail
  refine (RO.out A' c' _ S2.out).mono ?_
  rintro e w3 ⟨rfl, hb3⟩
  obtain ⟨C, hC⟩ : ∃ C, C = w3.heap.size := ⟨_, rfl⟩
  obtain ⟨W3, hW3⟩ : ∃ W, W = w3.alloc (.cells #[.int .i64 t0, .int .u64 t1, .int .u64 t2, .int .u64 t3, .int .u64 t4] 28) := ⟨_, rfl⟩
  have R3 := RowAt.new w3 [.int .i64 t0, .int .u64 t1, .int .u64 t2, .int .u64 t3, .int .u64 t4] 28
  have B3x := (below_then B2.out hb3)
  have B3 := Lib.hid (show Below w.heap.size w W3 by rw [hW3]; exact B3x.alloc B3x.size _)
  have S3 := Lib.hid (show SlF W3 A' F by rw [hW3]; exact (S2.out.below hb3).alloc _)
  rw [show (w3.alloc (.cells (List.toArray [.int .i64 t0, .int .u64 t1, .int .u64 t2, .int .u64 t3, .int .u64 t4]) 28)) = W3 from hW3.symm, ← hC] at R3
  have HR3 := Lib.hid R3
  have HW3 := Lib.hid hW3
  have HC := Lib.hid hC
  clear hb3 B3x R3 hW3 hC
  go_wp2_with fail
  rw [← HW3.out, ← HC.out]
  refine (xNew15 _).mono ?_
  rintro e w4 ⟨rfl, ha4, hb4⟩
  obtain ⟨g, hg⟩ : ∃ g, g = W3.heap.size := ⟨_, rfl⟩
  rw [← hg] at ha4 ⊢
  have A4 := Lib.hid ha4
  have B4 := Lib.hid (below_then B3.out hb4)
  have R4 := Lib.hid (HR3.out.below hb4)
  have S4 := Lib.hid (S3.out.below hb4)
  have NG := Lib.hid (show C ≠ g by have := HR3.out.lt; omega)
  have NA := Lib.hid (show ∀ a, A' = some a → F ≠ [] → a.block ≠ g from fun a e hne => by
    obtain ⟨b, o, e2, hlt, _⟩ := S3.out (Nat.pos_of_ne_zero fun z => hne (List.eq_nil_of_length_eq_zero z))
    rw [e2] at e; injection e with e; rw [← e, hg]; show b ≠ _; omega)
  have WG := Lib.hid (show w.heap.size ≤ g by rw [hg]; exact B3.out.size)
  clear ha4 hb4 hg
  by_cases n0 : n = 0
  · have nz : ¬ (0 : Int) < (n : Int) := by omega
    clear eU U0 U1 n0
    go_wp2_with fail
    go_loopw [9] (fun vi wr => ∃ i : Nat, i ≤ n ∧ vi = .int .i64 i ∧ Hid (AdrAt wr g (F.take i)) ∧ Hid (RowAt wr C [.int .i64 t0, .int .u64 t1, .int .u64 t2, .int .u64 t3, .int .u64 t4] 28) ∧ Hid (SlF wr A' F) ∧ Hid (Below w.heap.size w wr)) (fun vi _ => n - (intOf vi).toNat)
    case atStart => exact ⟨0, Nat.zero_le _, rfl, A4, R4, S4, B4⟩
    case round =>
      obtain ⟨i, hi, rfl, AR, RR, SR, BR⟩ := hrel
      by_cases q : i < n
      · exfalso; omega
      · skip
        have hin : i = n := by omega
        subst hin
        have AF := AR.out
        rw [TN.out] at AF
        have AFH := Lib.hid AF
        have T1 := Lib.hid (fun W ha => XT.out g W i ha)
        rw [TN.out, HT.out] at T1
        have CF := Lib.hid (fun W (r : RowAt W C [.int .i64 t0, .int .u64 t1, .int .u64 t2, .int .u64 t3, .int .u64 t4] 28) => show W.cell? ⟨C, 0, none⟩ = some (.int .i64 t0) ∧ W.cell? ⟨C, 1, none⟩ = some (.int .u64 t1) ∧ W.cell? ⟨C, 2, none⟩ = some (.int .u64 t2) ∧ W.cell? ⟨C, 3, none⟩ = some (.int .u64 t3) ∧ W.cell? ⟨C, 4, none⟩ = some (.int .u64 t4) from ⟨r.cell 0, r.cell 1, r.cell 2, r.cell 3, r.cell 4⟩)
        clear AF q hi
        go_wp2_with fail
        have BD := Lib.hid BR.out.drew
        have AD := Lib.hid (show AdrAt wr.drew g F from AFH.out.below ((Below.refl _ _).drew))
        have SD := Lib.hid SR.out.drew
        have RD := Lib.hid (RR.out.drewN 1)
        refine wp_region_held_drew (S := (fun W => W.cell? ⟨C, 0, none⟩ = some (.int .i64 t0) ∧ W.cell? ⟨C, 1, none⟩ = some (.int .u64 t1) ∧ W.cell? ⟨C, 2, none⟩ = some (.int .u64 t2) ∧ W.cell? ⟨C, 3, none⟩ = some (.int .u64 t3) ∧ W.cell? ⟨C, 4, none⟩ = some (.int .u64 t4))) (by kernel_rfl) (CF.out _ RD.out) (fun hHeld => ?_)
        refine rgnTake 0 rfl (by kernel_rfl) (by kernel_rfl) (by kernel_rfl) (fun _ _ _ h => h) (by rfl) (v := ?v1) ?hy1 hHeld ?rest1
        case hy1 => (intro v hSw; obtain ⟨x0, x1, x2, x3, x4⟩ := hSw; first | (go_simp; done) | (go_simp; with_reducible rfl))
        try simp only [Act.put, List.setIfInBounds_toArray, List.set_cons_zero, List.set_cons_succ]
        refine rgnTake 2 rfl (by kernel_rfl) (by kernel_rfl) (by kernel_rfl) (fun _ _ _ h => h) (by rfl) (v := ?v2) ?hy2 hHeld ?rest2
        case hy2 => (intro v hSw; obtain ⟨x0, x1, x2, x3, x4⟩ := hSw; first | (go_simp; done) | (go_simp; with_reducible rfl))
        try simp only [Act.put, List.setIfInBounds_toArray, List.set_cons_zero, List.set_cons_succ]
        refine rgnOne 1 rfl (by kernel_rfl) (fun K hK => ?_)
        go_simp
        refine (XO.out A' c' _ SD.out).mono ?_
        rintro e w5 ⟨rfl, hb5⟩
        have R5 := Lib.hid (RD.out.below hb5)
        have B5 := Lib.hid (below_then BD.out hb5)
        have A5 := Lib.hid (AD.out.below hb5)
        clear hb5
        refine hK.out _ _ (CF.out _ R5.out) (fun hHeld => ?_)
        clear hK K
        try simp only [Act.put, List.setIfInBounds_toArray, List.set_cons_zero, List.set_cons_succ]
        refine rgnTake 3 rfl (by kernel_rfl) (by kernel_rfl) (by kernel_rfl) (fun _ _ _ h => h) (by rfl) (v := ?v3) ?hy3 hHeld ?rest3
        case hy3 => (intro v hSw; obtain ⟨x0, x1, x2, x3, x4⟩ := hSw; first | (go_simp; done) | (go_simp; with_reducible rfl))
        try simp only [Act.put, List.setIfInBounds_toArray, List.set_cons_zero, List.set_cons_succ]
        refine rgnTake 4 rfl (by kernel_rfl) (by kernel_rfl) (by kernel_rfl) (fun _ _ _ h => h) (by rfl) (v := ?v4) ?hy4 hHeld ?rest4
        case hy4 => (intro v hSw; obtain ⟨x0, x1, x2, x3, x4⟩ := hSw; first | (go_simp; done) | (go_simp; with_reducible rfl))
        try simp only [Act.put, List.setIfInBounds_toArray, List.set_cons_zero, List.set_cons_succ]
        refine rgnTake 5 rfl (by kernel_rfl) (by kernel_rfl) (by kernel_rfl) (fun _ _ _ h => h) (by rfl) (v := ?v5) ?hy5 hHeld ?rest5
        case hy5 => (intro v hSw; obtain ⟨x0, x1, x2, x3, x4⟩ := hSw; first | (go_simp; done) | (go_simp; with_reducible rfl))
        try simp only [Act.put, List.setIfInBounds_toArray, List.set_cons_zero, List.set_cons_succ]
        refine rgnTake 7 rfl (by kernel_rfl) (by kernel_rfl) (by kernel_rfl) (fun _ _ _ h => h) (by rfl) (v := ?v6) ?hy6 hHeld ?rest6
        case hy6 => (intro v hSw; obtain ⟨x0, x1, x2, x3, x4⟩ := hSw; first | (go_simp; done) | (go_simp; with_reducible rfl))
        try simp only [Act.put, List.setIfInBounds_toArray, List.set_cons_zero, List.set_cons_succ]
        refine rgnOne 6 rfl (by kernel_rfl) (fun K hK => ?_)
        go_simp
        refine (T1.out _ A5.out).mono ?_
        rintro e w6 ⟨rfl, hb6⟩
        have R6 := Lib.hid (R5.out.below hb6)
        have B6 := Lib.hid (below_then B5.out hb6)
        clear hb6
        refine hK.out _ _ (CF.out _ R6.out) (fun hHeld => ?_)
        clear hK K
        try simp only [Act.put, List.setIfInBounds_toArray, List.set_cons_zero, List.set_cons_succ]
        refine rgnTake 8 rfl (by kernel_rfl) (by kernel_rfl) (by kernel_rfl) (fun _ _ _ h => h) (by rfl) (v := ?v7) ?hy7 hHeld ?rest7
        case hy7 => (intro v hSw; obtain ⟨x0, x1, x2, x3, x4⟩ := hSw; first | (go_simp; done) | (go_simp; with_reducible rfl))
        try simp only [Act.put, List.setIfInBounds_toArray, List.set_cons_zero, List.set_cons_succ]
        refine rgnTake 9 rfl (by kernel_rfl) (by kernel_rfl) (by kernel_rfl) (fun _ _ _ h => h) (by rfl) (v := ?v8) ?hy8 hHeld ?rest8
        case hy8 => (intro v hSw; obtain ⟨x0, x1, x2, x3, x4⟩ := hSw; first | (go_simp; done) | (go_simp; with_reducible rfl))
        try simp only [Act.put, List.setIfInBounds_toArray, List.set_cons_zero, List.set_cons_succ]
        refine rgnTake 10 rfl (by kernel_rfl) (by kernel_rfl) (by kernel_rfl) (fun _ _ _ h => h) (by rfl) (v := ?v9) ?hy9 hHeld ?rest9
        case hy9 => (intro v hSw; obtain ⟨x0, x1, x2, x3, x4⟩ := hSw; first | (go_simp; done) | (go_simp; with_reducible rfl))
        try simp only [Act.put, List.setIfInBounds_toArray, List.set_cons_zero, List.set_cons_succ]
        refine wpAnyH_done (by kernel_rfl) ?_ _
        go_wp2_with fail
        go_ret
        exact ⟨rfl, B6.out⟩
  · obtain ⟨K, hK0⟩ : ∃ K : Nat, (K : Int) = U % (n : Int) := ⟨(U % (n : Int)).toNat, by have := Int.emod_nonneg U (show (n : Int) ≠ 0 by omega); omega⟩
    have eK := hK0.symm
    have Kn : K < n := by have := Int.emod_lt_of_pos U (show (0 : Int) < (n : Int) by omega); omega
    have nz : (0 : Int) < (n : Int) := by omega
    have dz : decide (0 < n) = true := decide_eq_true (by omega)
    clear hK0
    go_wp2_with fail
    try simp only [dz]
    simp only [eK]
    go_loopw [9] (fun vi wr => ∃ i : Nat, i ≤ n ∧ vi = .int .i64 i ∧ Hid (AdrAt wr g (F.take i)) ∧ Hid (RowAt wr C [.int .i64 t0, .int .u64 t1, .int .u64 t2, .int .u64 t3, .int .u64 t4] 28) ∧ Hid (SlF wr A' F) ∧ Hid (Below w.heap.size w wr)) (fun vi _ => n - (intOf vi).toNat)
    case atStart => exact ⟨0, Nat.zero_le _, rfl, A4, R4, S4, B4⟩
    case round =>
      obtain ⟨i, hi, rfl, AR, RR, SR, BR⟩ := hrel
      by_cases q : i < n
      · have hFne : F ≠ [] := fun z => by have := TN.out; rw [z] at this; have h9 := NF.out; rw [z] at h9; simp at h9; omega
        have XA2 := Lib.hid (fun W (ha : AdrAt W g (F.take i)) => XA.out g W i q ha)
        have XC2 := Lib.hid (fun W (h' : SlF W A' F) => XC.out i q A' W h')
        obtain ⟨x, hx⟩ : ∃ x, x = F.getD i 0 := ⟨_, rfl⟩
        rw [← hx] at XA2 XC2
        have i5 : (0 : Int) ≤ (i : Int) := by omega
        have i6 : (i : Int) < (n : Int) := by omega
        have NAg := Lib.hid (fun a e => NA.out a e hFne)
        clear hx hFne
        by_cases qk : i = K
        · subst qk
          have T1 := Lib.hid (fun W ha => XT.out g W i ha)
          have T2 := Lib.hid (fun W h' => RK.out A' c' W i hi h')
          obtain ⟨s0, s1, s2, s3, s4, hs⟩ := tal_parts (F.take i)
          simp only [hs] at T1 T2
          have NT := neq_tal s0 s1 s2 s3 s4
          have ic : i ≤ c' := by have := HNC.out; omega
          clear hs
          go_wp2_with fail
          have BD := Lib.hid BR.out.drew
          have AD := Lib.hid (show AdrAt wr.drew g (F.take i) from AR.out.below ((Below.refl _ _).drew))
          have SD := Lib.hid SR.out.drew
          have RD := Lib.hid (RR.out.drewN 1)
          refine wp_region_held_drew (S := (fun _ => True)) (by kernel_rfl) (trivial) (fun hHeld => ?_)
          refine rgnTake 0 rfl (by kernel_rfl) (by kernel_rfl) (by kernel_rfl) (fun _ _ _ h => h) (by rfl) (v := ?v10) ?hy10 hHeld ?rest10
          case hy10 => (intro v hSw; skip; first | (go_simp; done) | (go_simp; with_reducible rfl))
          try simp only [Act.put, List.setIfInBounds_toArray, List.set_cons_zero, List.set_cons_succ]
          refine rgnTake 1 rfl (by kernel_rfl) (by kernel_rfl) (by kernel_rfl) (fun _ _ _ h => h) (by rfl) (v := ?v11) ?hy11 hHeld ?rest11
          case hy11 => (intro v hSw; skip; first | (go_simp; done) | (go_simp; with_reducible rfl))
          try simp only [Act.put, List.setIfInBounds_toArray, List.set_cons_zero, List.set_cons_succ]
          refine rgnTake 2 rfl (by kernel_rfl) (by kernel_rfl) (by kernel_rfl) (fun _ _ _ h => h) (by rfl) (v := ?v12) ?hy12 hHeld ?rest12
          case hy12 => (intro v hSw; skip; first | (go_simp; done) | (go_simp; with_reducible rfl))
          try simp only [Act.put, List.setIfInBounds_toArray, List.set_cons_zero, List.set_cons_succ]
          refine rgnTake 3 rfl (by kernel_rfl) (by kernel_rfl) (by kernel_rfl) (fun _ _ _ h => h) (by rfl) (v := ?v13) ?hy13 hHeld ?rest13
          case hy13 => (intro v hSw; skip; first | (go_simp; done) | (go_simp; with_reducible rfl))
          try simp only [Act.put, List.setIfInBounds_toArray, List.set_cons_zero, List.set_cons_succ]
          refine rgnTake 4 rfl (by kernel_rfl) (by kernel_rfl) (by kernel_rfl) (fun _ _ _ h => h) (by rfl) (v := ?v14) ?hy14 hHeld ?rest14
          case hy14 => (intro v hSw; skip; first | (go_simp; done) | (go_simp; with_reducible rfl))
          try simp only [Act.put, List.setIfInBounds_toArray, List.set_cons_zero, List.set_cons_succ]
          refine rgnTake 6 rfl (by kernel_rfl) (by kernel_rfl) (by kernel_rfl) (fun _ _ _ h => h) (by rfl) (v := ?v15) ?hy15 hHeld ?rest15
          case hy15 => (intro v hSw; skip; first | (go_simp; done) | (go_simp; with_reducible rfl))
          try simp only [Act.put, List.setIfInBounds_toArray, List.set_cons_zero, List.set_cons_succ]
          refine rgnTake 7 rfl (by kernel_rfl) (by kernel_rfl) (by kernel_rfl) (fun _ _ _ h => h) (by rfl) (v := ?v16) ?hy16 hHeld ?rest16
          case hy16 => (intro v hSw; skip; first | (go_simp; done) | (go_simp; with_reducible rfl))
          try simp only [Act.put, List.setIfInBounds_toArray, List.set_cons_zero, List.set_cons_succ]
          refine rgnTake 8 rfl (by kernel_rfl) (by kernel_rfl) (by kernel_rfl) (fun _ _ _ h => h) (by rfl) (v := ?v17) ?hy17 hHeld ?rest17
          case hy17 => (intro v hSw; skip; first | (go_simp; done) | (go_simp; with_reducible rfl))
          try simp only [Act.put, List.setIfInBounds_toArray, List.set_cons_zero, List.set_cons_succ]
          refine rgnOne 5 rfl (by kernel_rfl) (fun K hK => ?_)
          go_simp
          refine (T1.out _ AD.out).mono ?_
          rintro e w5 ⟨rfl, hb5⟩
          have A5 := Lib.hid (AD.out.below hb5)
          have S5 := Lib.hid (SD.out.below hb5)
          have R5 := Lib.hid (RD.out.below hb5)
          have B5 := Lib.hid (below_then BD.out hb5)
          clear hb5
          refine hK.out _ _ (trivial) (fun hHeld => ?_)
          clear hK K
          try simp only [Act.put, List.setIfInBounds_toArray, List.set_cons_zero, List.set_cons_succ]
          refine rgnOne 9 rfl (by kernel_rfl) (fun K hK => ?_)
          go_simp
          refine (T2.out _ S5.out).mono ?_
          rintro e w6 ⟨rfl, hb6⟩
          have A6 := Lib.hid (A5.out.below hb6)
          have S6 := Lib.hid (S5.out.below hb6)
          have R6 := Lib.hid (R5.out.below hb6)
          have B6 := Lib.hid (below_then B5.out hb6)
          clear hb6
          refine hK.out _ _ (trivial) (fun hHeld => ?_)
          clear hK K
          try simp only [Act.put, List.setIfInBounds_toArray, List.set_cons_zero, List.set_cons_succ]
          refine rgnTake 10 rfl (by kernel_rfl) (by kernel_rfl) (by kernel_rfl) (fun _ _ _ h => h) (by rfl) (v := ?v18) ?hy18 hHeld ?rest18
          case hy18 => (intro v hSw; skip; first | (go_simp; done) | (go_simp; with_reducible rfl))
          try simp only [Act.put, List.setIfInBounds_toArray, List.set_cons_zero, List.set_cons_succ]
          refine rgnTake 11 rfl (by kernel_rfl) (by kernel_rfl) (by kernel_rfl) (fun _ _ _ h => h) (by rfl) (v := ?v19) ?hy19 hHeld ?rest19
          case hy19 => (intro v hSw; skip; first | (go_simp; done) | (go_simp; with_reducible rfl))
          try simp only [Act.put, List.setIfInBounds_toArray, List.set_cons_zero, List.set_cons_succ]
          refine wpAnyH_done (by kernel_rfl) ?_ _
          obtain ⟨b, o, rfl, hb, ci⟩ := XC2.out _ S6.out
          go_wp2_with fail
          refine (XA2.out _ A6.out).mono ?_
          rintro e w7 ⟨rfl, a7, k7⟩
          have R7 := Lib.hid (R6.out.keep k7 (show ¬ C = g from NG.out))
          have S7 := Lib.hid (S6.out.chg k7 (fun a e => NAg.out a e))
          have B7 := Lib.hid (B6.out.trans (k7.below (B := w.heap.size) (by intro k hk; have := WG.out; omega) B6.out.size))
          clear k7 hb
          go_wp2_with fail
          go_roundw
          case rel => exact ⟨i + 1, by omega, by go_num, a7, R7, S7, B7⟩
          case measure => simp [intOf]; omega
        · have nik : ((i : Int) == (K : Int)) = false := by simp; omega
          have nik2 : ¬ (i : Int) = (K : Int) := by omega
          go_wp2_with fail
          have A6 := Lib.hid (show AdrAt wr.drew g (F.take i) from AR.out.below ((Below.refl _ _).drew))
          have S6 := Lib.hid SR.out.drew
          have R6 := Lib.hid (RR.out.drewN 1)
          have B6 := Lib.hid BR.out.drew
          refine wp_region_held_drew (S := (fun _ => True)) (by kernel_rfl) (trivial) (fun hHeld => ?_)
          refine rgnTake 0 rfl (by kernel_rfl) (by kernel_rfl) (by kernel_rfl) (fun _ _ _ h => h) (by rfl) (v := ?v20) ?hy20 hHeld ?rest20
          case hy20 => (intro v hSw; skip; first | (go_simp; done) | (go_simp; with_reducible rfl))
          try simp only [Act.put, List.setIfInBounds_toArray, List.set_cons_zero, List.set_cons_succ]
          refine rgnTake 1 rfl (by kernel_rfl) (by kernel_rfl) (by kernel_rfl) (fun _ _ _ h => h) (by rfl) (v := ?v21) ?hy21 hHeld ?rest21
          case hy21 => (intro v hSw; skip; first | (go_simp; done) | (go_simp; with_reducible rfl))
          try simp only [Act.put, List.setIfInBounds_toArray, List.set_cons_zero, List.set_cons_succ]
          refine rgnTake 2 rfl (by kernel_rfl) (by kernel_rfl) (by kernel_rfl) (fun _ _ _ h => h) (by rfl) (v := ?v22) ?hy22 hHeld ?rest22
          case hy22 => (intro v hSw; skip; first | (go_simp; done) | (go_simp; with_reducible rfl))
          try simp only [Act.put, List.setIfInBounds_toArray, List.set_cons_zero, List.set_cons_succ]
          refine rgnTake 3 rfl (by kernel_rfl) (by kernel_rfl) (by kernel_rfl) (fun _ _ _ h => h) (by rfl) (v := ?v23) ?hy23 hHeld ?rest23
          case hy23 => (intro v hSw; skip; first | (go_simp; done) | (go_simp; with_reducible rfl))
          try simp only [Act.put, List.setIfInBounds_toArray, List.set_cons_zero, List.set_cons_succ]
          refine rgnSkip 4 rfl (by kernel_rfl) (by kernel_rfl) (by kernel_rfl) (fun _ _ _ h => h) (by rfl) hHeld ?_
          try simp only [Act.put, List.setIfInBounds_toArray, List.set_cons_zero, List.set_cons_succ]
          refine rgnSkip 5 rfl (by kernel_rfl) (by kernel_rfl) (by kernel_rfl) (fun _ _ _ h => h) (by rfl) hHeld ?_
          try simp only [Act.put, List.setIfInBounds_toArray, List.set_cons_zero, List.set_cons_succ]
          refine rgnSkip 6 rfl (by kernel_rfl) (by kernel_rfl) (by kernel_rfl) (fun _ _ _ h => h) (by rfl) hHeld ?_
          try simp only [Act.put, List.setIfInBounds_toArray, List.set_cons_zero, List.set_cons_succ]
          refine rgnSkip 7 rfl (by kernel_rfl) (by kernel_rfl) (by kernel_rfl) (fun _ _ _ h => h) (by rfl) hHeld ?_
          try simp only [Act.put, List.setIfInBounds_toArray, List.set_cons_zero, List.set_cons_succ]
          refine rgnSkip 8 rfl (by kernel_rfl) (by kernel_rfl) (by kernel_rfl) (fun _ _ _ h => h) (by rfl) hHeld ?_
          try simp only [Act.put, List.setIfInBounds_toArray, List.set_cons_zero, List.set_cons_succ]
          refine rgnSkip 9 rfl (by kernel_rfl) (by kernel_rfl) (by kernel_rfl) (fun _ _ _ h => h) (by rfl) hHeld ?_
          try simp only [Act.put, List.setIfInBounds_toArray, List.set_cons_zero, List.set_cons_succ]
          refine rgnSkip 10 rfl (by kernel_rfl) (by kernel_rfl) (by kernel_rfl) (fun _ _ _ h => h) (by rfl) hHeld ?_
          try simp only [Act.put, List.setIfInBounds_toArray, List.set_cons_zero, List.set_cons_succ]
          refine rgnTake 11 rfl (by kernel_rfl) (by kernel_rfl) (by kernel_rfl) (fun _ _ _ h => h) (by rfl) (v := ?v24) ?hy24 hHeld ?rest24
          case hy24 => (intro v hSw; skip; first | (go_simp; done) | (go_simp; with_reducible rfl))
          try simp only [Act.put, List.setIfInBounds_toArray, List.set_cons_zero, List.set_cons_succ]
          refine wpAnyH_done (by kernel_rfl) ?_ _
          obtain ⟨b, o, rfl, hb, ci⟩ := XC2.out _ S6.out
          go_wp2_with fail
          refine (XA2.out _ A6.out).mono ?_
          rintro e w7 ⟨rfl, a7, k7⟩
          have R7 := Lib.hid (R6.out.keep k7 (show ¬ C = g from NG.out))
          have S7 := Lib.hid (S6.out.chg k7 (fun a e => NAg.out a e))
          have B7 := Lib.hid (B6.out.trans (k7.below (B := w.heap.size) (by intro k hk; have := WG.out; omega) B6.out.size))
          clear k7 hb
          go_wp2_with fail
          go_roundw
          case rel => exact ⟨i + 1, by omega, by go_num, a7, R7, S7, B7⟩
          case measure => simp [intOf]; omega
      · skip
        have hin : i = n := by omega
        subst hin
        have AF := AR.out
        rw [TN.out] at AF
        have AFH := Lib.hid AF
        have T1 := Lib.hid (fun W ha => XT.out g W i ha)
        rw [TN.out, HT.out] at T1
        have CF := Lib.hid (fun W (r : RowAt W C [.int .i64 t0, .int .u64 t1, .int .u64 t2, .int .u64 t3, .int .u64 t4] 28) => show W.cell? ⟨C, 0, none⟩ = some (.int .i64 t0) ∧ W.cell? ⟨C, 1, none⟩ = some (.int .u64 t1) ∧ W.cell? ⟨C, 2, none⟩ = some (.int .u64 t2) ∧ W.cell? ⟨C, 3, none⟩ = some (.int .u64 t3) ∧ W.cell? ⟨C, 4, none⟩ = some (.int .u64 t4) from ⟨r.cell 0, r.cell 1, r.cell 2, r.cell 3, r.cell 4⟩)
        clear AF q hi
        go_wp2_with fail
        have BD := Lib.hid BR.out.drew
        have AD := Lib.hid (show AdrAt wr.drew g F from AFH.out.below ((Below.refl _ _).drew))
        have SD := Lib.hid SR.out.drew
        have RD := Lib.hid (RR.out.drewN 1)
        refine wp_region_held_drew (S := (fun W => W.cell? ⟨C, 0, none⟩ = some (.int .i64 t0) ∧ W.cell? ⟨C, 1, none⟩ = some (.int .u64 t1) ∧ W.cell? ⟨C, 2, none⟩ = some (.int .u64 t2) ∧ W.cell? ⟨C, 3, none⟩ = some (.int .u64 t3) ∧ W.cell? ⟨C, 4, none⟩ = some (.int .u64 t4))) (by kernel_rfl) (CF.out _ RD.out) (fun hHeld => ?_)
        refine rgnTake 0 rfl (by kernel_rfl) (by kernel_rfl) (by kernel_rfl) (fun _ _ _ h => h) (by rfl) (v := ?v25) ?hy25 hHeld ?rest25
        case hy25 => (intro v hSw; obtain ⟨x0, x1, x2, x3, x4⟩ := hSw; first | (go_simp; done) | (go_simp; with_reducible rfl))
        try simp only [Act.put, List.setIfInBounds_toArray, List.set_cons_zero, List.set_cons_succ]
        refine rgnTake 2 rfl (by kernel_rfl) (by kernel_rfl) (by kernel_rfl) (fun _ _ _ h => h) (by rfl) (v := ?v26) ?hy26 hHeld ?rest26
        case hy26 => (intro v hSw; obtain ⟨x0, x1, x2, x3, x4⟩ := hSw; first | (go_simp; done) | (go_simp; with_reducible rfl))
        try simp only [Act.put, List.setIfInBounds_toArray, List.set_cons_zero, List.set_cons_succ]
        refine rgnOne 1 rfl (by kernel_rfl) (fun K hK => ?_)
        go_simp
        refine (XO.out A' c' _ SD.out).mono ?_
        rintro e w5 ⟨rfl, hb5⟩
        have R5 := Lib.hid (RD.out.below hb5)
        have B5 := Lib.hid (below_then BD.out hb5)
        have A5 := Lib.hid (AD.out.below hb5)
        clear hb5
        refine hK.out _ _ (CF.out _ R5.out) (fun hHeld => ?_)
        clear hK K
        try simp only [Act.put, List.setIfInBounds_toArray, List.set_cons_zero, List.set_cons_succ]
        refine rgnTake 3 rfl (by kernel_rfl) (by kernel_rfl) (by kernel_rfl) (fun _ _ _ h => h) (by rfl) (v := ?v27) ?hy27 hHeld ?rest27
        case hy27 => (intro v hSw; obtain ⟨x0, x1, x2, x3, x4⟩ := hSw; first | (go_simp; done) | (go_simp; with_reducible rfl))
        try simp only [Act.put, List.setIfInBounds_toArray, List.set_cons_zero, List.set_cons_succ]
        refine rgnTake 4 rfl (by kernel_rfl) (by kernel_rfl) (by kernel_rfl) (fun _ _ _ h => h) (by rfl) (v := ?v28) ?hy28 hHeld ?rest28
        case hy28 => (intro v hSw; obtain ⟨x0, x1, x2, x3, x4⟩ := hSw; first | (go_simp; done) | (go_simp; with_reducible rfl))
        try simp only [Act.put, List.setIfInBounds_toArray, List.set_cons_zero, List.set_cons_succ]
        refine rgnTake 5 rfl (by kernel_rfl) (by kernel_rfl) (by kernel_rfl) (fun _ _ _ h => h) (by rfl) (v := ?v29) ?hy29 hHeld ?rest29
        case hy29 => (intro v hSw; obtain ⟨x0, x1, x2, x3, x4⟩ := hSw; first | (go_simp; done) | (go_simp; with_reducible rfl))
        try simp only [Act.put, List.setIfInBounds_toArray, List.set_cons_zero, List.set_cons_succ]
        refine rgnTake 7 rfl (by kernel_rfl) (by kernel_rfl) (by kernel_rfl) (fun _ _ _ h => h) (by rfl) (v := ?v30) ?hy30 hHeld ?rest30
        case hy30 => (intro v hSw; obtain ⟨x0, x1, x2, x3, x4⟩ := hSw; first | (go_simp; done) | (go_simp; with_reducible rfl))
        try simp only [Act.put, List.setIfInBounds_toArray, List.set_cons_zero, List.set_cons_succ]
        refine rgnOne 6 rfl (by kernel_rfl) (fun K hK => ?_)
        go_simp
        refine (T1.out _ A5.out).mono ?_
        rintro e w6 ⟨rfl, hb6⟩
        have R6 := Lib.hid (R5.out.below hb6)
        have B6 := Lib.hid (below_then B5.out hb6)
        clear hb6
        refine hK.out _ _ (CF.out _ R6.out) (fun hHeld => ?_)
        clear hK K
        try simp only [Act.put, List.setIfInBounds_toArray, List.set_cons_zero, List.set_cons_succ]
        refine rgnTake 8 rfl (by kernel_rfl) (by kernel_rfl) (by kernel_rfl) (fun _ _ _ h => h) (by rfl) (v := ?v31) ?hy31 hHeld ?rest31
        case hy31 => (intro v hSw; obtain ⟨x0, x1, x2, x3, x4⟩ := hSw; first | (go_simp; done) | (go_simp; with_reducible rfl))
        try simp only [Act.put, List.setIfInBounds_toArray, List.set_cons_zero, List.set_cons_succ]
        refine rgnTake 9 rfl (by kernel_rfl) (by kernel_rfl) (by kernel_rfl) (fun _ _ _ h => h) (by rfl) (v := ?v32) ?hy32 hHeld ?rest32
        case hy32 => (intro v hSw; obtain ⟨x0, x1, x2, x3, x4⟩ := hSw; first | (go_simp; done) | (go_simp; with_reducible rfl))
        try simp only [Act.put, List.setIfInBounds_toArray, List.set_cons_zero, List.set_cons_succ]
        refine rgnTake 10 rfl (by kernel_rfl) (by kernel_rfl) (by kernel_rfl) (fun _ _ _ h => h) (by rfl) (v := ?v33) ?hy33 hHeld ?rest33
        case hy33 => (intro v hSw; obtain ⟨x0, x1, x2, x3, x4⟩ := hSw; first | (go_simp; done) | (go_simp; with_reducible rfl))
        try simp only [Act.put, List.setIfInBounds_toArray, List.set_cons_zero, List.set_cons_succ]
        refine wpAnyH_done (by kernel_rfl) ?_ _
        go_wp2_with fail
        go_ret
        exact ⟨rfl, B6.out⟩

end Go.Proofs.Ytoljhoabbaigdaa.aggTells
