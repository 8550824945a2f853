/- Proved parts: D2r. Conditions: each theorem's own. -/
import Derived.Test.YtnbkekbgedioeaaM18
import Derived.Test.YtnbkekbgedioeaaM21
namespace Go.Proofs.Ytnbkekbgedioeaa
open Go.RowKit

section
variable {w0 w w' : World} {N : Nat → Prop} {b : Nat} {v vm : Value} {vs : List Value} {m : Ws} {os : List Ob}
set_option maxRecDepth 100000 in
/-- Put -/
theorem xPutW2 (k : ByteArray) (y : Val) (h : Side w0 N w (sOs TS b v vm vs m)) (ok : m.Ok) (hf : y.Fits) :
    Calls Try.prog 22 #[PtrW b, .string k, y.v] w fun e w' =>
      e = .returned (.int .i64 (m.L.wE ⟨k, false, y⟩)) ∧ (m.wr ⟨k, false, y⟩).Ok ∧ ∃ v' vm' vs', Side w0 N w' (sOs TS b v' vm' vs' (m.wr ⟨k, false, y⟩)) := by
  have h1 := h.below (w' := w.alloc (.cells #[.bool y.num, .string y.txt, .int .u64 (y.bits : Int)] 34)) ((Below.refl _ _).alloc (Nat.le_refl _) _)
  have KW := Lib.hid (xWriteW ⟨k, false, y⟩ h1 ok hf)
  have R1 := Lib.hid (RowAt.new w [.bool y.num, .string y.txt, .int .u64 (y.bits : Int)] 34)
  obtain ⟨mm, t, u⟩ := y
  clear h h1 ok hf
  show Calls Try.prog 22 #[PtrW b, .string k, .agg #[.bool mm, .string t, .int .u64 (u : Int)]] w _
  go_enter Try.func22, Try.ntmps22
  go_wp2_with fail
  refine KW.out.mono ?_
  rintro e w1 ⟨rfl, ho, hs⟩
  have HO := Lib.hid ho
  have HS := Lib.hid hs
  clear ho hs KW
  go_wp2_with fail
  go_ret
  exact ⟨rfl, HO.out, HS.out⟩
set_option maxRecDepth 100000 in
/-- Del -/
theorem xDelW2 (k : ByteArray) (h : Side w0 N w (sOs TS b v vm vs m)) (ok : m.Ok) :
    Calls Try.prog 23 #[PtrW b, .string k] w fun e w' =>
      e = .returned (.int .i64 (m.L.wE ⟨k, true, Val.V0⟩)) ∧ (m.wr ⟨k, true, Val.V0⟩).Ok ∧ ∃ v' vm' vs', Side w0 N w' (sOs TS b v' vm' vs' (m.wr ⟨k, true, Val.V0⟩)) := by
  have hv : Val.V0.Fits := ⟨by decide, by decide⟩
  have KW := Lib.hid (xWriteW ⟨k, true, Val.V0⟩ h ok hv)
  have KW : Hid (Calls Try.prog 32 #[PtrW b, .agg #[.string k, .bool true, .bool false, .string ⟨#[]⟩, .int .u64 0]] w _) := KW
  clear h ok hv
  go_enter Try.func23, Try.ntmps23
  go_wp2_with fail
  refine KW.out.mono ?_
  rintro e w1 ⟨rfl, ho, hs⟩
  have HO := Lib.hid ho
  have HS := Lib.hid hs
  clear ho hs KW
  go_wp2_with fail
  go_ret
  exact ⟨rfl, HO.out, HS.out⟩
end
set_option maxRecDepth 100000 in
/-- New -/
theorem xNewW (w : World) : Calls Try.prog 8 #[] w fun e w' => ∃ b F, e = .returned (PtrW b) ∧ SetAt TS w' b F Ws.new ∧ (∀ k, F k → w.heap.size ≤ k) ∧ Below w.heap.size w w' := by
  have h := (Side.nil w).rowNew [.slice none 0 0, .slice none 0 0] TS
  have h2 := h.more (o := oWr (.slice none 0 0) []) (F' := fun _ => False) (Below.refl _ _) ⟨.inl ⟨rfl, rfl⟩, fun k => ⟨fun e => e.elim, fun e => by cases e⟩⟩ fun k e => e.elim
  have h3 := h2.more (o := oVec 27 (.slice none 0 0) []) (F' := fun _ => False) (Below.refl _ _) ⟨⟨rfl, .inl ⟨rfl, rfl⟩⟩, fun k => ⟨fun e => e.elim, fun e => by cases e⟩⟩ fun k e => e.elim
  have h4 := h3.more (o := oMk [] []) (F' := fun _ => False) (Below.refl _ _) ⟨rfl, fun i hi => (by cases hi), fun k e => e.elim⟩ fun k e => e.elim
  have h5 : Side w (fun k => k < w.heap.size) (w.alloc (.cells #[.slice none 0 0, .slice none 0 0] TS)) (sOs TS w.heap.size (.slice none 0 0) (.slice none 0 0) [] Ws.new) := h4
  obtain ⟨hb, F, hF, hk⟩ := h5.allNew
  have H := Lib.hid (show SetAt TS (w.alloc (.cells #[.slice none 0 0, .slice none 0 0] TS)) w.heap.size F Ws.new from ⟨Ws.ok_new, _, _, _, hF⟩)
  have HB := Lib.hid hb
  have HK := Lib.hid hk
  clear h h2 h3 h4 h5 hb hF hk
  go_enter Try.func8, Try.ntmps8
  go_wp2_with fail
  go_ret
  exact ⟨w.heap.size, F, rfl, H.out, HK.out, HB.out⟩
set_option maxRecDepth 100000 in
set_option maxHeartbeats 4000000 in
/-- slices.Clone of writes -/
theorem xCloneW (v : Value) (l : Wl) (w : World) (h : NodeAtW w v l) (hl : l.length ≤ 1000) :
    Calls Try.prog 30 #[v] w fun e w' => ∃ v', e = .returned v' ∧ NodeAtW w' v' l ∧ (∀ k, v'.ownBlock = some k → w.heap.size ≤ k) ∧ Below w.heap.size w w' := by
  have hh := h
  rcases hh with ⟨rfl, rfl⟩ | ⟨b, o, c, rfl, q⟩
  · have RUN := fun w' : World => Lib.run_eql_slice_nil (P := Try.prog) w' 27 42 none 0 0 0 0 Try.underlying27
    simp only [Option.isNone_none] at RUN
    have BM := Lib.hid (Below.refl w.heap.size w)
    clear h
    go_enter Try.func30, Try.ntmps30
    go_wp2_with fail
    go_ret
    exact ⟨_, rfl, .inl ⟨rfl, rfl⟩, fun k e => (by cases e), BM.out⟩
  · have RUN := fun w' : World => Lib.run_eql_slice_nil (P := Try.prog) w' 27 42 (some ⟨b, o, none⟩) l.length c 0 0 Try.underlying27
    simp only [Option.isNone_some] at RUN
    have b0 : Below w.heap.size w (w.alloc (.cells #[] 42)) := (Below.refl _ _).alloc (Nat.le_refl _) _
    obtain ⟨v', w', hr, k1, k2, k3⟩ := app_row 27 27 Try.underlying27 (NodeAtW.made w) (h.below b0) (by rw [List.length_nil]; omega)
    rw [List.nil_append] at k1
    have hb2 : Below w.heap.size w w' := b0.trans (k2.below_of (B := w.heap.size) (fun k e => Nat.le_of_eq (Option.some.inj e)) b0.size)
    have K1 := Lib.hid k1
    have K3 := Lib.hid (show ∀ k, v'.ownBlock = some k → w.heap.size ≤ k from fun k e => by
      rcases k3 k e with z | z
      · exact Nat.le_of_eq (Option.some.inj z)
      · have := b0.size; omega)
    have HB := Lib.hid hb2
    have HR := Lib.hid hr
    obtain ⟨n, hn⟩ : ∃ n, n = l.length := ⟨_, rfl⟩
    rw [← hn] at RUN HR ⊢
    clear h q b0 hr k1 k2 k3 hb2 hn hl
    go_enter Try.func30, Try.ntmps30
    go_wp2_with (at_builtin; refine Lib.wpList_append_run _ rfl (.tmp 5) (.tmp 6) 27 27 rfl _ _ rfl rfl _ _ HR.out ?_)
    go_ret
    exact ⟨_, rfl, K1.out, K3.out, HB.out⟩

set_option maxRecDepth 100000 in
set_option maxHeartbeats 4000000 in
/-- All -/
theorem xAllW (L : Wl) (b : Nat) (v vm : Value) (w : World) (hr : SetRow w b v vm) (hn : NodeAtW w v L) (ho : OkWl L) :
    Calls Try.prog 12 #[PtrW b] w fun e w' => ∃ v', e = .returned v' ∧ NodeAtW w' v' L ∧ (∀ k, v'.ownBlock = some k → w.heap.size ≤ k) ∧ Below w.heap.size w w' := by
  obtain ⟨A, c, rfl, hs, _⟩ := hn.sl
  have hl := ho.len
  obtain ⟨n, hn2⟩ : ∃ n, n = L.length := ⟨_, rfl⟩
  rw [← hn2] at hr hl
  have LN := Lib.hid (xLenW b A n c vm w hr)
  have HR := Lib.hid (fun W (hb : Below w.heap.size w W) => show W.cell? ⟨b, 0, none⟩ = some (.slice A n c) from by
    have := (RowAt.below hr hb).cell 0; simpa using this)
  have HS := Lib.hid hs
  have HO := Lib.hid ho
  have HN := Lib.hid hn2
  clear hr hn ho hs hn2
  go_enter Try.func12, Try.ntmps12
  go_wp2_with fail
  refine LN.out.mono ?_
  rintro e w1 ⟨rfl, rfl⟩
  go_wp2_with fail
  go_loopw [3, 7] (fun vl vi wr => ∃ i : Nat, i ≤ n ∧ vi = .int .i64 i ∧ Hid (NodeAtW wr vl (L.take i) ∧ ∀ k, vl.ownBlock = some k → w1.heap.size ≤ k) ∧ Hid (Below w1.heap.size w1 wr)) (fun _ vi _ => n - (intOf vi).toNat)
  case atStart => exact ⟨0, Nat.zero_le _, rfl, Lib.hid ⟨.inl ⟨rfl, rfl⟩, fun k e => by cases e⟩, Lib.hid (Below.refl _ _)⟩
  case round =>
    obtain ⟨i, hi, rfl, HV, HB⟩ := hrel
    by_cases q : i < n
    · have hil : i < L.length := by rw [← HN.out]; exact q
      obtain ⟨bb, o, rfl, hb, c0, c1, c2, c3, c4⟩ := (HS.out.below HB.out).at hil
      obtain ⟨k1, k2⟩ := HO.out.at hil
      have r0 := HR.out _ HB.out
      have ET := Lib.hid (Wl.take_one L hil)
      obtain ⟨x, hx⟩ : ∃ x, x = L.getD i Wr.Z := ⟨_, rfl⟩
      rw [← hx] at c0 c1 c2 c3 c4 k1 k2 ET
      have FR := Lib.hid (xFreshW x wr (by omega) (by omega))
      have i0 : (0 : Int) ≤ (i : Int) := by omega
      have i1 : (i : Int) < (n : Int) := by omega
      have AP := Lib.hid (fun W v (hv : NodeAtW W v (L.take i)) g (hg : RowAt W g x.cs 42) => app_row 27 27 Try.underlying27 hv (NodeAtW.one hg) (by rw [List.length_take, List.length_singleton]; omega))
      rw [← ET.out] at AP
      clear hx hb k1 k2 hil
      go_wp2_with fail
      refine FR.out.mono ?_
      rintro e w2 ⟨rfl, hb2⟩
      have B2 := Lib.hid (below_then HB.out hb2)
      have b3 : Below w2.heap.size w2 (w2.alloc (.cells x.cs.toArray 42)) := (Below.refl _ _).alloc (Nat.le_refl _) _
      obtain ⟨v', w', hrun, p1, p2, p3⟩ := AP.out _ _ ((HV.out.1.below hb2).below b3) _ (RowAt.new w2 x.cs 42)
      have HRN := Lib.hid hrun
      have HV2 := Lib.hid (show NodeAtW w' v' (L.take (i + 1)) ∧ ∀ k, v'.ownBlock = some k → w1.heap.size ≤ k from ⟨p1, fun k e => by
        rcases p3 k e with z | z
        · exact HV.out.2 k z
        · have := B2.out.size; have := b3.size; omega⟩)
      have HB2 := Lib.hid (show Below w1.heap.size w1 w' from (below_then B2.out b3).trans (p2.below_of (fun k e => HV.out.2 k e) (by have := B2.out.size; have := b3.size; omega)))
      clear hb2 b3 hrun p1 p2 p3 c0 c1 c2 c3 c4 r0
      go_wp2_with (at_builtin; refine Lib.wpList_append_run _ rfl (.tmp 10) (.tmp 19) 27 27 rfl _ _ rfl rfl _ _ HRN.out ?_)
      go_roundw
      case rel => exact ⟨i + 1, by omega, by go_num, HV2, HB2⟩
      case measure => simp [intOf]; omega
    · obtain rfl : i = n := by omega
      have hv := HV.out
      rw [HN.out, List.take_length] at hv
      have HV3 := Lib.hid hv
      clear hv HV
      go_wp2_with fail
      go_ret
      exact ⟨_, rfl, HV3.out.1, HV3.out.2, HB.out⟩

end Go.Proofs.Ytnbkekbgedioeaa
