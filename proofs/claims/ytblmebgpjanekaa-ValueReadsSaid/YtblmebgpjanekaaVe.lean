/- ValueReads: for any bytes the law returns true, and its argument reads behind the call as it read before. -/
import Derived.Test.YtblmebgpjanekaaVo
import Derived.Test.YtblmebgpjanekaaVw
import Derived.Test.YtblmebgpjanekaaVu
import Derived.Deep.RegionHeld3
import Derived.ChangeMaps5
namespace Go.Proofs.Ytblmebgpjanekaa.valueReads
open Go.Proofs.Ytblmebgpjanekaa Go.ChangeShapes Go.WideShapes Go.ChangeAt Go.RowKit
open Go.ChangeMaps (open_string shut_string)

set_option maxRecDepth 100000 in
set_option maxHeartbeats 2000000 in
theorem walk (hv : ValueAt) (s : ByteArray) (w : World) (hm : s.size ≤ maxLen) :
    Calls Try.prog 4 #[.string s] w fun e w' => e = .returned (.bool true) ∧ Below w.heap.size w w' := by
  unfold maxLen at hm
  have AW := Lib.hid (awake4 hv)
  have HV := Lib.hid hv
  clear hv
  by_cases h300 : 300 < s.size
  · go_enter Try.func4, Try.ntmps4
    go_wp2_with fail
    refine (AW.out _).mono ?_
    rintro e w1 ⟨rfl, hb1⟩
    have B1 := Lib.hid hb1
    clear hb1
    go_wp2_with fail
    go_ret
    exact ⟨rfl, B1.out⟩
  obtain ⟨y, hy⟩ : ∃ y, y = (Val.un s).2 := ⟨_, rfl⟩
  obtain ⟨c, hc⟩ : ∃ c, c = (Val.un s).1 := ⟨_, rfl⟩
  obtain ⟨n, t, b⟩ := y
  have UP := Lib.hid (show ∀ w, Calls Try.prog 12 #[.string s] w fun e w' => e = .returned (.tuple #[.agg #[.bool n, .string t, .int .u64 (b : Int)], .int .i64 c]) ∧ Below w.heap.size w w' from fun w => by
    have h := HV.out.unpack s w (by omega)
    rw [← hy, ← hc] at h; exact h)
  have RU := Lib.hid (show ∀ w, Calls Try.prog 14 #[.string s] w fun e w' => e = .returned (.tuple #[.agg #[.bool n, .string t, .int .u64 (b : Int)], .int .i64 c]) ∧ Below w.heap.size w w' from fun w => by
    have h := vrUnpack s w (by omega)
    rw [← hy, ← hc] at h; exact h)
  have TT := str_eq (rfl : t = t)
  have TC : (c != c) = false := by simp
  by_cases c0 : c = 0
  · obtain ⟨hok, hpk, hbb⟩ := Val.pack_un s (by rw [← hc]; exact c0)
    rw [← hy] at hok hpk hbb
    have tz : t.size ≤ 64 := by
      cases hn : n with
      | true => have := (Val.num_of hok hn).1; injection this with _ h2 _; rw [h2]; decide
      | false => exact (Val.txt_of hok hn).2
    have PK := Lib.hid (show ∀ w, Calls Try.prog 8 #[.agg #[.bool n, .string t, .int .u64 (b : Int)]] w fun e w' => e = .returned (.tuple #[.string s, .int .i64 0]) ∧ Below w.heap.size w w' from fun w => by
      have h := HV.out.pack ⟨n, t, b⟩ w ⟨hbb, by show t.size ≤ maxLen; unfold maxLen; omega⟩ (by show t.size ≤ 1000; omega)
      rw [hok, hpk] at h; exact h)
    have TS := str_eq (rfl : s = s)
    subst c0
    clear hok hpk hbb hy hc tz
    go_enter Try.func4, Try.ntmps4
    go_wp2_with fail
    refine (AW.out _).mono ?_
    rintro e w1 ⟨rfl, hb1⟩
    have B1 := Lib.hid hb1
    clear hb1
    go_wp2_with fail
    refine (UP.out _).mono ?_
    rintro e w2 ⟨rfl, hb2⟩
    have B2 := Lib.hid (below_then B1.out hb2)
    clear hb2
    go_wp2_with fail
    refine (RU.out _).mono ?_
    rintro e w3 ⟨rfl, hb3⟩
    have X3 := Lib.hid ((BoxV.new w2 n t b 24).below hb3)
    obtain ⟨a0, a1, a2⟩ := X3.out
    have B3 := Lib.hid (below_then (B2.out.alloc B2.out.size _) hb3)
    have a3 := World.block_lt_of_cell? w3 _ a0
    clear hb3
    go_wp2_with fail
    refine (PK.out _).mono ?_
    rintro e w4 ⟨rfl, hb4⟩
    have B4 := Lib.hid (below_then (B3.out.alloc B3.out.size _) hb4)
    clear hb4
    go_wp2_with fail
    go_ret
    exact ⟨by first | rfl | simp, B4.out⟩
  · have TC0 : (c != 0) = true := by simp [c0]
    clear hy hc c0
    go_enter Try.func4, Try.ntmps4
    go_wp2_with fail
    refine (AW.out _).mono ?_
    rintro e w1 ⟨rfl, hb1⟩
    have B1 := Lib.hid hb1
    clear hb1
    go_wp2_with fail
    refine (UP.out _).mono ?_
    rintro e w2 ⟨rfl, hb2⟩
    have B2 := Lib.hid (below_then B1.out hb2)
    clear hb2
    go_wp2_with fail
    refine (RU.out _).mono ?_
    rintro e w3 ⟨rfl, hb3⟩
    have X3 := Lib.hid ((BoxV.new w2 n t b 24).below hb3)
    obtain ⟨a0, a1, a2⟩ := X3.out
    have a3 := World.block_lt_of_cell? w3 _ a0
    have B3 := Lib.hid (below_then (B2.out.alloc B2.out.size _) hb3)
    clear hb3
    go_wp2_with fail
    go_ret
    exact ⟨by first | rfl | simp, B3.out.alloc B3.out.size _⟩

set_option maxRecDepth 100000 in
theorem lifted (hv : ValueAt) (os : Os) (started : os.Started) (H : Type) (enc : TypeId × Value → H) :
    ReturnsInHanded {} Try.checked os 4 .any (Rows.valueReadsSpec.pre6 enc Try.prog Try.f4 Rows.valueReadsRow.domain false) (Rows.valueReadsSpec.post enc Try.prog Try.f4 false true false false) := by
  refine returnsInHanded_of_change (C := Try.checked) own started (by kernel_rfl) Try.func4
    (ChangeSpec.witness6 (enc := enc) (C := Try.checked) false ⟨#[], #[.string ⟨#[]⟩], []⟩ 8 (by kernel_rfl) (by kernel_rfl) (by kernel_rfl) (by kernel_rfl)) ?_
  intro W base args ds gs before hval0 hW hcnd _
  have hval : ∀ (j : Nat) t v, Try.f4.params[j]? = some t → args[j]? = some v → Value.okWide Try.prog W .any base t v := hval0
  have hW' := hW
  obtain ⟨p, q, hA0, hV, rfl, hfz, hnd⟩ := hW
  have hA : DataW.TrodAll enc Try.prog W 0 (fun _ => true) true Try.f4.params.toList args.toList ds p := hA0
  rw [Try.params4] at hA hval
  obtain ⟨v0, vs0, d0, ds0, p0, q0, hargs, rfl, rfl, h0, r0⟩ := trodAll_cons hA
  obtain ⟨rfl, rfl, rfl⟩ := trodAll_nil r0
  obtain rfl : args = #[v0] := by cases args; simp_all
  obtain ⟨rfl, rfl⟩ := trodVars_none hV
  obtain ⟨s, rfl, rfl, rfl, w1⟩ := open_string Try.underlying9 (hval 0 9 v0 rfl rfl) h0
  clear hA0 hval0
  simp only [List.append_nil] at hW'
  refine (walk hv s W w1).mono fun e W' ⟨he, hg⟩ => ?_
  subst he
  refine ⟨_, rfl, [.lit (.string s.data.toList)], [], [], [], [] ++ [], [], hW', ?_, ?_, ?_, hg.frame _, fun h => by cases h⟩
  · exact trodAll_cons_mk (shut_bool Try.underlying4 _) trodAll_mk0
  · exact trodAll_cons_mk (shut_string Try.underlying9 w1) trodAll_mk0
  · rfl

theorem over (hv : ValueAt) : Rows.valueReadsRow.holds Try.pinned (OpenSpec.ofChange Rows.valueReadsSpec) :=
  OpenClaim.holds_of_wide 4 Try.f4 rfl rfl rfl rfl rfl rfl rfl ⟨rfl, rfl, rfl, rfl, rfl⟩ rfl rfl rfl rfl rfl (by kernel_rfl) Try.func4 (by kernel_rfl)
    (of_decide_eq_true (by kernel_rfl)) (by unfold Func.isWrapper; first | (rw [if_pos (by decide +kernel)]; kernel_rfl) | (rw [if_neg (by decide +kernel)]; exact ⟨rfl, rfl⟩))
    (fun os started H enc _ => lifted hv os started H enc)

/-- ████ THE STATEMENT ████ -/
theorem proved : Rows.ValueReadsSaid :=
  over valueAt
#print axioms proved

end Go.Proofs.Ytblmebgpjanekaa.valueReads
