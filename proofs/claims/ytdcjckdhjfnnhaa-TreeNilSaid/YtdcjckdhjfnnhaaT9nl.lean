/- TreeNil: for every key and number the law returns true, and its arguments read behind the call as they read before. -/
import Derived.Test.YtdcjckdhjfnnhaaT9yn
import Derived.Test.YtdcjckdhjfnnhaaFr
import Derived.Lib.SmallJoins
import Derived.ChangeMaps5
namespace Go.Proofs.Ytdcjckdhjfnnhaa.treeNil
open Go.Proofs.Ytdcjckdhjfnnhaa Go.ChangeShapes Go.WideShapes Go.ChangeAt Go.RowKit
open Go.ChangeMaps (open_string shut_string)

set_option maxRecDepth 100000 in
theorem nilPut (w : World) (k : ByteArray) (n : Int) : Calls Try.prog 8 #[.pointer none, .string k, .int .i64 n] w fun x w' => x = .returned (.tuple #[.int .i64 0, .bool false, .int .i64 2]) ∧ w' = w := by
  go_enter Try.func8, Try.ntmps8
  go_wp2_with fail
  go_ret3
  exact ⟨rfl, rfl⟩
set_option maxRecDepth 100000 in
theorem nilGet (w : World) (k : ByteArray) : Calls Try.prog 17 #[.pointer none, .string k] w fun x w' => x = .returned (.tuple #[.int .i64 0, .bool false]) ∧ w' = w := by
  go_enter Try.func17, Try.ntmps17
  go_wp2_with fail
  go_ret2
  exact ⟨rfl, rfl⟩
set_option maxRecDepth 100000 in
theorem nilDel (w : World) (k : ByteArray) : Calls Try.prog 10 #[.pointer none, .string k] w fun x w' => x = .returned (.tuple #[.int .i64 0, .bool false]) ∧ w' = w := by
  go_enter Try.func10, Try.ntmps10
  go_wp2_with fail
  go_ret2
  exact ⟨rfl, rfl⟩
set_option maxRecDepth 100000 in
theorem nilBefore (w : World) (k : ByteArray) : Calls Try.prog 18 #[.pointer none, .string k] w fun x w' => x = .returned (.tuple #[.string ⟨#[]⟩, .int .i64 0, .bool false]) ∧ w' = w := by
  go_enter Try.func18, Try.ntmps18
  go_wp2_with fail
  go_ret3
  exact ⟨rfl, rfl⟩
set_option maxRecDepth 100000 in
theorem nilLen (w : World)  : Calls Try.prog 19 #[.pointer none] w fun x w' => x = .returned (.int .i64 0) ∧ w' = w := by
  go_enter Try.func19, Try.ntmps19
  go_wp2_with fail
  go_ret
  exact ⟨rfl, rfl⟩
set_option maxRecDepth 100000 in
theorem nilDepth (w : World)  : Calls Try.prog 20 #[.pointer none] w fun x w' => x = .returned (.int .i64 0) ∧ w' = w := by
  go_enter Try.func20, Try.ntmps20
  go_wp2_with fail
  go_ret
  exact ⟨rfl, rfl⟩
set_option maxRecDepth 100000 in
theorem nilNodes (w : World)  : Calls Try.prog 21 #[.pointer none] w fun x w' => x = .returned (.int .i64 0) ∧ w' = w := by
  go_enter Try.func21, Try.ntmps21
  go_wp2_with fail
  go_ret
  exact ⟨rfl, rfl⟩
set_option maxHeartbeats 4000000 in
set_option maxRecDepth 100000 in
theorem walk (k : ByteArray) (n : Int) (w : World) :
    Calls Try.prog 5 #[.string k, .int .i64 n] w fun r w' => r = .returned (.bool true) ∧ Below w.heap.size w w' := by
  have AW := Lib.hid (xAwake w)
  have SC := Lib.hid (show ∀ W : World, Calls Try.prog 15 #[.pointer none, .string k] W (fun e w' => e = .returned (.tuple #[.string ⟨#[]⟩, .int .i64 0, .bool false]) ∧ Below W.heap.size W w') from fun W => xSeekI W none k [] (iterNil W k))
  have FC := Lib.hid (show ∀ W : World, Calls Try.prog 16 #[.pointer none, .string k] W (fun e w' => e = .returned (.tuple #[.string ⟨#[]⟩, .int .i64 0, .bool false]) ∧ Below W.heap.size W w') from fun W => xAfterI W none k [] (iterNil W k))
  have KC := Lib.hid (fun W => xKeysNil W k n)
  go_enter Try.func5, Try.ntmps5
  go_wp2_with (first | (go_at_call 6; refine AW.out.mono ?_; rintro r w1 ⟨rfl, hb⟩; have B1 := Lib.hid hb; clear hb) | (go_at_call 8; refine (nilPut _ k n).mono ?_; rintro r w2 ⟨rfl, h2⟩; subst h2) | (go_at_call 17; refine (nilGet _ k).mono ?_; rintro r w3 ⟨rfl, h3⟩; subst h3) | (go_at_call 10; refine (nilDel _ k).mono ?_; rintro r w4 ⟨rfl, h4⟩; subst h4) | (go_at_call 15; refine (SC.out _).mono ?_; rintro r w5 ⟨rfl, hb⟩; have B5 := Lib.hid (Below.then2 B1.out hb B1.out.size); clear hb) | (go_at_call 16; refine (FC.out _).mono ?_; rintro r w6 ⟨rfl, hb⟩; have B6 := Lib.hid (Below.then2 B5.out hb B5.out.size); clear hb) | (go_at_call 18; refine (nilBefore _ k).mono ?_; rintro r w7 ⟨rfl, h7⟩; subst h7) | (go_at_call 19; refine (nilLen _).mono ?_; rintro r w8 ⟨rfl, h8⟩; subst h8) | (go_at_call 13; refine (KC.out _).mono ?_; rintro r w9 ⟨rfl, hb⟩; have B9 := Lib.hid (Below.then2 B6.out hb B6.out.size); clear hb) | (go_at_call 20; refine (nilDepth _).mono ?_; rintro r w10 ⟨rfl, h10⟩; subst h10) | (go_at_call 21; refine (nilNodes _).mono ?_; rintro r w11 ⟨rfl, h11⟩; subst h11))
  go_ret
  exact ⟨rfl, B9.out⟩

set_option maxRecDepth 100000 in
theorem lifted (os : Os) (started : os.Started) (H : Type) (enc : TypeId × Value → H) :
    ReturnsInHanded {} Try.checked os 5 .any (Rows.treeNilSpec.pre6 enc Try.prog Try.f5 Rows.treeNilRow.domain false) (Rows.treeNilSpec.post enc Try.prog Try.f5 false true false false) := by
  refine returnsInHanded_of_change (C := Try.checked) own started (by kernel_rfl) Try.func5
    (ChangeSpec.witness6 (enc := enc) (C := Try.checked) false ⟨#[], #[.string ⟨#[]⟩, .int .i64 0], []⟩ 8 (by kernel_rfl) (by kernel_rfl) (by kernel_rfl) (by kernel_rfl)) ?_
  intro W base args ds gs before hval0 hW hcnd _
  have hval : ∀ (j : Nat) t v, Try.f5.params[j]? = some t → args[j]? = some v → Value.okWide Try.prog W .any base t v := hval0
  have hW' := hW
  obtain ⟨p, q, hA0, hV, rfl, hfz, hnd⟩ := hW
  have hA : DataW.TrodAll enc Try.prog W 0 (fun _ => true) true Try.f5.params.toList args.toList ds p := hA0
  rw [Try.params5] at hA hval
  obtain ⟨v0, vs0, d0, ds0, p0, q0, hargs0, rfl, rfl, h0, r0⟩ := trodAll_cons hA
  obtain ⟨v1, vs1, d1, ds1, p1, q1, hargs1, rfl, rfl, h1, r1⟩ := trodAll_cons r0
  obtain ⟨rfl, rfl, rfl⟩ := trodAll_nil r1
  obtain rfl : args = #[v0, v1] := by cases args; simp_all
  obtain ⟨rfl, rfl⟩ := trodVars_none hV
  obtain ⟨x0, rfl, rfl, rfl, w0⟩ := open_string Try.underlying9 (hval 0 9 v0 rfl rfl) h0
  obtain ⟨x1, rfl, rfl, rfl, w1⟩ := open_int Try.underlying3 (hval 1 3 v1 rfl rfl) h1
  clear hA0 hval0
  simp only [List.append_nil] at hW'
  refine (walk x0 x1 W).mono fun e W' ⟨he, hg⟩ => ?_
  subst he
  refine ⟨_, rfl, [.lit (.string x0.data.toList), .lit (.int .i64 x1)], [], [], [], [] ++ ([] ++ []), [], hW', ?_, ?_, ?_, hg.frame _, fun h => by cases h⟩
  · exact trodAll_cons_mk (shut_bool Try.underlying4 _) trodAll_mk0
  · exact (trodAll_cons_mk (shut_string Try.underlying9 w0) (trodAll_cons_mk (shut_int Try.underlying3 w1) trodAll_mk0))
  · rfl

theorem over : Rows.treeNilRow.holds Try.pinned (OpenSpec.ofChange Rows.treeNilSpec) :=
  OpenClaim.holds_of_wide 5 Try.f5 rfl rfl rfl rfl rfl rfl rfl ⟨rfl, rfl, rfl, rfl, rfl⟩ rfl rfl rfl rfl rfl (by kernel_rfl) Try.func5 (by kernel_rfl)
    (of_decide_eq_true (by kernel_rfl)) (by unfold Func.isWrapper; first | (rw [if_pos (by decide +kernel)]; kernel_rfl) | (rw [if_neg (by decide +kernel)]; exact ⟨rfl, rfl⟩))
    (fun os started H enc _ => lifted os started H enc)

/-- ████ THE STATEMENT ████ -/
theorem proved : Rows.TreeNilSaid :=
  over
#print axioms proved


end Go.Proofs.Ytdcjckdhjfnnhaa.treeNil
