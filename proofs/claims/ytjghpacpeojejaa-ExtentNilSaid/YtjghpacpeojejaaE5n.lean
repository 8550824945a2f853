/- ExtentNil: for every act the law returns true, and its argument reads behind the call as it read before: given what the program's extent does. -/
import Derived.Test.YtjghpacpeojejaaE5i
import Derived.Lib.SmallJoins
import Derived.ChangeMaps5
namespace Go.Proofs.Ytjghpacpeojejaa.extentNil
open Go.Proofs.Ytjghpacpeojejaa Go.Joins Go.ChangeShapes Go.WideShapes Go.ChangeAt Go.RowKit Go.Deep
open Go.ChangeMaps (open_string shut_string)

section
variable {H : Type} {enc : TypeId × Value → H} {P : Program} {w : World} {base : Nat} {spare : Nat → Bool} {held : Bool}
/-- a struct of five fields, by value -/
theorem agg5 {r : Reach} {b0 : Nat} {t : TypeId} {f0 f1 f2 f3 f4 : Field} {v : Value} {d : DataW H} {p : List MemPlace} (hs : P.underlying t = some (.struct #[f0, f1, f2, f3, f4])) (hone : oneCellFields P #[f0, f1, f2, f3, f4] = true) (hC : P.cellsOf t = 5)
    (hv : Value.okWide P w r b0 t v) (h : DataW.Trod enc P w base spare held t v d p) :
    ∃ (v0 v1 v2 v3 v4 : Value) (y0 y1 y2 y3 y4 : DataW H × List MemPlace) (n : Nat), v = .agg #[v0, v1, v2, v3, v4] ∧ p = y0.2 ++ (y1.2 ++ (y2.2 ++ (y3.2 ++ y4.2))) ∧
      DataW.trod enc P w base spare held n f0.type [v0] = some y0 ∧ DataW.trod enc P w base spare held n f1.type [v1] = some y1 ∧ DataW.trod enc P w base spare held n f2.type [v2] = some y2 ∧ DataW.trod enc P w base spare held n f3.type [v3] = some y3 ∧ DataW.trod enc P w base spare held n f4.type [v4] = some y4 := by
  obtain ⟨cs, rfl, hsz⟩ := okWide_struct hs hv
  obtain ⟨l⟩ := cs
  obtain ⟨c0, c1, c2, c3, c4, rfl⟩ := five_of (show l.length = 5 from hsz.trans hC)
  obtain ⟨fuel, hf⟩ := h
  obtain ⟨xs, n, _, hx, _, hlen, hg⟩ := DataW.trod_struct hs hf
  obtain ⟨o0, k0⟩ := hone_of hone 0 f0 rfl
  obtain ⟨o1, k1⟩ := hone_of hone 1 f1 rfl
  obtain ⟨o2, k2⟩ := hone_of hone 2 f2 rfl
  obtain ⟨o3, k3⟩ := hone_of hone 3 f3 rfl
  obtain ⟨o4, k4⟩ := hone_of hone 4 f4 rfl
  obtain ⟨y0, y1, y2, y3, y4, rfl⟩ := five_of (show xs.length = 5 from hlen)
  simp only [Prod.mk.injEq] at hx
  exact ⟨c0, c1, c2, c3, c4, y0, y1, y2, y3, y4, n, rfl, by simpa using hx.2, by simpa [Value.cells, o0, k0] using hg 0 f0 rfl, by simpa [Value.cells, o1, k1] using hg 1 f1 rfl, by simpa [Value.cells, o2, k2] using hg 2 f2 rfl, by simpa [Value.cells, o3, k3] using hg 3 f3 rfl, by simpa [Value.cells, o4, k4] using hg 4 f4 rfl⟩
end

set_option maxRecDepth 100000 in
/-- an act that came in by value -/
theorem open_act {H : Type} {enc : TypeId × Value → H} {W : World} {base : Nat} {v : Value} {d : DataW H} {p : List MemPlace} (hval : Value.okWide Try.prog W .any base 33 v)
    (h : DataW.Trod enc Try.prog W 0 (fun _ => true) true 33 v d p) : ∃ (x : Act5) (A : Option Addr) (c : Nat), v = x.v A c ∧ x.Ok := by
  obtain ⟨v0, v1, v2, v3, v4, y0, y1, y2, y3, y4, n, rfl, _, f0, f1, f2, f3, f4⟩ := agg5 Try.underlying33 (by kernel_rfl) (by kernel_rfl) hval h
  obtain ⟨n0, e0, _, w0⟩ := DataW.trod_int Try.underlying3 f0
  obtain ⟨n1, e1, _, w1⟩ := DataW.trod_int Try.underlying3 f1
  obtain ⟨n2, e2, _, w2⟩ := DataW.trod_int Try.underlying3 f2
  obtain ⟨ss, e3, _, w3⟩ := DataW.trod_string Try.underlying9 f3
  obtain ⟨AP, cP, ps, e4, _, _, _, hk⟩ := read_picks f4
  simp at e0 e1 e2 e3 e4
  subst e0; subst e1; subst e2; subst e3; subst e4
  have b1 := bounds_i64 w1
  have b2 := bounds_i64 w2
  exact ⟨⟨n0, n1, n2, ss, ps⟩, AP, cP, rfl, ⟨by show _ ≤ n1; omega, by show n1 ≤ _; omega⟩, ⟨by show _ ≤ n2; omega, by show n2 ≤ _; omega⟩, by show ss.size ≤ _; unfold maxLen at w3; omega, hk⟩

/-- what the program's extent does where there is no world -/
structure ExtNil : Prop where
  read : ∀ (e a : Int) (w : World), Calls Try.prog 21 #[.pointer none, .int .i64 e, .int .i64 a] w fun x w' => x = .returned (.tuple #[.string ⟨#[]⟩, .int .i64 2]) ∧ Below w.heap.size w w'
  dry : ∀ (e a : Int) (w : World), Calls Try.prog 23 #[.pointer none, .int .i64 e, .int .i64 a] w fun x w' => x = .returned (.tuple #[.string ⟨#[]⟩, .int .i64 2]) ∧ Below w.heap.size w w'
  write : ∀ (e a : Int) (s : ByteArray) (w : World), Calls Try.prog 24 #[.pointer none, .int .i64 e, .int .i64 a, .string s] w fun x w' => x = .returned (.int .i64 2) ∧ Below w.heap.size w w'
  flush : ∀ (e : Int) (w : World), Calls Try.prog 20 #[.pointer none, .int .i64 e] w fun x w' => x = .returned (.int .i64 2) ∧ Below w.heap.size w w'
  crash : ∀ (A : Option Addr) (n c : Nat) (w : World), Calls Try.prog 22 #[.pointer none, .slice A n c] w fun x w' => x = .returned (.int .i64 2) ∧ Below w.heap.size w w'
  start : ∀ (w : World), Calls Try.prog 19 #[.pointer none] w fun x w' => x = .returned (.int .i64 2) ∧ Below w.heap.size w w'
  on : ∀ (w : World), Calls Try.prog 12 #[.pointer none] w fun x w' => x = .returned (.bool false) ∧ Below w.heap.size w w'
  extents : ∀ (w : World), Calls Try.prog 16 #[.pointer none] w fun x w' => x = .returned (.int .i64 0) ∧ Below w.heap.size w w'
  sectors : ∀ (w : World), Calls Try.prog 17 #[.pointer none] w fun x w' => x = .returned (.int .i64 0) ∧ Below w.heap.size w w'
  wet : ∀ (e : Int) (w : World), Calls Try.prog 14 #[.pointer none, .int .i64 e] w fun x w' => (∃ A c, x = .returned (.slice A 0 c)) ∧ Below w.heap.size w w'
  lay : ∀ (e a : Int) (s : ByteArray) (w : World), Calls Try.prog 25 #[.pointer none, .int .i64 e, .int .i64 a, .string s] w fun x w' => x = .returned (.int .i64 2) ∧ Below w.heap.size w w'

theorem boxBelow {w w' : World} {q : Nat} {x : Act5} {A : Option Addr} {c : Nat} (h : BoxA w q x A c) (hb : Below w.heap.size w w') : BoxA w' q x A c :=
  h.keep (F := fun _ => False) (Chg.of_below hb) (fun e => e)

set_option maxRecDepth 100000 in
set_option maxHeartbeats 4000000 in
theorem walk {R : RelE} (X : ExtAt R) (N : ExtNil) (x : Act5) (A : Option Addr) (c : Nat) (w : World) :
    Calls Try.prog 6 #[x.v A c] w fun r w' => r = .returned (.bool true) ∧ Below w.heap.size w w' := by
  have AW := Lib.hid (awake5 X)
  have NN := Lib.hid N
  have X0 := Lib.hid (BoxA.new w x A c 33)
  have B0 := Lib.hid ((Below.refl w.heap.size w).alloc (Nat.le_refl _) (.cells #[.int .i64 x.k, .int .i64 x.e, .int .i64 x.a, .string x.s, .slice A x.ps.length c] 33))
  obtain ⟨k, e, a, s, ps⟩ := x
  show Calls Try.prog 6 #[.agg #[.int .i64 k, .int .i64 e, .int .i64 a, .string s, .slice A ps.length c]] w _
  obtain ⟨PL, hPL⟩ : ∃ PL, PL = ps.length := ⟨_, rfl⟩
  simp only [← hPL] at B0 X0
  rw [← hPL]
  have HPL := Lib.hid hPL
  clear hPL X N
  go_enter Try.func6, Try.ntmps6
  go_wp2_with fail
  refine (AW.out _).mono ?_
  rintro r w1 ⟨rfl, hb⟩
  have X1 := Lib.hid (boxBelow X0.out hb)
  have B1 := Lib.hid (below_then B0.out hb)
  have z1 := X1.out.c1
  have z2 := X1.out.c2
  have z3 := X1.out.c3
  have z4 := X1.out.c4
  simp only [← HPL.out] at z4
  clear hb
  go_wp2_with fail
  refine (NN.out.read e a _).mono ?_
  rintro r w2 ⟨rfl, hb⟩
  have X2 := Lib.hid (boxBelow X1.out hb)
  have B2 := Lib.hid (below_then B1.out hb)
  have z1 := X2.out.c1
  have z2 := X2.out.c2
  have z3 := X2.out.c3
  have z4 := X2.out.c4
  simp only [← HPL.out] at z4
  clear hb
  go_wp2_with fail
  refine (NN.out.dry e a _).mono ?_
  rintro r w3 ⟨rfl, hb⟩
  have X3 := Lib.hid (boxBelow X2.out hb)
  have B3 := Lib.hid (below_then B2.out hb)
  have z1 := X3.out.c1
  have z2 := X3.out.c2
  have z3 := X3.out.c3
  have z4 := X3.out.c4
  simp only [← HPL.out] at z4
  clear hb
  go_wp2_with fail
  refine (NN.out.write e a s _).mono ?_
  rintro r w4 ⟨rfl, hb⟩
  have X4 := Lib.hid (boxBelow X3.out hb)
  have B4 := Lib.hid (below_then B3.out hb)
  have z1 := X4.out.c1
  have z2 := X4.out.c2
  have z3 := X4.out.c3
  have z4 := X4.out.c4
  simp only [← HPL.out] at z4
  clear hb
  go_wp2_with fail
  refine (NN.out.flush e _).mono ?_
  rintro r w5 ⟨rfl, hb⟩
  have X5 := Lib.hid (boxBelow X4.out hb)
  have B5 := Lib.hid (below_then B4.out hb)
  have z1 := X5.out.c1
  have z2 := X5.out.c2
  have z3 := X5.out.c3
  have z4 := X5.out.c4
  simp only [← HPL.out] at z4
  clear hb
  go_wp2_with fail
  refine (NN.out.crash A PL c _).mono ?_
  rintro r w6 ⟨rfl, hb⟩
  have X6 := Lib.hid (boxBelow X5.out hb)
  have B6 := Lib.hid (below_then B5.out hb)
  have z1 := X6.out.c1
  have z2 := X6.out.c2
  have z3 := X6.out.c3
  have z4 := X6.out.c4
  simp only [← HPL.out] at z4
  clear hb
  go_wp2_with fail
  refine (NN.out.start _).mono ?_
  rintro r w7 ⟨rfl, hb⟩
  have X7 := Lib.hid (boxBelow X6.out hb)
  have B7 := Lib.hid (below_then B6.out hb)
  have z1 := X7.out.c1
  have z2 := X7.out.c2
  have z3 := X7.out.c3
  have z4 := X7.out.c4
  simp only [← HPL.out] at z4
  clear hb
  go_wp2_with fail
  refine (NN.out.on _).mono ?_
  rintro r w8 ⟨rfl, hb⟩
  have X8 := Lib.hid (boxBelow X7.out hb)
  have B8 := Lib.hid (below_then B7.out hb)
  have z1 := X8.out.c1
  have z2 := X8.out.c2
  have z3 := X8.out.c3
  have z4 := X8.out.c4
  simp only [← HPL.out] at z4
  clear hb
  go_wp2_with fail
  refine (NN.out.extents _).mono ?_
  rintro r w9 ⟨rfl, hb⟩
  have X9 := Lib.hid (boxBelow X8.out hb)
  have B9 := Lib.hid (below_then B8.out hb)
  have z1 := X9.out.c1
  have z2 := X9.out.c2
  have z3 := X9.out.c3
  have z4 := X9.out.c4
  simp only [← HPL.out] at z4
  clear hb
  go_wp2_with fail
  refine (NN.out.sectors _).mono ?_
  rintro r w10 ⟨rfl, hb⟩
  have X10 := Lib.hid (boxBelow X9.out hb)
  have B10 := Lib.hid (below_then B9.out hb)
  have z1 := X10.out.c1
  have z2 := X10.out.c2
  have z3 := X10.out.c3
  have z4 := X10.out.c4
  simp only [← HPL.out] at z4
  clear hb
  go_wp2_with fail
  refine (NN.out.wet e _).mono ?_
  rintro r w11 ⟨⟨A9, c9, rfl⟩, hb⟩
  have X11 := Lib.hid (boxBelow X10.out hb)
  have B11 := Lib.hid (below_then B10.out hb)
  have z1 := X11.out.c1
  have z2 := X11.out.c2
  have z3 := X11.out.c3
  have z4 := X11.out.c4
  simp only [← HPL.out] at z4
  clear hb
  go_wp2_with fail
  refine (NN.out.lay e a s _).mono ?_
  rintro r w12 ⟨rfl, hb⟩
  have X12 := Lib.hid (boxBelow X11.out hb)
  have B12 := Lib.hid (below_then B11.out hb)
  have z1 := X12.out.c1
  have z2 := X12.out.c2
  have z3 := X12.out.c3
  have z4 := X12.out.c4
  simp only [← HPL.out] at z4
  clear hb
  go_wp2_with fail
  go_ret
  exact ⟨by first | rfl | simp, B12.out⟩

set_option maxRecDepth 100000 in
theorem lifted {R : RelE} (X : ExtAt R) (N : ExtNil) (os : Os) (started : os.Started) (H : Type) (enc : TypeId × Value → H) :
    ReturnsInHanded {} Try.checked os 6 .any (Rows.extentNilSpec.pre6 enc Try.prog Try.f6 Rows.extentNilRow.domain false) (Rows.extentNilSpec.post enc Try.prog Try.f6 false true false false) := by
  refine returnsInHanded_of_change (C := Try.checked) own started (by kernel_rfl) Try.func6
    (ChangeSpec.witness6 (enc := enc) (C := Try.checked) false ⟨#[], #[.agg #[.int .i64 0, .int .i64 0, .int .i64 0, .string ⟨#[]⟩, .slice none 0 0]], []⟩ 8 (by kernel_rfl) (by kernel_rfl) (by kernel_rfl) (by kernel_rfl)) ?_
  intro W base args ds gs before hval0 hW hcnd _
  have hval : ∀ (j : Nat) t v, Try.f6.params[j]? = some t → args[j]? = some v → Value.okWide Try.prog W .any base t v := hval0
  have hW' := hW
  obtain ⟨p, q, hA0, hV, rfl, hfz, hnd⟩ := hW
  have hA : DataW.TrodAll enc Try.prog W 0 (fun _ => true) true Try.f6.params.toList args.toList ds p := hA0
  rw [Try.params6] at hA hval
  obtain ⟨v0, vs0, d0, ds0, p0, q0, hargs, rfl, rfl, h0, r0⟩ := trodAll_cons hA
  obtain ⟨rfl, rfl, rfl⟩ := trodAll_nil r0
  obtain rfl : args = #[v0] := by cases args; simp_all
  obtain ⟨rfl, rfl⟩ := trodVars_none hV
  clear hA0 hval0
  simp only [List.append_nil] at hW'
  have l0 : ∀ x ∈ p0, x.block < W.heap.size := fun x hx => hW'.lt x (by simp [hx])
  obtain ⟨x, A, c, rfl, _⟩ := open_act (hval 0 33 v0 rfl rfl) h0
  refine (walk X N x A c W).mono fun e W' ⟨he, hg⟩ => ?_
  subst he
  refine ⟨_, rfl, [d0], [], p0, [], p0 ++ [], [], hW', ?_, ?_, ?_, hg.frame _, fun h => by cases h⟩
  · exact trodAll_cons_mk (shut_bool Try.underlying4 _) trodAll_mk0
  · exact trodAll_cons_mk (Below.trod laidOut (by kernel_rfl) (of_decide_eq_true (by kernel_rfl)) h0 hg l0) trodAll_mk0
  · rfl

theorem over {R : RelE} (X : ExtAt R) (N : ExtNil) : Rows.extentNilRow.holds Try.pinned (OpenSpec.ofChange Rows.extentNilSpec) :=
  OpenClaim.holds_of_wide 6 Try.f6 rfl rfl rfl rfl rfl rfl rfl ⟨rfl, rfl, rfl, rfl, rfl⟩ rfl rfl rfl rfl rfl (by kernel_rfl) Try.func6 (by kernel_rfl)
    (of_decide_eq_true (by kernel_rfl)) (by unfold Func.isWrapper; first | (rw [if_pos (by decide +kernel)]; kernel_rfl) | (rw [if_neg (by decide +kernel)]; exact ⟨rfl, rfl⟩))
    (fun os started H enc _ => lifted X N os started H enc)

/-- ████ THE STATEMENT ████ -/
theorem proved {R : RelE} (X : ExtAt R) (N : ExtNil) : Rows.ExtentNilSaid :=
  over X N
#print axioms proved

end Go.Proofs.Ytjghpacpeojejaa.extentNil
