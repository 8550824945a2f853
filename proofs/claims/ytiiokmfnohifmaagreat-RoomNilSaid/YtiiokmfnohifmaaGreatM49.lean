/- Proved parts: B5r B5n B5o B5u B5nn. Conditions: each theorem's own. -/
import Derived.Test.YtiiokmfnohifmaaGreatM48
namespace Go.Proofs.YtiiokmfnohifmaaGreat
open Go.RowKit

section
variable {w0 w : World} {N : Nat → Prop} {b : Nat} {s : Sh} {L : Ch} {P : Nat} {os2 : List Ob}
theorem Sh.ring (h : Side w0 N w (s.os b ++ os2)) : ∃ v, PrW w s.q v s.r.size s.r.beg s.r.seq s.r.kept ∧ s.r.Ok := by
  obtain ⟨F, v, _, hp, ok⟩ := h.get (i := 6) (o := oRing s.q s.r) rfl
  exact ⟨v, hp, ok⟩
/-- the room's cells -/
theorem Sh.cells (h : Side w0 N w (s.os b ++ os2)) : w.cell? ⟨b, 0, none⟩ = some s.lb ∧ w.cell? ⟨b, 1, none⟩ = some (.int .i64 s.g1) ∧ w.cell? ⟨b, 2, none⟩ = some (.int .i64 s.g2) ∧ w.cell? ⟨b, 3, none⟩ = some (.int .i64 s.g3) ∧ w.cell? ⟨b, 4, none⟩ = some (.pointer (some ⟨s.q, 0, none⟩)) ∧
    w.cell? ⟨b, 8, none⟩ = some (.int .i64 s.x1) ∧ w.cell? ⟨b, 9, none⟩ = some (.int .i64 s.x2) ∧ w.cell? ⟨b, 10, none⟩ = some (.int .i64 s.x3) := by
  have r := Sh.rowAt h
  exact ⟨r.cell 0, r.cell 1, r.cell 2, r.cell 3, r.cell 4, r.cell 8, r.cell 9, r.cell 10⟩
set_option maxRecDepth 100000 in
/-- Live -/
theorem xLiveR (h : Side w0 N w (s.os b ++ os2)) : Calls Tryz.prog 30 #[PtrM b] w fun e w' => e = .returned (.int .i64 s.x1) ∧ Below w.heap.size w w' := by
  obtain ⟨-, -, -, -, -, c8, c9, c10⟩ := Sh.cells h
  have B0 := Lib.hid (Below.refl w.heap.size w)
  clear h
  go_enter Tryz.func30, Tryz.ntmps30
  go_wp2_with fail
  go_ret
  exact ⟨rfl, B0.out⟩
set_option maxRecDepth 100000 in
/-- Keys -/
theorem xKeysR (h : Side w0 N w (s.os b ++ os2)) : Calls Tryz.prog 31 #[PtrM b] w fun e w' => e = .returned (.int .i64 s.x2) ∧ Below w.heap.size w w' := by
  obtain ⟨-, -, -, -, -, c8, c9, c10⟩ := Sh.cells h
  have B0 := Lib.hid (Below.refl w.heap.size w)
  clear h
  go_enter Tryz.func31, Tryz.ntmps31
  go_wp2_with fail
  go_ret
  exact ⟨rfl, B0.out⟩
set_option maxRecDepth 100000 in
/-- Versions -/
theorem xVersionsR (h : Side w0 N w (s.os b ++ os2)) : Calls Tryz.prog 32 #[PtrM b] w fun e w' => e = .returned (.int .i64 s.x3) ∧ Below w.heap.size w w' := by
  obtain ⟨-, -, -, -, -, c8, c9, c10⟩ := Sh.cells h
  have B0 := Lib.hid (Below.refl w.heap.size w)
  clear h
  go_enter Tryz.func32, Tryz.ntmps32
  go_wp2_with fail
  go_ret
  exact ⟨rfl, B0.out⟩
set_option maxRecDepth 100000 in
/-- Seq -/
theorem xSeqR (h : Side w0 N w (s.os b ++ os2)) : Calls Tryz.prog 24 #[PtrM b] w fun e w' => e = .returned (.int .i64 (s.r.seq : Nat)) ∧ Below w.heap.size w w' := by
  obtain ⟨-, -, -, -, c4, -, -, -⟩ := Sh.cells h
  obtain ⟨v, hp, ok⟩ := Sh.ring h
  have RC := Lib.hid (show Calls Tryz.prog 61 #[PtrR s.q] w fun e w' => e = .returned (.int .i64 (s.r.seq : Nat)) ∧ Below w.heap.size w w' from xSeq0 _ v _ _ _ _ w hp)
  obtain ⟨z, hz⟩ : ∃ z : Int, z = (s.r.seq : Nat) := ⟨_, rfl⟩
  rw [← hz] at RC ⊢
  clear h hp ok hz
  go_enter Tryz.func24, Tryz.ntmps24
  go_wp2_with fail
  refine RC.out.mono ?_
  rintro e w1 ⟨rfl, hb⟩
  have HB := Lib.hid hb
  clear hb
  go_wp2_with fail
  go_ret
  exact ⟨rfl, HB.out⟩
set_option maxRecDepth 100000 in
/-- Floor -/
theorem xFloorR (h : Side w0 N w (s.os b ++ os2)) : Calls Tryz.prog 26 #[PtrM b] w fun e w' => e = .returned (.int .i64 (s.r.floor : Nat)) ∧ Below w.heap.size w w' := by
  obtain ⟨-, -, -, -, c4, -, -, -⟩ := Sh.cells h
  obtain ⟨v, hp, ok⟩ := Sh.ring h
  have RC := Lib.hid (show Calls Tryz.prog 66 #[PtrR s.q] w fun e w' => e = .returned (.int .i64 (s.r.floor : Nat)) ∧ Below w.heap.size w w' from xFloor0 _ v _ _ _ _ w hp ok.s16 ok.sq)
  obtain ⟨z, hz⟩ : ∃ z : Int, z = (s.r.floor : Nat) := ⟨_, rfl⟩
  rw [← hz] at RC ⊢
  clear h hp ok hz
  go_enter Tryz.func26, Tryz.ntmps26
  go_wp2_with fail
  refine RC.out.mono ?_
  rintro e w1 ⟨rfl, hb⟩
  have HB := Lib.hid hb
  clear hb
  go_wp2_with fail
  go_ret
  exact ⟨rfl, HB.out⟩
/-- chain.At of a key's chain -/
theorem xAtR (a : s.AtF L P) (k : ByteArray) (A : Option Addr) (c : Nat) (q : Int) (w : World) (hc : (L.of k).length ≤ c) (hs : SlV w A (L.of k)) :
    Calls Tryz.prog 67 #[.slice A (L.of k).length c, .int .i64 q] w fun e w' => e = .returned (.tuple #[(atL (L.of k) q).v, .bool (atOk (L.of k) q)]) ∧ Below w.heap.size w w' := by
  obtain ⟨g1, g2, _⟩ := good_of a.good a.right k
  have := xAt9 (L.of k) A c q w hc hs g1
  rw [g2, if_pos rfl, Bool.true_and] at this
  exact this
set_option maxRecDepth 100000 in
set_option maxHeartbeats 1000000 in
/-- Get -/
theorem xGetR (h : Side w0 N w (s.os b ++ os2)) (a : s.AtF L P) (k : ByteArray) (q : Int) :
    Calls Tryz.prog 27 #[PtrM b, .string k, .int .i64 q] w fun e w' => e = .returned (.tuple #[(atL (L.of k) q).val.v, .bool (atOk (L.of k) q)]) ∧ Below w.heap.size w w' := by
  have r0 := RowAt.new w [.bool false, .string ⟨#[]⟩, .int .u64 0] 56
  have b0 : Below w.heap.size w (w.alloc (.cells #[.bool false, .string ⟨#[]⟩, .int .u64 0] 56)) := (Below.refl _ _).alloc (Nat.le_refl _) _
  obtain ⟨B, hB⟩ : ∃ B, B = w.heap.size := ⟨_, rfl⟩
  obtain ⟨w1, hw1⟩ : ∃ w1, w1 = w.alloc (.cells #[.bool false, .string ⟨#[]⟩, .int .u64 0] 56) := ⟨_, rfl⟩
  have hw1' : w1 = w.alloc (.cells [Value.bool false, .string ⟨#[]⟩, .int .u64 0].toArray 56) := hw1
  rw [← hw1'] at r0
  rw [← hw1] at b0
  rw [← hB] at r0
  obtain ⟨m, hm⟩ : ∃ m, m = (L.of k).length := ⟨_, rfl⟩
  have KC := Lib.hid ((xChainR (h.below b0) a k).mono (R' := fun e w' => ∃ A c, e = .returned (.slice A m c) ∧ (L.of k).length ≤ c ∧ SlV w' A (L.of k) ∧ Below w1.heap.size w1 w') fun e w' ⟨A', c', h1, h2, h3, h4⟩ => ⟨A', c', by rw [hm]; exact h1, h2, h3, h4⟩)
  have KA := Lib.hid (fun A c W (hc : (L.of k).length ≤ c) (hs : SlV W A (L.of k)) => show Calls Tryz.prog 67 #[.slice A m c, .int .i64 q] W fun e w' => e = .returned (.tuple #[(atL (L.of k) q).v, .bool (atOk (L.of k) q)]) ∧ Below W.heap.size W w' from by rw [hm]; exact xAtR a k A c q W hc hs)
  obtain ⟨y, hy⟩ : ∃ y, y = atL (L.of k) q := ⟨_, rfl⟩
  obtain ⟨D, hD⟩ : ∃ y, y = atOk (L.of k) q := ⟨_, rfl⟩
  rw [← hy, ← hD] at KA ⊢
  have R0 := Lib.hid r0
  have HW1 := Lib.hid hw1
  have HB := Lib.hid hB
  have B0 := Lib.hid b0
  obtain ⟨sq, gn, u⟩ := y
  obtain ⟨nu, t, bt⟩ := u
  clear h a r0 b0 hB hw1 hw1' hm hy hD
  have KA : Hid (∀ A c W, (L.of k).length ≤ c → SlV W A (L.of k) → Calls Tryz.prog 67 #[.slice A m c, .int .i64 q] W fun e w' => e = .returned (.tuple #[.agg #[.int .i64 sq, .bool gn, .bool nu, .string t, .int .u64 (bt : Int)], .bool D]) ∧ Below W.heap.size W w') := KA
  show Calls Tryz.prog 27 #[PtrM b, .string k, .int .i64 q] w fun e w' => e = .returned (.tuple #[.agg #[.bool nu, .string t, .int .u64 (bt : Int)], .bool D]) ∧ Below w.heap.size w w'
  go_enter Tryz.func27, Tryz.ntmps27
  go_wp2_with fail
  rw [← HW1.out, ← HB.out]
  refine KC.out.mono ?_
  rintro e w2 ⟨A1, c1, rfl, hc1, hs1, hb1⟩
  have R1 := Lib.hid (R0.out.below hb1)
  have B1 := Lib.hid (below_then B0.out hb1)
  have KA1 := Lib.hid (KA.out A1 c1 w2 hc1 hs1)
  clear hc1 hs1 hb1 KA KC
  go_wp2_with fail
  refine KA1.out.mono ?_
  rintro e w3 ⟨rfl, hb3⟩
  have R3 := Lib.hid (R1.out.below hb3)
  have B3 := Lib.hid (below_then B1.out hb3)
  have R4 := Lib.hid ((R1.out.below hb3).alloc (.cells #[.int .i64 sq, .bool gn, .bool nu, .string t, .int .u64 (bt : Int)] 92))
  have f0 := R4.out.frozen 0
  have f1 := R4.out.frozen 1
  have f2 := R4.out.frozen 2
  have e0 := R4.out.cell 0
  have e1 := R4.out.cell 1
  have e2 := R4.out.cell 2
  simp only [List.getElem?_cons_succ, List.getElem?_cons_zero] at e0 e1 e2
  clear hb3 KA1
  go_wp2_with fail
  have lt := R4.out.lt
  have R5 : RowAt ((((w3.alloc (.cells #[.int .i64 sq, .bool gn, .bool nu, .string t, .int .u64 (bt : Int)] 92)).setCell ⟨B, 0, none⟩ (.bool nu)).setCell ⟨B, 1, none⟩ (.string t)).setCell ⟨B, 2, none⟩ (.int .u64 (bt : Int))) B [.bool nu, .string t, .int .u64 (bt : Int)] 56 := ((R4.out.set 0 _).set 1 _).set 2 _
  have hB : w.heap.size ≤ B := by rw [HB.out]; exact Nat.le_refl _
  have B5 : Below w.heap.size w ((((w3.alloc (.cells #[.int .i64 sq, .bool gn, .bool nu, .string t, .int .u64 (bt : Int)] 92)).setCell ⟨B, 0, none⟩ (.bool nu)).setCell ⟨B, 1, none⟩ (.string t)).setCell ⟨B, 2, none⟩ (.int .u64 (bt : Int))) :=
    (((B3.out.alloc B3.out.size _).setCell (p := ⟨B, 0, none⟩) hB _).setCell (p := ⟨B, 1, none⟩) hB _).setCell (p := ⟨B, 2, none⟩) hB _
  exact bodyPost_ret (results_cell_tmp rfl _ _ B _ [.bool nu, .string t, .int .u64 (bt : Int)] _ rfl R5 Tryz.underlying56 rfl (by kernel_rfl)) rfl ⟨rfl, B5⟩
end

end Go.Proofs.YtiiokmfnohifmaaGreat

namespace Go.Proofs.YtiiokmfnohifmaaGreat
open Go.RowKit

set_option maxRecDepth 100000 in
theorem nSeqR (w : World) : Calls Tryz.prog 24 #[.pointer none] w fun e w' => e = .returned (.int .i64 0) ∧ Below w.heap.size w w' := by
  have B0 := Lib.hid (Below.refl w.heap.size w)
  go_enter Tryz.func24, Tryz.ntmps24
  go_wp2_with fail
  go_ret
  exact ⟨rfl, B0.out⟩
set_option maxRecDepth 100000 in
theorem nFloorR (w : World) : Calls Tryz.prog 26 #[.pointer none] w fun e w' => e = .returned (.int .i64 0) ∧ Below w.heap.size w w' := by
  have B0 := Lib.hid (Below.refl w.heap.size w)
  go_enter Tryz.func26, Tryz.ntmps26
  go_wp2_with fail
  go_ret
  exact ⟨rfl, B0.out⟩
set_option maxRecDepth 100000 in
theorem nSweepR (w : World) : Calls Tryz.prog 25 #[.pointer none] w fun e w' => e = .returned (.int .i64 0) ∧ Below w.heap.size w w' := by
  have B0 := Lib.hid ((Below.refl w.heap.size w).alloc (Nat.le_refl _) (.cells #[.pointer none] 28))
  go_enter Tryz.func25, Tryz.ntmps25
  go_wp2_with fail
  go_ret
  exact ⟨rfl, B0.out⟩
set_option maxRecDepth 100000 in
theorem nLiveR (w : World) : Calls Tryz.prog 30 #[.pointer none] w fun e w' => e = .returned (.int .i64 0) ∧ Below w.heap.size w w' := by
  have B0 := Lib.hid (Below.refl w.heap.size w)
  go_enter Tryz.func30, Tryz.ntmps30
  go_wp2_with fail
  go_ret
  exact ⟨rfl, B0.out⟩
set_option maxRecDepth 100000 in
theorem nKeysR (w : World) : Calls Tryz.prog 31 #[.pointer none] w fun e w' => e = .returned (.int .i64 0) ∧ Below w.heap.size w w' := by
  have B0 := Lib.hid (Below.refl w.heap.size w)
  go_enter Tryz.func31, Tryz.ntmps31
  go_wp2_with fail
  go_ret
  exact ⟨rfl, B0.out⟩
set_option maxRecDepth 100000 in
theorem nVersionsR (w : World) : Calls Tryz.prog 32 #[.pointer none] w fun e w' => e = .returned (.int .i64 0) ∧ Below w.heap.size w w' := by
  have B0 := Lib.hid (Below.refl w.heap.size w)
  go_enter Tryz.func32, Tryz.ntmps32
  go_wp2_with fail
  go_ret
  exact ⟨rfl, B0.out⟩
set_option maxRecDepth 100000 in
theorem nAsOfR (x : Int) (w : World) : Calls Tryz.prog 13 #[.pointer none, .int .u64 x] w fun e w' => e = .returned (.tuple #[.int .i64 0, .int .i64 2]) ∧ Below w.heap.size w w' := by
  have B0 := Lib.hid (Below.refl w.heap.size w)
  go_enter Tryz.func13, Tryz.ntmps13
  go_wp2_with fail
  go_ret2
  exact ⟨rfl, B0.out⟩
set_option maxRecDepth 100000 in
theorem nCommitR (A : Option Addr) (n c : Nat) (x : Int) (w : World) : Calls Tryz.prog 23 #[.pointer none, .slice A n c, .int .u64 x] w fun e w' => e = .returned (.tuple #[.int .i64 0, .int .i64 2]) ∧ Below w.heap.size w w' := by
  have B0 := Lib.hid (Below.refl w.heap.size w)
  go_enter Tryz.func23, Tryz.ntmps23
  go_wp2_with fail
  go_ret2
  exact ⟨rfl, B0.out⟩
set_option maxRecDepth 100000 in
theorem nCheckR (A : Option Addr) (n c : Nat) (x : Int) (w : World) : Calls Tryz.prog 29 #[.pointer none, .slice A n c, .int .i64 x] w fun e w' => e = .returned (.int .i64 2) ∧ Below w.heap.size w w' := by
  have B0 := Lib.hid (Below.refl w.heap.size w)
  go_enter Tryz.func29, Tryz.ntmps29
  go_wp2_with fail
  go_ret
  exact ⟨rfl, B0.out⟩
set_option maxRecDepth 100000 in
theorem nEntriesR (w : World) : Calls Tryz.prog 34 #[.pointer none] w fun e w' => e = .returned (.slice none 0 0) ∧ Below w.heap.size w w' := by
  have B0 := Lib.hid ((Below.refl w.heap.size w).alloc (Nat.le_refl _) (.cells #[.pointer none] 28))
  go_enter Tryz.func34, Tryz.ntmps34
  go_wp2_with fail
  go_ret
  exact ⟨rfl, B0.out⟩

end Go.Proofs.YtiiokmfnohifmaaGreat

namespace Go.Proofs.YtiiokmfnohifmaaGreat
open Go.RowKit

/-- may a key stand behind another one? -/
def flw (a k : ByteArray) : Bool := ltB a k && decide (k.size ≤ 32)
theorem gt_eq (k a : ByteArray) : (!(Op.bytesLess k.toList a.toList || (k.toList == a.toList))) = ltB a k := by
  unfold ltB
  cases h : Op.bytesLess a.toList k.toList with
  | true =>
    have e1 : Op.bytesLess k.toList a.toList = false := Val.less_asym _ _ h
    rw [e1, (Val.less_ne h).2]; rfl
  | false =>
    cases h2 : Op.bytesLess k.toList a.toList with
    | true => rfl
    | false =>
      have := Val.less_total _ _ h h2
      rw [this]; simp
theorem ltB_nil (k : ByteArray) : ltB ⟨#[]⟩ k = decide (1 ≤ k.size) := by
  have e : k.size = k.toList.length := by rw [Val.toL]; simp
  rw [e]
  unfold ltB
  rw [show (⟨#[]⟩ : ByteArray).toList = [] by rw [Val.toL]]
  cases k.toList <;> simp [Op.bytesLess]
theorem ltB_pos {a k : ByteArray} (h : ltB a k = true) : 1 ≤ k.size := by
  have e : k.size = k.toList.length := by rw [Val.toL]; simp
  rw [e]
  unfold ltB at h
  cases z : k.toList with
  | nil => rw [z] at h; cases q : a.toList <;> rw [q] at h <;> simp [Op.bytesLess] at h
  | cons c l => simp
theorem flw_first (k : ByteArray) : flw ⟨#[]⟩ k = keyOk k := by unfold flw keyOk; rw [ltB_nil]
theorem flw_next (p k : ByteArray) : flw p k = (keyOk k && ltB p k) := by
  unfold flw keyOk
  cases h : ltB p k with
  | false => simp
  | true => have := ltB_pos h; simp [this]
set_option maxRecDepth 100000 in
/-- follows -/
theorem xFollowsR (k a : ByteArray) (w : World) (hk : k.size ≤ 1000000) : Calls Tryz.prog 41 #[.string k, .string a] w fun e w' => e = .returned (.bool (flw a k)) ∧ w' = w := by
  have G := gt_eq k a
  have E := Lib.hid (show flw a k = (ltB a k && decide (k.size ≤ 32)) from rfl)
  obtain ⟨T, hT⟩ : ∃ T, T = ltB a k := ⟨_, rfl⟩
  obtain ⟨F, hF⟩ : ∃ T, T = flw a k := ⟨_, rfl⟩
  rw [← hF, ← hT] at E
  rw [← hT] at G
  rw [← hF]
  clear hT hF
  obtain ⟨X, hX⟩ : ∃ X, Op.bytesLess k.toList a.toList = X := ⟨_, rfl⟩
  obtain ⟨Y, hY⟩ : ∃ X, (k.toList == a.toList) = X := ⟨_, rfl⟩
  rw [hX, hY] at G
  obtain ⟨Z, hZ⟩ : ∃ Z, Z = decide (k.size ≤ 32) := ⟨_, rfl⟩
  have zi : decide ((k.size : Int) ≤ 32) = Z := by rw [hZ]; exact decide_eq_decide.2 (by omega)
  rw [← hZ] at E
  clear hZ
  cases X with
  | true =>
    have e : F = false := by rw [E.out, ← G]; rfl
    subst e
    clear G E hY
    go_enter Tryz.func41, Tryz.ntmps41
    go_wp2_with fail
    go_ret
    exact ⟨rfl, rfl⟩
  | false =>
    cases Y with
    | true =>
      have e : F = false := by rw [E.out, ← G]; rfl
      subst e
      clear G E
      go_enter Tryz.func41, Tryz.ntmps41
      go_wp2_with fail
      go_ret
      exact ⟨rfl, rfl⟩
    | false =>
      have e : F = Z := by rw [E.out, ← G]; rfl
      subst e
      clear G E
      go_enter Tryz.func41, Tryz.ntmps41
      go_wp2_with fail
      go_ret
      exact ⟨rfl, rfl⟩
/-- the key ahead -/
def ahdW (l : List Wr) (i : Nat) : ByteArray := if i = 0 then ⟨#[]⟩ else (l.getD (i - 1) Wr.Z).key
theorem wrOk_eq (l : List Wr) (i : Nat) (x : Wr) : wrOk (prevW l i) x = (flw (ahdW l i) x.key && (x.val.ok && (!x.gone || x.val.isZ))) := by
  unfold wrOk prevW ahdW
  by_cases z : i = 0
  · rw [if_pos z, if_pos z, flw_first]; simp
  · rw [if_neg z, if_neg z, flw_next]
    cases keyOk x.key <;> cases x.val.ok <;> cases (!x.gone || x.val.isZ) <;> simp
theorem row5 {w : World} {b : Nat} {t : TypeId} {v0 v1 v2 v3 v4 : Value} (h : RowAt w b [v0, v1, v2, v3, v4] t) : w.cell? ⟨b, 0, none⟩ = some v0 ∧ w.cell? ⟨b, 1, none⟩ = some v1 ∧ w.cell? ⟨b, 2, none⟩ = some v2 ∧ w.cell? ⟨b, 3, none⟩ = some v3 ∧ w.cell? ⟨b, 4, none⟩ = some v4 := ⟨h.cell 0, h.cell 1, h.cell 2, h.cell 3, h.cell 4⟩
set_option maxRecDepth 100000 in
set_option maxHeartbeats 2000000 in
/-- May -/
theorem xMayR (l : List Wr) (A : Option Addr) (c : Nat) (w : World) (h : SlWr w A l) (hf : FitsW l) :
    Calls Tryz.prog 15 #[.slice A l.length c] w fun e w' => e = .returned (.bool (mayW l)) ∧ Below w.heap.size w w' := by
  obtain ⟨n, hn⟩ : ∃ n, n = l.length := ⟨_, rfl⟩
  obtain ⟨R, hR⟩ : ∃ R, R = mayW l := ⟨_, rfl⟩
  rw [← hn, ← hR]
  have HN := Lib.hid hn
  have HR := Lib.hid hR
  have HS := Lib.hid h
  have HF := Lib.hid hf
  have NZ := Lib.hid neq_zero
  clear hn hR h hf
  by_cases z1 : n < 1
  · have e := HR.out
    rw [mayW_len (by rw [← HN.out]; omega)] at e
    subst e
    go_enter Tryz.func15, Tryz.ntmps15
    go_wp2_with fail
    go_ret
    exact ⟨rfl, Below.refl _ _⟩
  by_cases z2 : 16 < n
  · have e := HR.out
    rw [mayW_len (by rw [← HN.out]; omega)] at e
    subst e
    go_enter Tryz.func15, Tryz.ntmps15
    go_wp2_with fail
    go_ret
    exact ⟨rfl, Below.refl _ _⟩
  go_enter Tryz.func15, Tryz.ntmps15
  go_wp2_with fail
  go_loopw [3, 16] (fun va vi wr => ∃ i : Nat, i ≤ n ∧ vi = .int .i64 i ∧ va = .string (ahdW l i) ∧ Hid (∀ j, j < i → wrOk (prevW l j) (l.getD j Wr.Z) = true) ∧ Hid (Below w.heap.size w wr)) (fun _ vi _ => n - (intOf vi).toNat)
  case atStart => exact ⟨0, Nat.zero_le _, rfl, rfl, Lib.hid (fun j hj => by cases hj), Lib.hid (Below.refl _ _)⟩
  case round =>
    obtain ⟨i, hi, rfl, rfl, HM, HB⟩ := hrel
    by_cases q : i < n
    · obtain ⟨bb, o, rfl, hb, c0, c1, c2, c3, c4⟩ := (HS.out.below HB.out).at (j := i) (by rw [← HN.out]; exact q)
      have RN := Lib.hid (fun (hm : wrOk (prevW l i) (l.getD i Wr.Z) = false) => show R = false by rw [HR.out]; exact mayW_no (by rw [← HN.out]; exact q) hm)
      have XF := Lib.hid (HF.out.get (i := i) (by rw [← HN.out]; exact q))
      obtain ⟨a, ha⟩ : ∃ a, a = ahdW l i := ⟨_, rfl⟩
      have AN := Lib.hid (show ahdW l (i + 1) = (l.getD i Wr.Z).key from rfl)
      obtain ⟨x, hx⟩ : ∃ x, x = l.getD i Wr.Z := ⟨_, rfl⟩
      have HMY := Lib.hid (show wrOk (prevW l i) x = true → ∀ j, j < i + 1 → wrOk (prevW l j) (l.getD j Wr.Z) = true from fun hm j hj => by
        by_cases e : j = i
        · rw [e, ← hx]; exact hm
        · exact HM.out j (by omega))
      have EM := Lib.hid (wrOk_eq l i x)
      rw [← hx] at c0 c1 c2 c3 c4 RN XF AN
      rw [← ha] at EM
      obtain ⟨k, g, v⟩ := x
      obtain ⟨m, t, u⟩ := v
      have VR := Lib.hid (fun w' => vpRight ⟨m, t, u⟩ w' XF.out.1)
      have FR := Lib.hid (fun w' => xFollowsR k a w' XF.out.2)
      have NE := NZ.out ⟨m, t, u⟩
      obtain ⟨K1, hK1⟩ : ∃ K, K = flw a k := ⟨_, rfl⟩
      obtain ⟨K2, hK2⟩ : ∃ K, K = Val.ok ⟨m, t, u⟩ := ⟨_, rfl⟩
      obtain ⟨Y, hY⟩ : ∃ Y, Y = Val.isZ ⟨m, t, u⟩ := ⟨_, rfl⟩
      simp only [← hK1] at FR
      simp only [← hK2] at VR
      simp only [← hY] at NE
      have EM := Lib.hid (show wrOk (prevW l i) ⟨k, g, ⟨m, t, u⟩⟩ = (K1 && (K2 && (!g || Y))) from by rw [EM.out, hK1, hK2, hY])
      have VR : Hid (∀ w', Calls Tryz.prog 42 #[.agg #[.bool m, .string t, .int .u64 (u : Int)]] w' fun e w'' => e = .returned (.bool K2) ∧ Below w'.heap.size w' w'') := VR
      have NE : ∀ w, (binOp .neq 56 (.agg #[.bool m, .string t, .int .u64 (u : Int)]) (.agg #[.bool false, .string ⟨#[]⟩, .int .u64 0])).run Tryz.prog w = .ok (.bool (!Y)) w := NE
      have i0 : (0 : Int) ≤ (i : Int) := by omega
      have i1 : (i : Int) < (n : Int) := by omega
      have hn16 : n ≤ 16 := by omega
      rw [← ha]
      obtain ⟨r1, hr1⟩ : ∃ r, r = wr.alloc (.cells #[.string k, .bool g, .bool m, .string t, .int .u64 (u : Int)] 74) := ⟨_, rfl⟩
      have R1 := Lib.hid (show RowAt r1 wr.heap.size [.string k, .bool g, .bool m, .string t, .int .u64 (u : Int)] 74 from by rw [hr1]; exact RowAt.new wr _ _)
      have B1 := Lib.hid (show Below w.heap.size w r1 from by rw [hr1]; exact HB.out.alloc HB.out.size _)
      have HR1 := Lib.hid hr1
      clear hx hK1 hK2 hY hb hi ha hr1
      have c0 : wr.cell? ⟨bb, o + i * 5, none⟩ = some (.string k) := c0
      have c1 : wr.cell? ⟨bb, o + i * 5 + 1, none⟩ = some (.bool g) := c1
      have c2 : wr.cell? ⟨bb, o + i * 5 + 2, none⟩ = some (.bool m) := c2
      have c3 : wr.cell? ⟨bb, o + i * 5 + 3, none⟩ = some (.string t) := c3
      have c4 : wr.cell? ⟨bb, o + i * 5 + 4, none⟩ = some (.int .u64 (u : Int)) := c4
      go_wp2_with fail
      rw [← HR1.out]
      refine (FR.out _).mono ?_
      rintro e w1 ⟨rfl, hw1⟩
      have hw1 := hw1.symm
      subst hw1
      clear c0 c1 c2 c3 c4
      obtain ⟨q0, q1, q2, q3, q4⟩ := row5 R1.out
      cases K1 with
      | false =>
        have e := RN.out (by rw [EM.out]; rfl)
        subst e
        go_wp2_with fail
        go_ret
        exact ⟨rfl, B1.out⟩
      | true =>
        go_wp2_with fail
        refine (VR.out _).mono ?_
        rintro e w2 ⟨rfl, hb2⟩
        have R2 := Lib.hid (R1.out.below hb2)
        have B2 := Lib.hid (below_then B1.out hb2)
        clear hb2 q0 q1 q2 q3 q4
        obtain ⟨q0, q1, q2, q3, q4⟩ := row5 R2.out
        cases K2 with
        | false =>
          have e := RN.out (by rw [EM.out]; rfl)
          subst e
          go_wp2_with fail
          go_ret
          exact ⟨rfl, B2.out⟩
        | true =>
          by_cases z3 : g = true ∧ Y = false
          · obtain ⟨rfl, rfl⟩ := z3
            have e := RN.out (by rw [EM.out]; rfl)
            subst e
            go_wp2_with fail
            go_ret
            exact ⟨rfl, B2.out⟩
          · have z4 : (!g || Y) = true := by cases g <;> cases Y <;> simp at z3 ⊢
            have HM2 := Lib.hid (HMY.out (by rw [EM.out, z4]; rfl))
            cases g with
            | false =>
              clear z3 z4
              go_wp2_with fail
              go_roundw
              case rel => exact ⟨i + 1, by omega, by go_num, by rw [AN.out], HM2, B2⟩
              case measure => simp [intOf]; omega
            | true =>
              obtain rfl : Y = true := by cases Y; exact absurd ⟨rfl, rfl⟩ z3; rfl
              clear z3 z4
              go_wp2_with fail
              go_roundw
              case rel => exact ⟨i + 1, by omega, by go_num, by rw [AN.out], HM2, B2⟩
              case measure => simp [intOf]; omega
    · obtain rfl : i = n := by omega
      have e := HR.out
      rw [mayW_yes (by rw [← HN.out]; omega) (by rw [← HN.out]; omega) (fun j hj => HM.out j (by rw [HN.out]; exact hj))] at e
      subst e
      go_wp2_with fail
      go_ret
      exact ⟨rfl, HB.out⟩

end Go.Proofs.YtiiokmfnohifmaaGreat

namespace Go.Proofs.YtiiokmfnohifmaaGreat
open Go.RowKit

def ahdE (l : List En) (i : Nat) : ByteArray := if i = 0 then ⟨#[]⟩ else (l.getD (i - 1) En.Z).key
theorem enOk_eq (l : List En) (i : Nat) (sq : Int) (x : En) : enOk (prevE l i) sq x = (flw (ahdE l i) x.key && (x.val.ok && (decide (1 ≤ x.seq) && decide (x.seq ≤ sq)))) := by
  unfold enOk prevE ahdE
  by_cases z : i = 0
  · rw [if_pos z, if_pos z, flw_first]; simp
  · rw [if_neg z, if_neg z, flw_next]
    cases keyOk x.key <;> cases x.val.ok <;> cases decide (1 ≤ x.seq) <;> cases decide (x.seq ≤ sq) <;> simp
theorem slEn_belowR {w w' : World} {A : Option Addr} {l : List En} (h : SlEn w A l) (hb : Below w.heap.size w w') : SlEn w' A l := fun hp => by
  obtain ⟨b, o, rfl, hlt, hc⟩ := h hp
  refine ⟨b, o, rfl, Nat.lt_of_lt_of_le hlt hb.size, fun j hj => ?_⟩
  obtain ⟨c0, c1, c2, c3, c4⟩ := hc j hj
  exact ⟨(hb.cell (p := ⟨b, o + j * 5, none⟩) hlt).trans c0, (hb.cell (p := ⟨b, o + j * 5 + 1, none⟩) hlt).trans c1, (hb.cell (p := ⟨b, o + j * 5 + 2, none⟩) hlt).trans c2, (hb.cell (p := ⟨b, o + j * 5 + 3, none⟩) hlt).trans c3, (hb.cell (p := ⟨b, o + j * 5 + 4, none⟩) hlt).trans c4⟩
set_option maxRecDepth 100000 in
set_option maxHeartbeats 2000000 in
/-- may -/
theorem xMayER (l : List En) (A : Option Addr) (c : Nat) (sq : Int) (w : World) (h : SlEn w A l) (hf : FitsE l) (hl : l.length ≤ 100000) :
    Calls Tryz.prog 73 #[.slice A l.length c, .int .i64 sq] w fun e w' => e = .returned (.bool (mayE l sq)) ∧ Below w.heap.size w w' := by
  obtain ⟨n, hn⟩ : ∃ n, n = l.length := ⟨_, rfl⟩
  obtain ⟨R, hR⟩ : ∃ R, R = mayE l sq := ⟨_, rfl⟩
  rw [← hn] at hl
  rw [← hn, ← hR]
  have HN := Lib.hid hn
  have HR := Lib.hid hR
  have HS := Lib.hid h
  have HF := Lib.hid hf
  clear hn hR h hf
  go_enter Tryz.func73, Tryz.ntmps73
  go_wp2_with fail
  go_loopw [5, 10] (fun va vi wr => ∃ i : Nat, i ≤ n ∧ vi = .int .i64 i ∧ va = .string (ahdE l i) ∧ Hid (∀ j, j < i → enOk (prevE l j) sq (l.getD j En.Z) = true) ∧ Hid (Below w.heap.size w wr)) (fun _ vi _ => n - (intOf vi).toNat)
  case atStart => exact ⟨0, Nat.zero_le _, rfl, rfl, Lib.hid (fun j hj => by cases hj), Lib.hid (Below.refl _ _)⟩
  case round =>
    obtain ⟨i, hi, rfl, rfl, HM, HB⟩ := hrel
    by_cases q : i < n
    · obtain ⟨bb, o, rfl, hb, c0, c1, c2, c3, c4⟩ := (slEn_belowR HS.out HB.out).at (j := i) (by rw [← HN.out]; exact q)
      have RN := Lib.hid (fun (hm : enOk (prevE l i) sq (l.getD i En.Z) = false) => show R = false by rw [HR.out]; exact mayE_no (by rw [← HN.out]; exact q) hm)
      have XF := Lib.hid (HF.out.get (i := i) (by rw [← HN.out]; exact q))
      obtain ⟨a, ha⟩ : ∃ a, a = ahdE l i := ⟨_, rfl⟩
      have AN := Lib.hid (show ahdE l (i + 1) = (l.getD i En.Z).key from rfl)
      obtain ⟨x, hx⟩ : ∃ x, x = l.getD i En.Z := ⟨_, rfl⟩
      have HMY := Lib.hid (show enOk (prevE l i) sq x = true → ∀ j, j < i + 1 → enOk (prevE l j) sq (l.getD j En.Z) = true from fun hm j hj => by
        by_cases e : j = i
        · rw [e, ← hx]; exact hm
        · exact HM.out j (by omega))
      have EM := Lib.hid (enOk_eq l i sq x)
      rw [← hx] at c0 c1 c2 c3 c4 RN XF AN
      rw [← ha] at EM
      obtain ⟨k, g, v⟩ := x
      obtain ⟨m, t, u⟩ := v
      have VR := Lib.hid (fun w' => vpRight ⟨m, t, u⟩ w' XF.out.1)
      have FR := Lib.hid (fun w' => xFollowsR k a w' (Nat.le_trans XF.out.2.1 (by decide)))
      obtain ⟨K1, hK1⟩ : ∃ K, K = flw a k := ⟨_, rfl⟩
      obtain ⟨K2, hK2⟩ : ∃ K, K = Val.ok ⟨m, t, u⟩ := ⟨_, rfl⟩
      simp only [← hK1] at FR
      simp only [← hK2] at VR
      have EM := Lib.hid (show enOk (prevE l i) sq ⟨k, g, ⟨m, t, u⟩⟩ = (K1 && (K2 && (decide (1 ≤ g) && decide (g ≤ sq)))) from by rw [EM.out, hK1, hK2])
      have VR : Hid (∀ w', Calls Tryz.prog 42 #[.agg #[.bool m, .string t, .int .u64 (u : Int)]] w' fun e w'' => e = .returned (.bool K2) ∧ Below w'.heap.size w' w'') := VR
      have i0 : (0 : Int) ≤ (i : Int) := by omega
      have i1 : (i : Int) < (n : Int) := by omega
      rw [← ha]
      obtain ⟨r1, hr1⟩ : ∃ r, r = wr.alloc (.cells #[.string k, .int .i64 g, .bool m, .string t, .int .u64 (u : Int)] 67) := ⟨_, rfl⟩
      have R1 := Lib.hid (show RowAt r1 wr.heap.size [.string k, .int .i64 g, .bool m, .string t, .int .u64 (u : Int)] 67 from by rw [hr1]; exact RowAt.new wr _ _)
      have B1 := Lib.hid (show Below w.heap.size w r1 from by rw [hr1]; exact HB.out.alloc HB.out.size _)
      have HR1 := Lib.hid hr1
      clear hx hK1 hK2 hb hi ha hr1
      have c0 : wr.cell? ⟨bb, o + i * 5, none⟩ = some (.string k) := c0
      have c1 : wr.cell? ⟨bb, o + i * 5 + 1, none⟩ = some (.int .i64 g) := c1
      have c2 : wr.cell? ⟨bb, o + i * 5 + 2, none⟩ = some (.bool m) := c2
      have c3 : wr.cell? ⟨bb, o + i * 5 + 3, none⟩ = some (.string t) := c3
      have c4 : wr.cell? ⟨bb, o + i * 5 + 4, none⟩ = some (.int .u64 (u : Int)) := c4
      go_wp2_with fail
      rw [← HR1.out]
      refine (FR.out _).mono ?_
      rintro e w1 ⟨rfl, hw1⟩
      have hw1 := hw1.symm
      subst hw1
      clear c0 c1 c2 c3 c4
      obtain ⟨q0, q1, q2, q3, q4⟩ := row5 R1.out
      cases K1 with
      | false =>
        have e := RN.out (by rw [EM.out]; rfl)
        subst e
        go_wp2_with fail
        go_ret
        exact ⟨rfl, B1.out⟩
      | true =>
        go_wp2_with fail
        refine (VR.out _).mono ?_
        rintro e w2 ⟨rfl, hb2⟩
        have R2 := Lib.hid (R1.out.below hb2)
        have B2 := Lib.hid (below_then B1.out hb2)
        clear hb2 q0 q1 q2 q3 q4
        obtain ⟨q0, q1, q2, q3, q4⟩ := row5 R2.out
        cases K2 with
        | false =>
          have e := RN.out (by rw [EM.out]; rfl)
          subst e
          go_wp2_with fail
          go_ret
          exact ⟨rfl, B2.out⟩
        | true =>
          by_cases z3 : g < 1
          · have e := RN.out (by rw [EM.out, decide_eq_false (show ¬ 1 ≤ g by omega)]; rfl)
            subst e
            go_wp2_with fail
            go_ret
            exact ⟨rfl, B2.out⟩
          · by_cases z4 : sq < g
            · have e := RN.out (by rw [EM.out, decide_eq_false (show ¬ g ≤ sq by omega)]; simp)
              subst e
              go_wp2_with fail
              go_ret
              exact ⟨rfl, B2.out⟩
            · have HM2 := Lib.hid (HMY.out (by rw [EM.out, decide_eq_true (show 1 ≤ g by omega), decide_eq_true (show g ≤ sq by omega)]; rfl))
              go_wp2_with fail
              go_roundw
              case rel => exact ⟨i + 1, by omega, by go_num, by rw [AN.out], HM2, B2⟩
              case measure => simp [intOf]; omega
    · obtain rfl : i = n := by omega
      have e := HR.out
      rw [mayE_yes (fun j hj => HM.out j (by rw [HN.out]; exact hj))] at e
      subst e
      go_wp2_with fail
      go_ret
      exact ⟨rfl, HB.out⟩
theorem mayE_at {l : List En} {sq : Int} (h : mayE l sq = true) {i : Nat} (hi : i < l.length) : (l.getD i En.Z).val.ok = true ∧ (l.getD i En.Z).key.size ≤ 32 := by
  have := List.all_eq_true.1 h i (List.mem_range.2 hi)
  unfold enOk keyOk at this
  simp only [Bool.and_eq_true, decide_eq_true_eq] at this
  exact ⟨this.2.1, this.1.2⟩
set_option maxRecDepth 100000 in
set_option maxHeartbeats 2000000 in
/-- weigh -/
theorem xWeighR (l : List En) (A : Option Addr) (c : Nat) (sq : Int) (w : World) (h : SlEn w A l) (hf : FitsE l) (hl : l.length ≤ 100000) (hm : mayE l sq = true) :
    Calls Tryz.prog 74 #[.slice A l.length c] w fun e w' => e = .returned (.int .i64 ((loadL l).live : Nat)) ∧ Below w.heap.size w w' := by
  obtain ⟨n, hn⟩ : ∃ n, n = l.length := ⟨_, rfl⟩
  have WG : ∀ i, i < n → Ch.wgt ((loadL l).key i, (loadL l).chn i) = (l.getD i En.Z).key.size + (l.getD i En.Z).val.pack.size := fun i hi => by
    have hi2 : i < (loadL l).length := by rw [loadL_len, ← hn]; exact hi
    have e : (loadL l)[i]? = some ((l.getD i En.Z).key, [(l.getD i En.Z).ver]) := by
      unfold loadL
      rw [List.getElem?_map, List.getD_eq_getElem?_getD, List.getElem?_eq_getElem (by rw [← hn]; exact hi)]; rfl
    rw [List.getElem?_eq_getElem hi2] at e
    injection e with e
    rw [← Ch.getE _ hi2, e]
    have := (Val.pack_size _ (mayE_at hm (by rw [← hn]; exact hi)).1).2
    show (if weightL [(l.getD i En.Z).ver] = 0 then 0 else _) = _
    have e2 : weightL [(l.getD i En.Z).ver] = (l.getD i En.Z).val.pack.size := by
      unfold weightL
      rw [if_neg]
      · rfl
      · rintro (z | z)
        · cases z
        · cases z
    rw [e2, if_neg (by omega)]
    show _ + (l.getD i En.Z).key.size = _
    omega
  have SA := Lib.hid (show sumTo Ch.wgt (loadL l) n = (loadL l).live by rw [hn, ← loadL_len l]; exact sumTo_all _ _)
  have SU := Lib.hid (fun i (hi : i < n) => show sumTo Ch.wgt (loadL l) (i + 1) = sumTo Ch.wgt (loadL l) i + ((l.getD i En.Z).key.size + (l.getD i En.Z).val.pack.size) from by
    rw [sumTo_succ Ch.wgt (loadL l) (by rw [loadL_len, ← hn]; exact hi), WG i hi])
  have SB : ∀ i, i ≤ n → sumTo Ch.wgt (loadL l) i ≤ i * 200 := fun i => by
    induction i with
    | zero => intro _; simp [sumTo]
    | succ i ih =>
      intro hi
      have := ih (by omega)
      have e := SU.out i (by omega)
      obtain ⟨o1, o2⟩ := mayE_at hm (i := i) (by omega)
      have := (Val.pack_size _ o1).1
      rw [e]; omega
  have SB := Lib.hid SB
  have OK := Lib.hid (fun i (hi : i < n) => mayE_at hm (i := i) (by rw [← hn]; exact hi))
  rw [← hn] at hl
  rw [← hn]
  have HN := Lib.hid hn
  have HS := Lib.hid h
  have HF := Lib.hid hf
  obtain ⟨T, hT⟩ : ∃ T, T = (loadL l).live := ⟨_, rfl⟩
  rw [← hT] at SA ⊢
  clear hn h hf hm WG hT
  go_enter Tryz.func74, Tryz.ntmps74
  go_wp2_with fail
  go_loopw [3, 8] (fun va vi wr => ∃ i : Nat, i ≤ n ∧ vi = .int .i64 i ∧ va = .int .i64 (sumTo Ch.wgt (loadL l) i : Nat) ∧ Hid (Below w.heap.size w wr)) (fun _ vi _ => n - (intOf vi).toNat)
  case atStart => exact ⟨0, Nat.zero_le _, rfl, by simp [sumTo], Lib.hid (Below.refl _ _)⟩
  case round =>
    obtain ⟨i, hi, rfl, rfl, HB⟩ := hrel
    by_cases q : i < n
    · obtain ⟨bb, o, rfl, hb, c0, c1, c2, c3, c4⟩ := (slEn_belowR HS.out HB.out).at (j := i) (by rw [← HN.out]; exact q)
      have XF := HF.out.get (i := i) (by rw [← HN.out]; exact q)
      have XO := OK.out i q
      have su := SU.out i q
      have sb := SB.out (i + 1) (by omega)
      obtain ⟨x, hx⟩ : ∃ x, x = l.getD i En.Z := ⟨_, rfl⟩
      rw [← hx] at c0 c1 c2 c3 c4 XF XO su
      have CW := Lib.hid (fun W => xWeightR x.key x.val W XF.1 XF.2.2 (by omega) XO.1)
      obtain ⟨z, hz⟩ : ∃ z, z = x.key.size + x.val.pack.size := ⟨_, rfl⟩
      simp only [← hz] at CW su
      obtain ⟨a, ha⟩ : ∃ a, a = sumTo Ch.wgt (loadL l) i := ⟨_, rfl⟩
      obtain ⟨a2, ha2⟩ : ∃ a, a = sumTo Ch.wgt (loadL l) (i + 1) := ⟨_, rfl⟩
      rw [← ha] at su
      rw [← ha2] at su sb
      have WR := Lib.hid (show wrap64 ((a : Int) + (z : Int)) = (a2 : Int) by rw [su]; unfold wrap64; omega)
      have HA2 := Lib.hid ha2
      rw [← ha]
      obtain ⟨k, g, v⟩ := x
      obtain ⟨m, t, u⟩ := v
      have CW : Hid (∀ W, Calls Tryz.prog 107 #[.string k, .agg #[.bool m, .string t, .int .u64 (u : Int)]] W fun e w' => e = .returned (.int .i64 (z : Int)) ∧ Below W.heap.size W w') := CW
      have i0 : (0 : Int) ≤ (i : Int) := by omega
      have i1 : (i : Int) < (n : Int) := by omega
      have c0 : wr.cell? ⟨bb, o + i * 5, none⟩ = some (.string k) := c0
      have c1 : wr.cell? ⟨bb, o + i * 5 + 1, none⟩ = some (.int .i64 g) := c1
      have c2 : wr.cell? ⟨bb, o + i * 5 + 2, none⟩ = some (.bool m) := c2
      have c3 : wr.cell? ⟨bb, o + i * 5 + 3, none⟩ = some (.string t) := c3
      have c4 : wr.cell? ⟨bb, o + i * 5 + 4, none⟩ = some (.int .u64 (u : Int)) := c4
      have B1 := Lib.hid (HB.out.alloc HB.out.size (.cells #[.string k, .int .i64 g, .bool m, .string t, .int .u64 (u : Int)] 67))
      clear hx hz ha ha2 hb su sb XF XO
      go_wp2_with fail
      refine (CW.out _).mono ?_
      rintro e w2 ⟨rfl, hb2⟩
      have B2 := Lib.hid (below_then B1.out hb2)
      clear hb2 c0 c1 c2 c3 c4
      go_wp2_with fail
      go_roundw
      case rel => exact ⟨i + 1, by omega, by go_num, by rw [← HA2.out, ← WR.out], B2⟩
      case measure => simp [intOf]; omega
    · obtain rfl : i = n := by omega
      rw [SA.out]
      go_wp2_with fail
      go_ret
      exact ⟨rfl, HB.out⟩

end Go.Proofs.YtiiokmfnohifmaaGreat

namespace Go.Proofs.YtiiokmfnohifmaaGreat
open Go.RowKit

theorem results_tct {P : Program} {fn : Func} {o p q : Tmp} {ty : TypeId} (h : fn.results = #[.tmp o, .cell p ty, .tmp q]) (tmps : Array Value) (w : World) (g : Nat) (t : TypeId) (cs : List Value) (d : TypeDesc)
    (hp : tmps.getD p undef = .pointer (some ⟨g, 0, none⟩)) (hg : RowAt w g cs t)
    (hu : P.underlying ty = some d) (hd : (match d with | .struct _ | .array _ _ => true | _ => false) = true) (hi : (P.info? ty).map (·.size) = some cs.toArray.size) :
    (results fn tmps).run P w = .ok (.tuple #[tmps.getD o undef, .agg cs.toArray, tmps.getD q undef]) w := by
  have hp' : tmps[p]?.getD undef = .pointer (some ⟨g, 0, none⟩) := by simpa using hp
  simp [results, h, hp', asAddr, run_loadVar_row w g t ty cs.toArray _ d hg hu hd hi]

set_option maxRecDepth 100000 in
set_option maxHeartbeats 1000000 in
theorem nSettingR (w : World) : Calls Tryz.prog 21 #[.pointer none] w fun e w' => (∃ A c, e = .returned (.agg #[.slice A 0 c, .int .i64 0, .int .i64 0, .int .i64 0])) ∧ Below w.heap.size w w' := by
  have R0 := RowAt.new w [.slice none 0 0, .int .i64 0, .int .i64 0, .int .i64 0] 24
  have b0 : Below w.heap.size w (w.alloc (.cells #[.slice none 0 0, .int .i64 0, .int .i64 0, .int .i64 0] 24)) := (Below.refl _ _).alloc (Nat.le_refl _) _
  go_enter Tryz.func21, Tryz.ntmps21
  go_wp2_with fail
  exact bodyPost_ret (results_cell_one rfl _ _ w.heap.size _ [.slice none 0 0, .int .i64 0, .int .i64 0, .int .i64 0] _ rfl R0 Tryz.underlying24 rfl (by kernel_rfl)) rfl ⟨⟨_, _, rfl⟩, b0⟩
set_option maxRecDepth 100000 in
set_option maxHeartbeats 1000000 in
theorem nGetR (k : ByteArray) (s : Int) (w : World) : Calls Tryz.prog 27 #[.pointer none, .string k, .int .i64 s] w fun e w' => e = .returned (.tuple #[Val.V0.v, .bool false]) ∧ Below w.heap.size w w' := by
  have R0 := RowAt.new w [.bool false, .string ⟨#[]⟩, .int .u64 0] 56
  have b0 : Below w.heap.size w (w.alloc (.cells #[.bool false, .string ⟨#[]⟩, .int .u64 0] 56)) := (Below.refl _ _).alloc (Nat.le_refl _) _
  go_enter Tryz.func27, Tryz.ntmps27
  go_wp2_with fail
  exact bodyPost_ret (results_cell_tmp rfl _ _ w.heap.size _ [.bool false, .string ⟨#[]⟩, .int .u64 0] _ rfl R0 Tryz.underlying56 rfl (by kernel_rfl)) rfl ⟨rfl, b0⟩
set_option maxRecDepth 100000 in
set_option maxHeartbeats 1000000 in
theorem nAfterR (k : ByteArray) (s : Int) (w : World) : Calls Tryz.prog 28 #[.pointer none, .string k, .int .i64 s] w fun e w' => e = .returned (.tuple #[.string ⟨#[]⟩, Val.V0.v, .bool false]) ∧ Below w.heap.size w w' := by
  have R0 := RowAt.new w [.bool false, .string ⟨#[]⟩, .int .u64 0] 56
  have b0 : Below w.heap.size w (w.alloc (.cells #[.bool false, .string ⟨#[]⟩, .int .u64 0] 56)) := (Below.refl _ _).alloc (Nat.le_refl _) _
  go_enter Tryz.func28, Tryz.ntmps28
  go_wp2_with fail
  exact bodyPost_ret (results_tct rfl _ _ w.heap.size _ [.bool false, .string ⟨#[]⟩, .int .u64 0] _ rfl R0 Tryz.underlying56 rfl (by kernel_rfl)) rfl ⟨rfl, b0⟩
set_option maxRecDepth 100000 in
set_option maxHeartbeats 1000000 in
theorem nSeekR (k : ByteArray) (s : Int) (w : World) : Calls Tryz.prog 37 #[.pointer none, .string k, .int .i64 s] w fun e w' => e = .returned (.tuple #[.string ⟨#[]⟩, Val.V0.v, .bool false]) ∧ Below w.heap.size w w' := by
  have R0 := RowAt.new w [.bool false, .string ⟨#[]⟩, .int .u64 0] 56
  have b0 : Below w.heap.size w (w.alloc (.cells #[.bool false, .string ⟨#[]⟩, .int .u64 0] 56)) := (Below.refl _ _).alloc (Nat.le_refl _) _
  go_enter Tryz.func37, Tryz.ntmps37
  go_wp2_with fail
  exact bodyPost_ret (results_tct rfl _ _ w.heap.size _ [.bool false, .string ⟨#[]⟩, .int .u64 0] _ rfl R0 Tryz.underlying56 rfl (by kernel_rfl)) rfl ⟨rfl, b0⟩

end Go.Proofs.YtiiokmfnohifmaaGreat
