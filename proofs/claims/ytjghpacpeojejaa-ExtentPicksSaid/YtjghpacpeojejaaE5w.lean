/- Rows of ints; cloisonneref05: Wet, Ints, New: walked. -/
import Derived.Test.YtjghpacpeojejaaE5c
import Derived.Laws.AppendOwn
import Derived.Laws.MakeOwn
namespace Go.Proofs.Ytjghpacpeojejaa
open Go.RowKit

theorem infoJ : (Try.prog.info? 3).map (fun i => (i.zero, i.size, i.bytes)) = some (some (.int .i64 0), 1, 8) := by kernel_rfl
/-- the slice at A reads as the ints zs -/
def SlJ (w : World) (A : Option Addr) (zs : List Int) : Prop :=
  0 < zs.length → ∃ b o, A = some ⟨b, o, none⟩ ∧ b < w.heap.size ∧ ∀ j, j < zs.length → w.cell? ⟨b, o + j, none⟩ = some (.int .i64 (zs.getD j 0))
theorem SlJ.below {w w' : World} {A : Option Addr} {zs : List Int} (h : SlJ w A zs) (hb : Below w.heap.size w w') : SlJ w' A zs := fun hn => by
  obtain ⟨b, o, e, hlt, hc⟩ := h hn
  exact ⟨b, o, e, Nat.lt_of_lt_of_le hlt hb.size, fun j hj => (hb.cell (p := ⟨b, o + j, none⟩) hlt).trans (hc j hj)⟩
theorem SlJ.nil (w : World) (A : Option Addr) : SlJ w A [] := fun h => absurd h (by simp)
theorem SlJ.drewN {w : World} {A : Option Addr} {zs : List Int} (h : SlJ w A zs) (n : Nat) : SlJ (w.drewN n) A zs := h
/-- v is a row of ints of the call's own, from block B on -/
def OwnJ (w : World) (B : Nat) (v : Value) (zs : List Int) : Prop := w.ownsRow B 3 1 v zs.length (zs.map (Value.int .i64))
section
variable {w w' : World} {B : Nat} {v : Value} {zs : List Int}
theorem OwnJ.form (h : OwnJ w B v zs) : ∃ A c, v = .slice A zs.length c ∧ SlJ w A zs := by
  rcases h.2 with ⟨rfl, hn⟩ | ⟨g, cap, cur, rfl, hB, hg, hnc, _, hs, ht⟩
  · have hz : zs = [] := List.eq_nil_of_length_eq_zero hn
    subst hz
    exact ⟨none, 0, rfl, SlJ.nil _ _⟩
  · refine ⟨some ⟨g, 0, none⟩, cap, rfl, fun hp => ⟨g, 0, rfl, ?_, fun j hj => ?_⟩⟩
    · rcases Nat.lt_or_ge g w.heap.size with hlt | hge
      · exact hlt
      · rw [Array.getElem?_eq_none hge] at hg; cases hg
    · have hj2 : j < zs.length * 1 := by omega
      rw [Nat.zero_add, World.ownsRow.cellAt (w := w) (base := B) (e := 3) (size := 1) (xs := zs.map (Value.int .i64)) h j hj2, List.getElem?_map, List.getElem?_eq_getElem hj, List.getD, List.getElem?_eq_getElem hj]; rfl
theorem OwnJ.alloc (h : OwnJ w B v zs) (o : Obj) : OwnJ (w.alloc o) B v zs := World.ownsRow.alloc h o
theorem OwnJ.made (w : World) (B : Nat) (hB : B ≤ w.heap.size) : OwnJ (w.alloc (.cells #[] 3)) B (.slice (some ⟨w.heap.size, 0, none⟩) 0 0) [] :=
  World.ownsRow_made w #[] 0 hB (Nat.zero_le _) (by simp)
set_option maxRecDepth 100000 in
/-- append(v, x): the row with one more -/
theorem wp_putJ {ops : Array Oper} {rest : List Oper} {o : Oper} {a : Act} {Q : Exit → Act → World → Prop} (hgd : o.guard = none) (s x : Operand)
    (ho : o.op = .call { callee := .builtin .append, args := #[s, x], argTypes := #[40, 40] })
    (B : Nat) (v : Value) (zs : List Int) (hs : a.eval s = v) (hown : OwnJ w B v zs) (g : Nat) (y : Int) (hx : a.eval x = .slice (some ⟨g, 0, none⟩) 1 1)
    (hc : w.cell? ⟨g, 0, none⟩ = some (.int .i64 y)) (hl : zs.length + 1 ≤ 1000000) (hB : B ≤ w.heap.size)
    (h : ∀ v' w', OwnJ w' B v' (zs ++ [y]) → Below B w w' → wpList Try.prog ops Q rest (a.put o.dst v') w') : wpList Try.prog ops Q (o :: rest) a w := by
  obtain ⟨i0, hi, hz0, hz1, hz2⟩ := info_parts infoJ
  refine wpList_append_own w hgd s x 40 ho B 3 i0 _ 1 8 Try.underlying40 hi hz0 hz1 hz2 rfl (by decide) v zs.length _ hs hown ⟨g, 0, none⟩ 1 1 [.int .i64 y] hx rfl ?_ ?_
    (by unfold maxLen; omega) (by omega) hB ?_
  · intro j u hj
    cases j with
    | zero => simp at hj; subst hj; exact hc
    | succ j => simp at hj
  · intro u hu; simp at hu; subst hu; rfl
  · intro v' w' h1 h2 _
    refine h v' w' ?_ ((Below.refl _ _).grown h2 hB (fun k hk => (World.ownsRow.lt hown k hk).1))
    unfold OwnJ
    simpa using h1
end

theorem wetTo_len (m : Ext) (e : Int) : ∀ k, (m.wetTo e k).length ≤ k
  | 0 => by simp [Ext.wetTo]
  | k + 1 => by
    rw [Ext.wetTo_succ, List.length_append]
    have := wetTo_len m e k
    split <;> simp <;> omega
theorem cell_new1 (w : World) (v : Value) (t : TypeId) : (w.alloc (.cells #[v] t)).cell? ⟨w.heap.size, 0, none⟩ = some v := by
  rw [World.cell?_alloc_at _ _ _ _ rfl]; rfl

set_option maxRecDepth 100000 in
set_option maxHeartbeats 1000000 in
/-- cloisonneref05.World.Wet -/
theorem eWet (p g : Nat) (m : Ext) (e : Int) (w : World) (h : RefE w p g m) (he : In64 e) :
    Calls Try.prog 15 #[.pointer (some ⟨p, 0, none⟩), .int .i64 e] w fun x w' => (∃ A c, x = .returned (.slice A (m.wet e).length c) ∧ SlJ w' A (m.wet e)) ∧ Below w.heap.size w w' := by
  have H := Lib.hid h
  have ll := Ext.len_le h.ok
  have s128 := h.ok.2.2.2.1
  obtain ⟨S, hS⟩ : ∃ S, S = m.sec := ⟨_, rfl⟩
  obtain ⟨LL, hLL⟩ : ∃ LL, LL = m.l.length := ⟨_, rfl⟩
  rw [← hS] at s128
  rw [← hLL] at ll
  have HS := Lib.hid hS
  have HLL := Lib.hid hLL
  have HE := Lib.hid he
  clear h hS hLL he
  go_enter Try.func15, Try.ntmps15
  go_wp2_with fail
  go_loopw [5, 6] (fun vo va wr => ∃ k : Nat, k ≤ S ∧ va = .int .i64 k ∧ Hid (OwnJ wr w.heap.size vo (m.wetTo e k)) ∧ Hid (Below w.heap.size w wr)) (fun _ va _ => S - (intOf va).toNat)
  case atStart => exact ⟨0, Nat.zero_le _, rfl, OwnJ.made w w.heap.size (Nat.le_refl _), (Below.refl _ _).alloc (Nat.le_refl _) _⟩
  case round =>
    obtain ⟨k, hk, rfl, HO, HB⟩ := hrel
    have RR := Lib.hid (H.out.below HB.out)
    have c2 := RR.out.p2
    rw [← HS.out] at c2
    have bsz := HB.out.size
    by_cases hlt : k < S
    · have AT := Lib.hid (eAt p g m e (k : Int) _ RR.out HE.out ⟨by omega, by omega⟩)
      have c3 := RR.out.p3
      rw [← HLL.out] at c3
      have NS := Lib.hid (Ext.wetTo_succ m e k)
      have zl := wetTo_len m e k
      by_cases hh : m.has e (k : Int)
      · have AV := Lib.hid (atI_has hh)
        have hi := Ext.pos_lt H.out.ok hh
        obtain ⟨i, hi2⟩ : ∃ i, i = m.pos e (k : Int) := ⟨_, rfl⟩
        rw [← hi2] at AV hi
        have s2 := RR.out.s2 hi
        rw [← HLL.out] at hi
        have HI := Lib.hid hi2
        have i0 : (0 : Int) ≤ (i : Int) := by omega
        have i1 : (i : Int) < (LL : Int) := by omega
        cases hw : (m.secAt i).wet with
        | false =>
          rw [hw] at s2
          have NX := Lib.hid (show m.wetTo e (k + 1) = m.wetTo e k by rw [NS.out, if_neg (fun q => by rw [← HI.out, hw] at q; cases q.2), List.append_nil])
          clear hh hi2 hw
          go_wp2_with fail
          refine AT.out.mono ?_
          rintro x w' ⟨rfl, rfl⟩
          rw [AV.out]
          go_wp2_with fail
          go_roundw
          case rel => exact ⟨k + 1, by omega, by go_num, by rw [NX.out]; exact HO, HB⟩
          case measure => simp [intOf]; omega
        | true =>
          rw [hw] at s2
          have NX := Lib.hid (show m.wetTo e (k + 1) = m.wetTo e k ++ [(k : Int)] by rw [NS.out, if_pos ⟨hh, by rw [← HI.out, hw]⟩])
          clear hh hi2 hw
          obtain ⟨zs, hzs⟩ : ∃ zs, zs = m.wetTo e k := ⟨_, rfl⟩
          rw [← hzs] at HO NX zl
          clear hzs
          go_wp2_with fail
          refine AT.out.mono ?_
          rintro x w' ⟨rfl, rfl⟩
          rw [AV.out]
          go_wp2_with (at_builtin; refine wp_putJ rfl (.tmp 33) (.tmp 35) rfl w.heap.size _ zs rfl (HO.out.alloc _) _ (k : Int) rfl (cell_new1 _ _ _) (by omega) (by simp; omega) ?_; intro v1 w1 hown1 hb1; have HO1 := Lib.hid hown1; have HB1 := Lib.hid ((HB.out.alloc bsz _).trans hb1); clear hown1 hb1)
          go_roundw
          case rel => exact ⟨k + 1, by omega, by go_num, by rw [NX.out]; exact HO1, HB1⟩
          case measure => simp [intOf]; omega
      · have AV := Lib.hid (atI_no hh)
        have NX := Lib.hid (show m.wetTo e (k + 1) = m.wetTo e k by rw [NS.out, if_neg (fun q => hh q.1), List.append_nil])
        clear hh
        go_wp2_with fail
        refine AT.out.mono ?_
        rintro x w' ⟨rfl, rfl⟩
        rw [AV.out]
        go_wp2_with fail
        go_roundw
        case rel => exact ⟨k + 1, by omega, by go_num, by rw [NX.out]; exact HO, HB⟩
        case measure => simp [intOf]; omega
    · have hke : k = S := by omega
      obtain ⟨A, c, rfl, hsl⟩ := HO.out.form
      have SL := Lib.hid hsl
      have HW := Lib.hid (show m.wetTo e k = m.wet e by rw [hke, HS.out]; rfl)
      clear hke hsl
      go_wp2_with fail
      go_ret
      exact ⟨⟨A, c, by rw [← HW.out]; rfl, by rw [← HW.out]; exact SL.out⟩, HB.out⟩

set_option maxRecDepth 100000 in
/-- cloisonneref05.Ints -/
theorem eInts (A B : Option Addr) (c d : Nat) (a b : List Int) (w : World) (ha : SlJ w A a) (hb : SlJ w B b) (hl : a.length ≤ 1000000) :
    Calls Try.prog 13 #[.slice A a.length c, .slice B b.length d] w fun x w' => x = .returned (.bool (decide (a = b))) ∧ ∃ n, w' = w.drewN n := by
  by_cases hne : a.length = b.length
  case neg =>
    have R := Lib.hid (show decide (a = b) = false from decide_eq_false (fun e => hne (by rw [e])))
    have T : ((a.length : Int) != (b.length : Int)) = true := by rw [bne_iff_ne]; omega
    clear hne
    go_enter Try.func13, Try.ntmps13
    go_wp2_with fail
    go_ret
    exact ⟨by rw [R.out]; rfl, 0, rfl⟩
  obtain ⟨n, hn⟩ : ∃ n, n = a.length := ⟨_, rfl⟩
  have hn2 : b.length = n := by omega
  rw [← hn, hn2]
  have HN := Lib.hid hn
  have HM := Lib.hid hn2
  have SA := Lib.hid ha
  have SB := Lib.hid hb
  rw [← hn] at hl
  clear hn hn2 hne ha hb
  go_enter Try.func13, Try.ntmps13
  go_wp2_with fail
  go_loopw [5] (fun vi wr => ∃ (i q : Nat), i ≤ n ∧ vi = .int .i64 i ∧ wr = w.drewN q ∧ Hid (∀ j, j < i → a.getD j 0 = b.getD j 0)) (fun vi _ => n - (intOf vi).toNat)
  case atStart => exact ⟨0, 0, Nat.zero_le _, rfl, rfl, Lib.hid (fun j hj => by omega)⟩
  case round =>
    obtain ⟨i, q, hi, rfl, rfl, HE⟩ := hrel
    by_cases hlt : i < n
    · obtain ⟨ab, ao, rfl, _, hca⟩ := SA.out (by have := HN.out; omega)
      obtain ⟨bb, bo, rfl, _, hcb⟩ := SB.out (by have := HM.out; omega)
      have q1 := hca i (by have := HN.out; omega)
      have q2 := hcb i (by have := HM.out; omega)
      obtain ⟨x, hx⟩ : ∃ x, x = a.getD i 0 := ⟨_, rfl⟩
      obtain ⟨y, hy⟩ : ∃ y, y = b.getD i 0 := ⟨_, rfl⟩
      rw [← hx] at q1
      rw [← hy] at q2
      have HX := Lib.hid hx
      have HY := Lib.hid hy
      obtain ⟨wn, hwn⟩ : ∃ wn, wn = w.drewN q := ⟨_, rfl⟩
      rw [← hwn]
      have q1n : wn.cell? ⟨ab, ao + i, none⟩ = some (.int .i64 x) := by rw [hwn]; exact q1
      have q2n : wn.cell? ⟨bb, bo + i, none⟩ = some (.int .i64 y) := by rw [hwn]; exact q2
      have HWN := Lib.hid (show ∀ v, ∃ n', wn.drewN v = w.drewN n' from fun v => by rw [hwn]; exact drewN2 w q v)
      have j0 : (0 : Int) ≤ (i : Int) := by omega
      have j1 : (i : Int) < (n : Int) := by omega
      clear hca hcb q1 q2 hx hy hwn
      by_cases hxy : x = y
      · have T : (x != y) = false := by simp [hxy]
        have NX := Lib.hid (show ∀ j, j < i + 1 → a.getD j 0 = b.getD j 0 from fun j hj => by
          by_cases e : j = i
          · subst e; rw [← HX.out, ← HY.out, hxy]
          · exact HE.out j (by omega))
        clear hxy
        go_wp2_with fail
        go_quiet (fail)
        obtain ⟨n', hn'⟩ := HWN.out nq
        rw [hn']
        go_wp2_with fail
        go_roundw
        case rel => exact ⟨i + 1, n', by omega, by go_num, rfl, NX⟩
        case measure => simp [intOf]; omega
      · have T : (x != y) = true := by simp [hxy]
        have R := Lib.hid (show decide (a = b) = false from decide_eq_false (fun e => hxy (by rw [HX.out, HY.out, e])))
        clear hxy
        go_wp2_with fail
        go_quiet (fail)
        obtain ⟨n', hn'⟩ := HWN.out nq
        rw [hn']
        go_wp2_with fail
        go_ret
        exact ⟨by rw [R.out]; rfl, n', rfl⟩
    · have R := Lib.hid (show decide (a = b) = true from decide_eq_true (by
        have hin : i = n := by omega
        apply List.ext_getElem (by rw [← HN.out, HM.out])
        intro j h1 h2
        have := HE.out j (by rw [hin, HN.out]; exact h1)
        rw [List.getD_eq_getElem?_getD, List.getD_eq_getElem?_getD, List.getElem?_eq_getElem h1, List.getElem?_eq_getElem h2] at this
        exact this))
      go_wp2_with fail
      go_ret
      exact ⟨by rw [R.out]; rfl, q, rfl⟩

theorem infoS5 : (Try.prog.info? 66).map (fun i => (i.zero, i.size, i.bytes)) = some (some (.agg #[.string ⟨#[]⟩, .string ⟨#[]⟩, .bool false]), 3, 40) := by kernel_rfl
theorem made_secs (n : Nat) : madeCells (Value.cells (.agg #[.string ⟨#[]⟩, .string ⟨#[]⟩, .bool false])) (n * 3) = ((List.replicate n Sec0).flatMap secCells).toArray := by
  apply Array.ext
  · rw [size_madeCells]; simp only [List.size_toArray]; rw [flat_len secCells_len]; simp
  intro i h1 h2
  rw [size_madeCells] at h1
  have e : i = i / 3 * 3 + i % 3 := by omega
  have hi : i / 3 < (List.replicate n Sec0).length := by rw [List.length_replicate]; omega
  have h3 := flat_at secCells_len (List.replicate n Sec0) (i / 3) (i % 3) hi (Nat.mod_lt _ (by omega))
  rw [← e, List.getElem_replicate] at h3
  have h4 : ((List.replicate n Sec0).flatMap secCells)[i]? = some (((List.replicate n Sec0).flatMap secCells)[i]'(by simpa using h2)) := List.getElem?_eq_getElem _
  rw [h4] at h3
  have h5 : (madeCells (Value.cells (.agg #[.string ⟨#[]⟩, .string ⟨#[]⟩, .bool false])) (n * 3))[i]'(by rw [size_madeCells]; exact h1) = #[Value.string ⟨#[]⟩, .string ⟨#[]⟩, .bool false][i % 3]! := by
    unfold madeCells; simp [Value.cells]
  rw [h5]
  have h6 : i % 3 = 0 ∨ i % 3 = 1 ∨ i % 3 = 2 := by omega
  have h7 : (((List.replicate n Sec0).flatMap secCells).toArray)[i]'h2 = ((List.replicate n Sec0).flatMap secCells)[i]'(by simpa using h2) := by simp
  rw [h7]
  rcases h6 with h6 | h6 | h6 <;> rw [h6] at h3 ⊢ <;> exact Option.some.inj h3.symm
/-- make([]Sector, n) -/
theorem make_secs (n : Nat) (hn : n ≤ 1000000) : ∀ W : World, (Instr.makeSlice 36 (.int .i64 (n : Int)) (.int .i64 (n : Int))).run Try.prog W = .ok (.slice (some ⟨W.heap.size, 0, none⟩) n n) (W.alloc (.cells ((List.replicate n Sec0).flatMap secCells).toArray 66)) := by
  obtain ⟨i0, hi, hz0, hz1, hz2⟩ := info_parts infoS5
  intro W
  have h := run_make (P := Try.prog) W 36 66 i0 _ Try.underlying36 hi hz0 .i64 .i64 (n : Int) (n : Int) (by omega) (by omega) (by rw [hz2]; omega) (by omega)
  rw [hz1] at h
  rw [← made_secs]
  simpa using h

/-- what it leaves -/
def NewPost (e s : Int) (w : World) (x : Ending) (w' : World) : Prop :=
  (Ext.fits e s = true ∧ x = .returned (.tuple #[.pointer (some ⟨w.heap.size + 1, 0, none⟩), .int .i64 0]) ∧ RefE w' (w.heap.size + 1) w.heap.size (Ext.new e.toNat s.toNat) ∧ Below w.heap.size w w') ∨
    (Ext.fits e s = false ∧ x = .returned (.tuple #[.pointer none, .int .i64 1]) ∧ w = w')

set_option maxRecDepth 100000 in
/-- cloisonneref05.New -/
theorem eNew (e s : Int) (w : World) : Calls Try.prog 9 #[.int .i64 e, .int .i64 s] w (NewPost e s w) := by
  cases hf : Ext.fits e s with
  | true =>
    have HF := Lib.hid hf
    unfold Ext.fits at hf
    simp only [Bool.and_eq_true, decide_eq_true_eq] at hf
    obtain ⟨⟨⟨h0, h1⟩, h2⟩, h3⟩ := hf
    obtain ⟨E, rfl⟩ := Int.eq_ofNat_of_zero_le (show 0 ≤ e by omega)
    obtain ⟨S, rfl⟩ := Int.eq_ofNat_of_zero_le (show 0 ≤ s by omega)
    obtain ⟨N, hN⟩ : ∃ N : Nat, E * S = N := ⟨_, rfl⟩
    have n4 : N ≤ 4096 := by rw [← hN]; exact Nat.mul_le_mul (show E ≤ 32 by omega) (show S ≤ 128 by omega)
    have hw : IntKind.i64.wrap ((E : Int) * (S : Int)) = (N : Int) := by
      have e1 : (E : Int) * (S : Int) = (N : Int) := by rw [← hN]; simp
      rw [e1, IntKind.wrap_i64]; omega
    have MK := make_secs N (by omega)
    obtain ⟨CS, hCS⟩ : ∃ CS, CS = ((List.replicate N Sec0).flatMap secCells).toArray := ⟨_, rfl⟩
    rw [← hCS] at MK
    have HCS := Lib.hid hCS
    have HNN := Lib.hid hN
    clear hCS hN
    go_enter Try.func9, Try.ntmps9
    go_wp2_with fail
    go_ret2
    have ln : (Ext.new E S).l.length = N := by show (List.replicate _ _).length = N; rw [List.length_replicate, HNN.out]
    refine .inl ⟨HF.out, rfl, ⟨by omega, ?_, ?_, ?_⟩, ((Below.refl w.heap.size w).alloc (Nat.le_refl _) _).alloc (by simp) _⟩
    · have h := RowAt.new (w.alloc (.cells CS 66)) (extCells w.heap.size (Ext.new E S)) 38
      rw [show (w.alloc (.cells CS 66)).heap.size = w.heap.size + 1 by simp] at h
      unfold extCells at h ⊢
      simp only [Int.toNat_natCast, ln] at h ⊢
      exact h
    · have h := (RowAt.new w ((List.replicate N Sec0).flatMap secCells) 66).alloc (.cells #[.bool false, .int .i64 (E : Int), .int .i64 (S : Int), .slice (some ⟨w.heap.size, 0, none⟩) N N] 38)
      rw [← HCS.out] at h
      simp only [Int.toNat_natCast]
      rw [show (Ext.new E S).l = List.replicate N Sec0 by show List.replicate _ _ = _; rw [HNN.out]]
      exact h
    · simp only [Int.toNat_natCast]
      exact Ext.new_ok HF.out
  | false =>
    have C : e < 1 ∨ (1 ≤ e ∧ 32 < e) ∨ (1 ≤ e ∧ e ≤ 32 ∧ s < 1) ∨ (1 ≤ e ∧ e ≤ 32 ∧ 1 ≤ s ∧ 128 < s) := by
      unfold Ext.fits at hf
      simp only [Bool.and_eq_false_iff, decide_eq_false_iff_not] at hf
      omega
    have HF := Lib.hid hf
    clear hf
    rcases C with C | ⟨C0, C⟩ | ⟨C0, C1, C⟩ | ⟨C0, C1, C2, C⟩
    all_goals
      go_enter Try.func9, Try.ntmps9
      go_wp2_with fail
      go_ret2
      exact .inr ⟨HF.out, rfl, rfl⟩

end Go.Proofs.Ytjghpacpeojejaa
