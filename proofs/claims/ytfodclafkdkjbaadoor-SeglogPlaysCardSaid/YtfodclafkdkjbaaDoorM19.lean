/- Proved parts: S7w S7x. Conditions: each theorem's own. -/
import Derived.Test.YtfodclafkdkjbaaDoorM18
import Derived.Test.YtfodclafkdkjbaaDoorM6
namespace Go.Proofs.YtfodclafkdkjbaaDoor
open Go.RowKit

def wrCells (pl gp cp : Nat) (x : Wr) : List Value := [.pointer (some ⟨pl, 0, none⟩), .bool x.base, .slice (some ⟨gp, 0, none⟩) x.parts.length cp, .int .i64 (x.moves : Int)]
/-- the reference's writer x lies at px, its parts at gp, its log at pl -/
structure RefW (w : World) (px gp pl : Nat) (x : Wr) : Prop where
  ne : gp ≠ px
  row : ∃ cp, RowAt w px (wrCells pl gp cp x) 107 ∧ OwnS w gp (.slice (some ⟨gp, 0, none⟩) x.parts.length cp) x.parts
theorem RefW.keep {F : Nat → Prop} {w w' : World} {px gp pl : Nat} {x : Wr} (h : RefW w px gp pl x) (hc : Chg F w w') (h1 : ¬ F px) (h2 : ¬ F gp) : RefW w' px gp pl x := by
  obtain ⟨cp, hr, ho⟩ := h.row
  refine ⟨h.ne, cp, hr.keep hc h1, ?_⟩
  rcases ho with ⟨e1, e2⟩
  refine ⟨e1, ?_⟩
  rcases e2 with ⟨q, _⟩ | ⟨g, cap, cur, q, hB, hg, r⟩
  · cases q
  · injection q with q1 q2 q3
    injection q1 with q1
    injection q1 with q1 _ _
    subst q1
    exact .inr ⟨gp, cap, cur, by rw [q3], hB, (hc.block gp (Array.getElem?_eq_some_iff.1 hg).1 h2).trans hg, r⟩
theorem RefL.keep {F : Nat → Prop} {w w' : World} {pl p : Nat} {l : Lg} (h : RefL w pl p l) (hc : Chg F w w') (h1 : ¬ F pl) : RefL w' pl p l := RowAt.keep h hc h1
theorem ownS_at {w : World} {B gp n cp : Nat} {zs : List ByteArray} (h : OwnS w B (.slice (some ⟨gp, 0, none⟩) n cp) zs) : OwnS w gp (.slice (some ⟨gp, 0, none⟩) n cp) zs := by
  rcases h with ⟨e1, e2⟩
  refine ⟨e1, ?_⟩
  rcases e2 with ⟨q, _⟩ | ⟨g, cap, cur, q, hB, hg, r⟩
  · cases q
  · have q' := q
    injection q' with q1 q2 q3
    injection q1 with q1
    injection q1 with q1 _ _
    exact .inr ⟨g, cap, cur, q, by omega, hg, r⟩
/-- what it answers -/
def WrPost (p pl : Nat) (o : Lg × Option Wr × Int) (w : World) (x : Ending) (w' : World) : Prop :=
  (match o.2.1 with
    | none => x = .returned (.tuple #[.pointer none, .int .i64 o.2.2])
    | some y => ∃ px gp, x = .returned (.tuple #[.pointer (some ⟨px, 0, none⟩), .int .i64 o.2.2]) ∧ RefW w' px gp pl y ∧ w.heap.size ≤ px ∧ w.heap.size ≤ gp) ∧
  RefL w' pl p o.1 ∧ Chg (fun k => k = pl) w w'
theorem WrPost.no {p pl : Nat} {o : Lg × Option Wr × Int} {w w' : World} {l : Lg} {e : Int} (h : o = (l, none, e)) (hl : RefL w pl p l) (hb : Below w.heap.size w w') : WrPost p pl o w (.returned (.tuple #[.pointer none, .int .i64 e])) w' := by
  subst h
  exact ⟨rfl, RowAt.below hl hb, Chg.of_below hb⟩

set_option maxRecDepth 100000 in
set_option maxHeartbeats 4000000 in
/-- cloisonneref07.Write -/
theorem rWrite (p g pl : Nat) (m : Ext) (l : Lg) (s : ByteArray) (b : Bool) (w : World) (h : RefE w p g m) (hl : RefL w pl p l) (hs : s.size ≤ 5000) (hu : l.used ≤ 1000) :
    Calls Tryd.prog 29 #[.pointer (some ⟨pl, 0, none⟩), .string s, .bool b] w (WrPost p pl (l.write m.sec s b) w) := by
  have HL := Lib.hid hl
  have c0 := RowAt.cell hl 0
  have c3 := RowAt.cell hl 3
  have c4 := RowAt.cell hl 4
  have c5 := RowAt.cell hl 5
  have c6 := RowAt.cell hl 6
  have f6 := RowAt.frozen hl 6
  simp only [logCells, List.getElem?_cons_zero, List.getElem?_cons_succ] at c0 c3 c4 c5 c6
  have p2 := h.p2
  have s128 := h.ok.2.2.2.1
  have HE := Lib.hid h
  obtain ⟨S, hS⟩ : ∃ S, S = m.sec := ⟨_, rfl⟩
  rw [← hS] at p2 s128 ⊢
  have PA := Lib.hid (fun w => srParts s w hs)
  have PL := Lib.hid (partsOf_len s)
  obtain ⟨n, hn⟩ : ∃ n, n = cntN s.size := ⟨_, rfl⟩
  have n1 : n ≤ 200 := by rw [hn]; unfold cntN; split <;> omega
  have n0 : 1 ≤ n := by rw [hn]; unfold cntN; split <;> omega
  obtain ⟨LZ, hLZ⟩ : ∃ LZ, LZ = partsOf s := ⟨_, rfl⟩
  rw [← hLZ] at PA PL
  rw [← hn] at PL
  have WV := Lib.hid (show l.write S s b = if l.busy then (l, none, 9) else if !b && decide (l.gen = 0) then (l, none, 7) else if decide (S < l.fr b + n) then (l, none, 16)
      else if decide (2147483647 < l.life) || (b && decide (2147483647 ≤ l.gen)) then (l, none, 17) else ({ l with busy := true }, some ⟨b, LZ, 0⟩, 0) by rw [hn, hLZ]; rfl)
  obtain ⟨O, hO⟩ : ∃ O, O = l.write S s b := ⟨_, rfl⟩
  rw [← hO] at WV ⊢
  have SE := Lib.hid (show (S : Int) = (m.sec : Int) by rw [hS])
  clear hO hn hLZ hS h hl hs
  obtain ⟨lf, la, lg, lu, ll, lb⟩ := l
  simp only at c0 c3 c4 c5 c6 hu WV
  have B0 := Lib.hid (Below.refl w.heap.size w)
  cases lb with
  | true =>
    have W := Lib.hid (show O = (⟨lf, la, lg, lu, ll, true⟩, none, 9) from WV.out)
    clear WV
    go_enter Tryd.func29, Tryd.ntmps29
    go_wp2_with fail
    go_ret2
    exact WrPost.no W.out HL.out B0.out
  | false =>
  simp only [Lg.fr] at WV
  cases b with
  | true =>
    by_cases qs : S < 0 + n
    · have W := Lib.hid (show O = (⟨lf, la, lg, lu, ll, false⟩, none, 16) by rw [WV.out, if_neg (by simp), if_neg (by simp), if_pos (by simpa using qs)])
      clear WV c0 c3 c4 c5 c6 f6 p2
      have TS : decide (S < n) = true := decide_eq_true (by omega)
      clear qs
      go_enter Tryd.func29, Tryd.ntmps29
      have c6q := RowAt.cell HL.out 6
      simp only [logCells, List.getElem?_cons_zero, List.getElem?_cons_succ] at c6q
      go_wp2_with fail
      refine (PA.out _).mono ?_
      rintro e1 w1 ⟨vp, rfl, ho1, hb1⟩
      obtain ⟨gp, cp, hvp⟩ := ho1.open_ (by have := PL.out; omega)
      rw [PL.out] at hvp
      subst hvp
      have HL1 := RowAt.below HL.out hb1
      have p2 := (HE.out.below hb1).p2
      have O1 := Lib.hid ho1
      have B1 := Lib.hid hb1
      have HLh := Lib.hid HL1
      have c0 := RowAt.cell HL1 0
      have c3 := RowAt.cell HL1 3
      have c4 := RowAt.cell HL1 4
      have c5 := RowAt.cell HL1 5
      have c6 := RowAt.cell HL1 6
      have f6 := RowAt.frozen HL1 6
      simp only [logCells, List.getElem?_cons_zero, List.getElem?_cons_succ] at c0 c3 c4 c5 c6
      clear hb1 ho1 HL1
      have p2s : w1.cell? ⟨p, 2, none⟩ = some (.int .i64 (S : Int)) := by rw [SE.out]; exact p2
      clear p2 c6q
      go_wp2_with fail
      go_quiet (fail)
      go_wp2_with fail
      go_ret2
      exact WrPost.no W.out HL.out (below_drewN B1.out _)
    by_cases ql : 2147483647 < ll
    · have W := Lib.hid (show O = (⟨lf, la, lg, lu, ll, false⟩, none, 17) by rw [WV.out, if_neg (by simp), if_neg (by simp), if_neg (by simpa using qs), if_pos (by simp [ql])])
      clear WV c0 c3 c4 c5 c6 f6 p2
      have TS : decide (S < n) = false := decide_eq_false (by omega)
      have TL : decide (2147483647 < ll) = true := decide_eq_true ql
      clear qs ql
      go_enter Tryd.func29, Tryd.ntmps29
      have c6q := RowAt.cell HL.out 6
      simp only [logCells, List.getElem?_cons_zero, List.getElem?_cons_succ] at c6q
      go_wp2_with fail
      refine (PA.out _).mono ?_
      rintro e1 w1 ⟨vp, rfl, ho1, hb1⟩
      obtain ⟨gp, cp, hvp⟩ := ho1.open_ (by have := PL.out; omega)
      rw [PL.out] at hvp
      subst hvp
      have HL1 := RowAt.below HL.out hb1
      have p2 := (HE.out.below hb1).p2
      have O1 := Lib.hid ho1
      have B1 := Lib.hid hb1
      have HLh := Lib.hid HL1
      have c0 := RowAt.cell HL1 0
      have c3 := RowAt.cell HL1 3
      have c4 := RowAt.cell HL1 4
      have c5 := RowAt.cell HL1 5
      have c6 := RowAt.cell HL1 6
      have f6 := RowAt.frozen HL1 6
      simp only [logCells, List.getElem?_cons_zero, List.getElem?_cons_succ] at c0 c3 c4 c5 c6
      clear hb1 ho1 HL1
      have p2s : w1.cell? ⟨p, 2, none⟩ = some (.int .i64 (S : Int)) := by rw [SE.out]; exact p2
      clear p2 c6q
      go_wp2_with fail
      go_quiet (fail)
      go_wp2_with fail
      go_ret2
      exact WrPost.no W.out HL.out (below_drewN B1.out _)
    by_cases qg : 2147483647 ≤ lg
    · have W := Lib.hid (show O = (⟨lf, la, lg, lu, ll, false⟩, none, 17) by rw [WV.out, if_neg (by simp), if_neg (by simp), if_neg (by simpa using qs), if_pos (by simp [qg])])
      clear WV c0 c3 c4 c5 c6 f6 p2
      have TS : decide (S < n) = false := decide_eq_false (by omega)
      have TL : decide (2147483647 < ll) = false := decide_eq_false ql
      have TM : decide (2147483647 ≤ lg) = true := decide_eq_true qg
      clear qs ql qg
      go_enter Tryd.func29, Tryd.ntmps29
      have c6q := RowAt.cell HL.out 6
      simp only [logCells, List.getElem?_cons_zero, List.getElem?_cons_succ] at c6q
      go_wp2_with fail
      refine (PA.out _).mono ?_
      rintro e1 w1 ⟨vp, rfl, ho1, hb1⟩
      obtain ⟨gp, cp, hvp⟩ := ho1.open_ (by have := PL.out; omega)
      rw [PL.out] at hvp
      subst hvp
      have HL1 := RowAt.below HL.out hb1
      have p2 := (HE.out.below hb1).p2
      have O1 := Lib.hid ho1
      have B1 := Lib.hid hb1
      have HLh := Lib.hid HL1
      have c0 := RowAt.cell HL1 0
      have c3 := RowAt.cell HL1 3
      have c4 := RowAt.cell HL1 4
      have c5 := RowAt.cell HL1 5
      have c6 := RowAt.cell HL1 6
      have f6 := RowAt.frozen HL1 6
      simp only [logCells, List.getElem?_cons_zero, List.getElem?_cons_succ] at c0 c3 c4 c5 c6
      clear hb1 ho1 HL1
      have p2s : w1.cell? ⟨p, 2, none⟩ = some (.int .i64 (S : Int)) := by rw [SE.out]; exact p2
      clear p2 c6q
      go_wp2_with fail
      go_quiet (fail)
      go_wp2_with fail
      go_ret2
      exact WrPost.no W.out HL.out (below_drewN B1.out _)
    have W := Lib.hid (show O = (⟨lf, la, lg, lu, ll, true⟩, some ⟨true, LZ, 0⟩, 0) by rw [WV.out, if_neg (by simp), if_neg (by simp), if_neg (by simpa using qs), if_neg (by simp [ql, qg])])
    clear WV c0 c3 c4 c5 c6 f6 p2
    have TS : decide (S < n) = false := decide_eq_false (by omega)
    have TL : decide (2147483647 < ll) = false := decide_eq_false ql
    have TM : decide (2147483647 ≤ lg) = false := decide_eq_false qg
    clear qs ql qg
    go_enter Tryd.func29, Tryd.ntmps29
    have c6q := RowAt.cell HL.out 6
    simp only [logCells, List.getElem?_cons_zero, List.getElem?_cons_succ] at c6q
    go_wp2_with fail
    refine (PA.out _).mono ?_
    rintro e1 w1 ⟨vp, rfl, ho1, hb1⟩
    obtain ⟨gp, cp, hvp⟩ := ho1.open_ (by have := PL.out; omega)
    rw [PL.out] at hvp
    subst hvp
    have HL1 := RowAt.below HL.out hb1
    have p2 := (HE.out.below hb1).p2
    have O1 := Lib.hid ho1
    have B1 := Lib.hid hb1
    have HLh := Lib.hid HL1
    have c0 := RowAt.cell HL1 0
    have c3 := RowAt.cell HL1 3
    have c4 := RowAt.cell HL1 4
    have c5 := RowAt.cell HL1 5
    have c6 := RowAt.cell HL1 6
    have f6 := RowAt.frozen HL1 6
    simp only [logCells, List.getElem?_cons_zero, List.getElem?_cons_succ] at c0 c3 c4 c5 c6
    clear hb1 ho1 HL1
    have p2s : w1.cell? ⟨p, 2, none⟩ = some (.int .i64 (S : Int)) := by rw [SE.out]; exact p2
    clear p2 c6q
    go_wp2_with fail
    go_quiet (fail)
    go_wp2_with fail
    go_ret2
    rw [W.out]
    refine ⟨⟨w1.heap.size, gp, rfl, ⟨Nat.ne_of_lt (O1.out.lt gp rfl).2, cp, ?_, ?_⟩, ?_, (O1.out.lt gp rfl).1⟩, ?_, ?_⟩
    · have k := RowAt.new ((w1.drewN nq).setCell ⟨pl, 6, none⟩ (.bool true)) (wrCells pl gp cp ⟨true, LZ, 0⟩) 107
      unfold wrCells at k ⊢
      rw [PL.out] at k ⊢
      simpa using k
    · rw [PL.out]
      have k : OwnS ((w1.drewN nq).setCell ⟨pl, 6, none⟩ (.bool true)) w.heap.size (.slice (some ⟨gp, 0, none⟩) n cp) LZ := (O1.out.drewN nq).setCell (p := ⟨pl, 6, none⟩) (RowAt.lt HL.out) _
      have k2 := k.alloc (.cells (wrCells pl gp cp ⟨true, LZ, 0⟩).toArray 107)
      unfold wrCells at k2
      rw [PL.out] at k2
      exact ownS_at k2
    · exact B1.out.size
    · have k := ((RowAt.drewN HLh.out nq).set 6 (.bool true)).alloc (.cells (wrCells pl gp cp ⟨true, LZ, 0⟩).toArray 107)
      unfold wrCells at k
      rw [PL.out] at k
      exact k
    · exact (((Chg.of_below (F := fun k => k = pl) B1.out).drewN nq).setCell (p := ⟨pl, 6, none⟩) (.inl rfl) _).alloc _
  | false =>
    by_cases q : lg = 0
    · subst q
      have W := Lib.hid (show O = (⟨lf, la, 0, lu, ll, false⟩, none, 7) by rw [WV.out]; rfl)
      clear WV
      go_enter Tryd.func29, Tryd.ntmps29
      go_wp2_with fail
      go_ret2
      exact WrPost.no W.out HL.out B0.out
    by_cases qs : S < lu + n
    · have W := Lib.hid (show O = (⟨lf, la, lg, lu, ll, false⟩, none, 16) by rw [WV.out, if_neg (by simp), if_neg (by simp [q]), if_pos (by simpa using qs)])
      clear WV c0 c3 c4 c5 c6 f6 p2
      have TG : (lg == 0) = false := by rw [beq_eq_false_iff_ne]; exact q
      have WRP : IntKind.i64.wrap ((lu : Int) + (n : Int)) = (lu : Int) + (n : Int) := by rw [IntKind.wrap_i64]; omega
      have TS2 : decide (S < lu + n) = true := decide_eq_true (by omega)
      have TS : decide ((S : Int) < (lu : Int) + (n : Int)) = true := decide_eq_true (by omega)
      clear qs q
      go_enter Tryd.func29, Tryd.ntmps29
      have c3q := RowAt.cell HL.out 3
      have c6q := RowAt.cell HL.out 6
      simp only [logCells, List.getElem?_cons_zero, List.getElem?_cons_succ] at c3q c6q
      go_wp2_with fail
      refine (PA.out _).mono ?_
      rintro e1 w1 ⟨vp, rfl, ho1, hb1⟩
      obtain ⟨gp, cp, hvp⟩ := ho1.open_ (by have := PL.out; omega)
      rw [PL.out] at hvp
      subst hvp
      have HL1 := RowAt.below HL.out hb1
      have p2 := (HE.out.below hb1).p2
      have O1 := Lib.hid ho1
      have B1 := Lib.hid hb1
      have HLh := Lib.hid HL1
      have c0 := RowAt.cell HL1 0
      have c3 := RowAt.cell HL1 3
      have c4 := RowAt.cell HL1 4
      have c5 := RowAt.cell HL1 5
      have c6 := RowAt.cell HL1 6
      have f6 := RowAt.frozen HL1 6
      simp only [logCells, List.getElem?_cons_zero, List.getElem?_cons_succ] at c0 c3 c4 c5 c6
      clear hb1 ho1 HL1
      have p2s : w1.cell? ⟨p, 2, none⟩ = some (.int .i64 (S : Int)) := by rw [SE.out]; exact p2
      clear p2 c3q c6q
      go_wp2_with fail
      go_quiet (fail)
      go_wp2_with fail
      go_ret2
      exact WrPost.no W.out HL.out (below_drewN B1.out _)
    by_cases ql : 2147483647 < ll
    · have W := Lib.hid (show O = (⟨lf, la, lg, lu, ll, false⟩, none, 17) by rw [WV.out, if_neg (by simp), if_neg (by simp [q]), if_neg (by simpa using qs), if_pos (by simp [ql])])
      clear WV c0 c3 c4 c5 c6 f6 p2
      have TG : (lg == 0) = false := by rw [beq_eq_false_iff_ne]; exact q
      have WRP : IntKind.i64.wrap ((lu : Int) + (n : Int)) = (lu : Int) + (n : Int) := by rw [IntKind.wrap_i64]; omega
      have TS2 : decide (S < lu + n) = false := decide_eq_false (by omega)
      have TS : decide ((S : Int) < (lu : Int) + (n : Int)) = false := decide_eq_false (by omega)
      have TL : decide (2147483647 < ll) = true := decide_eq_true ql
      clear qs ql q
      go_enter Tryd.func29, Tryd.ntmps29
      have c3q := RowAt.cell HL.out 3
      have c6q := RowAt.cell HL.out 6
      simp only [logCells, List.getElem?_cons_zero, List.getElem?_cons_succ] at c3q c6q
      go_wp2_with fail
      refine (PA.out _).mono ?_
      rintro e1 w1 ⟨vp, rfl, ho1, hb1⟩
      obtain ⟨gp, cp, hvp⟩ := ho1.open_ (by have := PL.out; omega)
      rw [PL.out] at hvp
      subst hvp
      have HL1 := RowAt.below HL.out hb1
      have p2 := (HE.out.below hb1).p2
      have O1 := Lib.hid ho1
      have B1 := Lib.hid hb1
      have HLh := Lib.hid HL1
      have c0 := RowAt.cell HL1 0
      have c3 := RowAt.cell HL1 3
      have c4 := RowAt.cell HL1 4
      have c5 := RowAt.cell HL1 5
      have c6 := RowAt.cell HL1 6
      have f6 := RowAt.frozen HL1 6
      simp only [logCells, List.getElem?_cons_zero, List.getElem?_cons_succ] at c0 c3 c4 c5 c6
      clear hb1 ho1 HL1
      have p2s : w1.cell? ⟨p, 2, none⟩ = some (.int .i64 (S : Int)) := by rw [SE.out]; exact p2
      clear p2 c3q c6q
      go_wp2_with fail
      go_quiet (fail)
      go_wp2_with fail
      go_ret2
      exact WrPost.no W.out HL.out (below_drewN B1.out _)
    have W := Lib.hid (show O = (⟨lf, la, lg, lu, ll, true⟩, some ⟨false, LZ, 0⟩, 0) by rw [WV.out, if_neg (by simp), if_neg (by simp [q]), if_neg (by simpa using qs), if_neg (by simp [ql])])
    clear WV c0 c3 c4 c5 c6 f6 p2
    have TG : (lg == 0) = false := by rw [beq_eq_false_iff_ne]; exact q
    have WRP : IntKind.i64.wrap ((lu : Int) + (n : Int)) = (lu : Int) + (n : Int) := by rw [IntKind.wrap_i64]; omega
    have TS2 : decide (S < lu + n) = false := decide_eq_false (by omega)
    have TS : decide ((S : Int) < (lu : Int) + (n : Int)) = false := decide_eq_false (by omega)
    have TL : decide (2147483647 < ll) = false := decide_eq_false ql
    clear qs ql q
    go_enter Tryd.func29, Tryd.ntmps29
    have c3q := RowAt.cell HL.out 3
    have c6q := RowAt.cell HL.out 6
    simp only [logCells, List.getElem?_cons_zero, List.getElem?_cons_succ] at c3q c6q
    go_wp2_with fail
    refine (PA.out _).mono ?_
    rintro e1 w1 ⟨vp, rfl, ho1, hb1⟩
    obtain ⟨gp, cp, hvp⟩ := ho1.open_ (by have := PL.out; omega)
    rw [PL.out] at hvp
    subst hvp
    have HL1 := RowAt.below HL.out hb1
    have p2 := (HE.out.below hb1).p2
    have O1 := Lib.hid ho1
    have B1 := Lib.hid hb1
    have HLh := Lib.hid HL1
    have c0 := RowAt.cell HL1 0
    have c3 := RowAt.cell HL1 3
    have c4 := RowAt.cell HL1 4
    have c5 := RowAt.cell HL1 5
    have c6 := RowAt.cell HL1 6
    have f6 := RowAt.frozen HL1 6
    simp only [logCells, List.getElem?_cons_zero, List.getElem?_cons_succ] at c0 c3 c4 c5 c6
    clear hb1 ho1 HL1
    have p2s : w1.cell? ⟨p, 2, none⟩ = some (.int .i64 (S : Int)) := by rw [SE.out]; exact p2
    clear p2 c3q c6q
    go_wp2_with fail
    go_quiet (fail)
    go_wp2_with fail
    go_ret2
    rw [W.out]
    refine ⟨⟨w1.heap.size, gp, rfl, ⟨Nat.ne_of_lt (O1.out.lt gp rfl).2, cp, ?_, ?_⟩, ?_, (O1.out.lt gp rfl).1⟩, ?_, ?_⟩
    · have k := RowAt.new ((w1.drewN nq).setCell ⟨pl, 6, none⟩ (.bool true)) (wrCells pl gp cp ⟨false, LZ, 0⟩) 107
      unfold wrCells at k ⊢
      rw [PL.out] at k ⊢
      simpa using k
    · rw [PL.out]
      have k : OwnS ((w1.drewN nq).setCell ⟨pl, 6, none⟩ (.bool true)) w.heap.size (.slice (some ⟨gp, 0, none⟩) n cp) LZ := (O1.out.drewN nq).setCell (p := ⟨pl, 6, none⟩) (RowAt.lt HL.out) _
      have k2 := k.alloc (.cells (wrCells pl gp cp ⟨false, LZ, 0⟩).toArray 107)
      unfold wrCells at k2
      rw [PL.out] at k2
      exact ownS_at k2
    · exact B1.out.size
    · have k := ((RowAt.drewN HLh.out nq).set 6 (.bool true)).alloc (.cells (wrCells pl gp cp ⟨false, LZ, 0⟩).toArray 107)
      unfold wrCells at k
      rw [PL.out] at k
      exact k
    · exact (((Chg.of_below (F := fun k => k = pl) B1.out).drewN nq).setCell (p := ⟨pl, 6, none⟩) (.inl rfl) _).alloc _

end Go.Proofs.YtfodclafkdkjbaaDoor

namespace Go.Proofs.YtfodclafkdkjbaaDoor
open Go.RowKit

/-- what it leaves -/
def MvPost (p g pl px gp : Nat) (o : Ext × Lg × Wr × Int × Int) (w : World) (y : Ending) (w' : World) : Prop :=
  y = .returned (.tuple #[.int .i64 o.2.2.2.1, .int .i64 o.2.2.2.2]) ∧ RefE w' p g o.1 ∧ RefL w' pl p o.2.1 ∧ RefW w' px gp pl o.2.2.1 ∧ Chg (fun k => k = p ∨ k = g ∨ k = pl ∨ k = px) w w'
theorem chg_drew1 (F : Nat → Prop) (w : World) (a : Nat) : Chg F w (w.drewN a) := (Chg.refl F w).drewN a
theorem chg_drew2 (F : Nat → Prop) (w : World) (a b : Nat) : Chg F w ((w.drewN a).drewN b) := ((Chg.refl F w).drewN a).drewN b
structure Apart (p g pl px gp : Nat) : Prop where
  a1 : pl ≠ p
  a2 : pl ≠ g
  a3 : px ≠ p
  a4 : px ≠ g
  a5 : px ≠ pl
  a6 : gp ≠ p
  a7 : gp ≠ g
  a8 : gp ≠ pl
  a9 : gp ≠ px
theorem OwnS.keepAt {F : Nat → Prop} {w w' : World} {gp n cp : Nat} {zs : List ByteArray} (h : OwnS w gp (.slice (some ⟨gp, 0, none⟩) n cp) zs) (hc : Chg F w w') (hn : ¬ F gp) : OwnS w' gp (.slice (some ⟨gp, 0, none⟩) n cp) zs := by
  rcases h with ⟨e1, e2⟩
  refine ⟨e1, ?_⟩
  rcases e2 with ⟨q, _⟩ | ⟨g, cap, cur, q, hB, hg, r⟩
  · cases q
  · have q' := q
    injection q' with q1 q2 q3
    injection q1 with q1
    injection q1 with q1 _ _
    subst q1
    exact .inr ⟨gp, cap, cur, q, hB, (hc.block gp (Array.getElem?_eq_some_iff.1 hg).1 hn).trans hg, r⟩

set_option maxRecDepth 100000 in
set_option maxHeartbeats 4000000 in
/-- a writer that is done -/
theorem rMove_end (p g pl px gp : Nat) (m : Ext) (l : Lg) (x : Wr) (w : World) (h : RefE w p g m) (hl : RefL w pl p l) (hx : RefW w px gp pl x) (hk : x.moves = x.parts.length + 2) (hn : x.parts.length ≤ 1000) :
    Calls Tryd.prog 30 #[.pointer (some ⟨px, 0, none⟩)] w (MvPost p g pl px gp (Go.Proofs.YtfodclafkdkjbaaDoor.move m l x) w) := by
  have MV := Lib.hid (show Go.Proofs.YtfodclafkdkjbaaDoor.move m l x = (m, l, x, 2, 0) by unfold Go.Proofs.YtfodclafkdkjbaaDoor.move; rw [if_pos hk])
  have HE := Lib.hid h
  have HL := Lib.hid hl
  have HX := Lib.hid hx
  obtain ⟨cp, hr, ho⟩ := hx.row
  have x2 := RowAt.cell hr 2
  have x3 := RowAt.cell hr 3
  simp only [wrCells, List.getElem?_cons_zero, List.getElem?_cons_succ] at x2 x3
  obtain ⟨n, hnn⟩ : ∃ n, n = x.parts.length := ⟨_, rfl⟩
  rw [hk] at x3
  rw [← hnn] at x2 x3 hn
  rw [Int.natCast_add] at x3
  clear hnn hk hr ho h hl hx
  go_enter Tryd.func30, Tryd.ntmps30
  go_wp2_with fail
  go_ret2
  rw [MV.out]
  exact ⟨rfl, HE.out, HL.out, HX.out, Chg.refl _ _⟩

end Go.Proofs.YtfodclafkdkjbaaDoor
