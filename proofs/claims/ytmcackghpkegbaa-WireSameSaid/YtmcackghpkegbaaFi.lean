/- (wire.kind).fits answers, walked. -/
import Derived.Test.YtmcackghpkegbaaBl
namespace Go.Proofs.Ytmcackghpkegbaa
open Go.RowKit

theorem box2_lo (w : World) (c1 c2 : Array Value) (t1 t2 : TypeId) (j : Nat) : ((w.alloc (.cells c1 t1)).alloc (.cells c2 t2)).cell? ⟨w.heap.size, j, none⟩ = c1[j]? := by
  rw [World.cell?_alloc_past _ _ _ (by simp), World.cell?_alloc_at _ _ _ _ rfl]
theorem box2_hi (w : World) (c1 c2 : Array Value) (t1 t2 : TypeId) (j : Nat) : ((w.alloc (.cells c1 t1)).alloc (.cells c2 t2)).cell? ⟨w.heap.size + 1, j, none⟩ = c2[j]? := by
  rw [World.cell?_alloc_at _ _ _ _ (by simp)]
theorem box2_frozen (w : World) (c1 c2 : Array Value) (t1 t2 : TypeId) (j : Nat) : ((w.alloc (.cells c1 t1)).alloc (.cells c2 t2)).frozen? ⟨w.heap.size + 1, j, none⟩ = false := by
  rw [World.frozen?_alloc_at _ _ _ _ (by simp)]

/-- an item's cells -/
def itC (x : Item) (AL AK : Option Addr) (cL cK : Nat) : Array Value := #[.int .u64 x.n, .string x.s, .slice AL x.l.length cL, .slice AK x.ks.length cK]

/-- what stands in two boxes, a kind's and an item's, at b and b + 1 -/
structure Boxed (w : World) (b : Nat) (c : Int) (st : Bool) (x : Item) (AL AK : Option Addr) (cL cK : Nat) : Prop where
  lt : b + 1 < w.heap.size
  k0 : w.cell? ⟨b, 0, none⟩ = some (.int .u8 c)
  k1 : w.cell? ⟨b, 1, none⟩ = some (.bool st)
  i0 : w.cell? ⟨b + 1, 0, none⟩ = some (.int .u64 x.n)
  i1 : w.cell? ⟨b + 1, 1, none⟩ = some (.string x.s)
  i2 : w.cell? ⟨b + 1, 2, none⟩ = some (.slice AL x.l.length cL)
  i3 : w.cell? ⟨b + 1, 3, none⟩ = some (.slice AK x.ks.length cK)
  f : ∀ j, w.frozen? ⟨b + 1, j, none⟩ = false
theorem Boxed.made (w : World) (c : Int) (st : Bool) (x : Item) (AL AK : Option Addr) (cL cK : Nat) (t1 t2 : TypeId) :
    Boxed ((w.alloc (.cells #[.int .u8 c, .bool st] t1)).alloc (.cells #[.int .u64 x.n, .string x.s, .slice AL x.l.length cL, .slice AK x.ks.length cK] t2)) w.heap.size c st x AL AK cL cK :=
  ⟨by simp, by rw [box2_lo]; rfl, by rw [box2_lo]; rfl, by rw [box2_hi]; rfl, by rw [box2_hi]; rfl, by rw [box2_hi]; rfl, by rw [box2_hi]; rfl, fun j => box2_frozen _ _ _ _ _ _⟩
theorem Boxed.below {w w' : World} {b : Nat} {c : Int} {st : Bool} {x : Item} {AL AK : Option Addr} {cL cK : Nat} (h : Boxed w b c st x AL AK cL cK) (hb : Below w.heap.size w w') : Boxed w' b c st x AL AK cL cK := by
  have l0 : b < w.heap.size := by have := h.lt; omega
  exact ⟨Nat.lt_of_lt_of_le h.lt hb.size, (hb.cell (p := ⟨b, 0, none⟩) l0).trans h.k0, (hb.cell (p := ⟨b, 1, none⟩) l0).trans h.k1, (hb.cell (p := ⟨b + 1, 0, none⟩) h.lt).trans h.i0, (hb.cell (p := ⟨b + 1, 1, none⟩) h.lt).trans h.i1,
    (hb.cell (p := ⟨b + 1, 2, none⟩) h.lt).trans h.i2, (hb.cell (p := ⟨b + 1, 3, none⟩) h.lt).trans h.i3, fun j => (hb.frozen (p := ⟨b + 1, j, none⟩) h.lt).trans (h.f j)⟩

theorem all_take_succ (p : Item → Bool) (xs : List Item) (j : Nat) (h : j < xs.length) (hx : (xs.take j).all p = true) (hp : p (xs.getD j It0) = true) : (xs.take (j + 1)).all p = true := by
  rw [take_succ_it xs j h, List.all_append, hx, List.all_cons, hp]; rfl
theorem all_at (p : Item → Bool) (xs : List Item) (j : Nat) (h : j < xs.length) (hp : p (xs.getD j It0) = false) : xs.all p = false := by
  rw [List.all_eq_false]; exact ⟨_, getD_mem_it xs j h, by rw [hp]; simp⟩

set_option maxRecDepth 100000 in
set_option maxHeartbeats 1000000 in
/-- (wire.kind).fits -/
theorem lfits (k : Ltr × Bool) (d : Nat) (x : Item) (AL AK : Option Addr) (cL cK : Nat) (w : World) (hf : FitOne (d + 1) x) (hsl : Sl w AL x.l) (hsk : SlIt (d + 1) w AK x.ks) :
    Calls Try.prog 19 #[.agg #[.int .u8 k.1.code, .bool k.2], .agg #[.int .u64 x.n, .string x.s, .slice AL x.l.length cL, .slice AK x.ks.length cK]] w fun e w' => e = .returned (.bool (fitsK k x)) ∧ Below w.heap.size w w' := by
  obtain ⟨L, st⟩ := k
  show Calls Try.prog 19 #[.agg #[.int .u8 L.code, .bool st], .agg #[.int .u64 x.n, .string x.s, .slice AL x.l.length cL, .slice AK x.ks.length cK]] w _
  have hm : x.ks.length ≤ maxLen := hf.2.2.2.2.2.len
  unfold maxLen at hm
  have B0 := Lib.hid (((Below.refl w.heap.size w).alloc (Nat.le_refl _) (.cells #[.int .u8 L.code, .bool st] 50)).alloc (by simp) (.cells #[.int .u64 x.n, .string x.s, .slice AL x.l.length cL, .slice AK x.ks.length cK] 44))
  obtain ⟨C, hC⟩ : ∃ C, C = L.code := ⟨_, rfl⟩
  rw [← hC] at B0 ⊢
  have HC := Lib.hid hC
  have HF := Lib.hid hf
  have SL := Lib.hid hsl
  have SK := Lib.hid hsk
  clear hC hf hsl hsk
  cases st
  · have R := Lib.hid (show fitsK (L, false) x = only L x from rfl)
    go_enter Try.func19, Try.ntmps19
    go_wp2_with fail
    rw [HC.out]
    refine (lhasOnly L (d + 1) x AL AK cL cK _ HF.out (SL.out.below (by have := B0.out; rw [HC.out] at this; exact this))).mono ?_
    rintro e w' ⟨rfl, hb⟩
    have HB := Lib.hid (below_then (by have := B0.out; rw [HC.out] at this; exact this) hb)
    clear hb
    go_wp2_with fail
    go_ret
    exact ⟨ret_bool R.out.symm, HB.out⟩
  by_cases c64 : 64 < x.ks.length
  · have R := Lib.hid (show fitsK (L, true) x = false by simp only [fitsK, if_true]; rw [decide_eq_false (by omega)]; rfl)
    go_enter Try.func19, Try.ntmps19
    go_wp2_with fail
    go_ret
    exact ⟨ret_bool R.out.symm, B0.out⟩
  have R := Lib.hid (show fitsK (L, true) x = (x.ks.all (only L) && blank (.mk x.n x.s x.l [])) by simp only [fitsK, if_true]; rw [decide_eq_true (by omega), Bool.true_and])
  have BX := Lib.hid (Boxed.made w C true x AL AK cL cK 50 44)
  have CB := Lib.hid (show ∀ w2, Calls Try.prog 32 #[.agg #[.int .u64 x.n, .string x.s, .slice AL x.l.length cL, .slice none 0 0]] w2 (fun e w' => e = .returned (.bool (blank (.mk x.n x.s x.l []))) ∧ Below w2.heap.size w2 w') from fun w2 => lblank (.mk x.n x.s x.l []) AL none cL 0 w2)
  go_enter Try.func19, Try.ntmps19
  go_wp2_with fail
  go_loopw [21] (fun i wr => ∃ j : Nat, j ≤ x.ks.length ∧ i = .int .i64 j ∧ Hid (Below w.heap.size w wr) ∧ Hid (Boxed wr w.heap.size C true x AL AK cL cK) ∧ Hid ((x.ks.take j).all (only L) = true)) (fun i _ => x.ks.length - (intOf i).toNat)
  case atStart => exact ⟨0, Nat.zero_le _, rfl, B0.out, BX.out, rfl⟩
  case round =>
    obtain ⟨j, hj, rfl, HW, HX, X⟩ := hrel
    obtain ⟨hlt1, k0, k1, i0, i1, i2, i3, fz⟩ := HX.out
    have hlt0 : w.heap.size < wr.heap.size := by omega
    by_cases hlt : j < x.ks.length
    · obtain ⟨b, o, rfl, hb, hc⟩ := (SK.out.below HW.out) (by omega)
      obtain ⟨BL, dL, BK, dK, c0, c1, c2, c3, bsl, _⟩ := hc j hlt
      have hfy : FitOne d (x.ks.getD j It0) := HF.out.2.2.2.2.2.2 _ (getD_mem_it x.ks j hlt)
      have YES := Lib.hid (all_take_succ (only L) x.ks j hlt X.out)
      have NO := Lib.hid (all_at (only L) x.ks j hlt)
      obtain ⟨y, hy⟩ : ∃ y, x.ks.getD j It0 = y := ⟨_, rfl⟩
      rw [hy] at c0 c1 c2 c3 bsl hfy YES NO
      have CC := Lib.hid (show ∀ w2, Below wr.heap.size wr w2 → Calls Try.prog 31 #[.int .u8 C, .agg #[.int .u64 y.n, .string y.s, .slice BL y.l.length dL, .slice BK y.ks.length dK]] w2 (fun e w' => e = .returned (.bool (only L y)) ∧ Below w2.heap.size w2 w') from
        fun w2 hb => by rw [HC.out]; exact lhasOnly L d y BL BK dL dK w2 hfy (bsl.below hb))
      have B1 := Lib.hid ((Below.refl wr.heap.size wr).alloc (Nat.le_refl _) (.cells #[.int .u64 y.n, .string y.s, .slice BL y.l.length dL, .slice BK y.ks.length dK] 44))
      clear hc hy bsl hfy hb
      cases ho : only L y
      · have RR := Lib.hid (NO.out ho)
        have ON := Lib.hid ho
        clear ho fz i0 i1 i2 i3 k1
        go_wp2_with fail
        refine (CC.out _ B1.out).mono ?_
        rintro e w' ⟨rfl, hb2⟩
        rw [ON.out]
        have B2 := Lib.hid (below_then HW.out (below_then B1.out hb2))
        clear hb2
        go_wp2_with fail
        go_ret
        exact ⟨ret_bool (by rw [R.out, RR.out]; rfl), B2.out⟩
      · have RR := Lib.hid (YES.out ho)
        have ON := Lib.hid ho
        clear ho fz i0 i1 i2 i3 k1
        go_wp2_with fail
        refine (CC.out _ B1.out).mono ?_
        rintro e w' ⟨rfl, hb2⟩
        rw [ON.out]
        have B2 := Lib.hid (below_then HW.out (below_then B1.out hb2))
        have X2 := Lib.hid (HX.out.below (below_then B1.out hb2))
        clear hb2
        go_wp2_with fail
        go_roundw
        case rel => exact ⟨j + 1, by omega, by go_num, B2.out, X2.out, RR.out⟩
        case measure => simp [intOf]; omega
    · have ALLT := Lib.hid X.out
      have fz3 := fz 3
      have B1 := Lib.hid (Below.setCell HW.out (Nat.le_succ _) (.slice none 0 0) : Below w.heap.size w (wr.setCell ⟨w.heap.size + 1, 3, none⟩ (.slice none 0 0)))
      have JJ := Lib.hid (show j = x.ks.length by omega)
      clear fz k0 k1
      go_wp2_with fail
      refine (CB.out _).mono ?_
      rintro e w' ⟨rfl, hb⟩
      have HB := Lib.hid (below_then B1.out hb)
      clear hb
      go_wp2_with fail
      go_ret
      refine ⟨ret_bool ?_, HB.out⟩
      have h9 := ALLT.out
      rw [JJ.out, List.take_length] at h9
      rw [R.out, h9, Bool.true_and]

end Go.Proofs.Ytmcackghpkegbaa
