/- wire.read: walked, given what number does. -/
import Derived.Test.YtmcackghpkegbaaRj
import Derived.Test.YtmcackghpkegbaaEr
import Derived.Test.YtmcackghpkegbaaPt
import Derived.Outline
namespace Go.Proofs.Ytmcackghpkegbaa
open Go.RowKit

/-- items of what a shape asks -/
def rdAll : List (Ltr × Bool) → List UInt8 → Rd (List Item)
  | [], l => .ok ([], l)
  | k :: ks, l => match rdK k l with
    | .error c => .error c
    | .ok (x, r) => rdMap (x :: ·) (rdAll ks r)
theorem rdAll_err {k : Ltr × Bool} {ks : List (Ltr × Bool)} {l : List UInt8} {c : Int} (h : rdK k l = .error c) : rdAll (k :: ks) l = .error c := by unfold rdAll; rw [h]
theorem rdAll_ok {k : Ltr × Bool} {ks : List (Ltr × Bool)} {l r : List UInt8} {x : Item} (h : rdK k l = .ok (x, r)) : rdAll (k :: ks) l = rdMap (x :: ·) (rdAll ks r) := by rw [rdAll, h]
theorem rdKids_len {L : Ltr} : ∀ {n : Nat} {l r : List UInt8} {xs : List Item}, rdKids L n l = .ok (xs, r) → r.length ≤ l.length ∧ xs.length = n
  | 0, l, r, xs, h => by injection h with h; injection h with h1 h2; subst h1; subst h2; exact ⟨Nat.le_refl _, rfl⟩
  | n + 1, l, r, xs, h => by
    cases hr : rd1 L l with
    | error c => rw [rdKids_err hr] at h; cases h
    | ok q =>
      obtain ⟨x, r'⟩ := q
      rw [rdKids_ok hr] at h
      obtain ⟨ys, h1, rfl⟩ := rdMap_inv h
      have := rdKids_len h1
      exact ⟨Nat.le_trans this.1 (rd1_len hr), by simp [this.2]⟩
theorem rdK_len {k : Ltr × Bool} {l r : List UInt8} {x : Item} (h : rdK k l = .ok (x, r)) : r.length ≤ l.length := by
  obtain ⟨L, st⟩ := k
  cases st
  · exact rd1_len h
  · simp only [rdK, if_true] at h
    cases hr : rdSize 64 l with
    | error c => rw [hr] at h; cases h
    | ok q =>
      obtain ⟨n, r'⟩ := q
      rw [hr] at h
      obtain ⟨ks, h1, _⟩ := rdMap_inv h
      exact Nat.le_trans (rdKids_len h1).1 (rdSize_ok hr).2

/-- what wire.read leaves -/
def ReadPost (ks : List (Ltr × Bool)) (l : List UInt8) (w : World) (e : Ending) (w' : World) : Prop :=
  Below w.heap.size w w' ∧ ((∃ c, rdAll ks l = .error c ∧ e = .returned (.tuple #[.slice none 0 0, .int .i64 0, .int .i64 c])) ∨
    (∃ xs r A c, rdAll ks l = .ok (xs, r) ∧ e = .returned (.tuple #[.slice A xs.length c, .int .i64 ((l.length - r.length : Nat) : Int), .int .i64 0]) ∧ SlItG 2 w.heap.size w' A xs))

theorem grown_drew_set (w : World) (b : Nat) (v : Value) : w.grownBy (w.drew.setCell ⟨b, 0, none⟩ v) (some b) :=
  ⟨rfl, rfl, rfl, (grown_set w.drew b v).size, (grown_set w.drew b v).block⟩
/-- the error's own cell -/
structure ErrC (w : World) (b : Nat) : Prop where
  lt : b < w.heap.size
  c : w.cell? ⟨b, 0, none⟩ = some (.int .i64 0)
  f : w.frozen? ⟨b, 0, none⟩ = false
theorem ErrC.keep {w w' : World} {b : Nat} {row : Option Nat} (h : ErrC w b) (hg : w.grownBy w' row) (hn : row ≠ some b) : ErrC w' b :=
  ⟨Nat.lt_of_lt_of_le h.lt hg.size, hg.cell h.c (Ne.symm hn), (hg.frozen_far ⟨b, 0, none⟩ h.lt (Ne.symm hn)).trans h.f⟩
theorem ErrC.below {w w' : World} {b : Nat} (h : ErrC w b) (hb : Below w.heap.size w w') : ErrC w' b := h.keep (grown_below hb none) (by simp)

theorem read_boxes (w : World) (M : Array Value) (n : Nat) (hM : M.size = n * 4) (l : List UInt8) (t1 t2 t3 : TypeId) :
    Below w.heap.size w (((w.alloc (.cells #[.int .i64 0] t1)).alloc (.cells #[.string (BA l)] t2)).alloc (.cells M t3)) ∧
    ErrC (((w.alloc (.cells #[.int .i64 0] t1)).alloc (.cells #[.string (BA l)] t2)).alloc (.cells M t3)) w.heap.size ∧
    Rdr (((w.alloc (.cells #[.int .i64 0] t1)).alloc (.cells #[.string (BA l)] t2)).alloc (.cells M t3)) (w.heap.size + 1) l ∧
    Fill 1 (((w.alloc (.cells #[.int .i64 0] t1)).alloc (.cells #[.string (BA l)] t2)).alloc (.cells M t3)) (w.heap.size + 1 + 1) n [] := by
  refine ⟨(((Below.refl _ _).alloc (Nat.le_refl _) _).alloc (by simp) _).alloc (by simp; omega) _, ⟨by simp; omega, ?_, ?_⟩, ⟨?_, ?_⟩, ?_⟩
  · rw [World.cell?_alloc_past _ _ _ (by simp; omega), World.cell?_alloc_past _ _ _ (by simp), World.cell?_alloc_at _ _ _ _ rfl]; rfl
  · rw [World.frozen?_alloc_past _ _ _ (by simp; omega), World.frozen?_alloc_past _ _ _ (by simp), World.frozen?_alloc_at _ _ _ _ rfl]
  · rw [World.cell?_alloc_past _ _ _ (by simp), World.cell?_alloc_at _ _ _ _ (by simp)]; rfl
  · rw [World.frozen?_alloc_past _ _ _ (by simp), World.frozen?_alloc_at _ _ _ _ (by simp)]
  · have := Fill.made 1 ((w.alloc (.cells #[.int .i64 0] t1)).alloc (.cells #[.string (BA l)] t2)) n M t3 hM
    simpa using this

theorem ReadPost.no {ks : List (Ltr × Bool)} {l : List UInt8} {w w' : World} {c : Int} (h : rdAll ks l = .error c) (hb : Below w.heap.size w w') : ReadPost ks l w (.returned (.tuple #[.slice none 0 0, .int .i64 0, .int .i64 c])) w' := ⟨hb, .inl ⟨c, h, rfl⟩⟩
theorem ReadPost.yes {ks : List (Ltr × Bool)} {l r : List UInt8} {xs : List Item} {w w' : World} {A : Option Addr} {c : Nat} (h : rdAll ks l = .ok (xs, r)) (hb : Below w.heap.size w w') (hs : SlItG 2 w.heap.size w' A xs) :
    ReadPost ks l w (.returned (.tuple #[.slice A xs.length c, .int .i64 ((l.length - r.length : Nat) : Int), .int .i64 0])) w' := ⟨hb, .inr ⟨xs, r, A, c, h, rfl, hs⟩⟩

set_option maxRecDepth 100000 in
set_option maxHeartbeats 2000000 in
/-- wire.read -/
theorem lread (hn : NumberAt) (ks : List (Ltr × Bool)) (KA : Option Addr) (kc : Nat) (l : List UInt8) (w : World) (hk : KRow w KA ks) (h40 : ks.length ≤ 40) (hl : l.length ≤ 1099511627776) :
    Calls Try.prog 24 #[.slice KA ks.length kc, .string (BA l)] w (ReadPost ks l w) := by
  have hmf : ∀ (fn : Fn) (first cap : Array Value) (w : World), (Instr.makeFunc fn first cap).run Try.prog w = .ok (.func fn first cap) w := fun _ _ _ _ => rfl
  obtain ⟨M, hM, hmk⟩ := make_items ks.length (by omega)
  obtain ⟨b1, b2, b3, b4⟩ := read_boxes w M ks.length hM l 25 76 44
  have HB0 := Lib.hid b1
  have HE0 := Lib.hid b2
  have HR0 := Lib.hid b3
  have HF0 := Lib.hid b4
  have HK0 := Lib.hid (hk.below b1)
  have HKW := Lib.hid hk
  have NB := Lib.hid hn
  have SZ := Lib.hid (BA_size l)
  have sz1 : (BA l).size ≤ 1099511627776 := by rw [BA_size]; exact hl
  clear hM hn hk b1 b2 b3 b4
  go_enter_defers Try.func24, Try.ntmps24
  go_wp2_with fail
  obtain ⟨kb, hkb⟩ : ∃ kb, kb = w.heap.size + 1 + 1 := ⟨_, rfl⟩
  obtain ⟨rb, hrb⟩ : ∃ rb, rb = w.heap.size + 1 := ⟨_, rfl⟩
  rw [← hkb] at HF0 ⊢
  rw [← hrb] at HR0 ⊢
  have hb1 : rb < kb := by omega
  have hb2 : w.heap.size < rb := by omega
  clear hkb hrb
  go_loopw [19] (fun vi wr => ∃ (j : Nat) (ds : List Item) (lj : List UInt8), j ≤ ks.length ∧ vi = .int .i64 j ∧ Hid (ds.length = j) ∧ Hid (lj.length ≤ l.length) ∧ Hid (rdAll ks l = rdMap (ds ++ ·) (rdAll (ks.drop j) lj)) ∧ Hid (Rdr wr rb lj) ∧ Hid (Fill 1 wr kb ks.length ds) ∧ Hid (KRow wr KA ks) ∧ Hid (ErrC wr w.heap.size) ∧ Hid (Below w.heap.size w wr)) (fun vi _ => ks.length - (intOf vi).toNat)
  case atStart => exact ⟨0, [], l, Nat.zero_le _, rfl, rfl, Lib.hid (Nat.le_refl _), Lib.hid (by simp only [List.nil_append, List.drop_zero]; exact (rdMap_id _).symm), HR0.out, HF0.out, HK0.out, HE0.out, HB0.out⟩
  case round =>
    obtain ⟨j, ds, lj, hj, rfl, HL, HLJ, HE, HRD, HFK, HKR, HEC, HW⟩ := hrel
    by_cases hjn : j < ks.length
    · obtain ⟨g, rfl, hg, hkk⟩ := HKR.out (by omega)
      obtain ⟨k0, k1⟩ := hkk j hjn
      have DR := Lib.hid (List.drop_eq_getElem_cons hjn)
      obtain ⟨q, hq⟩ : ∃ q, ks[j] = q := ⟨_, rfl⟩
      rw [hq] at k0 k1 DR
      obtain ⟨C, hC⟩ : ∃ C, C = q.1.code := ⟨_, rfl⟩
      obtain ⟨S2, hS2⟩ : ∃ S2, S2 = q.2 := ⟨_, rfl⟩
      rw [← hC] at k0
      rw [← hS2] at k1
      have BX := Lib.hid ((Below.refl wr.heap.size wr).alloc (Nat.le_refl _) (.cells #[.int .u8 C, .bool S2] 50))
      have CI := Lib.hid (show Calls Try.prog 42 #[.pointer (some ⟨rb, 0, none⟩), .agg #[.int .u8 C, .bool S2]] (wr.alloc (.cells #[.int .u8 C, .bool S2] 50)) (RdPost rb (OneG 1 (wr.alloc (.cells #[.int .u8 C, .bool S2] 50)).heap.size) (wr.alloc (.cells #[.int .u8 C, .bool S2] 50)) (rdK q lj)) by
        have := litem NB.out q rb lj (wr.alloc (.cells #[.int .u8 C, .bool S2] 50)) (HRD.out.below BX.out) (Nat.le_trans HLJ.out hl)
        rw [← hC, ← hS2] at this; exact this)
      have hwr := HFK.out.lt
      have hg2 : g < wr.heap.size := hg
      have i0 : (0 : Int) ≤ (j : Int) := by omega
      have i1 : (j : Int) < ks.length := by omega
      have i2 : ((j : Int)).toNat = j := by omega
      clear hC hS2 hq hkk hg
      cases hr : rdK q lj with
      | error c =>
        have R1 := Lib.hid hr
        have RE := Lib.hid (show rdAll ks l = .error c by rw [HE.out, DR.out, rdAll_err hr]; rfl)
        clear hr
        go_wp2_with fail
        refine CI.out.mono ?_
        rintro e w2 hp
        obtain ⟨rfl, hg⟩ := hp.err R1.out
        have EC2 := (HEC.out.below BX.out).keep hg (fun e => by injection e with e; omega)
        have B2 : Below w.heap.size w w2 := (below_then HW.out BX.out).trans ⟨hg.os, hg.tape, hg.output, hg.size, fun k hk => hg.block k (by have := HW.out.size; have := BX.out.size; omega) (fun e => by injection e with e; omega)⟩
        have B3 := Lib.hid (B2.setCell (p := ⟨w.heap.size, 0, none⟩) (Nat.le_refl _) (.int .i64 c))
        have C2 := Lib.hid EC2.c
        have F2 := Lib.hid EC2.f
        have c2 := EC2.c
        clear hg hp EC2 B2
        go_wp2_with fail
        refine leaves_cons (f := 40) (args := #[.pointer (some ⟨w.heap.size, 0, none⟩)]) (by simp) (by simp [go_sem]) ?_
        refine (catch_panic ⟨w.heap.size, 0, none⟩ 0 c _ C2.out F2.out).mono ?_
        rintro e u' w3 ⟨rfl, rfl, rfl⟩
        simp [Leaves, settle, results, Try.results24, go_sem, c2]
        exact ReadPost.no RE.out B3.out
      | ok q2 =>
        obtain ⟨x, r2⟩ := q2
        have R1 := Lib.hid hr
        have RE := Lib.hid (show rdAll ks l = rdMap ((ds ++ [x]) ++ ·) (rdAll (ks.drop (j + 1)) r2) by rw [HE.out, DR.out, rdAll_ok hr, rdMap_map]; simp only [List.append_assoc, List.singleton_append])
        have RL2 := Lib.hid (show r2.length ≤ l.length from Nat.le_trans (rdK_len hr) HLJ.out)
        clear hr
        go_wp2_with fail
        refine CI.out.mono ?_
        rintro e w2 hp
        obtain ⟨v, rfl, hv, hrd, hg⟩ := hp.ok R1.out
        obtain ⟨AL, cL, AK, cK, rfl, sl, sk⟩ := hv
        have BG := BX.out
        have FK1 := HFK.out.keep (grown_below BG none) (fun r e => by cases e)
        have FK2 := FK1.keep hg (fun r e => by injection e with e; omega)
        obtain ⟨v0, z0⟩ := two_some (FK2.has (j * 4) (by omega))
        obtain ⟨v1, z1⟩ := two_some (FK2.has (j * 4 + 1) (by omega))
        obtain ⟨v2, z2⟩ := two_some (FK2.has (j * 4 + 2) (by omega))
        obtain ⟨v3, z3⟩ := two_some (FK2.has (j * 4 + 3) (by omega))
        have f0 := FK2.fz (j * 4)
        have f1 := FK2.fz (j * 4 + 1)
        have f2 := FK2.fz (j * 4 + 2)
        have f3 := FK2.fz (j * 4 + 3)
        have PUT := FK2.put (x := x) (cL := cL) (cK := cK) (by rw [HL.out]; exact hjn) (sl.more (by simp; omega)) (sk.more (by simp; omega))
        rw [HL.out] at PUT
        have GW := set4o_grown w2 kb (j * 4) (.int .u64 x.n) (.string x.s) (.slice AL x.l.length cL) (.slice AK x.ks.length cK)
        have FKH := Lib.hid PUT
        have B2 : Below w.heap.size w w2 := (below_then HW.out BX.out).trans ⟨hg.os, hg.tape, hg.output, hg.size, fun k hk => hg.block k (by have := HW.out.size; have := BX.out.size; omega) (fun e => by injection e with e; omega)⟩
        have B3 := Lib.hid (show Below w.heap.size w (set4o w2 kb (j * 4) (.int .u64 x.n) (.string x.s) (.slice AL x.l.length cL) (.slice AK x.ks.length cK)) from B2.trans ⟨GW.os, GW.tape, GW.output, GW.size, fun k hk => GW.block k (by have := B2.size; omega) (fun e => by injection e with e; omega)⟩)
        have HR2 := Lib.hid (hrd.grown GW (fun e => by injection e with e; omega))
        have EC2 := Lib.hid (((HEC.out.below BX.out).keep hg (fun e => by injection e with e; omega)).keep GW (fun e => by injection e with e; omega))
        have KR2 := Lib.hid (show KRow (set4o w2 kb (j * 4) (.int .u64 x.n) (.string x.s) (.slice AL x.l.length cL) (.slice AK x.ks.length cK)) (some ⟨g, 0, none⟩) ks from HKW.out.below B3.out)
        clear hg hp hrd FK1 FK2 sl sk PUT GW B2 BG
        go_wp2_with fail
        go_roundw
        case rel => exact ⟨j + 1, ds ++ [x], r2, by omega, by go_num, Lib.hid (by rw [List.length_append, HL.out]; rfl), RL2.out, RE.out, HR2.out, FKH.out, KR2.out, EC2.out, B3.out⟩
        case measure => simp [intOf]; omega
    · have hj2 : j = ks.length := by omega
      have RE := Lib.hid (show rdAll ks l = .ok (ds, lj) by
        rw [HE.out, hj2, List.drop_length]
        show Except.ok (ds ++ [], lj) = _
        rw [List.append_nil])
      have DL := Lib.hid (show ds.length = ks.length by rw [HL.out]; exact hj2)
      have HSL := Lib.hid (BA_size lj)
      have c1 := HRD.out.1
      have lj1 : (BA lj).size ≤ (BA l).size := by rw [BA_size, BA_size]; exact HLJ.out
      have ec := HEC.out.c
      have ef := HEC.out.f
      clear hj2
      go_wp2_with fail
      refine wp_region_still_tail 9 (by kernel_rfl) (by kernel_rfl) ?_
      simp only [List.take_succ_cons, List.take_zero, List.drop_succ_cons, List.drop_zero]
      change wpStill _ _ (World.drew _) (fun a' => wpList _ _ _ _ a' (World.drew _)) _ _
      repeat still_step
      refine wpStill_nil ?_
      go_wp2_with fail
      have CE : ((wr.setCell ⟨w.heap.size, 0, none⟩ (.int .i64 0)).drew).cell? ⟨w.heap.size, 0, none⟩ = some (.int .i64 0) := by
        rw [World.cell?_drew, World.cell?_setCell_same' _ _ _ (by rw [ec]; rfl)]
      have FE : ((wr.setCell ⟨w.heap.size, 0, none⟩ (.int .i64 0)).drew).frozen? ⟨w.heap.size, 0, none⟩ = false := by
        show (wr.setCell ⟨w.heap.size, 0, none⟩ (.int .i64 0)).frozen? ⟨w.heap.size, 0, none⟩ = false
        rw [World.frozen?_setCell]; exact ef
      have GE : wr.grownBy (((wr.setCell ⟨w.heap.size, 0, none⟩ (.int .i64 0)).drew).setCell ⟨w.heap.size, 0, none⟩ (.int .i64 0)) (some w.heap.size) :=
        (grown_set wr w.heap.size (.int .i64 0)).trans (grown_drew_set _ _ _)
      have SUB : IntKind.i64.wrap (((BA l).size : Int) - ((BA lj).size : Int)) = ((l.length - lj.length : Nat) : Int) := by
        rw [BA_size, BA_size, IntKind.wrap_i64]; have := HLJ.out; omega
      have FKE := HFK.out.keep GE (fun r e => by injection e with e; omega)
      have B3 : Below w.heap.size w (((wr.setCell ⟨w.heap.size, 0, none⟩ (.int .i64 0)).drew).setCell ⟨w.heap.size, 0, none⟩ (.int .i64 0)) :=
        HW.out.trans ⟨GE.os, GE.tape, GE.output, GE.size, fun k hk => GE.block k (by have := HW.out.size; omega) (fun e => by injection e with e; omega)⟩
      have POST := ReadPost.yes (c := ks.length) RE.out B3 (FKE.whole (by omega))
      rw [DL.out, ← SUB] at POST
      have PH := Lib.hid POST
      clear POST B3 FKE GE SUB
      refine leaves_cons (f := 40) (args := #[.pointer (some ⟨w.heap.size, 0, none⟩)]) (by simp) (by simp [go_sem]) ?_
      refine (catch_idle ⟨w.heap.size, 0, none⟩ 0 _ CE FE).mono ?_
      rintro e u' w3 ⟨rfl, rfl, rfl⟩
      have CE2 := World.cell?_setCell_same' (wr.setCell ⟨w.heap.size, 0, none⟩ (.int .i64 0)) ⟨w.heap.size, 0, none⟩ (.int .i64 0) (by rw [World.cell?_setCell_same' _ _ _ (by rw [ec]; rfl)]; rfl)
      simp [Leaves, settle, results, Try.results24, go_sem, CE2]
      exact PH.out

end Go.Proofs.Ytmcackghpkegbaa
