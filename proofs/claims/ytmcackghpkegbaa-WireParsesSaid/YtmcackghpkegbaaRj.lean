/- (*wire.reader).item: walked, given what number does. -/
import Derived.Test.YtmcackghpkegbaaRi
import Derived.Laws.MakeOwn
namespace Go.Proofs.Ytmcackghpkegbaa
open Go.RowKit

def rdKids (L : Ltr) : Nat → List UInt8 → Rd (List Item)
  | 0, l => .ok ([], l)
  | n + 1, l => match rd1 L l with
    | .error c => .error c
    | .ok (x, r) => rdMap (x :: ·) (rdKids L n r)
theorem rdKids_err {L : Ltr} {n : Nat} {l : List UInt8} {c : Int} (h : rd1 L l = .error c) : rdKids L (n + 1) l = .error c := by unfold rdKids; rw [h]
theorem rdKids_ok {L : Ltr} {n : Nat} {l r : List UInt8} {x : Item} (h : rd1 L l = .ok (x, r)) : rdKids L (n + 1) l = rdMap (x :: ·) (rdKids L n r) := by rw [rdKids, h]
theorem rdMap_map {α β γ : Type} (f : α → β) (g : β → γ) (o : Rd α) : rdMap g (rdMap f o) = rdMap (fun x => g (f x)) o := by
  cases o with
  | error c => rfl
  | ok q => rfl
theorem rdMap_id {α : Type} (o : Rd α) : rdMap (fun x => x) o = o := by
  cases o with
  | error c => rfl
  | ok q => rfl

theorem rdMap_inv {α β : Type} {f : α → β} {o : Rd α} {y : β} {r : List UInt8} (h : rdMap f o = .ok (y, r)) : ∃ x, o = .ok (x, r) ∧ y = f x := by
  cases o with
  | error c => cases h
  | ok q =>
    obtain ⟨x, r'⟩ := q
    injection h with h; injection h with h1 h2; subst h2
    exact ⟨x, rfl, h1.symm⟩
theorem rdNext_len {l r : List UInt8} {c : UInt8} (h : rdNext l = .ok (c, r)) : r.length ≤ l.length := by
  cases l with
  | nil => cases h
  | cons a t => injection h with h; injection h with _ h2; subst h2; simp
theorem rdText_len {l r k : List UInt8} (h : rdText l = .ok (k, r)) : r.length ≤ l.length := by
  unfold rdText at h
  cases hs : rdSize 200 l with
  | error c => rw [hs] at h; cases h
  | ok q =>
    obtain ⟨n, r'⟩ := q
    rw [hs] at h
    exact Nat.le_trans (rdTake_ok h).2 (rdSize_ok hs).2
theorem rdFloat_len {l r : List UInt8} {n : Nat} (h : rdFloat l = .ok (n, r)) : r.length ≤ l.length := by
  unfold rdFloat at h
  cases hs : rdTake 8 l with
  | error c => rw [hs] at h; cases h
  | ok q =>
    obtain ⟨k, r'⟩ := q
    rw [hs] at h
    simp only at h
    split at h
    · injection h with h; injection h with _ h2; subst h2; exact (rdTake_ok hs).2
    · cases h
theorem rdTags_len {l r : List UInt8} {zs : List Int} (h : rdTags l = .ok (zs, r)) : r.length ≤ l.length := by
  unfold rdTags at h
  split at h
  · injection h with h; injection h with _ h2; subst h2; simp
  · cases h
theorem rd1_len {L : Ltr} {l r : List UInt8} {x : Item} (h : rd1 L l = .ok (x, r)) : r.length ≤ l.length := by
  cases L
  · obtain ⟨c, h1, _⟩ := rdMap_inv h; exact rdNext_len h1
  · obtain ⟨c, h1, _⟩ := rdMap_inv h; exact rdNum_len _ _ _ _ _ h1
  · obtain ⟨c, h1, _⟩ := rdMap_inv h; exact rdText_len h1
  · obtain ⟨c, h1, _⟩ := rdMap_inv h; exact rdFloat_len h1
  · obtain ⟨c, h1, _⟩ := rdMap_inv h; exact rdTags_len h1

/-- an item of what a shape asks -/
def rdK (k : Ltr × Bool) (l : List UInt8) : Rd Item := if k.2 then (match rdSize 64 l with
    | .error c => .error c
    | .ok (n, r) => rdMap (fun ks => .mk 0 ⟨#[]⟩ [] ks) (rdKids k.1 n r)) else rd1 k.1 l

theorem infoIt : (Try.prog.info? 44).map (fun i => (i.zero, i.size, i.bytes)) = some (some (.agg #[.int .u64 0, .string ⟨#[]⟩, .slice none 0 0, .slice none 0 0]), 4, 72) := by kernel_rfl

/-- make([]api.Item, n) -/
theorem make_items (n : Nat) (hn : n ≤ 1000000) : ∃ M : Array Value, M.size = n * 4 ∧ ∀ W : World, (Instr.makeSlice 22 (.int .i64 (n : Int)) (.int .i64 (n : Int))).run Try.prog W = .ok (.slice (some ⟨W.heap.size, 0, none⟩) n n) (W.alloc (.cells M 44)) := by
  obtain ⟨i0, hi, hz0, hz1, hz2⟩ := info_parts infoIt
  refine ⟨madeCells (Value.cells (.agg #[.int .u64 0, .string ⟨#[]⟩, .slice none 0 0, .slice none 0 0])) (n * 4), by rw [size_madeCells], fun W => ?_⟩
  have h := run_make (P := Try.prog) W 22 44 i0 _ Try.underlying22 hi hz0 .i64 .i64 (n : Int) (n : Int) (by omega) (by omega) (by rw [hz2]; omega) (by omega)
  rw [hz1] at h
  simpa using h

/-- (*wire.reader).item of a kind -/
def ItemAt (k : Ltr × Bool) : Prop := ∀ (rb : Nat) (l : List UInt8) (w : World), Rdr w rb l → l.length ≤ 1099511627776 →
    Calls Try.prog 42 #[.pointer (some ⟨rb, 0, none⟩), .agg #[.int .u8 k.1.code, .bool k.2]] w (RdPost rb (OneG 1 w.heap.size) w (rdK k l))

theorem two_some {w : World} {b i : Nat} (h : (w.cell? ⟨b, i, none⟩).isSome = true) : ∃ v, w.cell? ⟨b, i, none⟩ = some v := Option.isSome_iff_exists.1 h

set_option maxRecDepth 100000 in
theorem item_one (hn : NumberAt) (L : Ltr) : ItemAt (L, false) := by
  intro rb l w h hl
  have hlt := h.lt
  have B0 : Below w.heap.size w ((w.alloc (.cells #[.int .u8 L.code, .bool false] 50)).alloc (.cells #[.int .u64 0, .string ⟨#[]⟩, .slice none 0 0, .slice none 0 0] 44)) := ((Below.refl _ _).alloc (Nat.le_refl _) _).alloc (by simp) _
  have N := Lib.hid (lone hn L rb l _ (h.below B0) hl)
  have FR := Lib.hid (show Fill 0 ((w.alloc (.cells #[.int .u8 L.code, .bool false] 50)).alloc (.cells #[.int .u64 0, .string ⟨#[]⟩, .slice none 0 0, .slice none 0 0] 44)) (w.heap.size + 1) 1 [] by
    have := Fill.made 0 (w.alloc (.cells #[.int .u8 L.code, .bool false] 50)) 1 #[.int .u64 0, .string ⟨#[]⟩, .slice none 0 0, .slice none 0 0] 44 rfl
    simpa using this)
  have HB0 := Lib.hid B0
  clear B0 h
  show Calls Try.prog 42 #[.pointer (some ⟨rb, 0, none⟩), .agg #[.int .u8 L.code, .bool false]] w _
  have RK := Lib.hid (show rdK (L, false) l = rd1 L l from rfl)
  cases hr : rd1 L l with
  | error c =>
    have R := Lib.hid hr
    clear hr
    go_enter Try.func42, Try.ntmps42
    go_wp2_with fail
    refine N.out.mono ?_
    rintro e w1 hp
    obtain ⟨rfl, hg⟩ := hp.err R.out
    have G := Lib.hid (grown_of_below HB0.out hg)
    clear hg hp
    go_wp2_with fail
    exact ⟨rfl, RdPost.mkErr (by rw [RK.out, R.out]) G.out⟩
  | ok q =>
    obtain ⟨x, r⟩ := q
    have R := Lib.hid hr
    clear hr
    go_enter Try.func42, Try.ntmps42
    go_wp2_with fail
    refine N.out.mono ?_
    rintro e w1 hp
    obtain ⟨v, rfl, hv, hrd, hg⟩ := hp.ok R.out
    obtain ⟨AL, cL, AK, cK, rfl, sl, sk⟩ := hv.g 1
    have F1 := FR.out.keep hg (fun r e => by injection e with e; omega)
    obtain ⟨v0, z0⟩ := two_some (F1.has 0 (by omega))
    obtain ⟨v1, z1⟩ := two_some (F1.has 1 (by omega))
    obtain ⟨v2, z2⟩ := two_some (F1.has 2 (by omega))
    obtain ⟨v3, z3⟩ := two_some (F1.has 3 (by omega))
    have f0 := F1.fz 0
    have f1 := F1.fz 1
    have f2 := F1.fz 2
    have f3 := F1.fz 3
    have G := Lib.hid (grown_of_below HB0.out hg)
    have HR1 := Lib.hid hrd
    have SL := Lib.hid sl
    have SK := Lib.hid sk
    clear hg hp hrd F1 hv sl sk
    go_wp2_with fail
    have GW := set4_grown w1 (w.heap.size + 1) (.int .u64 x.n) (.string x.s) (.slice AL x.l.length cL) (.slice AK x.ks.length cK)
    have hlow : ∀ r, some (w.heap.size + 1) = some r → r < w.heap.size + 1 + 1 := fun r e => by injection e with e; omega
    refine bodyPost_ret (v := .agg #[.int .u64 x.n, .string x.s, .slice AL x.l.length cL, .slice AK x.ks.length cK]) (by simp [results, Try.results42, go_sem, z0, z1, z2, z3]) rfl ?_
    exact RdPost.mkOk (by rw [RK.out, R.out]) (G.out.andThen GW (fun j e => by injection e with e; exact .inl (by omega))) ⟨AL, cL, AK, cK, rfl, (SL.out.keep GW (fun r e => by have := hlow r e; simp; omega)).more (by simp; omega), (SK.out.keep GW (fun r e => by have := hlow r e; simp; omega)).more (by simp; omega)⟩ (HR1.out.grown GW (fun e => by injection e with e; omega))

set_option maxRecDepth 100000 in
set_option maxHeartbeats 1000000 in
theorem item_list (hn : NumberAt) (L : Ltr) : ItemAt (L, true) := by
  intro rb l w h hl
  have hlt := h.lt
  show Calls Try.prog 42 #[.pointer (some ⟨rb, 0, none⟩), .agg #[.int .u8 L.code, .bool true]] w _
  obtain ⟨C, hC⟩ : ∃ C, C = L.code := ⟨_, rfl⟩
  rw [← hC]
  have HC := Lib.hid hC
  have B0 : Below w.heap.size w ((w.alloc (.cells #[.int .u8 C, .bool true] 50)).alloc (.cells #[.int .u64 0, .string ⟨#[]⟩, .slice none 0 0, .slice none 0 0] 44)) := ((Below.refl _ _).alloc (Nat.le_refl _) _).alloc (by simp) _
  have N := Lib.hid (lsize hn rb 64 l _ (h.below B0) hl (by omega))
  have FR := Lib.hid (show Fill 0 ((w.alloc (.cells #[.int .u8 C, .bool true] 50)).alloc (.cells #[.int .u64 0, .string ⟨#[]⟩, .slice none 0 0, .slice none 0 0] 44)) (w.heap.size + 1) 1 [] by
    have := Fill.made 0 (w.alloc (.cells #[.int .u8 C, .bool true] 50)) 1 #[.int .u64 0, .string ⟨#[]⟩, .slice none 0 0, .slice none 0 0] 44 rfl
    simpa using this)
  have K0 := Lib.hid (show ((w.alloc (.cells #[.int .u8 C, .bool true] 50)).alloc (.cells #[.int .u64 0, .string ⟨#[]⟩, .slice none 0 0, .slice none 0 0] 44)).cell? ⟨w.heap.size, 0, none⟩ = some (.int .u8 C) by rw [box2_lo]; rfl)
  have HB0 := Lib.hid B0
  have NB := Lib.hid hn
  clear B0 h hC hn
  cases hr : rdSize 64 l with
  | error c =>
    have R := Lib.hid hr
    have RK := Lib.hid (show rdK (L, true) l = .error c by simp only [rdK, if_true]; rw [hr])
    clear hr
    go_enter Try.func42, Try.ntmps42
    go_wp2_with fail
    refine N.out.mono ?_
    rintro e w1 hp
    obtain ⟨rfl, hg⟩ := hp.err R.out
    have G := Lib.hid (grown_of_below HB0.out hg)
    clear hg hp
    go_wp2_with fail
    exact ⟨rfl, RdPost.mkErr RK.out G.out⟩
  | ok q =>
    obtain ⟨n, r⟩ := q
    have R := Lib.hid hr
    have n64 := (rdSize_ok hr).1
    have RL := Lib.hid (show r.length ≤ 1099511627776 from Nat.le_trans (rdSize_ok hr).2 hl)
    have RK := Lib.hid (show rdK (L, true) l = rdMap (fun ks => .mk 0 ⟨#[]⟩ [] ks) (rdKids L n r) by simp only [rdK, if_true]; rw [hr])
    obtain ⟨M, hM, hmk⟩ := make_items n (by omega)
    have HM := Lib.hid hM
    clear hr hM
    go_enter Try.func42, Try.ntmps42
    go_wp2_with fail
    refine N.out.mono ?_
    rintro e w1 hp
    obtain ⟨v, rfl, ⟨rfl, _⟩, hrd, hg⟩ := hp.ok R.out
    have hg1 : w.grownBy w1 (some rb) := grown_of_below HB0.out hg
    have hsz : w.heap.size + 1 < w1.heap.size := by have := hg.size; simp at this; omega
    have BK : Below w1.heap.size w1 (w1.alloc (.cells M 44)) := (Below.refl _ _).alloc (Nat.le_refl _) _
    have G := Lib.hid (hg1.trans (grown_below BK (some rb)))
    have HR1 := Lib.hid (hrd.below BK)
    have F1 := Lib.hid ((FR.out.keep hg (fun r e => by injection e with e; omega)).keep (grown_below BK none) (fun r e => by cases e))
    have K1 := Lib.hid ((BK.cell (p := ⟨w.heap.size, 0, none⟩) (by show w.heap.size < _; omega)).trans (hg.cell (a := ⟨w.heap.size, 0, none⟩) K0.out (fun e => by injection e with e; have e' : w.heap.size = rb := e; omega)))
    have FK := Lib.hid (Fill.made 0 w1 n M 44 HM.out)
    obtain ⟨kb, hkb⟩ : ∃ kb, kb = w1.heap.size := ⟨_, rfl⟩
    have hkb1 : w.heap.size + 1 < kb := by omega
    rw [← hkb] at FK
    clear hg hp hrd hg1 BK
    go_wp2_with fail
    rw [← hkb]
    clear hkb hsz
    go_loopw [19] (fun vi wr => ∃ (j : Nat) (ds : List Item) (lj : List UInt8), j ≤ n ∧ vi = .int .i64 j ∧ Hid (ds.length = j) ∧ Hid (lj.length ≤ 1099511627776) ∧ Hid (rdKids L n r = rdMap (ds ++ ·) (rdKids L (n - j) lj)) ∧ Hid (Rdr wr rb lj) ∧ Hid (Fill 0 wr kb n ds) ∧ Hid (Fill 0 wr (w.heap.size + 1) 1 []) ∧ Hid (w.grownBy wr (some rb)) ∧ Hid (wr.cell? ⟨w.heap.size, 0, none⟩ = some (.int .u8 C))) (fun vi _ => n - (intOf vi).toNat)
    case atStart => exact ⟨0, [], r, Nat.zero_le _, rfl, rfl, RL.out, Lib.hid (by simp only [List.nil_append, Nat.sub_zero]; exact (rdMap_id _).symm), HR1.out, FK, F1.out, G.out, K1.out⟩
    case round =>
      obtain ⟨j, ds, lj, hj, rfl, HL, HLJ, HE, HRD, HFK, HFR, HG, HK⟩ := hrel
      by_cases hjn : j < n
      · have CC := Lib.hid (show Calls Try.prog 56 #[.pointer (some ⟨rb, 0, none⟩), .int .u8 C] wr (RdPost rb (One0 wr.heap.size) wr (rd1 L lj)) by rw [HC.out]; exact lone NB.out L rb lj wr HRD.out HLJ.out)
        have hk := HK.out
        have NJ := Lib.hid (show n - j = (n - (j + 1)) + 1 by omega)
        have i0 : (0 : Int) ≤ (j : Int) := by omega
        have i1 : (j : Int) < n := by omega
        have i2 : ((j : Int)).toNat = j := by omega
        cases hr : rd1 L lj with
        | error c =>
          have R1 := Lib.hid hr
          have RE := Lib.hid (show rdK (L, true) l = .error c by rw [RK.out, HE.out, NJ.out, rdKids_err hr]; rfl)
          clear hr
          go_wp2_with fail
          refine CC.out.mono ?_
          rintro e w2 hp
          obtain ⟨rfl, hg⟩ := hp.err R1.out
          have G2 := Lib.hid (HG.out.trans hg)
          clear hg hp
          go_wp2_with fail
          exact ⟨rfl, RdPost.mkErr RE.out G2.out⟩
        | ok q2 =>
          obtain ⟨x, r2⟩ := q2
          have R1 := Lib.hid hr
          have RE := Lib.hid (show rdKids L n r = rdMap ((ds ++ [x]) ++ ·) (rdKids L (n - (j + 1)) r2) by rw [HE.out, NJ.out, rdKids_ok hr, rdMap_map]; simp only [List.append_assoc, List.singleton_append])
          have RL2 := Lib.hid (show r2.length ≤ 1099511627776 from Nat.le_trans (rd1_len hr) HLJ.out)
          have hwr := HFK.out.lt
          clear hr
          go_wp2_with fail
          refine CC.out.mono ?_
          rintro e w2 hp
          obtain ⟨v, rfl, hv, hrd, hg⟩ := hp.ok R1.out
          obtain ⟨AL, cL, AK, cK, rfl, sl, sk⟩ := hv.g 0
          have FK2 := HFK.out.keep hg (fun r e => by injection e with e; omega)
          have FR2 := HFR.out.keep hg (fun r e => by injection e with e; omega)
          obtain ⟨v0, z0⟩ := two_some (FK2.has (j * 4) (by omega))
          obtain ⟨v1, z1⟩ := two_some (FK2.has (j * 4 + 1) (by omega))
          obtain ⟨v2, z2⟩ := two_some (FK2.has (j * 4 + 2) (by omega))
          obtain ⟨v3, z3⟩ := two_some (FK2.has (j * 4 + 3) (by omega))
          have f0 := FK2.fz (j * 4)
          have f1 := FK2.fz (j * 4 + 1)
          have f2 := FK2.fz (j * 4 + 2)
          have f3 := FK2.fz (j * 4 + 3)
          have PUT := FK2.put (x := x) (cL := cL) (cK := cK) (by rw [HL.out]; exact hjn) (sl.more (show kb + 1 ≤ wr.heap.size by omega)) (sk.more (show kb + 1 ≤ wr.heap.size by omega))
          rw [HL.out] at PUT
          have GW := set4o_grown w2 kb (j * 4) (.int .u64 x.n) (.string x.s) (.slice AL x.l.length cL) (.slice AK x.ks.length cK)
          have FKH := Lib.hid PUT
          have FRH := Lib.hid (FR2.keep0 GW (fun e => by injection e with e; omega))
          have G2 := Lib.hid ((HG.out.trans hg).andThen GW (fun j e => by injection e with e; exact .inl (by omega)))
          have HR2 := Lib.hid (hrd.grown GW (fun e => by injection e with e; omega))
          have HK2 := Lib.hid (GW.cell (a := ⟨w.heap.size, 0, none⟩) (hg.cell (a := ⟨w.heap.size, 0, none⟩) hk (fun e => by injection e with e; have e' : w.heap.size = rb := e; omega)) (fun e => by injection e with e; have e' : w.heap.size = kb := e; omega))
          clear hg hp hrd FK2 FR2 hv sl sk PUT GW hk
          go_wp2_with fail
          go_roundw
          case rel => exact ⟨j + 1, ds ++ [x], r2, by omega, by go_num, Lib.hid (by rw [List.length_append, HL.out]; rfl), RL2.out, RE.out, HR2.out, FKH.out, FRH.out, G2.out, HK2.out⟩
          case measure => simp [intOf]; omega
      · have hj2 : j = n := by omega
        have DL : ds.length = n := by rw [HL.out]; exact hj2
        have RE := Lib.hid (show rdK (L, true) l = .ok (.mk 0 ⟨#[]⟩ [] ds, lj) by
          rw [RK.out, HE.out, hj2, Nat.sub_self]
          show Except.ok (Item.mk 0 ⟨#[]⟩ [] (ds ++ []), lj) = _
          rw [List.append_nil])
        obtain ⟨v0, z0⟩ := two_some (HFR.out.has 0 (by omega))
        obtain ⟨v1, z1⟩ := two_some (HFR.out.has 1 (by omega))
        obtain ⟨v2, z2⟩ := two_some (HFR.out.has 2 (by omega))
        obtain ⟨v3, z3⟩ := two_some (HFR.out.has 3 (by omega))
        have f0 := HFR.out.fz 0
        have f1 := HFR.out.fz 1
        have f2 := HFR.out.fz 2
        have f3 := HFR.out.fz 3
        have HDL := Lib.hid DL
        clear DL hj2
        go_wp2_with fail
        have GW := set4_grown wr (w.heap.size + 1) (.int .u64 0) (.string ⟨#[]⟩) (.slice none 0 0) (.slice (some ⟨kb, 0, none⟩) n n)
        have FKW := HFK.out.keep GW (fun r e => by injection e with e; omega)
        refine bodyPost_ret (v := .agg #[.int .u64 0, .string ⟨#[]⟩, .slice none 0 0, .slice (some ⟨kb, 0, none⟩) n n]) (by simp [results, Try.results42, go_sem, z0, z1, z2, z3]) rfl ?_
        refine RdPost.mkOk RE.out (HG.out.andThen GW (fun j e => by injection e with e; exact .inl (by omega))) ⟨none, 0, some ⟨kb, 0, none⟩, n, ?_, SlG.nil _ _, FKW.whole (by omega)⟩ (HRD.out.grown GW (fun e => by injection e with e; omega))
        show _ = Value.agg #[.int .u64 0, .string ⟨#[]⟩, .slice none 0 0, .slice (some ⟨kb, 0, none⟩) ds.length n]
        rw [HDL.out]

/-- (*wire.reader).item -/
theorem litem (hn : NumberAt) (k : Ltr × Bool) : ItemAt k := by
  obtain ⟨L, st⟩ := k
  cases st
  · exact item_one hn L
  · exact item_list hn L

end Go.Proofs.Ytmcackghpkegbaa
