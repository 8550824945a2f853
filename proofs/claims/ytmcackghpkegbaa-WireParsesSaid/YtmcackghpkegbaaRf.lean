/- (*wire.reader).float, tags, one: walked, given what number does. -/
import Derived.Test.YtmcackghpkegbaaRe
import Derived.Test.YtmcackghpkegbaaWkc
import Derived.Maps.Range
namespace Go.Proofs.Ytmcackghpkegbaa
open Go.RowKit

set_option maxRecDepth 100000 in
/-- (*wire.reader).float -/
theorem lfloat (rb : Nat) (l : List UInt8) (w : World) (h : Rdr w rb l) (hl : l.length ≤ 1099511627776) :
    Calls Try.prog 66 #[.pointer (some ⟨rb, 0, none⟩)] w (RdPost rb (fun (n : Nat) _ v => v = .int .u64 (n : Int)) w (rdFloat l)) := by
  have N := Lib.hid (ltake rb 8 l w h hl)
  clear h
  cases hr : rdTake 8 l with
  | error c =>
    have R := Lib.hid hr
    have RS := Lib.hid (show rdFloat l = .error c by unfold rdFloat; rw [hr])
    clear hr
    go_enter Try.func66, Try.ntmps66
    go_wp2_with fail
    refine N.out.mono ?_
    rintro e w' hp
    obtain ⟨rfl, hg⟩ := hp.err R.out
    have G := Lib.hid hg
    clear hg hp
    go_wp2_with fail
    exact ⟨rfl, RdPost.mkErr RS.out G.out⟩
  | ok q =>
    obtain ⟨k, r⟩ := q
    have R := Lib.hid hr
    have K8 := Lib.hid (show (BA k).size = 8 by rw [BA_size]; exact (rdTake_ok hr).1)
    have RT : rdFloat l = if unOk (BA k) then .ok (Fl.bitsOf (unB (BA k)), r) else .error 4 := by unfold rdFloat; rw [hr]
    clear hr
    cases hk : unOk (BA k)
    · have RS := Lib.hid (show rdFloat l = .error 4 by rw [RT, hk]; rfl)
      have UE := Lib.hid (show unE (BA k) = 4 by unfold unOk at hk; unfold unE; rw [if_neg (of_decide_eq_false hk)])
      clear hk RT
      go_enter Try.func66, Try.ntmps66
      go_wp2_with fail
      refine N.out.mono ?_
      rintro e w1 hp
      obtain ⟨v, rfl, rfl, hrd, hg⟩ := hp.ok R.out
      have G := Lib.hid hg
      clear hg hp hrd
      go_wp2_with fail
      refine (nunkey (BA k) K8.out _).mono ?_
      rintro e w' ⟨rfl, rfl⟩
      rw [UE.out]
      go_wp2_with fail
      refine (lcheck_no 4 (by omega) _).mono ?_
      rintro e w' ⟨rfl, rfl⟩
      go_wp2_with fail
      exact ⟨rfl, RdPost.mkErr RS.out G.out⟩
    · have RS := Lib.hid (show rdFloat l = .ok (Fl.bitsOf (unB (BA k)), r) by rw [RT, hk]; rfl)
      have UE := Lib.hid (show unE (BA k) = 0 by unfold unOk at hk; unfold unE; rw [if_pos (of_decide_eq_true hk)])
      clear hk RT
      go_enter Try.func66, Try.ntmps66
      go_wp2_with fail
      refine N.out.mono ?_
      rintro e w1 hp
      obtain ⟨v, rfl, rfl, hrd, hg⟩ := hp.ok R.out
      have G := Lib.hid hg
      have HR := Lib.hid hrd
      clear hg hp hrd
      go_wp2_with fail
      refine (nunkey (BA k) K8.out _).mono ?_
      rintro e w' ⟨rfl, rfl⟩
      rw [UE.out]
      go_wp2_with fail
      refine (lcheck_ok _).mono ?_
      rintro e w' ⟨rfl, rfl⟩
      go_wp2_with fail
      refine (nbits (unB (BA k)) _).mono ?_
      rintro e w' ⟨rfl, rfl⟩
      go_wp2_with fail
      go_ret
      exact RdPost.mkOk RS.out G.out rfl HR.out

def rdTags (l : List UInt8) : Rd (List Int) := if upC (BA l) = 0 then .ok (upV (BA l), l.drop (upN (BA l)).toNat) else .error (upC (BA l))

/-- v is a new slice, from block B on, that reads as zs -/
def TagsV (B : Nat) (zs : List Int) (w : World) (v : Value) : Prop := ∃ A c, v = .slice A zs.length c ∧ Sl w A zs ∧ ∀ b o, A = some ⟨b, o, none⟩ → B ≤ b
theorem Sl.keep {w w' : World} {A : Option Addr} {zs : List Int} {row : Option Nat} (h : Sl w A zs) (hg : w.grownBy w' row) (hn : ∀ b o, A = some ⟨b, o, none⟩ → row ≠ some b) : Sl w' A zs := fun hp => by
  obtain ⟨b, o, e, hb, hc⟩ := h hp
  exact ⟨b, o, e, Nat.lt_of_lt_of_le hb hg.size, fun j hj => hg.cell (hc j hj) (Ne.symm (hn b o e))⟩

/-- the slice at A reads as zs, and lies in no block below B -/
def SlG (B : Nat) (w : World) (A : Option Addr) (zs : List Int) : Prop := Sl w A zs ∧ ∀ b o, A = some ⟨b, o, none⟩ → B ≤ b
theorem SlG.keep {B : Nat} {w w' : World} {A : Option Addr} {zs : List Int} {row : Option Nat} (h : SlG B w A zs) (hg : w.grownBy w' row) (hr : ∀ r, row = some r → r < B) : SlG B w' A zs :=
  ⟨h.1.keep hg (fun b o e e2 => by have := hr b e2; have := h.2 b o e; omega), h.2⟩
theorem SlG.nil (B : Nat) (w : World) : SlG B w none [] := ⟨Sl.nil _ _, fun _ _ e => by cases e⟩
theorem SlG.more {B B' : Nat} {w : World} {A : Option Addr} {zs : List Int} (h : SlG B w A zs) (hB : B' ≤ B) : SlG B' w A zs := ⟨h.1, fun b o e => Nat.le_trans hB (h.2 b o e)⟩

theorem upN_le {l : List UInt8} (h : upC (BA l) = 0) : (upN (BA l)).toNat ≤ l.length ∧ upN (BA l) = ((upN (BA l)).toNat : Int) := by
  have hn : upN (BA l) = 1 + 8 * (cnt (BA l) : Int) := by unfold upN; rw [if_pos h]
  have hs : ¬ (BA l).size < 1 + 8 * cnt (BA l) := by
    intro hlt
    unfold upC at h
    split at h
    · cases h
    · split at h
      · cases h
      · first | (rw [if_pos hlt] at h; cases h) | cases h
  rw [BA_size] at hs
  constructor <;> omega

set_option maxRecDepth 100000 in
/-- (*wire.reader).tags -/
theorem ltags (rb : Nat) (l : List UInt8) (w : World) (h : Rdr w rb l) (hl : l.length ≤ 1099511627776) :
    Calls Try.prog 67 #[.pointer (some ⟨rb, 0, none⟩)] w (RdPost rb (TagsV w.heap.size) w (rdTags l)) := by
  have hc := h.1
  have hlt := h.lt
  have U := Lib.hid (lunpack (BA l) w (by rw [BA_size]; exact hl))
  have HR := Lib.hid h
  clear h
  by_cases hu : upC (BA l) = 0
  · have RS := Lib.hid (show rdTags l = .ok (upV (BA l), l.drop (upN (BA l)).toNat) by unfold rdTags; rw [if_pos hu])
    have UC := Lib.hid hu
    obtain ⟨N, hN⟩ : ∃ N : Nat, N = (upN (BA l)).toNat := ⟨_, rfl⟩
    have UN := Lib.hid (show upN (BA l) = (N : Int) by rw [hN]; exact (upN_le hu).2)
    have NL : N ≤ l.length := by rw [hN]; exact (upN_le hu).1
    rw [← hN] at RS
    have RT := Lib.hid (show rdTake N l = .ok (l.take N, l.drop N) by unfold rdTake; rw [if_neg (by omega)])
    clear hu hN
    go_enter Try.func67, Try.ntmps67
    go_wp2_with fail
    refine U.out.mono ?_
    rintro e w1 ⟨v, rfl, ho, hb⟩
    rw [UC.out, UN.out]
    obtain ⟨A, c, rfl, _, hsl, _, hA⟩ := ho.form
    have HB := Lib.hid hb
    have HR1 := Lib.hid (HR.out.below hb)
    have AN := Lib.hid (show ∀ b o, A = some ⟨b, o, none⟩ → w.heap.size ≤ b from fun b o e => by obtain ⟨g, eg, hg⟩ := hA _ e; injection eg with eg; omega)
    have SN := Lib.hid hsl
    clear ho hb hsl hA
    go_wp2_with fail
    refine (lcheck_ok _).mono ?_
    rintro e w' ⟨rfl, rfl⟩
    go_wp2_with fail
    refine (ltake rb N l _ HR1.out hl).mono ?_
    rintro e w2 hp
    obtain ⟨v, rfl, _, hrd, hg⟩ := hp.ok RT.out
    have G := Lib.hid ((grown_below HB.out (some rb)).trans hg)
    have HR2 := Lib.hid hrd
    have SN2 := Lib.hid (SN.out.keep hg (fun b o e e2 => by injection e2 with e2; have := AN.out b o e; omega))
    clear hg hp hrd
    go_wp2_with fail
    go_ret
    exact RdPost.mkOk RS.out G.out ⟨A, c, rfl, SN2.out, AN.out⟩ HR2.out
  · have RS := Lib.hid (show rdTags l = .error (upC (BA l)) by unfold rdTags; rw [if_neg hu])
    have UC := Lib.hid hu
    clear hu
    go_enter Try.func67, Try.ntmps67
    go_wp2_with fail
    refine U.out.mono ?_
    rintro e w1 ⟨v, rfl, ho, hb⟩
    have HB := Lib.hid hb
    clear ho hb
    go_wp2_with fail
    refine (lcheck_no (upC (BA l)) UC.out _).mono ?_
    rintro e w' ⟨rfl, rfl⟩
    go_wp2_with fail
    exact ⟨rfl, RdPost.mkErr RS.out (grown_below HB.out (some rb))⟩

def rdMap {α β : Type} (f : α → β) : Rd α → Rd β
  | .error c => .error c
  | .ok (x, r) => .ok (f x, r)
theorem rdMap_err {α β : Type} {f : α → β} {o : Rd α} {c : Int} (h : o = .error c) : rdMap f o = .error c := by rw [h]; rfl
theorem rdMap_ok {α β : Type} {f : α → β} {o : Rd α} {x : α} {r : List UInt8} (h : o = .ok (x, r)) : rdMap f o = .ok (f x, r) := by rw [h]; rfl
/-- an item of a letter -/
def rd1 : Ltr → List UInt8 → Rd Item
  | .b, l => rdMap (fun x => .mk (x.toNat : Int) ⟨#[]⟩ [] []) (rdNext l)
  | .n, l => rdMap (fun (x : Nat) => .mk (x : Int) ⟨#[]⟩ [] []) (rdNum 0 0 l)
  | .t, l => rdMap (fun x => .mk 0 (BA x) [] []) (rdText l)
  | .f, l => rdMap (fun (x : Nat) => .mk (x : Int) ⟨#[]⟩ [] []) (rdFloat l)
  | .l, l => rdMap (fun x => .mk 0 ⟨#[]⟩ x []) (rdTags l)

theorem grown_setj (w : World) (B j : Nat) (v : Value) : w.grownBy (w.setCell ⟨B, j, none⟩ v) (some B) :=
  ⟨rfl, rfl, rfl, by simp [World.setCell], fun k _ hk => Below.heap_setCell _ _ _ _ (fun e => hk (by rw [e]))⟩
/-- four cells of a block -/
def set4 (w : World) (B : Nat) (v0 v1 v2 v3 : Value) : World := (((w.setCell ⟨B, 0, none⟩ v0).setCell ⟨B, 1, none⟩ v1).setCell ⟨B, 2, none⟩ v2).setCell ⟨B, 3, none⟩ v3
theorem set4_grown (w : World) (B : Nat) (v0 v1 v2 v3 : Value) : w.grownBy (set4 w B v0 v1 v2 v3) (some B) :=
  (((grown_setj _ _ _ _).trans (grown_setj _ _ _ _)).trans (grown_setj _ _ _ _)).trans (grown_setj _ _ _ _)

/-- v is the item x, without kids, as a value; its tags lie in no block below B -/
def One0 (B : Nat) (x : Item) (w : World) (v : Value) : Prop :=
  ∃ A c, v = .agg #[.int .u64 x.n, .string x.s, .slice A x.l.length c, .slice none 0 0] ∧ SlG B w A x.l ∧ x.ks = []

/-- (*wire.reader).one of a letter -/
def OneL (L : Ltr) : Prop := ∀ (rb : Nat) (l : List UInt8) (w : World), Rdr w rb l → l.length ≤ 1099511627776 →
    Calls Try.prog 56 #[.pointer (some ⟨rb, 0, none⟩), .int .u8 L.code] w (RdPost rb (One0 w.heap.size) w (rd1 L l))

set_option maxRecDepth 100000 in
theorem one_b : OneL .b := by
  intro rb l w h hl
  have hlt := h.lt
  have wf : w.heap.size ≠ rb := by omega
  have N := Lib.hid (show ∀ w, Rdr w rb l → Calls Try.prog _ _ w _ from fun w h => lnext rb l w h hl)
  have HR := Lib.hid h
  clear h
  show Calls Try.prog 56 #[.pointer (some ⟨rb, 0, none⟩), .int .u8 98] w _
  cases hr : rdNext l with
  | error c =>
    have R := Lib.hid hr
    have RS := Lib.hid (show rd1 .b l = .error c from rdMap_err hr)
    clear hr
    go_enter Try.func56, Try.ntmps56
    go_wp2_with fail
    refine (N.out _ (HR.out.below ((Below.refl _ _).alloc (Nat.le_refl _) _))).mono ?_
    rintro e w1 hp
    obtain ⟨rfl, hg⟩ := hp.err R.out
    have G := Lib.hid (grown_of_below ((Below.refl _ _).alloc (Nat.le_refl _) _) hg)
    clear hg hp
    go_wp2_with fail
    exact ⟨rfl, RdPost.mkErr RS.out G.out⟩
  | ok q =>
    obtain ⟨x, r⟩ := q
    have R := Lib.hid hr
    have RS := Lib.hid (show rd1 .b l = .ok (.mk (x.toNat : Int) ⟨#[]⟩ [] [], r) from rdMap_ok hr)
    clear hr
    go_enter Try.func56, Try.ntmps56
    go_wp2_with fail
    refine (N.out _ (HR.out.below ((Below.refl _ _).alloc (Nat.le_refl _) _))).mono ?_
    rintro e w1 hp
    obtain ⟨v, rfl, hv, hrd, hg⟩ := hp.ok R.out
    have hw : IntKind.u64.wrap (x.toNat : Int) = (x.toNat : Int) := by rw [IntKind.wrap_u64]; have := x.toNat_lt; omega
    have hz : ∀ j v, (#[.int .u64 0, .string ⟨#[]⟩, .slice none 0 0, .slice none 0 0] : Array Value)[j]? = some v → w1.cell? ⟨w.heap.size, j, none⟩ = some v := fun j v h =>
      hg.cell (a := ⟨w.heap.size, j, none⟩) (by rw [World.cell?_alloc_at _ _ _ _ rfl]; exact h) (fun e => by injection e with e; exact wf e)
    have fz : ∀ j, w1.frozen? ⟨w.heap.size, j, none⟩ = false := fun j => (hg.frozen_far ⟨w.heap.size, j, none⟩ (by simp) (fun e => by injection e with e; exact wf e)).trans (by rw [World.frozen?_alloc_at _ _ _ _ rfl])
    have z0 := hz 0 _ rfl
    have z1 := hz 1 _ rfl
    have z2 := hz 2 _ rfl
    have z3 := hz 3 _ rfl
    have f0 := fz 0
    have f1 := fz 1
    have f2 := fz 2
    have f3 := fz 3
    have G := Lib.hid (grown_of_below ((Below.refl _ _).alloc (Nat.le_refl _) _) hg)
    have HR1 := Lib.hid hrd
    obtain rfl := hv
    clear hg hp hrd hz fz
    go_wp2_with fail
    have GW := set4_grown w1 w.heap.size (.int .u64 (x.toNat : Int)) (.string ⟨#[]⟩) (.slice none 0 0) (.slice none 0 0)
    refine bodyPost_ret (v := .agg #[.int .u64 (x.toNat : Int), .string ⟨#[]⟩, .slice none 0 0, .slice none 0 0]) (by simp [results, Try.results56, go_sem, z0, z1, z2, z3]) rfl ?_
    exact RdPost.mkOk RS.out (G.out.andThen GW (fun j e => by injection e with e; exact .inl (by omega))) ⟨none, 0, rfl, SlG.nil _ _, rfl⟩ (HR1.out.grown GW (fun e => by injection e with e; exact wf e))

set_option maxRecDepth 100000 in
theorem one_n (hn : NumberAt) : OneL .n := by
  intro rb l w h hl
  have hlt := h.lt
  have wf : w.heap.size ≠ rb := by omega
  have N := Lib.hid (show ∀ w, Rdr w rb l → Calls Try.prog _ _ w _ from fun w h => hn rb l w h hl)
  have HR := Lib.hid h
  clear h hn
  show Calls Try.prog 56 #[.pointer (some ⟨rb, 0, none⟩), .int .u8 110] w _
  cases hr : rdNum 0 0 l with
  | error c =>
    have R := Lib.hid hr
    have RS := Lib.hid (show rd1 .n l = .error c from rdMap_err hr)
    clear hr
    go_enter Try.func56, Try.ntmps56
    go_wp2_with fail
    refine (N.out _ (HR.out.below ((Below.refl _ _).alloc (Nat.le_refl _) _))).mono ?_
    rintro e w1 hp
    obtain ⟨rfl, hg⟩ := hp.err R.out
    have G := Lib.hid (grown_of_below ((Below.refl _ _).alloc (Nat.le_refl _) _) hg)
    clear hg hp
    go_wp2_with fail
    exact ⟨rfl, RdPost.mkErr RS.out G.out⟩
  | ok q =>
    obtain ⟨x, r⟩ := q
    have R := Lib.hid hr
    have RS := Lib.hid (show rd1 .n l = .ok (.mk (x : Int) ⟨#[]⟩ [] [], r) from rdMap_ok hr)
    clear hr
    go_enter Try.func56, Try.ntmps56
    go_wp2_with fail
    refine (N.out _ (HR.out.below ((Below.refl _ _).alloc (Nat.le_refl _) _))).mono ?_
    rintro e w1 hp
    obtain ⟨v, rfl, hv, hrd, hg⟩ := hp.ok R.out
    have hz : ∀ j v, (#[.int .u64 0, .string ⟨#[]⟩, .slice none 0 0, .slice none 0 0] : Array Value)[j]? = some v → w1.cell? ⟨w.heap.size, j, none⟩ = some v := fun j v h =>
      hg.cell (a := ⟨w.heap.size, j, none⟩) (by rw [World.cell?_alloc_at _ _ _ _ rfl]; exact h) (fun e => by injection e with e; exact wf e)
    have fz : ∀ j, w1.frozen? ⟨w.heap.size, j, none⟩ = false := fun j => (hg.frozen_far ⟨w.heap.size, j, none⟩ (by simp) (fun e => by injection e with e; exact wf e)).trans (by rw [World.frozen?_alloc_at _ _ _ _ rfl])
    have z0 := hz 0 _ rfl
    have z1 := hz 1 _ rfl
    have z2 := hz 2 _ rfl
    have z3 := hz 3 _ rfl
    have f0 := fz 0
    have f1 := fz 1
    have f2 := fz 2
    have f3 := fz 3
    have G := Lib.hid (grown_of_below ((Below.refl _ _).alloc (Nat.le_refl _) _) hg)
    have HR1 := Lib.hid hrd
    obtain rfl := hv
    clear hg hp hrd hz fz
    go_wp2_with fail
    have GW := set4_grown w1 w.heap.size (.int .u64 (x : Int)) (.string ⟨#[]⟩) (.slice none 0 0) (.slice none 0 0)
    refine bodyPost_ret (v := .agg #[.int .u64 (x : Int), .string ⟨#[]⟩, .slice none 0 0, .slice none 0 0]) (by simp [results, Try.results56, go_sem, z0, z1, z2, z3]) rfl ?_
    exact RdPost.mkOk RS.out (G.out.andThen GW (fun j e => by injection e with e; exact .inl (by omega))) ⟨none, 0, rfl, SlG.nil _ _, rfl⟩ (HR1.out.grown GW (fun e => by injection e with e; exact wf e))

set_option maxRecDepth 100000 in
theorem one_t (hn : NumberAt) : OneL .t := by
  intro rb l w h hl
  have hlt := h.lt
  have wf : w.heap.size ≠ rb := by omega
  have N := Lib.hid (show ∀ w, Rdr w rb l → Calls Try.prog _ _ w _ from fun w h => ltext hn rb l w h hl)
  have HR := Lib.hid h
  clear h hn
  show Calls Try.prog 56 #[.pointer (some ⟨rb, 0, none⟩), .int .u8 116] w _
  cases hr : rdText l with
  | error c =>
    have R := Lib.hid hr
    have RS := Lib.hid (show rd1 .t l = .error c from rdMap_err hr)
    clear hr
    go_enter Try.func56, Try.ntmps56
    go_wp2_with fail
    refine (N.out _ (HR.out.below ((Below.refl _ _).alloc (Nat.le_refl _) _))).mono ?_
    rintro e w1 hp
    obtain ⟨rfl, hg⟩ := hp.err R.out
    have G := Lib.hid (grown_of_below ((Below.refl _ _).alloc (Nat.le_refl _) _) hg)
    clear hg hp
    go_wp2_with fail
    exact ⟨rfl, RdPost.mkErr RS.out G.out⟩
  | ok q =>
    obtain ⟨x, r⟩ := q
    have R := Lib.hid hr
    have RS := Lib.hid (show rd1 .t l = .ok (.mk 0 (BA x) [] [], r) from rdMap_ok hr)
    clear hr
    go_enter Try.func56, Try.ntmps56
    go_wp2_with fail
    refine (N.out _ (HR.out.below ((Below.refl _ _).alloc (Nat.le_refl _) _))).mono ?_
    rintro e w1 hp
    obtain ⟨v, rfl, hv, hrd, hg⟩ := hp.ok R.out
    have hz : ∀ j v, (#[.int .u64 0, .string ⟨#[]⟩, .slice none 0 0, .slice none 0 0] : Array Value)[j]? = some v → w1.cell? ⟨w.heap.size, j, none⟩ = some v := fun j v h =>
      hg.cell (a := ⟨w.heap.size, j, none⟩) (by rw [World.cell?_alloc_at _ _ _ _ rfl]; exact h) (fun e => by injection e with e; exact wf e)
    have fz : ∀ j, w1.frozen? ⟨w.heap.size, j, none⟩ = false := fun j => (hg.frozen_far ⟨w.heap.size, j, none⟩ (by simp) (fun e => by injection e with e; exact wf e)).trans (by rw [World.frozen?_alloc_at _ _ _ _ rfl])
    have z0 := hz 0 _ rfl
    have z1 := hz 1 _ rfl
    have z2 := hz 2 _ rfl
    have z3 := hz 3 _ rfl
    have f0 := fz 0
    have f1 := fz 1
    have f2 := fz 2
    have f3 := fz 3
    have G := Lib.hid (grown_of_below ((Below.refl _ _).alloc (Nat.le_refl _) _) hg)
    have HR1 := Lib.hid hrd
    obtain rfl := hv
    clear hg hp hrd hz fz
    go_wp2_with fail
    have GW := set4_grown w1 w.heap.size (.int .u64 0) (.string (BA x)) (.slice none 0 0) (.slice none 0 0)
    refine bodyPost_ret (v := .agg #[.int .u64 0, .string (BA x), .slice none 0 0, .slice none 0 0]) (by simp [results, Try.results56, go_sem, z0, z1, z2, z3]) rfl ?_
    exact RdPost.mkOk RS.out (G.out.andThen GW (fun j e => by injection e with e; exact .inl (by omega))) ⟨none, 0, rfl, SlG.nil _ _, rfl⟩ (HR1.out.grown GW (fun e => by injection e with e; exact wf e))

set_option maxRecDepth 100000 in
theorem one_f : OneL .f := by
  intro rb l w h hl
  have hlt := h.lt
  have wf : w.heap.size ≠ rb := by omega
  have N := Lib.hid (show ∀ w, Rdr w rb l → Calls Try.prog _ _ w _ from fun w h => lfloat rb l w h hl)
  have HR := Lib.hid h
  clear h
  show Calls Try.prog 56 #[.pointer (some ⟨rb, 0, none⟩), .int .u8 102] w _
  cases hr : rdFloat l with
  | error c =>
    have R := Lib.hid hr
    have RS := Lib.hid (show rd1 .f l = .error c from rdMap_err hr)
    clear hr
    go_enter Try.func56, Try.ntmps56
    go_wp2_with fail
    refine (N.out _ (HR.out.below ((Below.refl _ _).alloc (Nat.le_refl _) _))).mono ?_
    rintro e w1 hp
    obtain ⟨rfl, hg⟩ := hp.err R.out
    have G := Lib.hid (grown_of_below ((Below.refl _ _).alloc (Nat.le_refl _) _) hg)
    clear hg hp
    go_wp2_with fail
    exact ⟨rfl, RdPost.mkErr RS.out G.out⟩
  | ok q =>
    obtain ⟨x, r⟩ := q
    have R := Lib.hid hr
    have RS := Lib.hid (show rd1 .f l = .ok (.mk (x : Int) ⟨#[]⟩ [] [], r) from rdMap_ok hr)
    clear hr
    go_enter Try.func56, Try.ntmps56
    go_wp2_with fail
    refine (N.out _ (HR.out.below ((Below.refl _ _).alloc (Nat.le_refl _) _))).mono ?_
    rintro e w1 hp
    obtain ⟨v, rfl, hv, hrd, hg⟩ := hp.ok R.out
    have hz : ∀ j v, (#[.int .u64 0, .string ⟨#[]⟩, .slice none 0 0, .slice none 0 0] : Array Value)[j]? = some v → w1.cell? ⟨w.heap.size, j, none⟩ = some v := fun j v h =>
      hg.cell (a := ⟨w.heap.size, j, none⟩) (by rw [World.cell?_alloc_at _ _ _ _ rfl]; exact h) (fun e => by injection e with e; exact wf e)
    have fz : ∀ j, w1.frozen? ⟨w.heap.size, j, none⟩ = false := fun j => (hg.frozen_far ⟨w.heap.size, j, none⟩ (by simp) (fun e => by injection e with e; exact wf e)).trans (by rw [World.frozen?_alloc_at _ _ _ _ rfl])
    have z0 := hz 0 _ rfl
    have z1 := hz 1 _ rfl
    have z2 := hz 2 _ rfl
    have z3 := hz 3 _ rfl
    have f0 := fz 0
    have f1 := fz 1
    have f2 := fz 2
    have f3 := fz 3
    have G := Lib.hid (grown_of_below ((Below.refl _ _).alloc (Nat.le_refl _) _) hg)
    have HR1 := Lib.hid hrd
    obtain rfl := hv
    clear hg hp hrd hz fz
    go_wp2_with fail
    have GW := set4_grown w1 w.heap.size (.int .u64 (x : Int)) (.string ⟨#[]⟩) (.slice none 0 0) (.slice none 0 0)
    refine bodyPost_ret (v := .agg #[.int .u64 (x : Int), .string ⟨#[]⟩, .slice none 0 0, .slice none 0 0]) (by simp [results, Try.results56, go_sem, z0, z1, z2, z3]) rfl ?_
    exact RdPost.mkOk RS.out (G.out.andThen GW (fun j e => by injection e with e; exact .inl (by omega))) ⟨none, 0, rfl, SlG.nil _ _, rfl⟩ (HR1.out.grown GW (fun e => by injection e with e; exact wf e))

set_option maxRecDepth 100000 in
theorem one_l : OneL .l := by
  intro rb l w h hl
  have hlt := h.lt
  have wf : w.heap.size ≠ rb := by omega
  have N := Lib.hid (show ∀ w, Rdr w rb l → Calls Try.prog _ _ w _ from fun w h => ltags rb l w h hl)
  have HR := Lib.hid h
  clear h
  show Calls Try.prog 56 #[.pointer (some ⟨rb, 0, none⟩), .int .u8 108] w _
  cases hr : rdTags l with
  | error c =>
    have R := Lib.hid hr
    have RS := Lib.hid (show rd1 .l l = .error c from rdMap_err hr)
    clear hr
    go_enter Try.func56, Try.ntmps56
    go_wp2_with fail
    refine (N.out _ (HR.out.below ((Below.refl _ _).alloc (Nat.le_refl _) _))).mono ?_
    rintro e w1 hp
    obtain ⟨rfl, hg⟩ := hp.err R.out
    have G := Lib.hid (grown_of_below ((Below.refl _ _).alloc (Nat.le_refl _) _) hg)
    clear hg hp
    go_wp2_with fail
    exact ⟨rfl, RdPost.mkErr RS.out G.out⟩
  | ok q =>
    obtain ⟨x, r⟩ := q
    have R := Lib.hid hr
    have RS := Lib.hid (show rd1 .l l = .ok (.mk 0 ⟨#[]⟩ x [], r) from rdMap_ok hr)
    clear hr
    go_enter Try.func56, Try.ntmps56
    go_wp2_with fail
    refine (N.out _ (HR.out.below ((Below.refl _ _).alloc (Nat.le_refl _) _))).mono ?_
    rintro e w1 hp
    obtain ⟨v, rfl, hv, hrd, hg⟩ := hp.ok R.out
    have hz : ∀ j v, (#[.int .u64 0, .string ⟨#[]⟩, .slice none 0 0, .slice none 0 0] : Array Value)[j]? = some v → w1.cell? ⟨w.heap.size, j, none⟩ = some v := fun j v h =>
      hg.cell (a := ⟨w.heap.size, j, none⟩) (by rw [World.cell?_alloc_at _ _ _ _ rfl]; exact h) (fun e => by injection e with e; exact wf e)
    have fz : ∀ j, w1.frozen? ⟨w.heap.size, j, none⟩ = false := fun j => (hg.frozen_far ⟨w.heap.size, j, none⟩ (by simp) (fun e => by injection e with e; exact wf e)).trans (by rw [World.frozen?_alloc_at _ _ _ _ rfl])
    have z0 := hz 0 _ rfl
    have z1 := hz 1 _ rfl
    have z2 := hz 2 _ rfl
    have z3 := hz 3 _ rfl
    have f0 := fz 0
    have f1 := fz 1
    have f2 := fz 2
    have f3 := fz 3
    have G := Lib.hid (grown_of_below ((Below.refl _ _).alloc (Nat.le_refl _) _) hg)
    have HR1 := Lib.hid hrd
    obtain ⟨A, c, rfl, hsn, hsm⟩ := hv
    have SN := Lib.hid (And.intro hsn hsm)
    clear hsn hsm
    clear hg hp hrd hz fz
    go_wp2_with fail
    have GW := set4_grown w1 w.heap.size (.int .u64 0) (.string ⟨#[]⟩) (.slice A x.length c) (.slice none 0 0)
    refine bodyPost_ret (v := .agg #[.int .u64 0, .string ⟨#[]⟩, .slice A x.length c, .slice none 0 0]) (by simp [results, Try.results56, go_sem, z0, z1, z2, z3]) rfl ?_
    exact RdPost.mkOk RS.out (G.out.andThen GW (fun j e => by injection e with e; exact .inl (by omega))) ⟨A, c, rfl, ⟨SN.out.1.keep GW (fun b o e e2 => by injection e2 with e2; have := SN.out.2 b o e; simp at this; omega), fun b o e => by have := SN.out.2 b o e; simp at this; omega⟩, rfl⟩ (HR1.out.grown GW (fun e => by injection e with e; exact wf e))

/-- (*wire.reader).one -/
theorem lone (hn : NumberAt) (L : Ltr) : OneL L := by
  cases L
  · exact one_b
  · exact one_n hn
  · exact one_t hn
  · exact one_f
  · exact one_l

end Go.Proofs.Ytmcackghpkegbaa
