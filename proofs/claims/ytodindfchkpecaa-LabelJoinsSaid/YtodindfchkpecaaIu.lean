/- label.In where the second list isn't in order: it is copied and sorted first. -/
import Derived.Test.YtodindfchkpecaaSo
import Derived.Test.YtodindfchkpecaaCl
import Derived.Test.YtodindfchkpecaaIi
namespace Go.Proofs.Ytodindfchkpecaa
open Go.RowKit

/-- a row of the call's own is a row that may be sorted in place -/
theorem sw_of_own {w : World} {B : Nat} {v : Value} {zs : List Int} (h : Own w B v zs) (hp : 0 < zs.length) : ∃ g cap Z, v = .slice (some ⟨g, 0, none⟩) zs.length cap ∧ B ≤ g ∧ Sw w w g Z zs.toArray := by
  rcases h.2 with ⟨_, hn⟩ | ⟨g, cap, cur, rfl, hB, hg, hnc, hcm, hs, ht⟩
  · omega
  · refine ⟨g, cap, cur.toList.drop (zs.length * 1), rfl, hB, ⟨⟨rfl, rfl, rfl, Nat.le_refl _, fun _ _ _ => rfl⟩, ?_, ?_⟩⟩
    · rcases Nat.lt_or_ge g w.heap.size with hlt | hge
      · exact hlt
      · rw [Array.getElem?_eq_none hge] at hg; cases hg
    · rw [hg]
      have e : (zs.toArray.toList.map (Value.int .u64) ++ cur.toList.drop (zs.length * 1)).toArray = cur := by
        apply Array.ext'
        rw [← ht]
        simp
      rw [e]

theorem Sw.sl {w0 w : World} {g : Nat} {Z : List Value} {d : Array Int} (h : Sw w0 w g Z d) : Sl w (some ⟨g, 0, none⟩) d.toList := fun _ =>
  ⟨g, 0, rfl, h.lt, fun j hj => by
    have hj2 : j < d.size := by simpa using hj
    rw [Nat.zero_add, h.cell j hj2]
    simp [hj2, List.getD]⟩

theorem asc_of_sorted {N : Nat} {d : Array Int} (hN : d.size = N) (h : Go.Sort.SortedIn Go.Sort.ltInt 0 N d) : La.Asc d.toList := fun i j hij hj => by
  have hj2 : j < d.size := by simpa using hj
  have := (sorted_iff 0 N d).1 h i j (Nat.zero_le _) hij (by omega)
  have hi2 : i < d.size := by omega
  simpa [List.getD, hi2, hj2] using this

theorem mem_of_perm {N : Nat} {d d' : Array Int} (hN : d.size = N) (h : Go.Sort.PermIn 0 N d d') (x : Int) : x ∈ d'.toList ↔ x ∈ d.toList := by
  have h3 := h.2.2.mem_iff (a := x)
  have e1 : d.extract 0 N = d := by rw [← hN]; simp
  have e2 : d'.extract 0 N = d' := by rw [← hN, ← h.1]; simp
  rwa [e1, e2] at h3

theorem inn_perm (a b c : List Int) (h : ∀ x, x ∈ b ↔ x ∈ c) : La.inn a b = La.inn a c := by
  rw [Bool.eq_iff_iff, La.inn_iff, La.inn_iff]
  exact ⟨fun k x hx => (h x).1 (k x hx), fun k x hx => (h x).2 (k x hx)⟩

set_option maxHeartbeats 1000000 in
set_option maxRecDepth 100000 in
/-- label.In, the second list out of order -/
theorem lin_unsorted (A B : Option Addr) (c d : Nat) (a b : List Int) (w : World) (h : Sl w A a) (hb : Sl w B b) (hm : a.length ≤ maxLen) (hn : b.length ≤ 60) (hs : La.ascB b = false) :
    Calls Try.prog 20 #[.slice A a.length c, .slice B b.length d] w fun e w' => e = .returned (.bool (La.inn a b)) ∧ Below w.heap.size w w' := by
  have hp : 0 < b.length := by
    cases b with
    | nil => cases hs
    | cons x l => simp
  have HN := Lib.hid (show b.length ≤ 1099511627776 by omega)
  have HN2 := Lib.hid (show b.length ≤ maxLen by unfold maxLen; omega)
  have HB := Lib.hid hb
  have HA := Lib.hid h
  have HS := Lib.hid hs
  clear hb h hs
  unfold maxLen at hm
  go_enter Try.func20, Try.ntmps20
  go_wp2_with fail
  refine (sissorted B d b _ HB.out HN2.out).mono ?_
  rintro e w' ⟨rfl, n0, rfl⟩
  rw [HS.out]
  go_wp2_with fail
  refine (sclone B d b _ (HB.out.drewN n0) hp (by omega)).mono ?_
  rintro e w2 ⟨v, rfl, hown, hbel⟩
  obtain ⟨g, cap, Z, rfl, hg, hsw⟩ := sw_of_own hown hp
  have S2 := Lib.hid hsw
  have B2 : Hid (Below w.heap.size w w2) := (below_drewN (Below.refl _ _) n0).trans hbel
  have G0 : Hid (w.heap.size ≤ g) := hg
  clear hsw hbel hown hg
  go_wp2_with fail
  refine (osort g cap Z b.length (by omega) b.toArray _ S2.out (by simp)).mono ?_
  rintro e w3 ⟨rfl, d3, p3, s3, hw3⟩
  have LEN : Hid (d3.toList.length = b.length) := by show _ = _; have := p3.1; simpa using this
  have SL3 := Lib.hid hw3.sl
  have B3 : Hid (Below w.heap.size w w3) := B2.out.grown hw3.grown B2.out.size (fun k e => by injection e with e; rw [← e]; exact G0.out)
  have A3 := Lib.hid (HA.out.below B3.out)
  have AS := Lib.hid (asc_of_sorted (d := d3) (by simpa using LEN.out) s3)
  have INN := Lib.hid (inn_perm a d3.toList b (fun x => by have := mem_of_perm (N := b.length) (d := b.toArray) (by simp) p3 x; simpa using this))
  obtain ⟨bs, hbs⟩ : ∃ bs, d3.toList = bs := ⟨_, rfl⟩
  rw [hbs] at LEN SL3 AS INN
  clear p3 s3 hw3 hbs S2 B2
  go_wp2
  go_loop [18] (fun i => ∃ k : Nat, k ≤ a.length ∧ i = .int .i64 k ∧ Hid (∀ x ∈ a.take k, x ∈ bs)) (fun i => a.length - (intOf i).toNat)
  case atStart => exact ⟨0, Nat.zero_le _, rfl, fun x hx => by simp at hx⟩
  case round =>
    obtain ⟨k, hk, rfl, X⟩ := hrel
    by_cases hlt : k < a.length
    · obtain ⟨bb, o, rfl, hbb, hc⟩ := A3.out.at_ hlt
      have hck := hc k hlt
      have IS := Lib.hid (inn_step a bs k hlt X.out)
      have IT := Lib.hid (inn_stop a bs k hlt)
      obtain ⟨y, hy⟩ : ∃ y, a.getD k 0 = y := ⟨_, rfl⟩
      rw [hy] at hck
      have Y := Lib.hid hy
      have C := sbsearch (some ⟨g, 0, none⟩) cap bs y w3 SL3.out (by rw [LEN.out]; exact HN.out) AS.out
      rw [LEN.out] at C
      have CC := Lib.hid C
      clear hc hy hbb C
      cases hh : La.has bs y
      · have H := Lib.hid hh
        clear hh
        go_wp2_with fail
        refine CC.out.mono ?_
        rintro e w' ⟨i, rfl, _, rfl⟩
        rw [H.out]
        go_wp2
        go_ret
        exact ⟨ret_bool ((IT.out (by rw [Y.out]; exact H.out)).symm.trans INN.out), B3.out⟩
      · have H := Lib.hid hh
        clear hh
        go_wp2_with fail
        refine CC.out.mono ?_
        rintro e w' ⟨i, rfl, _, rfl⟩
        rw [H.out]
        go_wp2
        go_round
        case rel => exact ⟨k + 1, by omega, by go_num, IS.out (by rw [Y.out]; exact H.out)⟩
        case measure => simp [intOf]; omega
    · have E := Lib.hid (inn_end a bs k (by omega) X.out)
      go_wp2
      go_ret
      exact ⟨ret_bool (E.out.symm.trans INN.out), B3.out⟩

end Go.Proofs.Ytodindfchkpecaa
