/- (*wire.reader).take, next; wire.check: walked. -/
import Derived.Test.YtmcackghpkegbaaRr
import Derived.Test.YtmcackghpkegbaaKb
import Derived.Test.YtmcackghpkegbaaCo
import Derived.Test.YtmcackghpkegbaaWk
import Derived.Lib.Strings
namespace Go.Proofs.Ytmcackghpkegbaa
open Go.RowKit

/-- what comes up as a fault -/
def fault (c : Int) : List PanicEntry := [{ v := .iface 85 (.int .i64 c), recovered := false }]

/-- at rb lies a reader, l is left -/
def Rdr (w : World) (rb : Nat) (l : List UInt8) : Prop := w.cell? ⟨rb, 0, none⟩ = some (.string (BA l)) ∧ w.frozen? ⟨rb, 0, none⟩ = false
theorem Rdr.lt {w : World} {rb : Nat} {l : List UInt8} (h : Rdr w rb l) : rb < w.heap.size := World.block_lt_of_cell? w _ h.1
theorem Rdr.below {w w' : World} {rb : Nat} {l : List UInt8} (h : Rdr w rb l) (hb : Below w.heap.size w w') : Rdr w' rb l :=
  ⟨(hb.cell (p := ⟨rb, 0, none⟩) h.lt).trans h.1, (hb.frozen (p := ⟨rb, 0, none⟩) h.lt).trans h.2⟩
theorem Rdr.grown {w w' : World} {rb : Nat} {l : List UInt8} {row : Option Nat} (h : Rdr w rb l) (hg : w.grownBy w' row) (hn : row ≠ some rb) : Rdr w' rb l :=
  ⟨hg.cell h.1 (Ne.symm hn), (hg.frozen_far ⟨rb, 0, none⟩ h.lt (Ne.symm hn)).trans h.2⟩

/-- what a reading leaves: nothing but the reader's block turns -/
def RdPost {α : Type} (rb : Nat) (val : α → World → Value → Prop) (w : World) (r : Rd α) (e : Ending) (w' : World) : Prop :=
  w.grownBy w' (some rb) ∧ ((∃ c, r = .error c ∧ e = .panicked (fault c)) ∨ (∃ x l v, r = .ok (x, l) ∧ e = .returned v ∧ val x w' v ∧ Rdr w' rb l))
section
variable {α : Type} {rb : Nat} {val : α → World → Value → Prop} {w w' : World} {r : Rd α} {e : Ending}
theorem RdPost.err {c : Int} (h : RdPost rb val w r e w') (hr : r = .error c) : e = .panicked (fault c) ∧ w.grownBy w' (some rb) := by
  obtain ⟨hg, ⟨c', h1, h2⟩ | ⟨x, l, v, h1, _⟩⟩ := h
  · rw [hr] at h1; injection h1 with h1; subst h1; exact ⟨h2, hg⟩
  · rw [hr] at h1; cases h1
theorem RdPost.ok {x : α} {l : List UInt8} (h : RdPost rb val w r e w') (hr : r = .ok (x, l)) : ∃ v, e = .returned v ∧ val x w' v ∧ Rdr w' rb l ∧ w.grownBy w' (some rb) := by
  obtain ⟨hg, ⟨c', h1, _⟩ | ⟨x', l', v, h1, h2, h3, h4⟩⟩ := h
  · rw [hr] at h1; cases h1
  · rw [hr] at h1; injection h1 with h1; injection h1 with h5 h6; subst h5; subst h6; exact ⟨v, h2, h3, h4, hg⟩
theorem RdPost.mkErr {c : Int} (hr : r = .error c) (hg : w.grownBy w' (some rb)) : RdPost rb val w r (.panicked (fault c)) w' := ⟨hg, .inl ⟨c, hr, rfl⟩⟩
theorem RdPost.mkOk {x : α} {l : List UInt8} {v : Value} (hr : r = .ok (x, l)) (hg : w.grownBy w' (some rb)) (hv : val x w' v) (hl : Rdr w' rb l) : RdPost rb val w r (.returned v) w' := ⟨hg, .inr ⟨x, l, v, hr, rfl, hv, hl⟩⟩
end

theorem grown_set (w : World) (rb : Nat) (v : Value) : w.grownBy (w.setCell ⟨rb, 0, none⟩ v) (some rb) :=
  ⟨rfl, rfl, rfl, by simp [World.setCell], fun k _ hk => Below.heap_setCell _ _ _ _ (fun e => hk (by rw [e]))⟩

theorem BA_take (n : Nat) (l : List UInt8) : (BA l).extract 0 n = BA (l.take n) := by
  apply WideShapes.bytes_inj
  rw [Lib.extract_data]; simp [BA_list]
theorem BA_drop (n : Nat) (l : List UInt8) : (BA l).extract n (BA l).size = BA (l.drop n) := by
  apply WideShapes.bytes_inj
  rw [Lib.extract_data, BA_list, BA_size, BA_list, List.take_of_length_le (by simp)]

set_option maxRecDepth 100000 in
/-- (*wire.reader).take -/
theorem ltake (rb n : Nat) (l : List UInt8) (w : World) (h : Rdr w rb l) (hl : l.length ≤ 1099511627776) :
    Calls Try.prog 68 #[.pointer (some ⟨rb, 0, none⟩), .int .i64 (n : Int)] w (RdPost rb (fun (x : List UInt8) _ v => v = .string (BA x)) w (rdTake n l)) := by
  obtain ⟨hc, hf⟩ := h
  have hs := BA_size l
  by_cases hlt : l.length < n
  · have R := Lib.hid (show rdTake n l = .error 3 by unfold rdTake; rw [if_pos hlt])
    have hlt2 : (BA l).size < n := by omega
    have hl2 : (BA l).size ≤ 1099511627776 := by omega
    clear hs hlt
    generalize BA l = S at *
    go_enter Try.func68, Try.ntmps68
    go_wp2_with fail
    exact ⟨rfl, RdPost.mkErr R.out (World.grownBy.refl _ _)⟩
  · have R := Lib.hid (show rdTake n l = .ok (l.take n, l.drop n) by unfold rdTake; rw [if_neg hlt])
    have T1 := Lib.hid (BA_take n l)
    have T2 := Lib.hid (BA_drop n l)
    have hlt2 : n ≤ (BA l).size := by omega
    have hl2 : (BA l).size ≤ 1099511627776 := by omega
    have RS := Lib.hid (show Rdr (w.setCell ⟨rb, 0, none⟩ (.string (BA (l.drop n)))) rb (l.drop n) from ⟨World.cell?_setCell_same' _ _ _ (by rw [hc]; rfl), by rw [World.frozen?_setCell]; exact hf⟩)
    clear hs hlt
    generalize BA l = S at *
    go_enter Try.func68, Try.ntmps68
    go_wp2_with fail
    rw [T1.out, T2.out]
    go_ret
    exact RdPost.mkOk R.out (grown_set _ _ _) rfl RS.out

set_option maxRecDepth 100000 in
/-- (*wire.reader).next -/
theorem lnext (rb : Nat) (l : List UInt8) (w : World) (h : Rdr w rb l) (hl : l.length ≤ 1099511627776) :
    Calls Try.prog 63 #[.pointer (some ⟨rb, 0, none⟩)] w (RdPost rb (fun (c : UInt8) _ v => v = .int .u8 (c.toNat : Int)) w (rdNext l)) := by
  have T := Lib.hid (ltake rb 1 l w h hl)
  clear h
  cases l with
  | nil =>
    have R := Lib.hid (show rdTake 1 ([] : List UInt8) = .error 3 from rfl)
    go_enter Try.func63, Try.ntmps63
    go_wp2_with fail
    refine T.out.mono ?_
    rintro e w' hp
    obtain ⟨rfl, hg⟩ := hp.err R.out
    have G := Lib.hid hg
    clear hg hp
    go_wp2_with fail
    exact ⟨rfl, RdPost.mkErr rfl G.out⟩
  | cons c r =>
    have R := Lib.hid (show rdTake 1 (c :: r) = .ok ([c], r) by unfold rdTake; rw [if_neg (by simp)]; rfl)
    have SZ : 0 < (BA [c]).size := by rw [BA_size]; exact Nat.zero_lt_one
    have B0 : (BA [c])[0] = c := rfl
    go_enter Try.func63, Try.ntmps63
    go_wp2_with fail
    refine T.out.mono ?_
    rintro e w' hp
    obtain ⟨v, rfl, rfl, hr, hg⟩ := hp.ok R.out
    have G := Lib.hid hg
    have HR := Lib.hid hr
    clear hg hr hp
    go_wp2_with fail
    go_ret
    exact RdPost.mkOk rfl G.out rfl HR.out

set_option maxRecDepth 100000 in
theorem lcheck_ok (w : World) : Calls Try.prog 71 #[.int .i64 0] w fun e w' => e = .returned (.tuple #[]) ∧ w = w' := by
  go_enter Try.func71, Try.ntmps71
  go_wp2_with fail
  go_end0
  exact ⟨rfl, rfl⟩
set_option maxRecDepth 100000 in
theorem lcheck_no (c : Int) (hc : c ≠ 0) (w : World) : Calls Try.prog 71 #[.int .i64 c] w fun e w' => e = .panicked (fault c) ∧ w = w' := by
  have T : (c != 0) = true := by simp [hc]
  clear hc
  go_enter Try.func71, Try.ntmps71
  go_wp2_with fail
  exact ⟨rfl, rfl, rfl⟩

end Go.Proofs.Ytmcackghpkegbaa
