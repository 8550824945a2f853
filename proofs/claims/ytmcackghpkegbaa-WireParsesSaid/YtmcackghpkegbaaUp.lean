/- Tags out of bytes: label.tagOf, label.Unpack and the reference's Unpack answer, walked. -/
import Derived.Test.YtmcackghpkegbaaMk
import Derived.Laws.BitsLemmas
import Derived.Deep.OwnRows
namespace Go.Proofs.Ytmcackghpkegbaa
open Go.RowKit

/-- the number that the first k bytes spell -/
def nb (l : List UInt8) : Nat → Nat
  | 0 => 0
  | k + 1 => nb l k * 256 + (l.getD k 0).toNat
theorem nb_lt (l : List UInt8) : ∀ k, nb l k < 256 ^ k
  | 0 => by simp [nb]
  | k + 1 => by
    have h1 := nb_lt l k
    have h2 : (l.getD k 0).toNat < 256 := UInt8.toNat_lt _
    rw [nb, Nat.pow_succ]; omega

/-- label.tagOf -/
theorem ltagOf (s : ByteArray) (hs : 8 ≤ s.size) (w : World) : Calls Try.prog 75 #[.string s] w fun e w' => e = .returned (.int .u64 (nb s.data.toList 8 : Nat)) ∧ w = w' := by
  go_enter Try.func75, Try.ntmps75
  go_wp2_with fail
  go_loop [3, 5] (fun p i => ∃ k : Nat, k ≤ 8 ∧ i = .int .i64 k ∧ p = .int .u64 (nb s.data.toList k : Nat)) (fun _ i => 8 - (intOf i).toNat)
  case atStart => exact ⟨0, by omega, rfl, rfl⟩
  case round =>
    obtain ⟨k, hk, rfl, rfl⟩ := hrel
    by_cases hlt : k < 8
    · have hlt' : k < s.size := by omega
      have hj : bits .or .u64 (IntKind.u64.wrap ((nb s.data.toList k : Int) * 256)) (IntKind.u64.wrap (s[k].toNat : Int)) = ((nb s.data.toList (k + 1) : Nat) : Int) := by
        have h1 := nb_lt s.data.toList k
        have h2 : 256 ^ k ≤ 256 ^ 7 := Nat.pow_le_pow_right (by omega) (by omega)
        rw [or_join _ _ (by omega) (UInt8.toNat_lt _), nb, byte_at s k hlt']
      have J := Lib.hid hj
      clear hj
      go_wp2
      rw [J.out]
      exact ⟨⟨k + 1, by omega, by go_num, rfl⟩, by simp [intOf]; omega⟩
    · have h8 : k = 8 := by omega
      subst h8
      go_wp2
      go_ret
      exact ⟨rfl, rfl⟩

theorem ext_list (s : ByteArray) (lo : Nat) : (s.extract lo s.size).data.toList = s.data.toList.drop lo := by
  rw [ByteArray.data_extract, Array.toList_extract]
  simp [List.extract]
  exact List.take_of_length_le (by simp)
theorem ext_size (s : ByteArray) (lo : Nat) : (s.extract lo s.size).size = s.size - lo := by
  rw [← ByteArray.size_data, ← Array.length_toList, ext_list]; simp

/-- tag number i of s -/
def tagAt (s : ByteArray) (i : Nat) : Int := (nb (s.data.toList.drop (1 + 8 * i)) 8 : Nat)
def tagsOf (s : ByteArray) (n : Nat) : List Int := (List.range n).map (tagAt s)
theorem tagsOf_length (s : ByteArray) (n : Nat) : (tagsOf s n).length = n := by simp [tagsOf]
theorem tagAt_u64 (s : ByteArray) (i : Nat) : 0 ≤ tagAt s i ∧ tagAt s i < 18446744073709551616 := by
  unfold tagAt
  have := nb_lt (s.data.toList.drop (1 + 8 * i)) 8
  have e : (256 : Nat) ^ 8 = 18446744073709551616 := by decide
  omega
theorem tagsOf_u64 (s : ByteArray) (n : Nat) : La.U64 (tagsOf s n) := by
  intro x hx
  unfold tagsOf at hx
  rw [List.mem_map] at hx
  obtain ⟨i, _, rfl⟩ := hx
  exact tagAt_u64 s i

/-- the count that the bytes begin with -/
def cnt (s : ByteArray) : Nat := (s.data.toList.getD 0 0).toNat
def upC (s : ByteArray) : Int := if s.size = 0 then 3 else if 6 < cnt s then 4 else if s.size < 1 + 8 * cnt s then 3 else if La.right (tagsOf s (cnt s)) then 0 else 4
def upN (s : ByteArray) : Int := if upC s = 0 then 1 + 8 * (cnt s : Int) else 0
def upV (s : ByteArray) : List Int := if upC s = 0 then tagsOf s (cnt s) else []
def UpPost (s : ByteArray) (w : World) (e : Ending) (w' : World) : Prop := ∃ v, e = .returned (.tuple #[v, .int .i64 (upN s), .int .i64 (upC s)]) ∧ Own w' w.heap.size v (upV s) ∧ Below w.heap.size w w'
theorem ret_vnc {v v' : Value} {a b c d : Int} (h : v = v') (k : a = b) (l : c = d) : Ending.returned (.tuple #[v, .int .i64 a, .int .i64 c]) = .returned (.tuple #[v', .int .i64 b, .int .i64 d]) := by rw [h, k, l]
theorem up_bad {s : ByteArray} {c : Int} (h : upC s = c) (hc : c ≠ 0) : upN s = 0 ∧ upV s = [] := by
  unfold upN upV; rw [h, if_neg hc, if_neg hc]; exact ⟨rfl, rfl⟩

/-- the row while it is filled -/
def filled (s : ByteArray) (n k : Nat) : List Int := (List.range n).map (fun i => if i < k then tagAt s i else 0)
theorem filled_zero (s : ByteArray) (n : Nat) : filled s n 0 = List.replicate n 0 := by
  unfold filled; simp
  apply List.ext_getElem <;> simp
theorem filled_all (s : ByteArray) (n : Nat) : filled s n n = tagsOf s n := by
  unfold filled tagsOf
  apply List.map_congr_left
  intro i hi
  rw [List.mem_range] at hi
  rw [if_pos hi]
theorem filled_set (s : ByteArray) (n k : Nat) : (filled s n k).set k (tagAt s k) = filled s n (k + 1) := by
  unfold filled
  apply List.ext_getElem
  · simp
  · intro i h1 h2
    simp only [List.getElem_set, List.getElem_map, List.getElem_range]
    by_cases c : k = i
    · subst c; simp
    · rw [if_neg c]
      by_cases d : i < k
      · rw [if_pos d, if_pos (by omega)]
      · rw [if_neg d, if_neg (by omega)]

theorem heap_set (w : World) (g i : Nat) (zs : List Int) (x : Int) (h : w.heap[g]? = some (.cells (zs.map (Value.int .u64)).toArray 41 (0, 0))) :
    (w.setCell ⟨g, i, none⟩ (.int .u64 x)).heap[g]? = some (.cells ((zs.set i x).map (Value.int .u64)).toArray 41 (0, 0)) := by
  simp [World.setCell, Array.getElem?_modify, h]

set_option maxHeartbeats 1000000 in
set_option maxRecDepth 100000 in
/-- label.Unpack -/
theorem lunpack (s : ByteArray) (w : World) (hm : s.size ≤ 1099511627776) : Calls Try.prog 72 #[.string s] w (UpPost s w) := by
  by_cases h0 : s.size = 0
  · have T0 : ((s.size : Int) == 0) = true := beq_iff_eq.2 (by omega)
    have hc : upC s = 3 := by unfold upC; rw [if_pos h0]
    obtain ⟨e1, e2⟩ := up_bad hc (by decide)
    have E0 := Lib.hid hc
    have E1 := Lib.hid e1
    have E2 := Lib.hid e2
    clear hc e1 e2 h0
    go_enter Try.func72, Try.ntmps72
    go_wp2
    refine bodyPost_ret (results_tmp3 rfl _ _ _) rfl ?_
    exact ⟨_, ret_vnc rfl E1.out.symm E0.out.symm, by rw [E2.out]; exact Own.nil _ _, Below.refl _ _⟩
  have T0 : ((s.size : Int) == 0) = false := beq_eq_false_iff_ne.2 (by omega)
  have hp : 0 < s.size := by omega
  have hcn : (s[0]'hp).toNat = cnt s := by rw [byte_at s 0 hp]; rfl
  obtain ⟨n, hn⟩ : ∃ n, n = cnt s := ⟨_, rfl⟩
  rw [← hn] at hcn
  have hb : n < 256 := by rw [← hcn]; exact UInt8.toNat_lt _
  by_cases h6 : 6 < n
  · have hc : upC s = 4 := by unfold upC; rw [if_neg h0, if_pos (by omega)]
    obtain ⟨e1, e2⟩ := up_bad hc (by decide)
    have E0 := Lib.hid hc
    have E1 := Lib.hid e1
    have E2 := Lib.hid e2
    clear hc e1 e2 h0 hn
    go_enter Try.func72, Try.ntmps72
    go_wp2
    refine bodyPost_ret (results_tmp3 rfl _ _ _) rfl ?_
    exact ⟨_, ret_vnc rfl E1.out.symm E0.out.symm, by rw [E2.out]; exact Own.nil _ _, Below.refl _ _⟩
  by_cases hsh : s.size < 1 + 8 * n
  · have hc : upC s = 3 := by unfold upC; rw [if_neg h0, if_neg (by omega), if_pos (by omega)]
    obtain ⟨e1, e2⟩ := up_bad hc (by decide)
    have E0 := Lib.hid hc
    have E1 := Lib.hid e1
    have E2 := Lib.hid e2
    clear hc e1 e2 h0 hn
    go_enter Try.func72, Try.ntmps72
    go_wp2
    refine bodyPost_ret (results_tmp3 rfl _ _ _) rfl ?_
    exact ⟨_, ret_vnc rfl E1.out.symm E0.out.symm, by rw [E2.out]; exact Own.nil _ _, Below.refl _ _⟩
  have hmk : ∀ W : World, (Instr.makeSlice 42 (.int .i64 (n : Int)) (.int .i64 (n : Int))).run Try.prog W = .ok (.slice (some ⟨W.heap.size, 0, none⟩) n n) (W.alloc (.cells ((filled s n 0).map (Value.int .u64)).toArray 41)) := fun W => by
    have h := run_make_row' (P := Try.prog) 42 41 (.int .u64 0) 8 Try.underlying42 infoU rfl .i64 .i64 n (by omega) (by omega) W
    rw [h]
    congr 3
    apply Array.ext'
    rw [toList_madeCells_one, filled_zero]
    simp
  have hsz : 1 + 8 * n ≤ s.size := by omega
  have hC := Lib.hid (show upC s = if La.right (tagsOf s n) then 0 else 4 by unfold upC; rw [if_neg h0, if_neg (by omega), if_neg (by omega), hn])
  have HN := Lib.hid hn
  have FZ := Lib.hid (filled_all s n)
  obtain ⟨R0, hR0⟩ : ∃ R0 : Array Value, R0 = ((filled s n 0).map (Value.int .u64)).toArray := ⟨_, rfl⟩
  rw [← hR0] at hmk
  have HR0 := Lib.hid hR0
  clear h0 hn hsh hR0
  go_enter Try.func72, Try.ntmps72
  go_wp2_with fail
  have hr0 : (w.alloc (.cells R0 41)).heap[w.heap.size]? = some (.cells ((filled s n 0).map (Value.int .u64)).toArray 41 (0, 0)) := by rw [heap_alloc_new, HR0.out]
  have hb0 : Below w.heap.size w (w.alloc (.cells R0 41)) := (Below.refl _ _).alloc (Nat.le_refl _) _
  obtain ⟨g, hg⟩ : ∃ g, g = w.heap.size := ⟨_, rfl⟩
  have HG := Lib.hid hg
  have HR := Lib.hid hr0
  have HB := Lib.hid hb0
  rw [← hg] at HR
  clear hr0 hb0
  rw [← hg]
  clear hg
  go_loopw [28] (fun vi wr => ∃ k : Nat, k ≤ n ∧ vi = .int .i64 k ∧ Hid (wr.heap[g]? = some (.cells ((filled s n k).map (Value.int .u64)).toArray 41 (0, 0))) ∧ Hid (Below w.heap.size w wr)) (fun vi _ => n - (intOf vi).toNat)
  case atStart => exact ⟨0, Nat.zero_le _, rfl, HR, HB⟩
  case round =>
    obtain ⟨k, hk, rfl, R, BB⟩ := hrel
    by_cases hlt : k < n
    · have hcell : wr.cell? ⟨g, k, none⟩ = some (.int .u64 0) := by
        rw [cell_of_row wr g k _ 41 (0, 0) R.out]
        simp [filled, hlt]
      have hfrz : wr.frozen? ⟨g, k, none⟩ = false := by simp [World.frozen?, R.out]
      go_wp2_with fail
      have TG := Lib.hid (show (nb (s.extract (1 + 8 * k) s.size).data.toList 8 : Int) = tagAt s k by rw [ext_list]; rfl)
      have HS := Lib.hid (heap_set wr g k _ (tagAt s k) R.out)
      have BS := Lib.hid (BB.out.setCell (p := ⟨g, k, none⟩) (by rw [HG.out]; exact Nat.le_refl _) (.int .u64 (tagAt s k)))
      have FS := Lib.hid (filled_set s n k)
      refine (ltagOf (s.extract (1 + 8 * k) s.size) (by rw [ext_size]; omega) _).mono ?_
      rintro e w' ⟨rfl, rfl⟩
      rw [TG.out]
      go_wp2
      go_roundw
      case rel =>
        refine ⟨k + 1, by omega, by go_num, ?_, BS.out⟩
        have h9 := HS.out
        rw [FS.out] at h9
        exact h9
      case measure => simp [intOf]; omega
    · have hkn : k = n := by omega
      have R2 : Hid (wr.heap[g]? = some (.cells ((tagsOf s n).map (Value.int .u64)).toArray 41 (0, 0))) := by
        have h9 := R.out
        rw [hkn, FZ.out] at h9
        exact h9
      have hgl : g < wr.heap.size := by
        rcases Nat.lt_or_ge g wr.heap.size with c | c
        · exact c
        · have h9 := R2.out
          rw [Array.getElem?_eq_none c] at h9; cases h9
      obtain ⟨ts, hts⟩ : ∃ ts, ts = tagsOf s n := ⟨_, rfl⟩
      have hn9 : n = ts.length := by rw [hts, tagsOf_length]
      have SL : Hid (Sl wr (some ⟨g, 0, none⟩) ts) := fun _ => by
        refine ⟨g, 0, rfl, hgl, fun j hj => ?_⟩
        have h9 := R2.out
        rw [← hts] at h9
        rw [Nat.zero_add, cell_of_row wr g j _ 41 (0, 0) h9]
        simp [List.getD, hj]
      have OW : Hid (Own wr w.heap.size (.slice (some ⟨g, 0, none⟩) n n) ts) := by
        have h9 := R2.out
        rw [← hts] at h9
        exact ⟨by simp, .inr ⟨g, n, _, by rw [← hn9], by rw [HG.out]; exact Nat.le_refl _, h9, by omega, by unfold maxLen; omega, by simp [hn9], by simp [List.take_of_length_le]⟩⟩
      have HTS := Lib.hid hts
      have LL := Lib.hid (show ts.length ≤ maxLen by rw [← hn9]; unfold maxLen; omega)
      have hr9 := lright (some ⟨g, 0, none⟩) n ts wr SL.out LL.out
      rw [← hn9] at hr9
      have HR9 := Lib.hid hr9
      have HK := Lib.hid hkn
      clear hr9 hkn hts hn9
      cases hq : La.right ts
      · have Q := Lib.hid hq
        have hc : upC s = 4 := by rw [hC.out, ← HTS.out, hq]; rfl
        obtain ⟨e1, e2⟩ := up_bad hc (by decide)
        have E0 := Lib.hid hc
        have E1 := Lib.hid e1
        have E2 := Lib.hid e2
        clear hc e1 e2 hq
        go_wp2_with fail
        refine HR9.out.mono ?_
        rintro e w' ⟨rfl, rfl⟩
        rw [Q.out]
        go_wp2
        refine bodyPost_ret (results_tmp3 rfl _ _ _) rfl ?_
        exact ⟨_, ret_vnc rfl E1.out.symm E0.out.symm, by rw [E2.out]; exact Own.nil _ _, BB.out⟩
      · have Q := Lib.hid hq
        have hc : upC s = 0 := by rw [hC.out, ← HTS.out, hq]; rfl
        have E0 := Lib.hid hc
        have E1 := Lib.hid (show upN s = 1 + 8 * (n : Int) by unfold upN; rw [hc, if_pos rfl, HN.out])
        have E2 := Lib.hid (show upV s = ts by unfold upV; rw [hc, if_pos rfl, ← HN.out, HTS.out])
        clear hc hq
        go_wp2_with fail
        refine HR9.out.mono ?_
        rintro e w' ⟨rfl, rfl⟩
        rw [Q.out]
        go_wp2
        refine bodyPost_ret (results_tmp3 rfl _ _ _) rfl ?_
        exact ⟨_, ret_vnc rfl E1.out.symm E0.out.symm, by rw [E2.out]; exact OW.out, BB.out⟩

end Go.Proofs.Ytmcackghpkegbaa
