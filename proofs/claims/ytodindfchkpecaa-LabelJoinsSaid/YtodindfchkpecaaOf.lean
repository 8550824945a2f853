/- label.Of and label.Join answer, walked. -/
import Derived.Test.YtodindfchkpecaaIn
import Derived.Test.YtodindfchkpecaaMk
namespace Go.Proofs.Ytodindfchkpecaa
open Go.RowKit

theorem own_lt {w : World} {B : Nat} {v : Value} {zs : List Int} (h : Own w B v zs) : ∀ k, v.ownBlock = some k → B ≤ k ∧ k < w.heap.size := World.ownsRow.lt h

/-- slices.Insert of one tag -/
theorem sinsert (v : Value) (zs : List Int) (i : Nat) (x : Int) (B g : Nat) (w : World) (hown : Own w B v zs) (hB : B ≤ w.heap.size) (hi : i ≤ zs.length) (hl : zs.length ≤ 1048576)
    (hg : w.heap[g]? = some (.cells #[.int .u64 x] 23 (0, 0))) (hne : v.ownBlock ≠ some g) :
    Calls Try.prog 30 #[v, .int .i64 i, .slice (some ⟨g, 0, none⟩) 1 1] w (InPost B (ins zs i x) w) := by
  rcases Nat.lt_or_ge i zs.length with c | c
  · rcases hown.2 with ⟨_, hn⟩ | ⟨g0, cap, cur, rfl, hB0, hg0, hnc, hm, hs, ht⟩
    · omega
    · rw [Nat.mul_one] at hs ht
      rcases Nat.lt_or_ge cap (zs.length + 1) with d | d
      · exact sinsert_grow zs i x B g g0 cap cur w c hl hB hg0 hnc d hs ht hg
      · exact sinsert_room zs i x B g g0 cap cur w c hg0 hB0 d hm hs ht hg (fun e => hne (by simp [Value.ownBlock, e]))
  · have : i = zs.length := by omega
    subst this
    have e : ins zs zs.length x = zs ++ [x] := by unfold ins; simp
    rw [e]
    exact sinsert_end v zs x B g w hown hB hl (cell_of_row w g 0 _ 23 (0, 0) hg)

/-- the code, and the label, that label.Of tells -/
def ofC (ts : List Int) : Int := if La.has ts 0 then 1 else if 6 < (La.ofAll ts).length then 5 else 0
def ofV (ts : List Int) : List Int := if La.has ts 0 then [] else if 6 < (La.ofAll ts).length then [] else La.ofAll ts
def OfPost (ts : List Int) (w : World) (e : Ending) (w' : World) : Prop := ∃ v, e = .returned (.tuple #[v, .int .i64 (ofC ts)]) ∧ Own w' w.heap.size v (ofV ts) ∧ Below w.heap.size w w'

theorem ret_vc {v v' : Value} {a b : Int} (h : v = v') (k : a = b) : Ending.returned (.tuple #[v, .int .i64 a]) = .returned (.tuple #[v', .int .i64 b]) := by rw [h, k]

set_option maxHeartbeats 1000000 in
set_option maxRecDepth 100000 in
/-- label.Of -/
theorem lof (A : Option Addr) (c : Nat) (zs : List Int) (w : World) (h : Sl w A zs) (hm : zs.length ≤ 1073741824) :
    Calls Try.prog 10 #[.slice A zs.length c] w (OfPost zs w) := by
  have hmm : zs.length ≤ maxLen := by unfold maxLen; omega
  have HM := Lib.hid hmm
  have HSZ := Lib.hid h
  clear hmm
  cases h0 : La.has zs 0
  · have H0 := Lib.hid h0
    clear h0
    go_enter Try.func10, Try.ntmps10
    go_wp2_with fail
    refine (scontains A c zs 0 _ HSZ.out HM.out).mono ?_
    rintro e w' ⟨rfl, rfl⟩
    rw [H0.out]
    go_wp2
    go_loopw [4, 13] (fun vo vi wr => ∃ (k : Nat) (out : List Int), k ≤ zs.length ∧ vi = .int .i64 k ∧ Own wr w.heap.size vo out ∧ Below w.heap.size w wr ∧ out.length ≤ 6 ∧
      Hid (La.Up out) ∧ Hid (La.ofAll zs = (zs.drop k).foldl La.put out)) (fun _ vi _ => zs.length - (intOf vi).toNat)
    case atStart =>
      exact ⟨0, [], Nat.zero_le _, rfl, Own.nil _ _, Below.refl _ _, by simp, List.Pairwise.nil, rfl⟩
    case round =>
      obtain ⟨k, out, hk, rfl, hown, hbel, hol, U, X⟩ := hrel
      have hsz := hbel.size
      have HB := Lib.hid hbel
      have HO := Lib.hid hown
      by_cases hlt : k < zs.length
      · obtain ⟨b, o, rfl, hb, hc⟩ := HSZ.out.at_ hlt
        have hck := (hbel.cell (p := ⟨b, o + k, none⟩) hb).trans (hc k hlt)
        have FA := Lib.hid (fold_at La.put zs out k hlt)
        obtain ⟨x, hx⟩ : ∃ x, zs.getD k 0 = x := ⟨_, rfl⟩
        rw [hx] at hck
        have XX := Lib.hid hx
        have OB := Lib.hid (own_lt hown)
        obtain ⟨Ao, co, rfl, _, hsl, _, _⟩ := hown.form
        have HS := Lib.hid hsl
        obtain ⟨q, hq⟩ : ∃ q, La.has out x = q := ⟨_, rfl⟩
        have Q := Lib.hid hq
        clear hc hx hbel hown hsl hq
        cases q
        · by_cases h6 : out.length = 6
          · have T6 : ((out.length : Int) == 6) = true := by simp; omega
            have H6 := Lib.hid h6
            clear h6
            go_wp2_with fail
            refine (sbsearch Ao co out x _ HS.out (by omega) U.out.asc).mono ?_
            rintro e w' ⟨i, rfl, hLB, rfl⟩
            rw [Q.out]
            go_wp2
            go_ret2
            have e7 : 6 < (La.ofAll zs).length := by
              have h1 := La.fold_length_ge (zs.drop (k + 1)) _ (La.put_ups out U.out x)
              have h2 := La.put_length out U.out x
              rw [Q.out, if_neg (by simp)] at h2
              have h3 := X.out
              rw [FA.out, XX.out] at h3
              have h4 := H6.out
              rw [h3]; omega
            refine ⟨_, ret_vc rfl ?_, ?_, HB.out⟩
            · unfold ofC; rw [H0.out, if_neg (by simp), if_pos e7]
            · unfold ofV; rw [H0.out, if_neg (by simp), if_pos e7]; exact Own.nil _ _
          · have T6 : ((out.length : Int) == 6) = false := by simp; omega
            have H6 := Lib.hid h6
            clear h6
            go_wp2_with fail
            refine (sbsearch Ao co out x _ HS.out (by omega) U.out.asc).mono ?_
            rintro e w' ⟨i, rfl, hLB, rfl⟩
            rw [Q.out]
            have LBH := Lib.hid hLB
            have hil := hLB.1
            clear hLB
            go_wp2_with fail
            refine (sinsert _ out i x w.heap.size _ _ (HO.out.alloc _) (by simp; omega) hil (by omega) (heap_alloc_new _ _) (fun e => by have := (OB.out _ e).2; omega)).mono ?_
            rintro e w1 ⟨v1, rfl, hown1, hb1⟩
            have HO1 := Lib.hid hown1
            have HB1 := Lib.hid ((HB.out.alloc hsz _).trans hb1)
            clear hown1 hb1
            go_wp2
            go_roundw
            case rel =>
              have hp : La.put out x = ins out i x := by
                rw [La.put_up out x i U.out LBH.out, Q.out, if_neg (by simp)]; rfl
              refine ⟨k + 1, ins out i x, by omega, by go_num, HO1.out, HB1.out, ?_, ?_, ?_⟩
              · rw [ins_length out i x hil]; have := H6.out; omega
              · rw [← hp]; exact La.put_ups out U.out x
              · show _ = _
                rw [X.out, FA.out, XX.out, hp]
            case measure => simp [intOf]; omega
        · go_wp2_with fail
          refine (sbsearch Ao co out x _ HS.out (by omega) U.out.asc).mono ?_
          rintro e w' ⟨i, rfl, hLB, rfl⟩
          rw [Q.out]
          have LBH := Lib.hid hLB
          clear hLB
          go_wp2
          go_roundw
          case rel =>
            refine ⟨k + 1, out, by omega, by go_num, HO.out, HB.out, hol, U, ?_⟩
            show _ = _
            rw [X.out, FA.out, XX.out, La.put_up out x i U.out LBH.out, Q.out, if_pos rfl]
          case measure => simp [intOf]; omega
      · have X2 : Hid (La.ofAll zs = out) := by
          have h9 := X.out
          rw [List.drop_eq_nil_of_le (by omega)] at h9
          exact h9
        clear hbel hown
        go_wp2
        go_ret2
        refine ⟨_, ret_vc rfl ?_, ?_, HB.out⟩
        · unfold ofC; rw [H0.out, if_neg (by simp), X2.out, if_neg (by omega)]
        · unfold ofV; rw [H0.out, if_neg (by simp), X2.out, if_neg (by omega)]; exact HO.out
  · have H0 := Lib.hid h0
    clear h0
    go_enter Try.func10, Try.ntmps10
    go_wp2_with fail
    refine (scontains A c zs 0 _ HSZ.out HM.out).mono ?_
    rintro e w' ⟨rfl, rfl⟩
    rw [H0.out]
    go_wp2
    go_ret2
    refine ⟨_, ret_vc rfl ?_, ?_, Below.refl _ _⟩
    · unfold ofC; rw [H0.out, if_pos rfl]
    · unfold ofV; rw [H0.out, if_pos rfl]; exact Own.nil _ _

end Go.Proofs.Ytodindfchkpecaa
