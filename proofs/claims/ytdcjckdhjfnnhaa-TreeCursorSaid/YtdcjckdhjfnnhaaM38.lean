/- Proved parts: T8bh T8i. Conditions: each theorem's own. -/
import Derived.Test.YtdcjckdhjfnnhaaM36
import Derived.Test.YtdcjckdhjfnnhaaM37
namespace Go.Proofs.Ytdcjckdhjfnnhaa
open Go.RowKit Go.Shelf

set_option maxRecDepth 100000 in
set_option maxHeartbeats 4000000 in
/-- told: there is no key -/
theorem told_h (w : World) (T : Nat) (E : Nat → Prop) (b p : Nat) (G : Nat → Prop) (k : ByteArray) (hR : Rep w T E [] b) (hM : RefT w G p []) :
    Calls Try.prog 12 #[Ptr T, .pointer (some ⟨p, 0, none⟩), .string k] w fun e w' => e = .returned (.bool true) ∧ Below w.heap.size w w' := by
  have hl : ([] : KV).length ≤ 1000 := by decide
  have hs : ∀ x, x ∈ ([] : KV) → x.1.size ≤ 1000000 := fun x hx => by cases hx
  have CG := Lib.hid (fun w' (hb : Below w.heap.size w w') => xGet w' T E [] b k (hR.below hb) hl)
  have CA := Lib.hid (fun w' (hb : Below w.heap.size w w') => rAt p G [] k w' (hM.below hb) (by decide))
  have CS := Lib.hid (fun w' (hb : Below w.heap.size w w') => xSeek w' T E [] b k (hR.below hb) hl hs)
  have CF := Lib.hid (fun w' (hb : Below w.heap.size w w') => xAfter w' T E [] b k (hR.below hb) hl hs)
  have CB := Lib.hid (fun w' (hb : Below w.heap.size w w') => xBefore w' T E [] b k (hR.below hb) hl hs)
  have CX := Lib.hid (fun w' (hb : Below w.heap.size w w') => rFrom p G [] k false w' (hM.below hb) (by decide))
  have CY := Lib.hid (fun w' (hb : Below w.heap.size w w') => rFrom p G [] k true w' (hM.below hb) (by decide))
  have CL := Lib.hid (fun w' (hb : Below w.heap.size w w') => xLenR w' T E [] b (hR.below hb))
  have e1 : KV.has k [] = false := rfl
  have e2 : KV.pos k [] = 0 := rfl
  have e3 : KV.aft [] k = 0 := rfl

  simp only [e1, e2, e3, List.length_nil, Nat.lt_irrefl, if_false, Bool.false_eq_true, ite_self] at CG CA CS CF CB CX CY CL
  have HM := Lib.hid hM
  have HK := Lib.hid (show ∃ A c, ∀ w', Below w.heap.size w w' → w'.cell? ⟨p, 0, none⟩ = some (.slice A 0 c) ∧ p < w'.heap.size from by
    obtain ⟨vk, vn, h1, h2, _⟩ := HM.out
    obtain ⟨A, c, rfl, _⟩ := h2.form
    exact ⟨A, c, fun w' hb => ⟨(h1.below hb).cell 0, (h1.below hb).lt⟩⟩)
  clear hR hM HM hl hs e1 e2 e3
  obtain ⟨A, c, hk⟩ := HK.out
  have HK := Lib.hid hk
  clear hk
  have B0 := Lib.hid (Below.refl w.heap.size w)
  go_enter Try.func12, Try.ntmps12
  go_wp2_with (go_at_call 17; refine (CG.out _ B0.out).mono ?_; rintro e w1 ⟨rfl, hb⟩; have B1 := Lib.hid hb; clear hb)
  refine (CA.out _ B1.out).mono ?_
  rintro e w2 ⟨rfl, m2, hw2⟩
  have B2 := Lib.hid (show Below w.heap.size w w2 by rw [hw2]; exact B1.out.trans ⟨rfl, rfl, rfl, Nat.le_refl _, fun _ _ => rfl⟩)
  clear hw2
  go_wp2_with fail
  refine (CS.out _ B2.out).mono ?_
  rintro e w3 ⟨rfl, hb⟩
  have B3 := Lib.hid (B2.out.trans (hb.mono B2.out.size))
  clear hb
  go_wp2_with fail
  refine (CF.out _ B3.out).mono ?_
  rintro e w4 ⟨rfl, hb⟩
  have B4 := Lib.hid (B3.out.trans (hb.mono B3.out.size))
  clear hb
  go_wp2_with fail
  refine (CB.out _ B4.out).mono ?_
  rintro e w5 ⟨rfl, hb⟩
  have B5 := Lib.hid (B4.out.trans (hb.mono B4.out.size))
  clear hb
  go_wp2_with fail
  refine (CX.out _ B5.out).mono ?_
  rintro e w6 ⟨rfl, m6, hw6⟩
  have B6 := Lib.hid (show Below w.heap.size w w6 by rw [hw6]; exact B5.out.trans ⟨rfl, rfl, rfl, Nat.le_refl _, fun _ _ => rfl⟩)
  clear hw6
  go_wp2_with fail
  refine (CY.out _ B6.out).mono ?_
  rintro e w7 ⟨rfl, m7, hw7⟩
  have B7 := Lib.hid (show Below w.heap.size w w7 by rw [hw7]; exact B6.out.trans ⟨rfl, rfl, rfl, Nat.le_refl _, fun _ _ => rfl⟩)
  clear hw7
  obtain ⟨d0, pl⟩ := HK.out _ B7.out
  go_wp2_with fail
  have B8 := Lib.hid (B7.out.drew)
  go_region_with (go_at_call 19; refine (CL.out _ B8.out).mono ?_; rintro e w8 ⟨rfl, rfl⟩)
  all_goals go_wp2_with fail
  all_goals go_ret
  all_goals exact ⟨rfl, B8.out⟩

end Go.Proofs.Ytdcjckdhjfnnhaa

namespace Go.Proofs.Ytdcjckdhjfnnhaa
open Go.RowKit Go.Shelf

/-- told, whatever the key -/
theorem told_all (w : World) (T : Nat) (E : Nat → Prop) (l : KV) (b p : Nat) (G : Nat → Prop) (k : ByteArray) (hR : Rep w T E l b) (hM : RefT w G p l) (hl : l.length ≤ 1000) (hs : ∀ x, x ∈ l → x.1.size ≤ 1000000) :
    Calls Try.prog 12 #[Ptr T, .pointer (some ⟨p, 0, none⟩), .string k] w fun e w' => e = .returned (.bool true) ∧ Below w.heap.size w w' := by
  by_cases h0 : 0 < l.length
  · obtain ⟨g, c, g2, c2, hC⟩ := cells_of hM h0
    have pl := KV.pos_le k l
    cases hh : l.has k with
    | true =>
      have hp := ((KV.has_iff l k).1 hh).1
      by_cases hy : l.aft k < l.length <;> by_cases hz : 0 < l.pos k
      · exact told1 w T E l b p g c g2 c2 _ _ _ G k hR hM hC hl hs rfl rfl rfl hh hp hy hz
      · exact told_a w T E l b p g c g2 c2 _ _ _ G k hR hM hC hl hs rfl rfl rfl hh hp hy hz
      · exact told_b w T E l b p g c g2 c2 _ _ _ G k hR hM hC hl hs rfl rfl rfl hh hp hy hz
      · exact told_c w T E l b p g c g2 c2 _ _ _ G k hR hM hC hl hs rfl rfl rfl hh hp hy hz
    | false =>
      have ea : l.aft k = l.pos k := if_neg (by rw [hh]; decide)
      by_cases hp : l.pos k < l.length
      · by_cases hz : 0 < l.pos k
        · exact told_d w T E l b p g c g2 c2 _ _ _ G k hR hM hC hl hs rfl rfl rfl hh hp (by rw [ea]; exact hp) hz
        · exact told_e w T E l b p g c g2 c2 _ _ _ G k hR hM hC hl hs rfl rfl rfl hh hp (by rw [ea]; exact hp) hz
      · exact told_f w T E l b p g c g2 c2 _ _ _ G k hR hM hC hl hs rfl rfl rfl pl hh hp (by rw [ea]; exact hp) (by omega)
  · obtain rfl : l = [] := List.length_eq_zero_iff.1 (by omega)
    exact told_h w T E b p G k hR hM

theorem Rep.keep {w w' : World} {T : Nat} {E : Nat → Prop} {l : KV} {b : Nat} (h : Rep w T E l b) (hk : ∀ k, E k → w'.heap[k]? = w.heap[k]?) (hs : w.heap.size ≤ w'.heap.size) : Rep w' T E l b := by
  obtain ⟨s, h1, h2⟩ := h
  exact ⟨s, h1.keep hk hs, h2⟩
theorem Rep.lt {w : World} {T : Nat} {E : Nat → Prop} {l : KV} {b : Nat} (h : Rep w T E l b) : ∀ k, E k → k < w.heap.size := by
  obtain ⟨s, h1, _⟩ := h
  exact h1.lt
theorem RefT.lt {w : World} {G : Nat → Prop} {p : Nat} {l : KV} (h : RefT w G p l) : ∀ k, G k → k < w.heap.size := by
  obtain ⟨_, _, _, _, _, _, _, _, h7⟩ := h
  exact h7
/-- the program's tree over l, the reference's over l', neither in the other's blocks nor in N's, which are as they were in w0 -/
def Both (w0 : World) (N : Nat → Prop) (w : World) (T p : Nat) (l l' : KV) (b : Nat) : Prop := ∃ E G : Nat → Prop, Rep w T E l b ∧ RefT w G p l' ∧ (∀ k, E k → ¬ G k) ∧ (∀ k, E k → ¬ N k) ∧ (∀ k, G k → ¬ N k) ∧ (∀ k, N k → k < w0.heap.size) ∧ Chg (fun k => ¬ N k) w0 w
/-- keys of a hundred bytes at most -/
def Short (l : KV) : Prop := ∀ x, x ∈ l → x.1.size ≤ 100
theorem Short.put {l : KV} (h : Short l) {k : ByteArray} {n : Int} (hk : k.size ≤ 100) : Short (l.put k n) := by
  intro x hx
  unfold KV.put at hx
  split at hx
  · rcases List.mem_or_eq_of_mem_set hx with q | q
    · exact h x q
    · rw [q]; exact hk
  · rcases List.mem_append.1 hx with q | q
    · exact h x (List.mem_of_mem_take q)
    · rcases List.mem_cons.1 q with q | q
      · rw [q]; exact hk
      · exact h x (List.mem_of_mem_drop q)
theorem Short.del {l : KV} (h : Short l) {k : ByteArray} : Short (l.del k) := by
  intro x hx
  unfold KV.del at hx
  split at hx
  · rcases List.mem_append.1 hx with q | q
    · exact h x (List.mem_of_mem_take q)
    · exact h x (List.mem_of_mem_drop q)
  · exact h x hx
section
variable {w0 w w' : World} {N : Nat → Prop} {T p b : Nat} {l l' : KV}
theorem Both.below (h : Both w0 N w T p l l' b) (hb : Below w.heap.size w w') : Both w0 N w' T p l l' b := by
  obtain ⟨E, G, h1, h2, h3, h4, h5, h6, h7⟩ := h
  exact ⟨E, G, h1.below hb, h2.below hb, h3, h4, h5, h6, h7.belowB h7.size hb⟩
theorem Both.chg (h : Both w0 N w T p l l' b) : Chg (fun k => ¬ N k) w0 w := by
  obtain ⟨_, _, _, _, _, _, _, _, h7⟩ := h
  exact h7
theorem Both.base {B : Nat} (h : Both w0 N w T p l l' b) (hB : B ≤ w0.heap.size) (hN : ∀ k, k < B → N k) : Below B w0 w := by
  have c := h.chg
  exact ⟨c.os, c.tape, c.output, c.size, fun k hk => c.block k (by omega) fun f => f (hN k hk)⟩
theorem Both.more (h : Both w0 N w T p l l' b) {b2 : Nat} (hb : b ≤ b2) : Both w0 N w T p l l' b2 := by
  obtain ⟨E, G, ⟨s, h1, ok, hs⟩, h2⟩ := h
  exact ⟨E, G, ⟨s, h1, ok, Nat.le_trans hs hb⟩, h2⟩
theorem Both.row (h : Both w0 N w T p l l' b) {x : Nat} {cs : List Value} {t : TypeId} (hr : RowAt w0 x cs t) (hN : N x) : RowAt w x cs t := (h.chg.block x hr.lt fun f => f hN).trans hr
/-- a box comes: from here on it stays -/
theorem Both.enter (h : Both w0 N w T p l l' b) (o : Obj) : Both (w.alloc o) (fun k => N k ∨ k = w.heap.size) (w.alloc o) T p l l' b := by
  obtain ⟨E, G, h1, h2, h3, h4, h5, h6, h7⟩ := h
  have hb : Below w.heap.size w (w.alloc o) := (Below.refl _ _).alloc (Nat.le_refl _) o
  have hz : (w.alloc o).heap.size = w.heap.size + 1 := by simp
  refine ⟨E, G, h1.below hb, h2.below hb, h3, fun k e f => ?_, fun k e f => ?_, fun k f => ?_, Chg.refl _ _⟩
  · rcases f with f | f
    · exact h4 k e f
    · have := h1.lt k e; omega
  · rcases f with f | f
    · exact h5 k e f
    · have := h2.lt k e; omega
  · rcases f with f | f
    · have := h6 k f; have := h7.size; omega
    · omega
/-- and back -/
theorem Both.back {N1 : Nat → Prop} {w1 : World} (h : Both w1 N1 w T p l l' b) (hN : ∀ k, N k → N1 k) (hc : Chg (fun k => ¬ N k) w0 w1) (h6 : ∀ k, N k → k < w0.heap.size) : Both w0 N w T p l l' b := by
  obtain ⟨E, G, h1, h2, h3, h4, h5, _, h7⟩ := h
  exact ⟨E, G, h1, h2, h3, fun k e f => h4 k e (hN k f), fun k e f => h5 k e (hN k f), h6, hc.trans h7 fun k e => .inl fun f => e (hN k f)⟩
theorem Both.lt (h : Both w0 N w T p l l' b) : ∀ k, N k → k < w0.heap.size := by
  obtain ⟨_, _, _, _, _, _, _, h6, _⟩ := h
  exact h6
/-- a whole round of a box that comes -/
theorem Both.leave {o : Obj} {wr : World} {l2 l2' : KV} {b2 : Nat} (h0 : Both w0 N wr T p l2 l2' b2) (h : Both (wr.alloc o) (fun k => N k ∨ k = wr.heap.size) w T p l l' b) : Both w0 N w T p l l' b :=
  h.back (fun _ e => .inl e) (h0.chg.alloc o) h0.lt
end
section
variable {w0 w : World} {N : Nat → Prop} {T p b : Nat} {l l' : KV}
theorem bPut (h : Both w0 N w T p l l' b) (k : ByteArray) (n : Int) (hl : l.length ≤ 1000) (hk : k.size ≤ 100) (hb : b ≤ 40000) :
    Calls Try.prog 8 #[Ptr T, .string k, .int .i64 n] w fun x w' => x = .returned (.tuple #[.int .i64 (if l.has k then l.num (l.pos k) else 0), .bool (l.has k), .int .i64 0]) ∧ Both w0 N w' T p (l.put k n) l' (b + 25) := by
  obtain ⟨E, G, h1, h2, h3, h4, h5, h6, h7⟩ := h
  refine (xPut w T E l b k n h1 hl hb (by omega)).mono ?_
  rintro x w' ⟨hx, E', r, a, c⟩
  refine ⟨hx, E', G, r, h2.keep (fun k e => c.block k (h2.lt k e) fun f => h3 k f e) c.size, fun k e f => ?_, fun k e f => ?_, h5, h6, h7.trans c fun k e => .inl (h4 k e)⟩
  · rcases a k e with q | q
    · exact h3 k q f
    · have := h2.lt k f; omega
  · rcases a k e with q | q
    · exact h4 k q f
    · have := h6 k f; have := h7.size; omega
theorem bDel (h : Both w0 N w T p l l' b) (k : ByteArray) (hl : l.length ≤ 1000) (hb : b ≤ 40000) :
    Calls Try.prog 10 #[Ptr T, .string k] w fun x w' => x = .returned (.tuple #[.int .i64 (if l.has k then l.num (l.pos k) else 0), .bool (l.has k)]) ∧ Both w0 N w' T p (l.del k) l' (b + 25) := by
  obtain ⟨E, G, h1, h2, h3, h4, h5, h6, h7⟩ := h
  refine (xDel w T E l b k h1 hl hb).mono ?_
  rintro x w' ⟨hx, E', r, a, c⟩
  refine ⟨hx, E', G, r, h2.keep (fun k e => c.block k (h2.lt k e) fun f => h3 k f e) c.size, fun k e f => ?_, fun k e f => ?_, h5, h6, h7.trans c fun k e => .inl (h4 k e)⟩
  · rcases a k e with q | q
    · exact h3 k q f
    · have := h2.lt k f; omega
  · rcases a k e with q | q
    · exact h4 k q f
    · have := h6 k f; have := h7.size; omega
theorem brPut (h : Both w0 N w T p l l' b) (k : ByteArray) (n : Int) (hl : l'.length ≤ 1000) :
    Calls Try.prog 9 #[.pointer (some ⟨p, 0, none⟩), .string k, .int .i64 n] w fun x w' => x = .returned (.tuple #[.int .i64 (if l'.has k then l'.num (l'.pos k) else 0), .bool (l'.has k)]) ∧ Both w0 N w' T p l (l'.put k n) b := by
  obtain ⟨E, G, h1, h2, h3, h4, h5, h6, h7⟩ := h
  refine (rPut p G l' k n w h2 (by omega)).mono ?_
  rintro x w' ⟨hx, G', r, a, c⟩
  refine ⟨hx, E, G', h1.keep (fun k e => c.block k (h1.lt k e) fun f => h3 k e f) c.size, r, fun k e f => ?_, h4, fun k e f => ?_, h6, h7.trans c fun k e => .inl (h5 k e)⟩
  · rcases a k f with q | q
    · exact h3 k e q
    · have := h1.lt k e; omega
  · rcases a k e with q | q
    · exact h5 k q f
    · have := h6 k f; have := h7.size; omega
theorem brDel (h : Both w0 N w T p l l' b) (k : ByteArray) (hl : l'.length ≤ 1000) :
    Calls Try.prog 11 #[.pointer (some ⟨p, 0, none⟩), .string k] w fun x w' => x = .returned (.tuple #[.int .i64 (if l'.has k then l'.num (l'.pos k) else 0), .bool (l'.has k)]) ∧ Both w0 N w' T p l (l'.del k) b := by
  obtain ⟨E, G, h1, h2, h3, h4, h5, h6, h7⟩ := h
  refine (rDel p G l' k w h2 (by omega)).mono ?_
  rintro x w' ⟨hx, G', r, a, c⟩
  refine ⟨hx, E, G', h1.keep (fun k e => c.block k (h1.lt k e) fun f => h3 k e f) c.size, r, fun k e f => ?_, h4, fun k e f => ?_, h6, h7.trans c fun k e => .inl (h5 k e)⟩
  · rcases a k f with q | q
    · exact h3 k e q
    · have := h1.lt k e; omega
  · rcases a k e with q | q
    · exact h5 k q f
    · have := h6 k f; have := h7.size; omega
theorem bTold (h : Both w0 N w T p l l b) (hs : Short l) (k : ByteArray) (hl : l.length ≤ 1000) :
    Calls Try.prog 12 #[Ptr T, .pointer (some ⟨p, 0, none⟩), .string k] w fun e w' => e = .returned (.bool true) ∧ Both w0 N w' T p l l b := by
  have h' := h
  obtain ⟨E, G, h1, h2, _⟩ := h
  refine (told_all w T E l b p G k h1 h2 hl (fun x hx => by have := hs x hx; omega)).mono ?_
  rintro e w' ⟨he, hb⟩
  exact ⟨he, h'.below hb⟩
theorem bKeys (h : Both w0 N w T p l l' b) (hs : Short l) (k : ByteArray) (m : Int) (hl : l.length ≤ 1000) :
    Calls Try.prog 13 #[Ptr T, .string k, .int .i64 m] w fun e w' => ∃ v, e = .returned v ∧ OwnS w' w.heap.size v (((KV.ks l).drop (l.pos k)).take m.toNat) ∧ Both w0 N w' T p l l' b := by
  have h' := h
  obtain ⟨E, G, h1, h2, _⟩ := h
  refine (xKeys w T E l b k m h1 hl (fun x hx => by have := hs x hx; omega)).mono ?_
  rintro e w' ⟨v, he, ho, _, hb⟩
  exact ⟨v, he, ho, h'.below hb⟩
theorem brAt (h : Both w0 N w T p l l' b) (k : ByteArray) (hl : l'.length ≤ 1000) :
    Calls Try.prog 14 #[.pointer (some ⟨p, 0, none⟩), .string k] w fun x w' => x = .returned (.tuple #[.int .i64 (l'.pos k : Nat), .bool (l'.has k)]) ∧ ∃ n, w' = w.drewN n := by
  obtain ⟨E, G, h1, h2, _⟩ := h
  exact rAt p G l' k w h2 (by omega)
end

end Go.Proofs.Ytdcjckdhjfnnhaa
