/- Proved parts: T8d. Conditions: each theorem's own. -/
import Derived.Test.YtdcjckdhjfnnhaaM4
namespace Go.Proofs.Ytdcjckdhjfnnhaa
open Go.RowKit

/-- what Put and Del leave -/
def LeftT (w : World) (G : Nat → Prop) (p : Nat) (l : KV) (w' : World) : Prop := ∃ G' : Nat → Prop, RefT w' G' p l ∧ (∀ k, G' k → G k ∨ w.heap.size ≤ k) ∧ Chg G w w'
theorem LeftT.same {w w' : World} {G : Nat → Prop} {p : Nat} {l : KV} (h : RefT w G p l) (hb : Below w.heap.size w w') : LeftT w G p l w' := ⟨G, h.below hb, fun _ e => .inl e, Chg.of_below hb⟩
theorem OwnS.setCell {B : Nat} {w : World} {v : Value} {zs : List ByteArray} (h : OwnS w B v zs) {p : Addr} (hp : p.block < B) (u : Value) : OwnS (w.setCell p u) B v zs :=
  h.keepV fun k e => Below.heap_setCell _ _ _ _ (by have := World.ownsRow.lt h k e; omega)
theorem OwnJ.setCell {B : Nat} {w : World} {v : Value} {zs : List Int} (h : OwnJ w B v zs) {p : Addr} (hp : p.block < B) (u : Value) : OwnJ (w.setCell p u) B v zs :=
  h.keepB fun k e => Below.heap_setCell _ _ _ _ (by have := World.ownsRow.lt h k e; omega)
theorem Chg.belowB {F : Nat → Prop} {a b c : World} {B : Nat} (h : Chg F a b) (hB : a.heap.size ≤ B) (hb : Below B b c) : Chg F a c :=
  h.trans (G := fun i => B ≤ i) ⟨hb.os, hb.tape, hb.output, hb.size, fun i _ hn => hb.block i (by omega)⟩ (fun i e => .inr (by omega))
theorem LeftT.of {w w' : World} {G : Nat → Prop} {p B C : Nat} {l : KV} {u v : Value} {zs : List ByteArray} {ys : List Int} (hB : w.heap.size ≤ B) (hp : p < B) (gp : G p) (hu : OwnS w' B u zs) (hv : OwnJ w' C v ys) (hC : B ≤ C)
    (ez : l.ks = zs) (ey : l.ns = ys) (hr : RowAt w' p [u, v] 30) (hc : Chg G w w') : LeftT w G p l w' := by
  subst ez; subst ey
  have a := World.ownsRow.lt hu
  have b := World.ownsRow.lt hv
  refine ⟨fun i => i = p ∨ u.ownBlock = some i ∨ v.ownBlock = some i, ⟨u, v, hr, hu.base, hv.base, .inl rfl, fun k e => ⟨.inr (.inl e), ?_⟩, fun k e => ⟨.inr (.inr e), ?_⟩, ?_⟩, ?_, hc⟩
  · have := a k e; omega
  · have := b k e; omega
  · rintro k (rfl | e | e)
    · exact hr.lt
    · exact (a k e).2
    · exact (b k e).2
  · rintro k (rfl | e | e)
    · exact .inl gp
    · exact .inr (by have := a k e; omega)
    · exact .inr (by have := b k e; omega)
/-- two rows that are there -/
theorem RefT.opened {w : World} {G : Nat → Prop} {p : Nat} {l : KV} (h : RefT w G p l) (hl : 0 < l.length) : ∃ g c g2 c2, RowAt w p [.slice (some ⟨g, 0, none⟩) l.length c, .slice (some ⟨g2, 0, none⟩) l.length c2] 30 ∧
    SlS w (some ⟨g, 0, none⟩) l.ks ∧ OwnJ w 0 (.slice (some ⟨g2, 0, none⟩) l.length c2) l.ns ∧ SlJ w (some ⟨g2, 0, none⟩) l.ns ∧ OwnS w 0 (.slice (some ⟨g, 0, none⟩) l.length c) l.ks ∧ g < w.heap.size ∧ g2 < w.heap.size ∧ G p ∧ G g ∧ G g2 ∧ g ≠ p ∧ g2 ≠ p ∧ l.length ≤ c ∧ l.length ≤ c2 := by
  obtain ⟨vk, vn, h1, h2, h3, h4, h5, h6, h7⟩ := h
  obtain ⟨A, c, rfl, hs⟩ := h2.sl
  obtain ⟨A2, c2, rfl, hs2⟩ := h3.form
  obtain ⟨g, o, rfl, hg, _⟩ := hs (by rw [KV.ks_len]; exact hl)
  obtain ⟨g2, o2, rfl, hg2, _⟩ := hs2 (by rw [KV.ns_len]; exact hl)
  have e1 : o = 0 := by
    rcases h2.2 with ⟨e, _⟩ | ⟨_, _, _, e, _⟩
    · cases e
    · injection e with e _ _
      injection e with e
      injection e
  have e2 : o2 = 0 := by
    rcases h3.2 with ⟨e, _⟩ | ⟨_, _, _, e, _⟩
    · cases e
    · injection e with e _ _
      injection e with e
      injection e
  subst e1
  subst e2
  have k1 : l.length ≤ c := by
    rcases h2.2 with ⟨e, _⟩ | ⟨_, _, _, e, _, _, hnc, _⟩
    · cases e
    · injection e with _ _ e
      rw [← KV.ks_len, e]; exact hnc
  have k2 : l.length ≤ c2 := by
    rcases h3.2 with ⟨e, _⟩ | ⟨_, _, _, e, _, _, hnc, _⟩
    · cases e
    · injection e with _ _ e
      rw [← KV.ns_len, e]; exact hnc
  rw [KV.ks_len] at h1 h2
  rw [KV.ns_len] at h1 h3
  have q1 := h5 g (by rfl)
  have q2 := h6 g2 (by rfl)
  exact ⟨g, c, g2, c2, h1, hs, h3, hs2, h2, hg, hg2, h4, q1.1, q2.1, q1.2, q2.2, k1, k2⟩

set_option maxRecDepth 100000 in
set_option maxHeartbeats 2000000 in
/-- Del -/
theorem rDel (p : Nat) (G : Nat → Prop) (l : KV) (k : ByteArray) (w : World) (h : RefT w G p l) (hl : l.length ≤ 100000) :
    Calls Try.prog 11 #[.pointer (some ⟨p, 0, none⟩), .string k] w fun x w' => x = .returned (.tuple #[.int .i64 (if l.has k then l.num (l.pos k) else 0), .bool (l.has k)]) ∧ LeftT w G p (l.del k) w' := by
  have AT := Lib.hid (rAt p G l k w h (by omega))
  cases hh : l.has k with
  | false =>
    have e : l.del k = l := by unfold KV.del; rw [hh]; rfl
    rw [e, if_neg (by decide)]
    rw [hh] at AT
    have H := Lib.hid h
    clear e hh h
    go_enter Try.func11, Try.ntmps11
    go_wp2_with fail
    refine AT.out.mono ?_
    rintro x w1 ⟨rfl, n1, hw1⟩
    have L := Lib.hid (show LeftT w G p l w1 from LeftT.same H.out (by rw [hw1]; exact ⟨rfl, rfl, rfl, Nat.le_refl _, fun _ _ => rfl⟩))
    clear hw1
    go_wp2_with fail
    go_ret2
    exact ⟨rfl, L.out⟩
  | true =>
    rw [hh] at AT
    rw [if_pos rfl]
    obtain ⟨hp, _⟩ := (KV.has_iff l k).1 hh
    obtain ⟨DK, DN⟩ := KV.del_ks hh
    obtain ⟨g, c, g2, c2, h1, h2, h3, h4, h2', hg, hg2, Gp, Gg, Gg2, n1, n2, nc1, nc2⟩ := h.opened (by omega)
    obtain ⟨P, hP⟩ : ∃ P, P = l.pos k := ⟨_, rfl⟩
    obtain ⟨n, hn⟩ : ∃ n, n = l.length := ⟨_, rfl⟩
    have cN : w.cell? ⟨g2, P, none⟩ = some (.int .i64 (l.num P)) := by
      obtain ⟨b, o, e, _, hc⟩ := h4 (by rw [KV.ns_len]; omega)
      injection e with e
      injection e with e1 e2 _
      subst e1; subst e2
      have := hc P (by rw [KV.ns_len]; omega)
      rw [KV.ns_get l P (by omega), Nat.zero_add] at this
      exact this
    obtain ⟨y, hy⟩ : ∃ y, y = l.num P := ⟨_, rfl⟩
    rw [← hP] at AT DK DN hp
    rw [← hP, ← hy]
    rw [← hy] at cN
    rw [← hn] at hp hl h1 nc1 nc2
    have lk : l.ks.length = n := by rw [KV.ks_len, hn]
    have ln : l.ns.length = n := by rw [KV.ns_len, hn]
    have R1 := Lib.hid h1
    have K1 := Lib.hid h2
    have J1 := Lib.hid h4
    have DK' := Lib.hid DK
    have DN' := Lib.hid DN
    have LT := Lib.hid (show g < w.heap.size ∧ g2 < w.heap.size ∧ p < w.heap.size from ⟨hg, hg2, h1.lt⟩)
    have GP := Lib.hid Gp
    have LK := Lib.hid lk
    have LN := Lib.hid ln
    clear hh DK DN h1 h2 h3 h4 h2' Gg Gg2 hP hn hy h lk ln
    go_enter Try.func11, Try.ntmps11
    go_wp2_with fail
    refine AT.out.mono ?_
    rintro x w1 ⟨rfl, m1, hw1⟩
    have B1 := Lib.hid (show Below w.heap.size w w1 by rw [hw1]; exact ⟨rfl, rfl, rfl, Nat.le_refl _, fun _ _ => rfl⟩)
    have Z1 := Lib.hid (show w1.heap.size = w.heap.size by rw [hw1]; rfl)
    have R2 := Lib.hid (R1.out.below B1.out)
    have K2 := Lib.hid (K1.out.below B1.out)
    have J2 := Lib.hid (J1.out.below B1.out)
    have d0 := R2.out.cell 0
    have d1 := R2.out.cell 1
    simp only [List.getElem?_cons_succ, List.getElem?_cons_zero] at d0 d1
    have dN : w1.cell? ⟨g2, P, none⟩ = some (.int .i64 y) := by rw [hw1]; exact cN
    clear hw1 cN
    have pl : p < w1.heap.size := by rw [Z1.out]; exact LT.out.2.2
    have gl : g < w1.heap.size ∧ g2 < w1.heap.size := by rw [Z1.out]; exact ⟨LT.out.1, LT.out.2.1⟩
    have GL := Lib.hid gl
    have PL := Lib.hid pl
    clear gl
    obtain ⟨B, hB⟩ : ∃ B, B = w1.heap.size := ⟨_, rfl⟩
    have OM := Lib.hid (show OwnS (w1.alloc (.cells #[] 9)) B (.slice (some ⟨w1.heap.size, 0, none⟩) 0 0) [] from OwnS.made w1 (by omega))
    have HB := Lib.hid hB
    clear hB
    have pc1 : P ≤ c := by omega
    have pc2 : P ≤ c2 := by omega
    have pc3 : P + 1 ≤ c := by omega
    have pc4 : P + 1 ≤ c2 := by omega
    have pn : P + 1 ≤ n := by omega
    have LB := Lib.hid (show g < B ∧ g2 < B ∧ p < B by rw [HB.out]; exact ⟨GL.out.1, GL.out.2, PL.out⟩)
    have NE := Lib.hid (show g2 ≠ p from n2)
    have NC := Lib.hid (show l.ks.length ≤ c ∧ l.ns.length ≤ c2 by rw [LK.out, LN.out]; exact ⟨nc1, nc2⟩)
    clear n1 n2 hg hg2 Gp
    go_wp2_with (at_builtin; first
      | (refine wp_appS rfl (.tmp 26) (.tmp 32) rfl B _ [] (l.ks.take P) rfl OM.out _ _ _ (by rw [List.length_take, LK.out]; omega) rfl ((K2.out.take P).alloc _) (by rw [List.length_take, LK.out]; simp; omega) (by rw [World.size_alloc, HB.out]; omega) ?_
         intro v1 w2 ho hg hb
         rw [List.nil_append] at ho
         have O2 := Lib.hid ho
         have B2 := Lib.hid (show Below B w1 w2 from ((Below.refl B w1).alloc (by rw [HB.out]; exact Nat.le_refl _) _).trans hb)
         have R3 := Lib.hid (show RowAt w2 p _ _ from (B2.out.block p LB.out.2.2).trans R2.out)
         have K3 := Lib.hid (K2.out.keptB B2.out LB.out.1)
         have J3 := Lib.hid (J2.out.keptB B2.out LB.out.2.1)
         have SB := Lib.hid (show B ≤ w2.heap.size by rw [HB.out]; exact B2.out.size)
         have pl := R3.out.lt
         have d0 := R3.out.cell 0
         have d1 := R3.out.cell 1
         simp only [List.getElem?_cons_succ, List.getElem?_cons_zero] at d0 d1
         clear ho hg hb)
      | (refine wp_appJ rfl (.tmp 34) (.tmp 40) rfl w2.heap.size _ [] (l.ns.take P) rfl (OwnJ.made w2 _ (Nat.le_refl _)) _ _ _ (by rw [List.length_take, LN.out]; omega) rfl ((J3.out.take P).alloc _) (by rw [List.length_take, LN.out]; simp; omega) (by rw [World.size_alloc]; omega) ?_
         intro v2 w3 ho hg hb
         rw [List.nil_append] at ho
         have O3 := Lib.hid ho
         have bb : Below w2.heap.size w2 w3 := ((Below.refl _ w2).alloc (Nat.le_refl _) _).trans hb
         have B3 := Lib.hid bb
         have O2' := Lib.hid (O2.out.below bb)
         have R4 := Lib.hid (R3.out.below bb)
         have K4 := Lib.hid (K3.out.below bb)
         have J4 := Lib.hid (J3.out.below bb)
         have SC := Lib.hid (show B ≤ w3.heap.size from Nat.le_trans SB.out bb.size)
         have pl := R4.out.lt
         have d0 := R4.out.cell 0
         have d1 := R4.out.cell 1
         simp only [List.getElem?_cons_succ, List.getElem?_cons_zero] at d0 d1
         clear ho hg hb bb)
      | (refine wp_appS rfl (.tmp 43) (.tmp 50) rfl B v1 (l.ks.take P) (l.ks.drop (P + 1)) rfl O2'.out _ _ _ (by rw [List.length_drop, LK.out]) rfl (K4.out.rest NC.out.1) (by rw [List.length_take, List.length_drop, LK.out]; omega) SC.out ?_
         intro v3 w4 ho hg hb
         obtain ⟨A3, c3, ev, _⟩ := ho.sl
         obtain ⟨N3, hN3⟩ : ∃ N3, N3 = (l.ks.take P ++ l.ks.drop (P + 1)).length := ⟨_, rfl⟩
         have O3' := Lib.hid ((O3.out.keepB (w' := w4) fun j hj => hg.block j (O3.out.ltB j hj).2 (fun e => ownSJ_ne O2'.out O3.out e.symm hj)).setCell (p := ⟨p, 0, none⟩) (Nat.lt_of_lt_of_le LB.out.2.2 SB.out) v3)
         have O4 := Lib.hid (ho.setCell (p := ⟨p, 0, none⟩) LB.out.2.2 v3)
         have B4 := Lib.hid hb
         have R5 := Lib.hid (show RowAt w4 p _ _ from (hb.block p LB.out.2.2).trans R4.out)
         have R6 := Lib.hid (R5.out.set 0 v3)
         have J5 := Lib.hid ((J4.out.keptB hb LB.out.2.1).other (p := ⟨p, 0, none⟩) NE.out v3)
         have SD := Lib.hid (show w2.heap.size ≤ (w4.setCell ⟨p, 0, none⟩ v3).heap.size by rw [World.size_setCell]; exact Nat.le_trans B3.out.size hb.size)
         have pl := R5.out.lt
         have d0 := R5.out.cell 0
         have d1 := R5.out.cell 1
         have f0 := R5.out.frozen 0
         have e0 := R6.out.cell 0
         have e1 := R6.out.cell 1
         have el := R6.out.lt
         simp only [List.getElem?_cons_succ, List.getElem?_cons_zero, List.set_cons_zero] at d0 d1 e0 e1
         rw [← hN3] at ev
         subst ev
         have HN := Lib.hid hN3
         clear ho hg hb hN3)
      | (refine wp_appJ rfl (.tmp 55) (.tmp 62) rfl w2.heap.size v2 (l.ns.take P) (l.ns.drop (P + 1)) rfl O3'.out _ _ _ (by rw [List.length_drop, LN.out]) rfl (J5.out.rest NC.out.2) (by rw [List.length_take, List.length_drop, LN.out]; omega) SD.out ?_
         intro v4 w5 ho hg hb
         obtain ⟨A4, c4, ev, _⟩ := ho.form
         obtain ⟨N4, hN4⟩ : ∃ N4, N4 = (l.ns.take P ++ l.ns.drop (P + 1)).length := ⟨_, rfl⟩
         have O5 := Lib.hid (ho.setCell (p := ⟨p, 1, none⟩) (Nat.lt_of_lt_of_le LB.out.2.2 SB.out) v4)
         have O4' := Lib.hid ((O4.out.keepV (w' := w5) fun j hj => hg.block j (World.ownsRow.lt O4.out j hj).2 (fun e => ownSJ_ne O4.out O3'.out hj e.symm)).setCell (p := ⟨p, 1, none⟩) LB.out.2.2 v4)
         have B5 := Lib.hid hb
         have R7 := Lib.hid (show RowAt w5 p _ _ from (hb.block p (Nat.lt_of_lt_of_le LB.out.2.2 SB.out)).trans R6.out)
         have R8 := Lib.hid (R7.out.set 1 v4)
         have pl := R7.out.lt
         have d0 := R7.out.cell 0
         have d1 := R7.out.cell 1
         have f1 := R7.out.frozen 1
         simp only [List.getElem?_cons_succ, List.getElem?_cons_zero, List.set_cons_zero] at d0 d1
         rw [← hN4] at ev
         subst ev
         have HM := Lib.hid hN4
         clear ho hg hb hN4)
      | (trace_state; sorry))
    all_goals go_ret2
    all_goals exact ⟨rfl, LeftT.of (B := B) (C := w2.heap.size) (by rw [HB.out, Z1.out]; exact Nat.le_refl _) LB.out.2.2 GP.out O4'.out O5.out SB.out DK'.out DN'.out R8.out
      ((((((Chg.of_below B1.out).belowB (by rw [HB.out, Z1.out]; exact Nat.le_refl _) B2.out).belowB (Nat.le_trans (by rw [HB.out, Z1.out]; exact Nat.le_refl _) SB.out) B3.out).belowB (by rw [HB.out, Z1.out]; exact Nat.le_refl _) B4.out).setCell (.inl GP.out) _).belowB (Nat.le_trans (by rw [HB.out, Z1.out]; exact Nat.le_refl _) SB.out) B5.out |>.setCell (.inl GP.out) _)⟩

end Go.Proofs.Ytdcjckdhjfnnhaa
