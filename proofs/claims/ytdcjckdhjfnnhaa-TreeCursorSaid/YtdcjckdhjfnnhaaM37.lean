/- Proved parts: T8bc T8bd T8be T8bf. Conditions: each theorem's own. -/
import Derived.Test.YtdcjckdhjfnnhaaM36
namespace Go.Proofs.Ytdcjckdhjfnnhaa
open Go.RowKit Go.Shelf

set_option maxRecDepth 100000 in
set_option maxHeartbeats 4000000 in
/-- told: the key is there, one not above, one not before -/
theorem told_c (w : World) (T : Nat) (E : Nat → Prop) (l : KV) (b p g c g2 c2 n P Q : Nat) (G : Nat → Prop) (k : ByteArray) (hR : Rep w T E l b) (hM : RefT w G p l) (hC : Cells w p g c g2 c2 n l) (hl : l.length ≤ 1000) (hs : ∀ x, x ∈ l → x.1.size ≤ 1000000)
    (hn : n = l.length) (hP : P = l.pos k) (hQ : Q = l.aft k) (h1 : l.has k = true) (h2 : P < n) (h3 : ¬ Q < n) (h4 : ¬ 0 < P) :
    Calls Try.prog 12 #[Ptr T, .pointer (some ⟨p, 0, none⟩), .string k] w fun e w' => e = .returned (.bool true) ∧ Below w.heap.size w w' := by
  have CG := Lib.hid (fun w' (hb : Below w.heap.size w w') => xGet w' T E l b k (hR.below hb) hl)
  have CA := Lib.hid (fun w' (hb : Below w.heap.size w w') => rAt p G l k w' (hM.below hb) (by omega))
  have CS := Lib.hid (fun w' (hb : Below w.heap.size w w') => xSeek w' T E l b k (hR.below hb) hl hs)
  have CF := Lib.hid (fun w' (hb : Below w.heap.size w w') => xAfter w' T E l b k (hR.below hb) hl hs)
  have CB := Lib.hid (fun w' (hb : Below w.heap.size w w') => xBefore w' T E l b k (hR.below hb) hl hs)
  have CX := Lib.hid (fun w' (hb : Below w.heap.size w w') => rFrom p G l k false w' (hM.below hb) (by omega))
  have CY := Lib.hid (fun w' (hb : Below w.heap.size w w') => rFrom p G l k true w' (hM.below hb) (by omega))
  have CL := Lib.hid (fun w' (hb : Below w.heap.size w w') => xLenR w' T E l b (hR.below hb))
  rw [h1, if_pos rfl] at CG
  rw [h1] at CA
  rw [← hP] at CG CA
  rw [← hP, ← hn] at CS
  rw [← hQ, ← hn] at CF
  rw [← hP] at CB
  rw [← hn] at CL
  simp only [Bool.false_eq_true, if_false, if_true, ← hP, ← hQ, ← hn] at CX CY
  simp only [if_pos h2, if_neg h3, if_neg h4, decide_eq_true h2, decide_eq_false h3, decide_eq_false h4] at CS CF CB CX CY
  have HC := Lib.hid hC
  have B0 := Lib.hid (Below.refl w.heap.size w)
  clear hR hM hC hs hP hQ h1
  obtain ⟨nP, enP⟩ : ∃ x, x = l.num P := ⟨_, rfl⟩
  obtain ⟨kP, ekP⟩ : ∃ x, x = l.key P := ⟨_, rfl⟩
  have HK := Lib.hid (show ∀ w', Below w.heap.size w w' → w'.cell? ⟨p, 0, none⟩ = some (.slice (some ⟨g, 0, none⟩) n c) ∧ w'.cell? ⟨p, 1, none⟩ = some (.slice (some ⟨g2, 0, none⟩) n c2) ∧ p < w'.heap.size ∧ w'.cell? ⟨g, P, none⟩ = some (.string kP) ∧ w'.cell? ⟨g2, P, none⟩ = some (.int .i64 nP) from fun w' hb => by
    obtain ⟨a, b, d, e⟩ := HC.out w' hb
    rw [enP, ekP]
    exact ⟨a, b, d, (e P h2).1, (e P h2).2⟩)
  rw [← enP] at CG
  rw [← enP, ← ekP] at CS
  clear hn hl
  clear enP ekP HC
  have i0 : (0 : Int) ≤ (P : Int) := by omega
  have i1 : (P : Int) < (n : Int) := by omega
  have i2 : (0 : Int) ≤ (Q : Int) := by omega
  go_enter Try.func12, Try.ntmps12
  go_wp2_with (go_at_call 17; refine (CG.out _ B0.out).mono ?_; rintro e w1 ⟨rfl, hb⟩; have B1 := Lib.hid hb; clear hb)
  refine (CA.out _ B1.out).mono ?_
  rintro e w2 ⟨rfl, m2, hw2⟩
  have B2 := Lib.hid (show Below w.heap.size w w2 by rw [hw2]; exact B1.out.trans ⟨rfl, rfl, rfl, Nat.le_refl _, fun _ _ => rfl⟩)
  clear hw2
  obtain ⟨d0, d1, pl, e0, e1⟩ := HK.out _ B2.out
  go_wp2_with fail
  clear d0 d1 pl e0 e1
  refine (CS.out _ B2.out).mono ?_
  rintro e w3 ⟨rfl, hb⟩
  have B3 := Lib.hid (B2.out.trans (hb.mono B2.out.size))
  clear hb
  go_wp2_with fail
  refine (CF.out _ B3.out).mono ?_
  rintro e w4 ⟨rfl, hb⟩
  have B4 := Lib.hid (B3.out.trans (hb.mono B3.out.size))
  clear hb
  go_wp2_with fail
  refine (CB.out _ B4.out).mono ?_
  rintro e w5 ⟨rfl, hb⟩
  have B5 := Lib.hid (B4.out.trans (hb.mono B4.out.size))
  clear hb
  go_wp2_with fail
  refine (CX.out _ B5.out).mono ?_
  rintro e w6 ⟨rfl, m6, hw6⟩
  have B6 := Lib.hid (show Below w.heap.size w w6 by rw [hw6]; exact B5.out.trans ⟨rfl, rfl, rfl, Nat.le_refl _, fun _ _ => rfl⟩)
  clear hw6
  go_wp2_with fail
  refine (CY.out _ B6.out).mono ?_
  rintro e w7 ⟨rfl, m7, hw7⟩
  have B7 := Lib.hid (show Below w.heap.size w w7 by rw [hw7]; exact B6.out.trans ⟨rfl, rfl, rfl, Nat.le_refl _, fun _ _ => rfl⟩)
  clear hw7
  obtain ⟨d0, d1, pl, e0, e1⟩ := HK.out _ B7.out
  go_wp2_with fail
  have B8 := Lib.hid (B7.out.drew)
  go_region_with (go_at_call 19; refine (CL.out _ B8.out).mono ?_; rintro e w8 ⟨rfl, rfl⟩)
  all_goals go_wp2_with fail
  all_goals go_ret
  all_goals exact ⟨rfl, B8.out⟩

end Go.Proofs.Ytdcjckdhjfnnhaa

namespace Go.Proofs.Ytdcjckdhjfnnhaa
open Go.RowKit Go.Shelf

set_option maxRecDepth 100000 in
set_option maxHeartbeats 4000000 in
/-- told: the key is not there, one above, one before -/
theorem told_d (w : World) (T : Nat) (E : Nat → Prop) (l : KV) (b p g c g2 c2 n P Q : Nat) (G : Nat → Prop) (k : ByteArray) (hR : Rep w T E l b) (hM : RefT w G p l) (hC : Cells w p g c g2 c2 n l) (hl : l.length ≤ 1000) (hs : ∀ x, x ∈ l → x.1.size ≤ 1000000)
    (hn : n = l.length) (hP : P = l.pos k) (hQ : Q = l.aft k) (h1 : l.has k = false) (h2 : P < n) (h3 : Q < n) (h4 : 0 < P) :
    Calls Try.prog 12 #[Ptr T, .pointer (some ⟨p, 0, none⟩), .string k] w fun e w' => e = .returned (.bool true) ∧ Below w.heap.size w w' := by
  have CG := Lib.hid (fun w' (hb : Below w.heap.size w w') => xGet w' T E l b k (hR.below hb) hl)
  have CA := Lib.hid (fun w' (hb : Below w.heap.size w w') => rAt p G l k w' (hM.below hb) (by omega))
  have CS := Lib.hid (fun w' (hb : Below w.heap.size w w') => xSeek w' T E l b k (hR.below hb) hl hs)
  have CF := Lib.hid (fun w' (hb : Below w.heap.size w w') => xAfter w' T E l b k (hR.below hb) hl hs)
  have CB := Lib.hid (fun w' (hb : Below w.heap.size w w') => xBefore w' T E l b k (hR.below hb) hl hs)
  have CX := Lib.hid (fun w' (hb : Below w.heap.size w w') => rFrom p G l k false w' (hM.below hb) (by omega))
  have CY := Lib.hid (fun w' (hb : Below w.heap.size w w') => rFrom p G l k true w' (hM.below hb) (by omega))
  have CL := Lib.hid (fun w' (hb : Below w.heap.size w w') => xLenR w' T E l b (hR.below hb))
  rw [h1, if_neg (by decide)] at CG
  rw [h1] at CA
  rw [← hP] at CA
  rw [← hP, ← hn] at CS
  rw [← hQ, ← hn] at CF
  rw [← hP] at CB
  rw [← hn] at CL
  simp only [Bool.false_eq_true, if_false, if_true, ← hP, ← hQ, ← hn] at CX CY
  simp only [if_pos h2, if_pos h3, if_pos h4, decide_eq_true h2, decide_eq_true h3, decide_eq_true h4] at CS CF CB CX CY
  have HC := Lib.hid hC
  have B0 := Lib.hid (Below.refl w.heap.size w)
  clear hR hM hC hs hP hQ h1
  obtain ⟨Z, hZ⟩ : ∃ Z, Z = P - 1 := ⟨_, rfl⟩
  have i4 : wrap64 ((P : Int) - 1) = (Z : Int) := by
    rw [show (P : Int) - 1 = (Z : Int) by omega]
    have : (Z : Int) ≤ 1000 := by omega
    first | exact wrap64_small (by omega) (by omega) | (unfold wrap64; omega) | (simp only [wrap64, IntKind.wrap_i64]; omega)
  have i5 : (0 : Int) ≤ (Z : Int) := by omega
  have i6 : (Z : Int) < (n : Int) := by omega
  rw [← hZ] at CB
  obtain ⟨nP, enP⟩ : ∃ x, x = l.num P := ⟨_, rfl⟩
  obtain ⟨kP, ekP⟩ : ∃ x, x = l.key P := ⟨_, rfl⟩
  obtain ⟨nQ, enQ⟩ : ∃ x, x = l.num Q := ⟨_, rfl⟩
  obtain ⟨kQ, ekQ⟩ : ∃ x, x = l.key Q := ⟨_, rfl⟩
  obtain ⟨nZ, enZ⟩ : ∃ x, x = l.num Z := ⟨_, rfl⟩
  obtain ⟨kZ, ekZ⟩ : ∃ x, x = l.key Z := ⟨_, rfl⟩
  have HK := Lib.hid (show ∀ w', Below w.heap.size w w' → w'.cell? ⟨p, 0, none⟩ = some (.slice (some ⟨g, 0, none⟩) n c) ∧ w'.cell? ⟨p, 1, none⟩ = some (.slice (some ⟨g2, 0, none⟩) n c2) ∧ p < w'.heap.size ∧ w'.cell? ⟨g, P, none⟩ = some (.string kP) ∧ w'.cell? ⟨g2, P, none⟩ = some (.int .i64 nP) ∧ w'.cell? ⟨g, Q, none⟩ = some (.string kQ) ∧ w'.cell? ⟨g2, Q, none⟩ = some (.int .i64 nQ) ∧ w'.cell? ⟨g, Z, none⟩ = some (.string kZ) ∧ w'.cell? ⟨g2, Z, none⟩ = some (.int .i64 nZ) from fun w' hb => by
    obtain ⟨a, b, d, e⟩ := HC.out w' hb
    rw [enP, enQ, enZ, ekP, ekQ, ekZ]
    exact ⟨a, b, d, (e P h2).1, (e P h2).2, (e Q h3).1, (e Q h3).2, (e Z (by omega)).1, (e Z (by omega)).2⟩)
  rw [← enP, ← ekP] at CS
  rw [← enQ, ← ekQ] at CF
  rw [← enZ, ← ekZ] at CB
  clear hn hl hZ
  clear enP enQ enZ ekP ekQ ekZ HC
  have i0 : (0 : Int) ≤ (P : Int) := by omega
  have i1 : (P : Int) < (n : Int) := by omega
  have i2 : (0 : Int) ≤ (Q : Int) := by omega
  have i3 : (Q : Int) < (n : Int) := by omega
  go_enter Try.func12, Try.ntmps12
  go_wp2_with (go_at_call 17; refine (CG.out _ B0.out).mono ?_; rintro e w1 ⟨rfl, hb⟩; have B1 := Lib.hid hb; clear hb)
  refine (CA.out _ B1.out).mono ?_
  rintro e w2 ⟨rfl, m2, hw2⟩
  have B2 := Lib.hid (show Below w.heap.size w w2 by rw [hw2]; exact B1.out.trans ⟨rfl, rfl, rfl, Nat.le_refl _, fun _ _ => rfl⟩)
  clear hw2
  obtain ⟨d0, d1, pl, e0, e1, e2, e3, e4, e5⟩ := HK.out _ B2.out
  go_wp2_with fail
  clear d0 d1 pl e0 e1 e2 e3 e4 e5
  refine (CS.out _ B2.out).mono ?_
  rintro e w3 ⟨rfl, hb⟩
  have B3 := Lib.hid (B2.out.trans (hb.mono B2.out.size))
  clear hb
  go_wp2_with fail
  refine (CF.out _ B3.out).mono ?_
  rintro e w4 ⟨rfl, hb⟩
  have B4 := Lib.hid (B3.out.trans (hb.mono B3.out.size))
  clear hb
  go_wp2_with fail
  refine (CB.out _ B4.out).mono ?_
  rintro e w5 ⟨rfl, hb⟩
  have B5 := Lib.hid (B4.out.trans (hb.mono B4.out.size))
  clear hb
  go_wp2_with fail
  refine (CX.out _ B5.out).mono ?_
  rintro e w6 ⟨rfl, m6, hw6⟩
  have B6 := Lib.hid (show Below w.heap.size w w6 by rw [hw6]; exact B5.out.trans ⟨rfl, rfl, rfl, Nat.le_refl _, fun _ _ => rfl⟩)
  clear hw6
  go_wp2_with fail
  refine (CY.out _ B6.out).mono ?_
  rintro e w7 ⟨rfl, m7, hw7⟩
  have B7 := Lib.hid (show Below w.heap.size w w7 by rw [hw7]; exact B6.out.trans ⟨rfl, rfl, rfl, Nat.le_refl _, fun _ _ => rfl⟩)
  clear hw7
  obtain ⟨d0, d1, pl, e0, e1, e2, e3, e4, e5⟩ := HK.out _ B7.out
  go_wp2_with fail
  have B8 := Lib.hid (B7.out.drew)
  go_region_with (go_at_call 19; refine (CL.out _ B8.out).mono ?_; rintro e w8 ⟨rfl, rfl⟩)
  all_goals go_wp2_with fail
  all_goals go_ret
  all_goals exact ⟨rfl, B8.out⟩

end Go.Proofs.Ytdcjckdhjfnnhaa

namespace Go.Proofs.Ytdcjckdhjfnnhaa
open Go.RowKit Go.Shelf

set_option maxRecDepth 100000 in
set_option maxHeartbeats 4000000 in
/-- told: the key is not there, one above, one not before -/
theorem told_e (w : World) (T : Nat) (E : Nat → Prop) (l : KV) (b p g c g2 c2 n P Q : Nat) (G : Nat → Prop) (k : ByteArray) (hR : Rep w T E l b) (hM : RefT w G p l) (hC : Cells w p g c g2 c2 n l) (hl : l.length ≤ 1000) (hs : ∀ x, x ∈ l → x.1.size ≤ 1000000)
    (hn : n = l.length) (hP : P = l.pos k) (hQ : Q = l.aft k) (h1 : l.has k = false) (h2 : P < n) (h3 : Q < n) (h4 : ¬ 0 < P) :
    Calls Try.prog 12 #[Ptr T, .pointer (some ⟨p, 0, none⟩), .string k] w fun e w' => e = .returned (.bool true) ∧ Below w.heap.size w w' := by
  have CG := Lib.hid (fun w' (hb : Below w.heap.size w w') => xGet w' T E l b k (hR.below hb) hl)
  have CA := Lib.hid (fun w' (hb : Below w.heap.size w w') => rAt p G l k w' (hM.below hb) (by omega))
  have CS := Lib.hid (fun w' (hb : Below w.heap.size w w') => xSeek w' T E l b k (hR.below hb) hl hs)
  have CF := Lib.hid (fun w' (hb : Below w.heap.size w w') => xAfter w' T E l b k (hR.below hb) hl hs)
  have CB := Lib.hid (fun w' (hb : Below w.heap.size w w') => xBefore w' T E l b k (hR.below hb) hl hs)
  have CX := Lib.hid (fun w' (hb : Below w.heap.size w w') => rFrom p G l k false w' (hM.below hb) (by omega))
  have CY := Lib.hid (fun w' (hb : Below w.heap.size w w') => rFrom p G l k true w' (hM.below hb) (by omega))
  have CL := Lib.hid (fun w' (hb : Below w.heap.size w w') => xLenR w' T E l b (hR.below hb))
  rw [h1, if_neg (by decide)] at CG
  rw [h1] at CA
  rw [← hP] at CA
  rw [← hP, ← hn] at CS
  rw [← hQ, ← hn] at CF
  rw [← hP] at CB
  rw [← hn] at CL
  simp only [Bool.false_eq_true, if_false, if_true, ← hP, ← hQ, ← hn] at CX CY
  simp only [if_pos h2, if_pos h3, if_neg h4, decide_eq_true h2, decide_eq_true h3, decide_eq_false h4] at CS CF CB CX CY
  have HC := Lib.hid hC
  have B0 := Lib.hid (Below.refl w.heap.size w)
  clear hR hM hC hs hP hQ h1
  obtain ⟨nP, enP⟩ : ∃ x, x = l.num P := ⟨_, rfl⟩
  obtain ⟨kP, ekP⟩ : ∃ x, x = l.key P := ⟨_, rfl⟩
  obtain ⟨nQ, enQ⟩ : ∃ x, x = l.num Q := ⟨_, rfl⟩
  obtain ⟨kQ, ekQ⟩ : ∃ x, x = l.key Q := ⟨_, rfl⟩
  have HK := Lib.hid (show ∀ w', Below w.heap.size w w' → w'.cell? ⟨p, 0, none⟩ = some (.slice (some ⟨g, 0, none⟩) n c) ∧ w'.cell? ⟨p, 1, none⟩ = some (.slice (some ⟨g2, 0, none⟩) n c2) ∧ p < w'.heap.size ∧ w'.cell? ⟨g, P, none⟩ = some (.string kP) ∧ w'.cell? ⟨g2, P, none⟩ = some (.int .i64 nP) ∧ w'.cell? ⟨g, Q, none⟩ = some (.string kQ) ∧ w'.cell? ⟨g2, Q, none⟩ = some (.int .i64 nQ) from fun w' hb => by
    obtain ⟨a, b, d, e⟩ := HC.out w' hb
    rw [enP, enQ, ekP, ekQ]
    exact ⟨a, b, d, (e P h2).1, (e P h2).2, (e Q h3).1, (e Q h3).2⟩)
  rw [← enP, ← ekP] at CS
  rw [← enQ, ← ekQ] at CF
  clear hn hl
  clear enP enQ ekP ekQ HC
  have i0 : (0 : Int) ≤ (P : Int) := by omega
  have i1 : (P : Int) < (n : Int) := by omega
  have i2 : (0 : Int) ≤ (Q : Int) := by omega
  have i3 : (Q : Int) < (n : Int) := by omega
  go_enter Try.func12, Try.ntmps12
  go_wp2_with (go_at_call 17; refine (CG.out _ B0.out).mono ?_; rintro e w1 ⟨rfl, hb⟩; have B1 := Lib.hid hb; clear hb)
  refine (CA.out _ B1.out).mono ?_
  rintro e w2 ⟨rfl, m2, hw2⟩
  have B2 := Lib.hid (show Below w.heap.size w w2 by rw [hw2]; exact B1.out.trans ⟨rfl, rfl, rfl, Nat.le_refl _, fun _ _ => rfl⟩)
  clear hw2
  obtain ⟨d0, d1, pl, e0, e1, e2, e3⟩ := HK.out _ B2.out
  go_wp2_with fail
  clear d0 d1 pl e0 e1 e2 e3
  refine (CS.out _ B2.out).mono ?_
  rintro e w3 ⟨rfl, hb⟩
  have B3 := Lib.hid (B2.out.trans (hb.mono B2.out.size))
  clear hb
  go_wp2_with fail
  refine (CF.out _ B3.out).mono ?_
  rintro e w4 ⟨rfl, hb⟩
  have B4 := Lib.hid (B3.out.trans (hb.mono B3.out.size))
  clear hb
  go_wp2_with fail
  refine (CB.out _ B4.out).mono ?_
  rintro e w5 ⟨rfl, hb⟩
  have B5 := Lib.hid (B4.out.trans (hb.mono B4.out.size))
  clear hb
  go_wp2_with fail
  refine (CX.out _ B5.out).mono ?_
  rintro e w6 ⟨rfl, m6, hw6⟩
  have B6 := Lib.hid (show Below w.heap.size w w6 by rw [hw6]; exact B5.out.trans ⟨rfl, rfl, rfl, Nat.le_refl _, fun _ _ => rfl⟩)
  clear hw6
  go_wp2_with fail
  refine (CY.out _ B6.out).mono ?_
  rintro e w7 ⟨rfl, m7, hw7⟩
  have B7 := Lib.hid (show Below w.heap.size w w7 by rw [hw7]; exact B6.out.trans ⟨rfl, rfl, rfl, Nat.le_refl _, fun _ _ => rfl⟩)
  clear hw7
  obtain ⟨d0, d1, pl, e0, e1, e2, e3⟩ := HK.out _ B7.out
  go_wp2_with fail
  have B8 := Lib.hid (B7.out.drew)
  go_region_with (go_at_call 19; refine (CL.out _ B8.out).mono ?_; rintro e w8 ⟨rfl, rfl⟩)
  all_goals go_wp2_with fail
  all_goals go_ret
  all_goals exact ⟨rfl, B8.out⟩

end Go.Proofs.Ytdcjckdhjfnnhaa

namespace Go.Proofs.Ytdcjckdhjfnnhaa
open Go.RowKit Go.Shelf

set_option maxRecDepth 100000 in
set_option maxHeartbeats 4000000 in
/-- told: the key is not there, one not above, one before -/
theorem told_f (w : World) (T : Nat) (E : Nat → Prop) (l : KV) (b p g c g2 c2 n P Q : Nat) (G : Nat → Prop) (k : ByteArray) (hR : Rep w T E l b) (hM : RefT w G p l) (hC : Cells w p g c g2 c2 n l) (hl : l.length ≤ 1000) (hs : ∀ x, x ∈ l → x.1.size ≤ 1000000)
    (hn : n = l.length) (hP : P = l.pos k) (hQ : Q = l.aft k) (hPn : P ≤ n) (h1 : l.has k = false) (h2 : ¬ P < n) (h3 : ¬ Q < n) (h4 : 0 < P) :
    Calls Try.prog 12 #[Ptr T, .pointer (some ⟨p, 0, none⟩), .string k] w fun e w' => e = .returned (.bool true) ∧ Below w.heap.size w w' := by
  have CG := Lib.hid (fun w' (hb : Below w.heap.size w w') => xGet w' T E l b k (hR.below hb) hl)
  have CA := Lib.hid (fun w' (hb : Below w.heap.size w w') => rAt p G l k w' (hM.below hb) (by omega))
  have CS := Lib.hid (fun w' (hb : Below w.heap.size w w') => xSeek w' T E l b k (hR.below hb) hl hs)
  have CF := Lib.hid (fun w' (hb : Below w.heap.size w w') => xAfter w' T E l b k (hR.below hb) hl hs)
  have CB := Lib.hid (fun w' (hb : Below w.heap.size w w') => xBefore w' T E l b k (hR.below hb) hl hs)
  have CX := Lib.hid (fun w' (hb : Below w.heap.size w w') => rFrom p G l k false w' (hM.below hb) (by omega))
  have CY := Lib.hid (fun w' (hb : Below w.heap.size w w') => rFrom p G l k true w' (hM.below hb) (by omega))
  have CL := Lib.hid (fun w' (hb : Below w.heap.size w w') => xLenR w' T E l b (hR.below hb))
  rw [h1, if_neg (by decide)] at CG
  rw [h1] at CA
  rw [← hP] at CA
  rw [← hP, ← hn] at CS
  rw [← hQ, ← hn] at CF
  rw [← hP] at CB
  rw [← hn] at CL
  simp only [Bool.false_eq_true, if_false, if_true, ← hP, ← hQ, ← hn] at CX CY
  simp only [if_neg h2, if_neg h3, if_pos h4, decide_eq_false h2, decide_eq_false h3, decide_eq_true h4] at CS CF CB CX CY
  have HC := Lib.hid hC
  have B0 := Lib.hid (Below.refl w.heap.size w)
  clear hR hM hC hs hP hQ h1
  obtain ⟨Z, hZ⟩ : ∃ Z, Z = P - 1 := ⟨_, rfl⟩
  have i4 : wrap64 ((P : Int) - 1) = (Z : Int) := by
    rw [show (P : Int) - 1 = (Z : Int) by omega]
    have : (Z : Int) ≤ 1000 := by omega
    first | exact wrap64_small (by omega) (by omega) | (unfold wrap64; omega) | (simp only [wrap64, IntKind.wrap_i64]; omega)
  have i5 : (0 : Int) ≤ (Z : Int) := by omega
  have i6 : (Z : Int) < (n : Int) := by omega
  rw [← hZ] at CB
  obtain ⟨nZ, enZ⟩ : ∃ x, x = l.num Z := ⟨_, rfl⟩
  obtain ⟨kZ, ekZ⟩ : ∃ x, x = l.key Z := ⟨_, rfl⟩
  have HK := Lib.hid (show ∀ w', Below w.heap.size w w' → w'.cell? ⟨p, 0, none⟩ = some (.slice (some ⟨g, 0, none⟩) n c) ∧ w'.cell? ⟨p, 1, none⟩ = some (.slice (some ⟨g2, 0, none⟩) n c2) ∧ p < w'.heap.size ∧ w'.cell? ⟨g, Z, none⟩ = some (.string kZ) ∧ w'.cell? ⟨g2, Z, none⟩ = some (.int .i64 nZ) from fun w' hb => by
    obtain ⟨a, b, d, e⟩ := HC.out w' hb
    rw [enZ, ekZ]
    exact ⟨a, b, d, (e Z (by omega)).1, (e Z (by omega)).2⟩)
  rw [← enZ, ← ekZ] at CB
  clear hn hl hZ
  clear enZ ekZ HC
  have i0 : (0 : Int) ≤ (P : Int) := by omega
  have i2 : (0 : Int) ≤ (Q : Int) := by omega
  go_enter Try.func12, Try.ntmps12
  go_wp2_with (go_at_call 17; refine (CG.out _ B0.out).mono ?_; rintro e w1 ⟨rfl, hb⟩; have B1 := Lib.hid hb; clear hb)
  refine (CA.out _ B1.out).mono ?_
  rintro e w2 ⟨rfl, m2, hw2⟩
  have B2 := Lib.hid (show Below w.heap.size w w2 by rw [hw2]; exact B1.out.trans ⟨rfl, rfl, rfl, Nat.le_refl _, fun _ _ => rfl⟩)
  clear hw2
  obtain ⟨d0, d1, pl, e0, e1⟩ := HK.out _ B2.out
  go_wp2_with fail
  clear d0 d1 pl e0 e1
  refine (CS.out _ B2.out).mono ?_
  rintro e w3 ⟨rfl, hb⟩
  have B3 := Lib.hid (B2.out.trans (hb.mono B2.out.size))
  clear hb
  go_wp2_with fail
  refine (CF.out _ B3.out).mono ?_
  rintro e w4 ⟨rfl, hb⟩
  have B4 := Lib.hid (B3.out.trans (hb.mono B3.out.size))
  clear hb
  go_wp2_with fail
  refine (CB.out _ B4.out).mono ?_
  rintro e w5 ⟨rfl, hb⟩
  have B5 := Lib.hid (B4.out.trans (hb.mono B4.out.size))
  clear hb
  go_wp2_with fail
  refine (CX.out _ B5.out).mono ?_
  rintro e w6 ⟨rfl, m6, hw6⟩
  have B6 := Lib.hid (show Below w.heap.size w w6 by rw [hw6]; exact B5.out.trans ⟨rfl, rfl, rfl, Nat.le_refl _, fun _ _ => rfl⟩)
  clear hw6
  go_wp2_with fail
  refine (CY.out _ B6.out).mono ?_
  rintro e w7 ⟨rfl, m7, hw7⟩
  have B7 := Lib.hid (show Below w.heap.size w w7 by rw [hw7]; exact B6.out.trans ⟨rfl, rfl, rfl, Nat.le_refl _, fun _ _ => rfl⟩)
  clear hw7
  obtain ⟨d0, d1, pl, e0, e1⟩ := HK.out _ B7.out
  go_wp2_with fail
  have B8 := Lib.hid (B7.out.drew)
  go_region_with (go_at_call 19; refine (CL.out _ B8.out).mono ?_; rintro e w8 ⟨rfl, rfl⟩)
  all_goals go_wp2_with fail
  all_goals go_ret
  all_goals exact ⟨rfl, B8.out⟩

end Go.Proofs.Ytdcjckdhjfnnhaa
