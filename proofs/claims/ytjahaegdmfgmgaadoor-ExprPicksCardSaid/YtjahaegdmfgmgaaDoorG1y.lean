/- ExprPicks: walked. -/
import Derived.Test.YtjahaegdmfgmgaaDoorG1l
namespace Go.Proofs.YtjahaegdmfgmgaaDoor.exprPicks
open Go.Proofs.YtjahaegdmfgmgaaDoor Go.Joins Go.ChangeShapes Go.WideShapes Go.ChangeAt Go.RowKit Ex Fl

theorem b00 : bitsOf 0 = 0 := by decide
theorem isC_num {a : Nat} (h : bitsOf a = a) : isC ⟨2, a⟩ = true := (isC_iff _).2 ⟨by show (1 : Int) ≤ 2; decide, by show (2 : Int) ≤ 16; decide, .inl rfl, h⟩
theorem isC_op {op : Int} (h1 : 1 ≤ op) (h2 : op ≤ 16) : isC ⟨op, 0⟩ = true := (isC_iff _).2 ⟨h1, h2, .inr rfl, b00⟩
theorem stp_num (a x : Nat) (s : List Nat) (h : s.length ≤ 7) : stp ⟨2, a⟩ x s = some (s ++ [a]) := by
  have hb : ¬ bad 2 s.length := by
    unfold bad
    rw [show tk 2 = 0 from rfl, show pt 2 = 1 from rfl]; omega
  unfold stp
  rw [if_neg hb]
  show (some [a]).map (s.take (s.length - 0) ++ ·) = _
  rw [Nat.sub_zero, List.take_of_length_le (Nat.le_refl _)]; rfl
theorem run7 {a b : Nat} (ha : bitsOf a = a) (hb : bitsOf b = b) : runV [⟨2, a⟩, ⟨2, b⟩, ⟨7, 0⟩] 0 = (if place b < place a then b else a, 0) := by
  have hr : right [⟨2, a⟩, ⟨2, b⟩, ⟨7, 0⟩] = true := by
    unfold right
    simp [isC_num ha, isC_num hb, isC_op (op := 7) (by decide) (by decide)]
  have hg : go 0 [⟨2, a⟩, ⟨2, b⟩, ⟨7, 0⟩] [] = ([if place b < place a then b else a], 3) := by
    rw [go_some (stp_num a 0 [] (by decide)), go_some (stp_num b 0 _ (by simp)), go_some (t := [if place b < place a then b else a]) rfl]
    rfl
  unfold runV
  rw [hr, hg]; rfl
theorem run8 {a b : Nat} (ha : bitsOf a = a) (hb : bitsOf b = b) : runV [⟨2, a⟩, ⟨2, b⟩, ⟨8, 0⟩] 0 = (if place a < place b then b else a, 0) := by
  have hr : right [⟨2, a⟩, ⟨2, b⟩, ⟨8, 0⟩] = true := by
    unfold right
    simp [isC_num ha, isC_num hb, isC_op (op := 8) (by decide) (by decide)]
  have hg : go 0 [⟨2, a⟩, ⟨2, b⟩, ⟨8, 0⟩] [] = ([if place a < place b then b else a], 3) := by
    rw [go_some (stp_num a 0 [] (by decide)), go_some (stp_num b 0 _ (by simp)), go_some (t := [if place a < place b then b else a]) rfl]
    rfl
  unfold runV
  rw [hr, hg]; rfl
theorem run16 {a b c : Nat} (ha : bitsOf a = a) (hb : bitsOf b = b) (hc : bitsOf c = c) : runV [⟨2, a⟩, ⟨2, b⟩, ⟨2, c⟩, ⟨16, 0⟩] 0 = (if pos c then a else b, 0) := by
  have hr : right [⟨2, a⟩, ⟨2, b⟩, ⟨2, c⟩, ⟨16, 0⟩] = true := by
    unfold right
    simp [isC_num ha, isC_num hb, isC_num hc, isC_op (op := 16) (by decide) (by decide)]
  have hg : go 0 [⟨2, a⟩, ⟨2, b⟩, ⟨2, c⟩, ⟨16, 0⟩] [] = ([if pos c then a else b], 4) := by
    rw [go_some (stp_num a 0 [] (by decide)), go_some (stp_num b 0 _ (by simp)), go_some (stp_num c 0 _ (by simp)), go_some (t := [if pos c then a else b]) rfl]
    rfl
  unfold runV
  rw [hr, hg]; rfl
theorem most_eq {a b : Nat} (fa : Fits a) (fb : Fits b) (ha : bitsOf a = a) (hb : bitsOf b = b) : (if place a < place b then b else a) = if place b < place a then a else b := by
  rcases Nat.lt_trichotomy (place a) (place b) with h | h | h
  · rw [if_pos h, if_neg (by omega)]
  · have e : a = b := by rw [← ha, ← hb, ← atB_place fa, ← atB_place fb, h]
    rw [e]
  · rw [if_neg (by omega), if_pos h]

set_option maxRecDepth 100000 in
set_option maxHeartbeats 2000000 in
theorem walk (a0 b0 c0 : Nat) (w : World) (fa0 : Fits a0) (fb0 : Fits b0) (fc0 : Fits c0) (ht : TabH w) :
    Calls Tryd.prog 6 #[.int .u64 (a0 : Int), .int .u64 (b0 : Int), .int .u64 (c0 : Int)] w fun e w' => e = .returned (.bool true) ∧ Below w.heap.size w w' := by
  have AW := Lib.hid (awake14 w ht)
  have BA := Lib.hid (rbits a0 fa0)
  have BB := Lib.hid (rbits b0 fb0)
  have BC := Lib.hid (rbits c0 fc0)
  have fa := bitsOf_fits fa0
  have fb := bitsOf_fits fb0
  have fc := bitsOf_fits fc0
  have ha := bits_bits a0
  have hb := bits_bits b0
  have hc := bits_bits c0
  obtain ⟨a, hae⟩ : ∃ a, a = bitsOf a0 := ⟨_, rfl⟩
  obtain ⟨b, hbe⟩ : ∃ a, a = bitsOf b0 := ⟨_, rfl⟩
  obtain ⟨c, hce⟩ : ∃ a, a = bitsOf c0 := ⟨_, rfl⟩
  rw [← hae] at fa
  rw [← hbe] at fb
  rw [← hce] at fc
  simp only [← hae] at ha BA
  simp only [← hbe] at hb BB
  simp only [← hce] at hc BC
  have LS := Lib.hid (rless b a fb fa)
  have CL := Lib.hid (rclass c fc)
  have PC := pos_cls fc
  have K7 := Lib.hid (fun W (hb' : Below w.heap.size w W) => xRun [⟨2, a⟩, ⟨2, b⟩, ⟨7, 0⟩] 0 _ 3 _ (slC_new W [⟨2, a⟩, ⟨2, b⟩, ⟨7, 0⟩] 42) (fun x hx => by simp at hx; rcases hx with rfl | rfl | rfl; exact fa; exact fb; exact fit_small (by decide)) (by simp [maxLen]) (fit_small (by decide)) (ht.bel (hb'.alloc hb'.size _)))
  have K8 := Lib.hid (fun W (hb' : Below w.heap.size w W) => xRun [⟨2, a⟩, ⟨2, b⟩, ⟨8, 0⟩] 0 _ 3 _ (slC_new W [⟨2, a⟩, ⟨2, b⟩, ⟨8, 0⟩] 42) (fun x hx => by simp at hx; rcases hx with rfl | rfl | rfl; exact fa; exact fb; exact fit_small (by decide)) (by simp [maxLen]) (fit_small (by decide)) (ht.bel (hb'.alloc hb'.size _)))
  have K9 := Lib.hid (fun W (hb' : Below w.heap.size w W) => xRun [⟨2, a⟩, ⟨2, b⟩, ⟨2, c⟩, ⟨16, 0⟩] 0 _ 4 _ (slC_new W [⟨2, a⟩, ⟨2, b⟩, ⟨2, c⟩, ⟨16, 0⟩] 42) (fun x hx => by simp at hx; rcases hx with rfl | rfl | rfl | rfl; exact fa; exact fb; exact fc; exact fit_small (by decide)) (by simp [maxLen]) (fit_small (by decide)) (ht.bel (hb'.alloc hb'.size _)))
  simp only [run7 ha hb] at K7
  simp only [run8 ha hb, most_eq fa fb ha hb] at K8
  simp only [run16 ha hb hc] at K9
  obtain ⟨D, hD⟩ : ∃ D, D = decide (place b < place a) := ⟨_, rfl⟩
  have i7 : (if place b < place a then b else a) = if D = true then b else a := by rw [hD]; simp
  have i8 : (if place b < place a then a else b) = if D = true then a else b := by rw [hD]; simp
  simp only [i7] at K7
  simp only [i8] at K8
  rw [← hD] at LS
  obtain ⟨F, hF⟩ : ∃ F, F = pos c := ⟨_, rfl⟩
  simp only [← hF] at K9
  rw [← hF] at PC
  obtain ⟨k, hk⟩ : ∃ k, k = Fl.cls c := ⟨_, rfl⟩
  rw [← hk] at PC CL
  clear ht fa0 fb0 fc0 fa fb fc ha hb hc hae hbe hce hD i7 i8 hF hk
  cases D <;> cases F
  all_goals
    simp only [Bool.false_eq_true, if_false, if_true] at K7 K8 K9
    go_enter Tryd.func6, Tryd.ntmps6
    go_wp2_with fail
    refine AW.out.mono ?_
    rintro e w1 ⟨rfl, hb1⟩
    have B1 := Lib.hid hb1
    clear hb1
    go_wp2_with fail
    refine (BA.out _).mono ?_
    rintro e w' ⟨rfl, rfl⟩
    go_wp2_with fail
    refine (BB.out _).mono ?_
    rintro e w' ⟨rfl, rfl⟩
    go_wp2_with fail
    refine (BC.out _).mono ?_
    rintro e w' ⟨rfl, rfl⟩
    go_wp2_with fail
    refine (LS.out _).mono ?_
    rintro e w' ⟨rfl, rfl⟩
    go_wp2_with fail
    refine (CL.out _).mono ?_
    rintro e w' ⟨rfl, rfl⟩
    go_wp2_with fail
    refine (K7.out _ B1.out).mono ?_
    rintro e w2 ⟨rfl, hb2⟩
    have B2 := Lib.hid (below_then B1.out (below_then ((Below.refl w1.heap.size w1).alloc (Nat.le_refl _) _) hb2))
    clear hb2
    go_wp2_with fail
    refine (K8.out _ B2.out).mono ?_
    rintro e w3 ⟨rfl, hb3⟩
    have B3 := Lib.hid (below_then B2.out (below_then ((Below.refl w2.heap.size w2).alloc (Nat.le_refl _) _) hb3))
    clear hb3
    go_wp2_with fail
    refine (K9.out _ B3.out).mono ?_
    rintro e w4 ⟨rfl, hb4⟩
    have B4 := Lib.hid (below_then B3.out (below_then ((Below.refl w3.heap.size w3).alloc (Nat.le_refl _) _) hb4))
    clear hb4
    go_wp2_with fail
    go_ret
    exact ⟨rfl, B4.out⟩

end Go.Proofs.YtjahaegdmfgmgaaDoor.exprPicks
