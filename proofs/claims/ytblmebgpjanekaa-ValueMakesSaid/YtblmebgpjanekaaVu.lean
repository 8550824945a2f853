/- cloisonneref04: Unpack, Compare: walked. -/
import Derived.Test.YtblmebgpjanekaaVr
import Derived.Deep.RegionHeld3
import Derived.BigQuiet
namespace Go.Proofs.Ytblmebgpjanekaa
open Go.RowKit

theorem head_eq (s : ByteArray) (h : 0 < s.size) : s[0] = Val.head s := byte_at s 0 h
theorem byte_is {c : UInt8} (n : Nat) (hn : n < 256) (h : c = UInt8.ofNat n) : ((c.toNat : Int) == (n : Int)) = true := by
  subst h; rw [beq_iff_eq]; simp; omega
theorem byte_isnt {c : UInt8} (n : Nat) (hn : n < 256) (h : c ≠ UInt8.ofNat n) : ((c.toNat : Int) == (n : Int)) = false := by
  rw [beq_eq_false_iff_ne]; intro e; apply h; apply UInt8.toNat_inj.1; simp; omega

set_option maxRecDepth 100000 in
set_option maxHeartbeats 1000000 in
/-- cloisonneref04.Unpack -/
theorem vrUnpack (s : ByteArray) (w : World) (hs : s.size ≤ 1099511627776) : Calls Try.prog 14 #[.string s] w fun e w' => e = .returned (.tuple #[(Val.un s).2.v, .int .i64 (Val.un s).1]) ∧ Below w.heap.size w w' := by
  by_cases h0 : s.size = 0
  · have R := Lib.hid (show Val.un s = (3, Val.V0) by unfold Val.un; rw [if_pos h0])
    have T0 : ((s.size : Int) == 0) = true := by rw [beq_iff_eq]; omega
    go_enter Try.func14, Try.ntmps14
    go_wp2_with fail
    refine bodyPost_ret (v := .tuple #[.agg #[.bool false, .string ⟨#[]⟩, .int .u64 0], .int .i64 3]) (by simp [results, Try.results14, go_sem]) rfl ?_
    exact ⟨by rw [R.out]; rfl, (Below.refl w.heap.size w).alloc (Nat.le_refl _) _⟩
  have T0 : ((s.size : Int) == 0) = false := by rw [beq_eq_false_iff_ne]; omega
  have hp : 0 < s.size := by omega
  obtain ⟨c, hc⟩ : ∃ c, s[0] = c := ⟨_, rfl⟩
  have hh : Val.head s = c := by rw [← head_eq s hp, hc]
  have hrs : ∀ r, s.extract 1 r = s.extract 1 r := fun _ => rfl
  obtain ⟨r, hr⟩ : ∃ r, r = Val.rest s := ⟨_, rfl⟩
  have hr1 : r.size + 1 = s.size := by rw [hr]; exact Val.rest_size h0
  by_cases c0 : c = 0
  · have TC : ((c.toNat : Int) == 0) = true := byte_is 0 (by omega) c0
    by_cases h65 : s.size ≤ 65
    · have R := Lib.hid (show Val.un s = (0, Val.text (Val.rest s)) by unfold Val.un; rw [if_neg h0, if_pos ⟨hh.trans c0, h65⟩])
      clear c0 hh h0
      go_enter Try.func14, Try.ntmps14
      go_wp2_with fail
      refine bodyPost_ret (v := .tuple #[.agg #[.bool false, .string (s.extract 1 s.size), .int .u64 0], .int .i64 0]) (by simp [results, Try.results14, go_sem]) rfl ?_
      exact ⟨by rw [R.out]; rfl, (Below.refl w.heap.size w).alloc (Nat.le_refl _) _⟩
    · have c1 : ¬ c = 1 := by rw [c0]; decide
      have R := Lib.hid (show Val.un s = (4, Val.V0) by unfold Val.un; rw [if_neg h0, if_neg (fun k => h65 k.2), if_neg (fun k => c1 (hh.symm.trans k.1))])
      have TC1 : ((c.toNat : Int) == 1) = false := byte_isnt 1 (by omega) c1
      clear c0 hh h0 c1
      go_enter Try.func14, Try.ntmps14
      go_wp2_with fail
      refine bodyPost_ret (v := .tuple #[.agg #[.bool false, .string ⟨#[]⟩, .int .u64 0], .int .i64 4]) (by simp [results, Try.results14, go_sem]) rfl ?_
      exact ⟨by rw [R.out]; rfl, (Below.refl w.heap.size w).alloc (Nat.le_refl _) _⟩
  have TC : ((c.toNat : Int) == 0) = false := byte_isnt 0 (by omega) c0
  by_cases c1 : c = 1
  case neg =>
    have R := Lib.hid (show Val.un s = (4, Val.V0) by unfold Val.un; rw [if_neg h0, if_neg (fun k => c0 (hh.symm.trans k.1)), if_neg (fun k => c1 (hh.symm.trans k.1))])
    have TC1 : ((c.toNat : Int) == 1) = false := byte_isnt 1 (by omega) c1
    clear c0 hh h0 c1
    go_enter Try.func14, Try.ntmps14
    go_wp2_with fail
    refine bodyPost_ret (v := .tuple #[.agg #[.bool false, .string ⟨#[]⟩, .int .u64 0], .int .i64 4]) (by simp [results, Try.results14, go_sem]) rfl ?_
    exact ⟨by rw [R.out]; rfl, (Below.refl w.heap.size w).alloc (Nat.le_refl _) _⟩
  have TC1 : ((c.toNat : Int) == 1) = true := byte_is 1 (by omega) c1
  have HEX := Lib.hid (show s.extract 1 s.size = r from hr.symm)
  have RN := Lib.hid (show Val.un s = if s.size = 9 ∧ unOk r = true then (0, Val.number (unB r)) else (4, Val.V0) by
    unfold Val.un
    rw [if_neg h0, if_neg (fun k => c0 (hh.symm.trans k.1)), hr]
    by_cases k : s.size = 9 ∧ unOk (Val.rest s) = true
    · rw [if_pos ⟨hh.trans c1, k⟩, if_pos k]
    · rw [if_neg (fun q => k q.2), if_neg k])
  clear c0 hh h0 c1 hr hrs
  by_cases h9 : r.size = 8
  · have UK := Lib.hid (runkey r h9)
    cases hk : unOk r with
    | false =>
      have R := Lib.hid (show Val.un s = (4, Val.V0) by rw [RN.out, if_neg (fun k => by rw [hk] at k; cases k.2)])
      have HK := Lib.hid hk
      clear hk h9 hr1
      go_enter Try.func14, Try.ntmps14
      go_wp2_with fail
      rw [HEX.out]
      refine (UK.out _).mono ?_
      rintro e w1 ⟨rfl, rfl⟩
      rw [HK.out]
      go_wp2_with fail
      refine bodyPost_ret (v := .tuple #[.agg #[.bool false, .string ⟨#[]⟩, .int .u64 0], .int .i64 4]) (by simp [results, Try.results14, go_sem]) rfl ?_
      exact ⟨by rw [R.out]; rfl, (Below.refl w.heap.size w).alloc (Nat.le_refl _) _⟩
    | true =>
      have R := Lib.hid (show Val.un s = (0, Val.number (unB r)) by rw [RN.out, if_pos ⟨by omega, hk⟩])
      obtain ⟨b, hb⟩ : ∃ b, b = unB r := ⟨_, rfl⟩
      have FB := Lib.hid (rbits b (fits_small b (by rw [hb]; exact Val.unB_lt r)))
      have HK := Lib.hid hk
      have HB := Lib.hid hb
      clear hk h9 hr1 hb
      go_enter Try.func14, Try.ntmps14
      go_wp2_with fail
      rw [HEX.out]
      refine (UK.out _).mono ?_
      rintro e w1 ⟨rfl, rfl⟩
      rw [HK.out, ← HB.out]
      go_wp2_with fail
      refine (FB.out _).mono ?_
      rintro e w1 ⟨rfl, rfl⟩
      go_wp2_with fail
      refine bodyPost_ret (v := .tuple #[.agg #[.bool true, .string ⟨#[]⟩, .int .u64 (Fl.bitsOf b : Nat)], .int .i64 0]) (by simp [results, Try.results14, go_sem]) rfl ?_
      exact ⟨by rw [R.out, ← HB.out]; rfl, (Below.refl w.heap.size w).alloc (Nat.le_refl _) _⟩
  · have UK := Lib.hid (runkey_len r h9)
    have R := Lib.hid (show Val.un s = (4, Val.V0) by rw [RN.out, if_neg (fun k => by have := k.1; omega)])
    clear h9 hr1
    go_enter Try.func14, Try.ntmps14
    go_wp2_with fail
    rw [HEX.out]
    refine (UK.out _).mono ?_
    rintro e w1 ⟨rfl, rfl⟩
    go_wp2_with fail
    refine bodyPost_ret (v := .tuple #[.agg #[.bool false, .string ⟨#[]⟩, .int .u64 0], .int .i64 4]) (by simp [results, Try.results14, go_sem]) rfl ?_
    exact ⟨by rw [R.out]; rfl, (Below.refl w.heap.size w).alloc (Nat.le_refl _) _⟩

set_option maxRecDepth 100000 in
set_option maxHeartbeats 1000000 in
/-- cloisonneref04.Compare -/
theorem vrCompare (x y : Val) (w : World) (hx : x.Fits) (hy : y.Fits) : Calls Try.prog 22 #[x.v, y.v] w fun e w' => e = .returned (.int .i64 (Val.cmp x y)) ∧ Below w.heap.size w w' := by
  obtain ⟨n, t, b⟩ := x
  obtain ⟨m, u, d⟩ := y
  have hb : b < 18446744073709551616 := hx.1
  have hd : d < 18446744073709551616 := hy.1
  have FB := Lib.hid (fits_small b hb)
  have FD := Lib.hid (fits_small d hd)
  have B0 := Lib.hid (((Below.refl w.heap.size w).alloc (Nat.le_refl _) (.cells #[.bool n, .string t, .int .u64 (b : Int)] 24)).alloc (by simp) (.cells #[.bool m, .string u, .int .u64 (d : Int)] 24))
  show Calls Try.prog 22 #[.agg #[.bool n, .string t, .int .u64 (b : Int)], .agg #[.bool m, .string u, .int .u64 (d : Int)]] w _
  have bn : ((b : Int)).toNat = b := by omega
  have dn : ((d : Int)).toNat = d := by omega
  clear hx hy hb hd
  cases n <;> cases m
  · have R := Lib.hid (show Val.cmp ⟨false, t, b⟩ ⟨false, u, d⟩ = (if Op.bytesLess t.toList u.toList then -1 else if Op.bytesLess u.toList t.toList then 1 else 0) from rfl)
    cases h1 : Op.bytesLess t.toList u.toList with
    | true =>
      have R1 := Lib.hid (show Val.cmp ⟨false, t, b⟩ ⟨false, u, d⟩ = -1 by rw [R.out, h1]; rfl)
      go_enter Try.func22, Try.ntmps22
      go_wp2_with fail
      go_ret
      exact ⟨ret_int R1.out.symm, B0.out⟩
    | false =>
      cases h2 : Op.bytesLess u.toList t.toList with
      | true =>
        have R1 := Lib.hid (show Val.cmp ⟨false, t, b⟩ ⟨false, u, d⟩ = 1 by rw [R.out, h1, h2]; rfl)
        have NE := (Val.less_ne h2).2
        go_enter Try.func22, Try.ntmps22
        go_wp2_with fail
        go_ret
        exact ⟨ret_int R1.out.symm, B0.out⟩
      | false =>
        have R1 := Lib.hid (show Val.cmp ⟨false, t, b⟩ ⟨false, u, d⟩ = 0 by rw [R.out, h1, h2]; rfl)
        have NE : (t.toList == u.toList) = true := by rw [Val.less_total _ _ h1 h2]; simp
        go_enter Try.func22, Try.ntmps22
        go_wp2_with fail
        go_ret
        exact ⟨ret_int R1.out.symm, B0.out⟩
  · have R1 := Lib.hid (show Val.cmp ⟨false, t, b⟩ ⟨true, u, d⟩ = -1 from rfl)
    go_enter Try.func22, Try.ntmps22
    go_wp2_with fail
    go_ret
    exact ⟨ret_int R1.out.symm, B0.out⟩
  · have R1 := Lib.hid (show Val.cmp ⟨true, t, b⟩ ⟨false, u, d⟩ = 1 from rfl)
    go_enter Try.func22, Try.ntmps22
    go_wp2_with fail
    go_ret
    exact ⟨ret_int R1.out.symm, B0.out⟩
  · have R := Lib.hid (show Val.cmp ⟨true, t, b⟩ ⟨true, u, d⟩ = (if Fl.place b < Fl.place d then -1 else if Fl.place d < Fl.place b then 1 else 0) from rfl)
    have L1 := Lib.hid (rless b d FB.out FD.out)
    have L2 := Lib.hid (rless d b FD.out FB.out)
    go_enter Try.func22, Try.ntmps22
    go_wp2_with fail
    go_quiet (fail)
    go_wp2_with fail
    refine (L1.out _).mono ?_
    rintro e w1 ⟨rfl, rfl⟩
    by_cases h1 : Fl.place b < Fl.place d
    · have R1 := Lib.hid (show Val.cmp ⟨true, t, b⟩ ⟨true, u, d⟩ = -1 by rw [R.out, if_pos h1])
      rw [decide_eq_true h1]
      go_wp2_with fail
      go_ret
      exact ⟨ret_int R1.out.symm, below_drewN B0.out _⟩
    rw [decide_eq_false h1]
    go_wp2_with fail
    refine (L2.out _).mono ?_
    rintro e w1 ⟨rfl, rfl⟩
    by_cases h2 : Fl.place d < Fl.place b
    · have R1 := Lib.hid (show Val.cmp ⟨true, t, b⟩ ⟨true, u, d⟩ = 1 by rw [R.out, if_neg h1, if_pos h2])
      rw [decide_eq_true h2]
      go_wp2_with fail
      go_ret
      exact ⟨ret_int R1.out.symm, below_drewN B0.out _⟩
    · have R1 := Lib.hid (show Val.cmp ⟨true, t, b⟩ ⟨true, u, d⟩ = 0 by rw [R.out, if_neg h1, if_neg h2])
      rw [decide_eq_false h2]
      go_wp2_with fail
      go_ret
      exact ⟨ret_int R1.out.symm, below_drewN B0.out _⟩

/-- at g lies the value in a box -/
structure BoxV (w : World) (g : Nat) (n : Bool) (t : ByteArray) (b : Nat) : Prop where
  c0 : w.cell? ⟨g, 0, none⟩ = some (.bool n)
  c1 : w.cell? ⟨g, 1, none⟩ = some (.string t)
  c2 : w.cell? ⟨g, 2, none⟩ = some (.int .u64 (b : Int))
theorem BoxV.below {w w' : World} {g : Nat} {n : Bool} {t : ByteArray} {b : Nat} (h : BoxV w g n t b) (hb : Below w.heap.size w w') : BoxV w' g n t b :=
  ⟨vbelow_cellOf hb h.c0 (Nat.le_refl _), vbelow_cellOf hb h.c1 (Nat.le_refl _), vbelow_cellOf hb h.c2 (Nat.le_refl _)⟩
theorem BoxV.new (w : World) (n : Bool) (t : ByteArray) (b : Nat) (ty : TypeId) : BoxV (w.alloc (.cells #[.bool n, .string t, .int .u64 (b : Int)] ty)) w.heap.size n t b := by
  refine ⟨?_, ?_, ?_⟩ <;> (rw [World.cell?_alloc_at _ _ _ _ rfl]; rfl)
theorem BoxV.drew {w : World} {g : Nat} {n : Bool} {t : ByteArray} {b : Nat} (h : BoxV w g n t b) : BoxV w.drew g n t b := ⟨h.c0, h.c1, h.c2⟩

end Go.Proofs.Ytblmebgpjanekaa
