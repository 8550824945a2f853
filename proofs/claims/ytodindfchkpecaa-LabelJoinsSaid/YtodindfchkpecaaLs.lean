/- What the functions that look for a place, and that compare, answer, walked. -/
import Derived.Test.YtodindfchkpecaaLr
namespace Go.Proofs.Ytodindfchkpecaa
open Go.RowKit

/-- cmp.isNaN at uint64 -/
theorem cnan (x : Int) (w : World) : Calls Try.prog 51 #[.int .u64 x] w fun e w' => e = .returned (.bool false) ∧ w = w' := by
  have T : (x != x) = false := by simp
  go_enter Try.func51, Try.ntmps51
  go_wp2
  go_ret
  exact ⟨rfl, rfl⟩
/-- slices.isNaN at uint64 -/
theorem snan (x : Int) (w : World) : Calls Try.prog 43 #[.int .u64 x] w fun e w' => e = .returned (.bool false) ∧ w = w' := by
  have T : (x != x) = false := by simp
  go_enter Try.func43, Try.ntmps43
  go_wp2
  go_ret
  exact ⟨rfl, rfl⟩
/-- cmp.isNaN at int -/
theorem inan (x : Int) (w : World) : Calls Try.prog 49 #[.int .i64 x] w fun e w' => e = .returned (.bool false) ∧ w = w' := by
  have T : (x != x) = false := by simp
  go_enter Try.func49, Try.ntmps49
  go_wp2
  go_ret
  exact ⟨rfl, rfl⟩
/-- cmp.Less at uint64 -/
theorem cless (x y : Int) (w : World) : Calls Try.prog 42 #[.int .u64 x, .int .u64 y] w fun e w' => e = .returned (.bool (decide (x < y))) ∧ w = w' := by
  go_enter Try.func42, Try.ntmps42
  go_wp2_with (go_at_call 51; refine (cnan _ _).mono ?_; rintro e w' ⟨rfl, rfl⟩)
  go_ret
  exact ⟨rfl, rfl⟩
/-- cmp.Compare at uint64 -/
theorem ccmp (x y : Int) (w : World) : Calls Try.prog 50 #[.int .u64 x, .int .u64 y] w fun e w' => e = .returned (.int .i64 (La.cmpI x y)) ∧ w = w' := by
  rcases Int.lt_trichotomy x y with c | c | c
  · have e : La.cmpI x y = -1 := by unfold La.cmpI; rw [if_pos c]
    rw [e]
    go_enter Try.func50, Try.ntmps50
    go_wp2_with (go_at_call 51; refine (cnan _ _).mono ?_; rintro e w' ⟨rfl, rfl⟩)
    go_ret
    exact ⟨rfl, rfl⟩
  · have e : La.cmpI x y = 0 := by unfold La.cmpI; rw [if_neg (by omega), if_neg (by omega)]
    rw [e]
    subst c
    go_enter Try.func50, Try.ntmps50
    go_wp2_with (go_at_call 51; refine (cnan _ _).mono ?_; rintro e w' ⟨rfl, rfl⟩)
    go_ret
    exact ⟨rfl, rfl⟩
  · have e : La.cmpI x y = 1 := by unfold La.cmpI; rw [if_neg (by omega), if_pos c]
    rw [e]
    go_enter Try.func50, Try.ntmps50
    go_wp2_with (go_at_call 51; refine (cnan _ _).mono ?_; rintro e w' ⟨rfl, rfl⟩)
    go_ret
    exact ⟨rfl, rfl⟩
/-- cmp.Compare at int -/
theorem icmp (x y : Int) (w : World) : Calls Try.prog 38 #[.int .i64 x, .int .i64 y] w fun e w' => e = .returned (.int .i64 (La.cmpI x y)) ∧ w = w' := by
  rcases Int.lt_trichotomy x y with c | c | c
  · have e : La.cmpI x y = -1 := by unfold La.cmpI; rw [if_pos c]
    rw [e]
    go_enter Try.func38, Try.ntmps38
    go_wp2_with (go_at_call 49; refine (inan _ _).mono ?_; rintro e w' ⟨rfl, rfl⟩)
    go_ret
    exact ⟨rfl, rfl⟩
  · have e : La.cmpI x y = 0 := by unfold La.cmpI; rw [if_neg (by omega), if_neg (by omega)]
    rw [e]
    subst c
    go_enter Try.func38, Try.ntmps38
    go_wp2_with (go_at_call 49; refine (inan _ _).mono ?_; rintro e w' ⟨rfl, rfl⟩)
    go_ret
    exact ⟨rfl, rfl⟩
  · have e : La.cmpI x y = 1 := by unfold La.cmpI; rw [if_neg (by omega), if_pos c]
    rw [e]
    go_enter Try.func38, Try.ntmps38
    go_wp2_with (go_at_call 49; refine (inan _ _).mono ?_; rintro e w' ⟨rfl, rfl⟩)
    go_ret
    exact ⟨rfl, rfl⟩

/-- cloisonneref02.In -/
theorem rin (A B : Option Addr) (c d : Nat) (a b : List Int) (w : World) (h : Sl w A a) (hb : Sl w B b) (hm : a.length ≤ maxLen) (hn : b.length ≤ maxLen) :
    Calls Try.prog 21 #[.slice A a.length c, .slice B b.length d] w fun e w' => e = .returned (.bool (La.inn a b)) ∧ w = w' := by
  have HN := Lib.hid hn
  have HB := Lib.hid hb
  clear hn hb
  unfold maxLen at hm
  go_enter Try.func21, Try.ntmps21
  go_wp2
  go_loop [5] (fun i => ∃ k : Nat, k ≤ a.length ∧ i = .int .i64 k ∧ Hid (∀ x ∈ a.take k, x ∈ b)) (fun i => a.length - (intOf i).toNat)
  case atStart => exact ⟨0, Nat.zero_le _, rfl, fun x hx => by simp at hx⟩
  case round =>
    obtain ⟨k, hk, rfl, X⟩ := hrel
    by_cases hlt : k < a.length
    · obtain ⟨bb, o, rfl, hbb, hc⟩ := h.at_ hlt
      have hck := hc k hlt
      have HM := Lib.hid (fun x => La.mem_take_succ a k hlt x)
      have HG := Lib.hid (La.getD_mem a k hlt)
      obtain ⟨y, hy⟩ : ∃ y, a.getD k 0 = y := ⟨_, rfl⟩
      rw [hy] at hck
      have Y := Lib.hid hy
      clear hc hy hbb
      cases hh : La.has b y
      · have H := Lib.hid hh
        clear hh
        go_wp2_with fail
        refine (rhas B d b y _ HB.out HN.out).mono ?_
        rintro e w' ⟨rfl, rfl⟩
        rw [H.out]
        go_wp2
        go_ret
        refine ⟨ret_bool ?_, rfl⟩
        refine (Bool.eq_false_iff.2 (fun h2 => ?_)).symm
        have h3 := (La.inn_iff a b).1 h2 y (by rw [← Y.out]; exact HG.out)
        rw [← La.has_iff, H.out] at h3
        cases h3
      · have H := Lib.hid hh
        clear hh
        go_wp2_with fail
        refine (rhas B d b y _ HB.out HN.out).mono ?_
        rintro e w' ⟨rfl, rfl⟩
        rw [H.out]
        go_wp2
        go_round
        case rel =>
          refine ⟨k + 1, by omega, by go_num, ?_⟩
          intro x hx
          rcases (HM.out x).1 hx with h1 | h1
          · exact X.out x h1
          · rw [h1, Y.out]; exact (La.has_iff b y).1 H.out
        case measure => simp [intOf]; omega
    · go_wp2
      go_ret
      have hkk : k = a.length := by omega
      refine ⟨ret_bool ?_, rfl⟩
      have h1 := X.out
      rw [hkk, List.take_length] at h1
      exact ((La.inn_iff a b).2 h1).symm

/-- cloisonneref02.Compare -/
theorem rcompare (A B : Option Addr) (c d : Nat) (a b : List Int) (w : World) (h : Sl w A a) (hb : Sl w B b) (hm : a.length ≤ maxLen) :
    Calls Try.prog 23 #[.slice A a.length c, .slice B b.length d] w fun e w' => e = .returned (.int .i64 (La.cmp a b)) ∧ ∃ n, w' = w.drewN n := by
  unfold maxLen at hm
  by_cases h1 : a.length < b.length
  · have e : La.cmp a b = -1 := by unfold La.cmp; rw [if_pos h1]
    rw [e]
    clear e
    go_enter Try.func23, Try.ntmps23
    go_wp2
    go_ret
    exact ⟨rfl, 0, rfl⟩
  by_cases h2 : b.length < a.length
  · have e : La.cmp a b = 1 := by unfold La.cmp; rw [if_neg h1, if_pos h2]
    rw [e]
    clear e
    go_enter Try.func23, Try.ntmps23
    go_wp2
    go_ret
    exact ⟨rfl, 0, rfl⟩
  have e : La.cmp a b = La.lex a b := by unfold La.cmp; rw [if_neg h1, if_neg h2]
  rw [e]
  clear e
  go_enter Try.func23, Try.ntmps23
  go_wp2
  go_loopw [5] (fun i wr => ∃ k n : Nat, k ≤ a.length ∧ i = .int .i64 k ∧ wr = w.drewN n ∧ Hid (La.lex a b = La.lex (a.drop k) (b.drop k))) (fun i _ => a.length - (intOf i).toNat)
  case atStart => exact ⟨0, 0, Nat.zero_le _, rfl, rfl, rfl⟩
  case round =>
    obtain ⟨k, n, hk, rfl, rfl, X⟩ := hrel
    by_cases hlt : k < a.length
    · have hltb : k < b.length := by omega
      obtain ⟨bb, o, rfl, hbb, hc⟩ := h.at_ hlt
      have hck := hc k hlt
      obtain ⟨bc, p, rfl, hbc, hd⟩ := hb.at_ hltb
      have hdk := hd k hltb
      have L1 := Lib.hid (La.lex_drop_lt a b k hlt hltb)
      have L2 := Lib.hid (La.lex_drop_gt a b k hlt hltb)
      have L3 := Lib.hid (La.lex_drop_eq a b k hlt hltb)
      obtain ⟨y, hy⟩ : ∃ y, a.getD k 0 = y := ⟨_, rfl⟩
      obtain ⟨z, hz⟩ : ∃ z, b.getD k 0 = z := ⟨_, rfl⟩
      rw [hy] at hck
      rw [hz] at hdk
      have Y := Lib.hid hy
      have Z := Lib.hid hz
      have i0 : (0 : Int) ≤ (k : Int) := by omega
      have i1 : (k : Int) < a.length := by omega
      have i2 : ((k : Int)).toNat = k := by omega
      have i3 : (k : Int) < b.length := by omega
      clear hc hd hy hz hbb hbc
      by_cases c1 : y < z
      · go_wp2_with fail
        go_quiet (fail)
        go_wp2
        go_ret
        exact ⟨ret_int (by rw [X.out, L1.out (by rw [Y.out, Z.out]; exact c1)]), drewN2 _ _ _⟩
      · by_cases c2 : z < y
        · go_wp2_with fail
          go_quiet (fail)
          go_wp2_with fail
          go_quiet (fail)
          go_wp2
          go_ret
          exact ⟨ret_int (by rw [X.out, L2.out (by rw [Y.out, Z.out]; exact c2)]), drewN3 _ _ _ _⟩
        · go_wp2_with fail
          go_quiet (fail)
          go_wp2_with fail
          go_quiet (fail)
          go_wp2
          go_roundw
          case rel =>
            refine ⟨k + 1, _, by omega, by go_num, rfl, ?_⟩
            rw [X.out, L3.out (by rw [Y.out, Z.out]; omega)]; exact rfl
          case measure => simp [intOf]; omega
    · go_wp2
      go_ret
      refine ⟨ret_int ?_, _, rfl⟩
      rw [X.out, List.drop_eq_nil_of_le (by omega), List.drop_eq_nil_of_le (by omega)]; rfl

/-- cloisonneref02.Same -/
theorem rsame (A B : Option Addr) (c d : Nat) (a b : List Int) (w : World) (h : Sl w A a) (hb : Sl w B b) (hm : a.length ≤ maxLen) :
    Calls Try.prog 16 #[.slice A a.length c, .slice B b.length d] w fun e w' => e = .returned (.bool (La.cmp a b == 0)) ∧ ∃ n, w' = w.drewN n := by
  go_enter Try.func16, Try.ntmps16
  go_wp2_with fail
  refine (rcompare A B c d a b _ h hb hm).mono ?_
  rintro e w' ⟨rfl, n, rfl⟩
  go_wp2
  go_ret
  exact ⟨rfl, n, rfl⟩

/-- what slices.BinarySearch tells -/
def BsPost (zs : List Int) (x : Int) (w : World) (e : Ending) (w' : World) : Prop := ∃ i : Nat, e = .returned (.tuple #[.int .i64 i, .bool (La.has zs x)]) ∧ La.LB zs x i ∧ w = w'

theorem ret_ib {a b : Int} {c d : Bool} (h : a = b) (k : c = d) : Ending.returned (.tuple #[.int .i64 a, .bool c]) = .returned (.tuple #[.int .i64 b, .bool d]) := by rw [h, k]

/-- slices.BinarySearch -/
theorem sbsearch (A : Option Addr) (c : Nat) (zs : List Int) (x : Int) (w : World) (h : Sl w A zs) (hm : zs.length ≤ 1099511627776) (ha : La.Asc zs) :
    Calls Try.prog 29 #[.slice A zs.length c, .int .u64 x] w (BsPost zs x w) := by
  have HA := Lib.hid ha
  clear ha
  go_enter Try.func29, Try.ntmps29
  go_wp2
  go_loop [7, 8] (fun vi vj => ∃ i j : Nat, i ≤ j ∧ j ≤ zs.length ∧ vi = .int .i64 i ∧ vj = .int .i64 j ∧ Hid (∀ t, t < i → zs.getD t 0 < x) ∧ Hid (∀ t, j ≤ t → t < zs.length → x ≤ zs.getD t 0)) (fun vi vj => (intOf vj - intOf vi).toNat)
  case atStart => exact ⟨0, zs.length, Nat.zero_le _, Nat.le_refl _, rfl, rfl, fun t ht => absurd ht (by omega), fun t h1 h2 => absurd h2 (by omega)⟩
  case round =>
    obtain ⟨i, j, hij, hj, rfl, rfl, X, Y⟩ := hrel
    by_cases hlt : i < j
    · obtain ⟨m, hmm⟩ : ∃ m : Nat, m = (i + j) / 2 := ⟨_, rfl⟩
      have m1 : i ≤ m := by omega
      have m2 : m < j := by omega
      have hml : m < zs.length := by omega
      obtain ⟨b, o, rfl, hb, hc⟩ := h.at_ hml
      have hck := hc m hml
      obtain ⟨y, hy⟩ : ∃ y, zs.getD m 0 = y := ⟨_, rfl⟩
      rw [hy] at hck
      have YY := Lib.hid hy
      have hshift : ((i : Int) + (j : Int)) / 2 = (m : Int) := by omega
      clear hc hy hb hmm
      by_cases hyx : y < x
      · go_wp2_with fail
        refine (cless y x _).mono ?_
        rintro e w' ⟨rfl, rfl⟩
        go_wp2
        go_round
        case rel =>
          refine ⟨m + 1, j, by omega, hj, by go_num, rfl, ?_, Y⟩
          intro t ht
          rcases Nat.lt_or_ge t m with g | g
          · have h1 := HA.out t m g hml
            rw [YY.out] at h1; omega
          · have : t = m := by omega
            rw [this, YY.out]; exact hyx
        case measure => simp [intOf]; omega
      · go_wp2_with fail
        refine (cless y x _).mono ?_
        rintro e w' ⟨rfl, rfl⟩
        go_wp2
        go_round
        case rel =>
          refine ⟨i, m, by omega, by omega, rfl, rfl, X, ?_⟩
          intro t ht htl
          rcases Nat.lt_or_ge m t with g | g
          · have h1 := HA.out m t g htl
            rw [YY.out] at h1; omega
          · have : t = m := by omega
            rw [this, YY.out]; omega
        case measure => simp [intOf]; omega
    · have hii : i = j := by omega
      subst hii
      have hLB : La.LB zs x i := ⟨hj, X.out, Y.out⟩
      have LBH := Lib.hid hLB
      clear hLB
      by_cases hin : i < zs.length
      · obtain ⟨b, o, rfl, hb, hc⟩ := h.at_ hin
        have hck := hc i hin
        obtain ⟨y, hy⟩ : ∃ y, zs.getD i 0 = y := ⟨_, rfl⟩
        rw [hy] at hck
        have YY := Lib.hid hy
        have T0 : decide ((i : Int) < (zs.length : Int)) = true := decide_eq_true (by omega)
        clear hc hy hb
        by_cases hyx : y = x
        · have T : (y == x) = true := by simpa using hyx
          have HX := Lib.hid hyx
          clear hyx
          go_wp2
          go_ret2
          exact ⟨i, ret_ib rfl (La.LB.has_of_eq hin (by rw [YY.out, HX.out])).symm, LBH.out, rfl⟩
        · have T : (y == x) = false := by simpa using hyx
          have HX := Lib.hid hyx
          clear hyx
          go_wp2_with (go_at_call 43; refine (snan _ _).mono ?_; rintro e w' ⟨rfl, rfl⟩)
          go_ret2
          exact ⟨i, ret_ib rfl (La.LB.has_of_ne HA.out LBH.out (fun _ => by rw [YY.out]; exact HX.out)).symm, LBH.out, rfl⟩
      · have T0 : decide ((i : Int) < (zs.length : Int)) = false := decide_eq_false (by omega)
        go_wp2
        go_ret2
        exact ⟨i, ret_ib rfl (La.LB.has_of_ne HA.out LBH.out (fun g => absurd g hin)).symm, LBH.out, rfl⟩

/-- slices.IsSorted -/
theorem sissorted (A : Option Addr) (c : Nat) (zs : List Int) (w : World) (h : Sl w A zs) (hm : zs.length ≤ maxLen) :
    Calls Try.prog 34 #[.slice A zs.length c] w fun e w' => e = .returned (.bool (La.ascB zs)) ∧ ∃ n, w' = w.drewN n := by
  unfold maxLen at hm
  go_enter Try.func34, Try.ntmps34
  go_wp2
  go_loopw [3] (fun v wr => ∃ (z : Int) (n : Nat), z < zs.length ∧ -1 ≤ z ∧ v = .int .i64 z ∧ Hid (wr = w.drewN n) ∧ Hid (∀ t : Nat, z ≤ t → t + 1 < zs.length → zs.getD t 0 ≤ zs.getD (t + 1) 0)) (fun v _ => (intOf v).toNat)
  case atStart => exact ⟨(zs.length : Int) - 1, 0, by omega, by omega, by go_num, rfl, fun t h1 h2 => absurd h2 (by omega)⟩
  case round =>
    obtain ⟨z, n, hz, hz1, rfl, HW, X⟩ := hrel
    have hs : Sl wr A zs := by rw [HW.out]; exact h.drewN n
    by_cases hlt : 0 < z
    · obtain ⟨k, rfl⟩ : ∃ k : Nat, z = ((k + 1 : Nat) : Int) := ⟨(z - 1).toNat, by omega⟩
      have hk1 : k + 1 < zs.length := by omega
      obtain ⟨b, o, rfl, hb, hc⟩ := hs.at_ hk1
      have hck := hc (k + 1) hk1
      have hcj := hc k (by omega)
      obtain ⟨y, hy⟩ : ∃ y, zs.getD (k + 1) 0 = y := ⟨_, rfl⟩
      obtain ⟨x, hx⟩ : ∃ x, zs.getD k 0 = x := ⟨_, rfl⟩
      rw [hy] at hck
      rw [hx] at hcj
      have Y := Lib.hid hy
      have XX := Lib.hid hx
      have i0 : (0 : Int) ≤ (k : Int) + 1 := by omega
      have i1 : (k : Int) + 1 < zs.length := by omega
      have i2 : ((k : Int) + 1).toNat = k + 1 := by omega
      have i3 : IntKind.i64.wrap (k : Int) = (k : Int) := by rw [IntKind.wrap_i64]; omega
      have i4 : (0 : Int) ≤ (k : Int) := by omega
      have i5 : (k : Int) < zs.length := by omega
      have i6 : ((k : Int)).toNat = k := by omega
      have HZ := Lib.hid hz
      have HZ1 := Lib.hid hz1
      clear hc hy hx hb hz hz1
      by_cases hyx : y < x
      · go_wp2_with fail
        go_quiet ((go_at_call 42; exact Calls.quiet_of_same ((cless y x _).mono fun _ _ hh => ⟨hh.1, hh.2.symm⟩)))
        go_wp2
        go_ret
        refine ⟨ret_bool ?_, by rw [HW.out]; exact drewN2 _ _ _⟩
        refine (Bool.eq_false_iff.2 (fun h2 => ?_)).symm
        have h3 := (La.ascB_iff zs).1 h2 k hk1
        rw [Y.out, XX.out] at h3
        omega
      · go_wp2_with fail
        go_quiet ((go_at_call 42; exact Calls.quiet_of_same ((cless y x _).mono fun _ _ hh => ⟨hh.1, hh.2.symm⟩)))
        go_wp2
        go_roundw
        case rel =>
          refine ⟨(k : Int), _, by omega, by omega, by go_num, (by rw [HW.out]; exact World.drewN_drewN _ _ _ : _ = _), ?_⟩
          intro t ht htl
          rcases Nat.lt_or_ge k t with g | g
          · exact X.out t (by omega) htl
          · have : t = k := by omega
            have e1 := Y.out
            have e2 := XX.out
            subst this
            omega
        case measure => simp [intOf]
    · go_wp2
      go_ret
      refine ⟨ret_bool ?_, _, HW.out⟩
      exact ((La.ascB_iff zs).2 (fun t ht => X.out t (by omega) ht)).symm

/-- cloisonnelaw02.far -/
theorem lfar (A B : Option Addr) (n m c d : Nat) (w : World) : Calls Try.prog 9 #[.slice A n c, .slice B m d] w fun e w' => e = .returned (.bool (decide (60 < n) || decide (60 < m))) ∧ w = w' := by
  by_cases h1 : 60 < n
  · have e : (decide (60 < n) || decide (60 < m)) = true := by rw [decide_eq_true h1, Bool.true_or]
    rw [e]
    clear e
    go_enter Try.func9, Try.ntmps9
    go_wp2
    go_ret
    exact ⟨rfl, rfl⟩
  · by_cases h2 : 60 < m
    · have e : (decide (60 < n) || decide (60 < m)) = true := by rw [decide_eq_true h2, Bool.or_true]
      rw [e]
      clear e
      go_enter Try.func9, Try.ntmps9
      go_wp2
      go_ret
      exact ⟨by simp; omega, rfl⟩
    · have e : (decide (60 < n) || decide (60 < m)) = false := by rw [decide_eq_false h2, decide_eq_false h1]; rfl
      rw [e]
      clear e
      go_enter Try.func9, Try.ntmps9
      go_wp2
      go_ret
      exact ⟨by simp; omega, rfl⟩

/-- slices.Compare -/
theorem scompare (A B : Option Addr) (c d : Nat) (a b : List Int) (w : World) (h : Sl w A a) (hb : Sl w B b) (hm : a.length ≤ maxLen) :
    Calls Try.prog 39 #[.slice A a.length c, .slice B b.length d] w fun e w' => e = .returned (.int .i64 (La.lex a b)) ∧ w = w' := by
  unfold maxLen at hm
  go_enter Try.func39, Try.ntmps39
  go_wp2
  go_loop [11] (fun i => ∃ k : Nat, k ≤ a.length ∧ k ≤ b.length ∧ i = .int .i64 k ∧ Hid (La.lex a b = La.lex (a.drop k) (b.drop k))) (fun i => a.length - (intOf i).toNat)
  case atStart => exact ⟨0, Nat.zero_le _, Nat.zero_le _, rfl, rfl⟩
  case round =>
    obtain ⟨k, hk, hkb, rfl, X⟩ := hrel
    by_cases hlt : k < a.length
    · obtain ⟨bb, o, rfl, hbb, hc⟩ := h.at_ hlt
      have hck := hc k hlt
      obtain ⟨y, hy⟩ : ∃ y, a.getD k 0 = y := ⟨_, rfl⟩
      rw [hy] at hck
      have Y := Lib.hid hy
      clear hc hy hbb
      by_cases hltb : k < b.length
      · obtain ⟨bc, p, rfl, hbc, hd⟩ := hb.at_ hltb
        have hdk := hd k hltb
        have L1 := Lib.hid (La.lex_drop_lt a b k hlt hltb)
        have L2 := Lib.hid (La.lex_drop_gt a b k hlt hltb)
        have L3 := Lib.hid (La.lex_drop_eq a b k hlt hltb)
        obtain ⟨z, hz⟩ : ∃ z, b.getD k 0 = z := ⟨_, rfl⟩
        rw [hz] at hdk
        have Z := Lib.hid hz
        clear hd hz hbc
        by_cases c1 : y < z
        · have E := Lib.hid (show La.cmpI y z = -1 by unfold La.cmpI; rw [if_pos c1])
          go_wp2_with fail
          refine (ccmp y z _).mono ?_
          rintro e w' ⟨rfl, rfl⟩
          rw [E.out]
          go_wp2
          go_ret
          exact ⟨ret_int (by rw [X.out, L1.out (by rw [Y.out, Z.out]; exact c1)]), rfl⟩
        · by_cases c2 : z < y
          · have E := Lib.hid (show La.cmpI y z = 1 by unfold La.cmpI; rw [if_neg c1, if_pos c2])
            go_wp2_with fail
            refine (ccmp y z _).mono ?_
            rintro e w' ⟨rfl, rfl⟩
            rw [E.out]
            go_wp2
            go_ret
            exact ⟨ret_int (by rw [X.out, L2.out (by rw [Y.out, Z.out]; exact c2)]), rfl⟩
          · have E := Lib.hid (show La.cmpI y z = 0 by unfold La.cmpI; rw [if_neg c1, if_neg c2])
            go_wp2_with fail
            refine (ccmp y z _).mono ?_
            rintro e w' ⟨rfl, rfl⟩
            rw [E.out]
            go_wp2
            go_round
            case rel =>
              refine ⟨k + 1, by omega, by omega, by go_num, ?_⟩
              rw [X.out, L3.out (by rw [Y.out, Z.out]; omega)]; exact rfl
            case measure => simp [intOf]; omega
      · go_wp2
        go_ret
        refine ⟨ret_int ?_, rfl⟩
        rw [X.out, List.drop_eq_nil_of_le (show b.length ≤ k by omega), List.drop_eq_getElem_cons hlt]; rfl
    · have hkk : k = a.length := by omega
      subst hkk
      by_cases hltb : a.length < b.length
      · go_wp2
        go_ret
        refine ⟨ret_int ?_, rfl⟩
        rw [X.out, List.drop_eq_nil_of_le (Nat.le_refl _), List.drop_eq_getElem_cons hltb]; rfl
      · go_wp2
        go_ret
        refine ⟨ret_int ?_, rfl⟩
        rw [X.out, List.drop_eq_nil_of_le (Nat.le_refl _), List.drop_eq_nil_of_le (by omega)]; rfl

/-- the first that isn't nought -/
def or2 (x y : Int) : Int := if x = 0 then y else x
/-- cmp.Or at two ints -/
theorem ior (b : Nat) (x y : Int) (w : World) (h0 : w.cell? ⟨b, 0, none⟩ = some (.int .i64 x)) (h1 : w.cell? ⟨b, 1, none⟩ = some (.int .i64 y)) :
    Calls Try.prog 37 #[.slice (some ⟨b, 0, none⟩) 2 2] w fun e w' => e = .returned (.int .i64 (or2 x y)) ∧ w = w' := by
  by_cases hx : x = 0
  · have T : (x != 0) = false := by simp [hx]
    rw [show or2 x y = y from if_pos hx]
    by_cases hy : y = 0
    · have T1 : (y != 0) = false := by simp [hy]
      have HX := Lib.hid hx
      have HY := Lib.hid hy
      clear hx hy
      go_enter Try.func37, Try.ntmps37
      go_wp2_with fail
      go_rounds 3
      go_ret
      exact ⟨ret_int (by rw [HY.out]), rfl⟩
    · have T1 : (y != 0) = true := by simp [hy]
      have HX := Lib.hid hx
      clear hx hy
      go_enter Try.func37, Try.ntmps37
      go_wp2_with fail
      go_rounds 3
      go_ret
      exact ⟨rfl, rfl⟩
  · have T : (x != 0) = true := by simp [hx]
    rw [show or2 x y = x from if_neg hx]
    clear hx
    go_enter Try.func37, Try.ntmps37
    go_wp2_with fail
    go_rounds 3
    go_ret
    exact ⟨rfl, rfl⟩

theorem cmp_or (a b : List Int) : or2 (La.cmpI a.length b.length) (La.lex a b) = La.cmp a b := by
  unfold or2 La.cmpI La.cmp
  by_cases h1 : a.length < b.length
  · rw [if_pos (show (a.length : Int) < b.length by omega), if_pos h1]; rfl
  · rw [if_neg (show ¬ (a.length : Int) < b.length by omega), if_neg h1]
    by_cases h2 : b.length < a.length
    · rw [if_pos (show (b.length : Int) < a.length by omega), if_pos h2]; rfl
    · rw [if_neg (show ¬ (b.length : Int) < a.length by omega), if_neg h2]; rfl

/-- label.Compare -/
theorem lcompare (A B : Option Addr) (c d : Nat) (a b : List Int) (w : World) (h : Sl w A a) (hb : Sl w B b) (hm : a.length ≤ maxLen) :
    Calls Try.prog 22 #[.slice A a.length c, .slice B b.length d] w fun e w' => e = .returned (.int .i64 (La.cmp a b)) ∧ Below w.heap.size w w' := by
  have E := Lib.hid (cmp_or a b)
  obtain ⟨x, hx⟩ : ∃ x, La.cmpI a.length b.length = x := ⟨_, rfl⟩
  obtain ⟨y, hy⟩ : ∃ y, La.lex a b = y := ⟨_, rfl⟩
  have X := Lib.hid hx
  have Y := Lib.hid hy
  clear hx hy
  go_enter Try.func22, Try.ntmps22
  go_wp2_with fail
  refine (icmp _ _ _).mono ?_
  rintro e w' ⟨rfl, rfl⟩
  rw [X.out]
  go_wp2_with fail
  refine (scompare A B c d a b _ h hb hm).mono ?_
  rintro e w' ⟨rfl, rfl⟩
  rw [Y.out]
  go_wp2_with fail
  refine (ior _ x y _ (by go_simp) (by go_simp)).mono ?_
  rintro e w' ⟨rfl, rfl⟩
  go_wp2
  go_ret
  refine ⟨ret_int ?_, (Below.refl _ _).alloc (Nat.le_refl _) _⟩
  have e := E.out
  rw [X.out, Y.out] at e
  exact e

end Go.Proofs.Ytodindfchkpecaa
