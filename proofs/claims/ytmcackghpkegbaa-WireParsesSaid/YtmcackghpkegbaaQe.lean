/- cloisonneref03.Read: walked, letter by letter. -/
import Derived.Test.YtmcackghpkegbaaQc
import Derived.Test.YtmcackghpkegbaaBg
import Derived.Test.YtmcackghpkegbaaUr
namespace Go.Proofs.Ytmcackghpkegbaa
open Go.RowKit

/-- what cloisonneref03.Read leaves, of bytes l -/
def RdR (o : Rd Item) (l : List UInt8) (w : World) (e : Ending) (w' : World) : Prop :=
  Below w.heap.size w w' ∧ ((∃ c N s A a c0 k, o = .error c ∧ e = .returned (.tuple #[.agg #[.int .u64 N, .string s, .slice A a c0, .slice none 0 0], .int .i64 k, .int .i64 c])) ∨
    (∃ x r A c, o = .ok (x, r) ∧ x.ks = [] ∧ e = .returned (.tuple #[.agg #[.int .u64 x.n, .string x.s, .slice A x.l.length c, .slice none 0 0], .int .i64 ((l.length - r.length : Nat) : Int), .int .i64 0]) ∧ SlG w.heap.size w' A x.l))

theorem RdR.err {o : Rd Item} {l : List UInt8} {w w' : World} {e : Ending} {c : Int} (h : RdR o l w e w') (ho : o = .error c) :
    ∃ N s A a c0 k, e = .returned (.tuple #[.agg #[.int .u64 N, .string s, .slice A a c0, .slice none 0 0], .int .i64 k, .int .i64 c]) ∧ Below w.heap.size w w' := by
  obtain ⟨hb, ⟨c', N, s, A, a, c0, k, h1, h2⟩ | ⟨x, r, A, cc, h1, _⟩⟩ := h
  · rw [ho] at h1; injection h1 with h1; subst h1; exact ⟨N, s, A, a, c0, k, h2, hb⟩
  · rw [ho] at h1; cases h1
theorem RdR.ok {o : Rd Item} {l r : List UInt8} {x : Item} {w w' : World} {e : Ending} (h : RdR o l w e w') (ho : o = .ok (x, r)) :
    ∃ A c, e = .returned (.tuple #[.agg #[.int .u64 x.n, .string x.s, .slice A x.l.length c, .slice none 0 0], .int .i64 ((l.length - r.length : Nat) : Int), .int .i64 0]) ∧ SlG w.heap.size w' A x.l ∧ x.ks = [] ∧ Below w.heap.size w w' := by
  obtain ⟨hb, ⟨c', N, s, A, a, c0, k, h1, _⟩ | ⟨x', r', A, cc, h1, hk, h2, h3⟩⟩ := h
  · rw [ho] at h1; cases h1
  · rw [ho] at h1; injection h1 with h1; injection h1 with h4 h5; subst h4; subst h5; exact ⟨A, cc, h2, h3, hk, hb⟩

set_option maxRecDepth 100000 in
set_option maxHeartbeats 1000000 in
theorem rRead_b (l : List UInt8) (w : World) (hl : l.length ≤ 1099511627776) : Calls Try.prog 26 #[.int .u8 98, .string (BA l)] w (RdR (rd1 .b l) l w) := by
  cases l with
  | nil =>
    have HS : (BA []).size = 0 := BA_size []
    have B0 := Lib.hid ((Below.refl w.heap.size w).alloc (Nat.le_refl _) (.cells #[.int .u64 0, .string ⟨#[]⟩, .slice none 0 0, .slice none 0 0] 44))
    go_enter Try.func26, Try.ntmps26
    go_wp2_with fail
    refine bodyPost_ret (v := .tuple #[.agg #[.int .u64 0, .string ⟨#[]⟩, .slice none 0 0, .slice none 0 0], .int .i64 0, .int .i64 3]) (by simp [results, Try.results26, go_sem]) rfl ?_
    exact ⟨B0.out, .inl ⟨3, _, _, _, _, _, _, rfl, rfl⟩⟩
  | cons b t =>
    have HS : (BA (b :: t)).size = t.length + 1 := BA_size (b :: t)
    have hb : (BA (b :: t))[0] = b := rfl
    have hw : IntKind.u64.wrap (b.toNat : Int) = (b.toNat : Int) := by rw [IntKind.wrap_u64]; have := b.toNat_lt; omega
    have TZ : ((t.length : Int) + 1 == 0) = false := by rw [beq_eq_false_iff_ne]; omega
    go_enter Try.func26, Try.ntmps26
    go_wp2_with fail
    refine bodyPost_ret (v := .tuple #[.agg #[.int .u64 (b.toNat : Int), .string ⟨#[]⟩, .slice none 0 0, .slice none 0 0], .int .i64 1, .int .i64 0]) (by simp [results, Try.results26, go_sem]) rfl ?_
    exact ⟨(Below.refl w.heap.size w).alloc (Nat.le_refl _) _, .inr ⟨.mk (b.toNat : Int) ⟨#[]⟩ [] [], t, none, 0, rfl, rfl, by rw [show (b :: t).length - t.length = 1 by simp]; rfl, SlG.nil _ _⟩⟩

theorem count_err {l : List UInt8} {c : Int} (hl : l.length ≤ 1099511627776) (hr : rdNum 0 0 l = .error c) (w : World) : Calls Try.prog 27 #[.string (BA l)] w fun e w' => e = .returned (.tuple #[.int .u64 0, .int .i64 0, .int .i64 c]) ∧ w = w' := by
  have h := rCount (BA l) w (by rw [BA_size]; exact hl)
  rw [BA_list, hr] at h
  exact h
theorem count_ok {l r : List UInt8} {n : Nat} (hl : l.length ≤ 1099511627776) (hr : rdNum 0 0 l = .ok (n, r)) (w : World) : Calls Try.prog 27 #[.string (BA l)] w fun e w' => e = .returned (.tuple #[.int .u64 (n : Int), .int .i64 ((l.length - r.length : Nat) : Int), .int .i64 0]) ∧ w = w' := by
  have h := rCount (BA l) w (by rw [BA_size]; exact hl)
  rw [BA_list, hr, BA_size] at h
  exact h

set_option maxRecDepth 100000 in
set_option maxHeartbeats 1000000 in
theorem rRead_n (l : List UInt8) (w : World) (hl : l.length ≤ 1099511627776) : Calls Try.prog 26 #[.int .u8 110, .string (BA l)] w (RdR (rd1 .n l) l w) := by
  cases hr : rdNum 0 0 l with
  | error c =>
    have HR := Lib.hid (show rd1 .n l = .error c from rdMap_err hr)
    have CN := Lib.hid (count_err hl hr)
    have cn := rdNum_code _ _ _ _ hr
    have TC : (c != 0) = true := by simp [cn]
    clear hr cn
    go_enter Try.func26, Try.ntmps26
    go_wp2_with fail
    refine (CN.out _).mono ?_
    rintro e w1 ⟨rfl, rfl⟩
    go_wp2_with fail
    refine bodyPost_ret (v := .tuple #[.agg #[.int .u64 0, .string ⟨#[]⟩, .slice none 0 0, .slice none 0 0], .int .i64 0, .int .i64 c]) (by simp [results, Try.results26, go_sem]) rfl ?_
    exact ⟨(Below.refl w.heap.size w).alloc (Nat.le_refl _) _, .inl ⟨c, _, _, _, _, _, _, HR.out, rfl⟩⟩
  | ok q =>
    obtain ⟨n, r⟩ := q
    have HR := Lib.hid (show rd1 .n l = .ok (.mk (n : Int) ⟨#[]⟩ [] [], r) from rdMap_ok hr)
    have CN := Lib.hid (count_ok hl hr)
    obtain ⟨D, hD⟩ : ∃ D : Nat, D = l.length - r.length := ⟨_, rfl⟩
    rw [← hD] at CN
    have HD := Lib.hid hD
    clear hr hD
    go_enter Try.func26, Try.ntmps26
    go_wp2_with fail
    refine (CN.out _).mono ?_
    rintro e w1 ⟨rfl, rfl⟩
    go_wp2_with fail
    refine bodyPost_ret (v := .tuple #[.agg #[.int .u64 (n : Int), .string ⟨#[]⟩, .slice none 0 0, .slice none 0 0], .int .i64 (D : Int), .int .i64 0]) (by simp [results, Try.results26, go_sem]) rfl ?_
    exact ⟨(Below.refl w.heap.size w).alloc (Nat.le_refl _) _, .inr ⟨.mk (n : Int) ⟨#[]⟩ [] [], r, none, 0, HR.out, rfl, by rw [HD.out]; rfl, SlG.nil _ _⟩⟩

theorem rdText_eq (l : List UInt8) : rdText l = match rdNum 0 0 l with
  | .error c => .error c
  | .ok (n, r) => if 200 < n then .error 5 else rdTake n r := by
  unfold rdText rdSize
  cases hr : rdNum 0 0 l with
  | error c => rfl
  | ok q =>
    obtain ⟨n, r⟩ := q
    simp only
    by_cases h : 200 < n
    · rw [if_pos h, if_pos h]
    · rw [if_neg h, if_neg h]
theorem BA_mid (l r : List UInt8) (n : Nat) (h : l.drop (l.length - r.length) = r) : (BA l).extract (l.length - r.length) (l.length - r.length + n) = BA (r.take n) := by
  apply WideShapes.bytes_inj
  rw [Lib.extract_data, BA_list, BA_list]
  rw [h]
  congr 1; omega

set_option maxRecDepth 100000 in
set_option maxHeartbeats 1000000 in
theorem rRead_t (l : List UInt8) (w : World) (hl : l.length ≤ 1099511627776) : Calls Try.prog 26 #[.int .u8 116, .string (BA l)] w (RdR (rd1 .t l) l w) := by
  have HE := rdText_eq l
  cases hr : rdNum 0 0 l with
  | error c =>
    rw [hr] at HE
    have HR := Lib.hid (show rd1 .t l = .error c from rdMap_err HE)
    have CN := Lib.hid (count_err hl hr)
    have cn := rdNum_code _ _ _ _ hr
    have TC : (c != 0) = true := by simp [cn]
    clear hr cn HE
    go_enter Try.func26, Try.ntmps26
    go_wp2_with fail
    refine (CN.out _).mono ?_
    rintro e w1 ⟨rfl, rfl⟩
    go_wp2_with fail
    refine bodyPost_ret (v := .tuple #[.agg #[.int .u64 0, .string ⟨#[]⟩, .slice none 0 0, .slice none 0 0], .int .i64 0, .int .i64 c]) (by simp [results, Try.results26, go_sem]) rfl ?_
    exact ⟨(Below.refl w.heap.size w).alloc (Nat.le_refl _) _, .inl ⟨c, _, _, _, _, _, _, HR.out, rfl⟩⟩
  | ok q =>
    obtain ⟨n, r⟩ := q
    rw [hr] at HE
    simp only at HE
    have CN := Lib.hid (count_ok hl hr)
    obtain ⟨_, hpre⟩ := rdNum_of hr
    obtain ⟨D, hD⟩ : ∃ D : Nat, D = l.length - r.length := ⟨_, rfl⟩
    have hdr : l.drop D = r := by
      rw [hD]
      have e : l.length - r.length = (by8 (leb n)).length := by
        have := congrArg List.length hpre
        rw [List.length_append] at this; omega
      rw [e, hpre]; simp
    have hrl : r.length = l.length - D := by rw [← hdr, List.length_drop]
    have hDl : D ≤ l.length := by omega
    rw [← hD] at CN
    have HD := Lib.hid hD
    by_cases h200 : 200 < n
    · rw [if_pos h200] at HE
      have HR := Lib.hid (show rd1 .t l = .error 5 from rdMap_err HE)
      have T2 : decide ((200 : Int) < (n : Int)) = true := decide_eq_true (by omega)
      clear hr hD HE hpre hdr hrl
      go_enter Try.func26, Try.ntmps26
      go_wp2_with fail
      refine (CN.out _).mono ?_
      rintro e w1 ⟨rfl, rfl⟩
      go_wp2_with fail
      refine bodyPost_ret (v := .tuple #[.agg #[.int .u64 0, .string ⟨#[]⟩, .slice none 0 0, .slice none 0 0], .int .i64 0, .int .i64 5]) (by simp [results, Try.results26, go_sem]) rfl ?_
      exact ⟨(Below.refl w.heap.size w).alloc (Nat.le_refl _) _, .inl ⟨5, _, _, _, _, _, _, HR.out, rfl⟩⟩
    rw [if_neg h200] at HE
    have SZ : (BA l).size = l.length := BA_size l
    obtain ⟨R, hR⟩ : ∃ R : Nat, R = l.length - D := ⟨_, rfl⟩
    have hRl : l.length = R + D := by omega
    by_cases hsh : r.length < n
    · have HR := Lib.hid (show rd1 .t l = .error 3 from rdMap_err (by rw [HE]; unfold rdTake; rw [if_pos hsh]))
      have hRn : R < n := by omega
      clear hr hD HE hpre hdr hrl hsh hR
      go_enter Try.func26, Try.ntmps26
      go_wp2_with fail
      refine (CN.out _).mono ?_
      rintro e w1 ⟨rfl, rfl⟩
      go_wp2_with fail
      refine bodyPost_ret (v := .tuple #[.agg #[.int .u64 0, .string ⟨#[]⟩, .slice none 0 0, .slice none 0 0], .int .i64 0, .int .i64 3]) (by simp [results, Try.results26, go_sem]) rfl ?_
      exact ⟨(Below.refl w.heap.size w).alloc (Nat.le_refl _) _, .inl ⟨3, _, _, _, _, _, _, HR.out, rfl⟩⟩
    have hRn : ¬ R < n := by omega
    have EX := Lib.hid (show (BA l).extract D (D + n) = BA (r.take n) by rw [hD]; exact BA_mid l r n (by rw [← hD]; exact hdr))
    have HR := Lib.hid (show rd1 .t l = .ok (.mk 0 (BA (r.take n)) [] [], r.drop n) from rdMap_ok (by rw [HE]; unfold rdTake; rw [if_neg hsh]))
    have HL := Lib.hid (show D + n = l.length - (r.drop n).length by rw [List.length_drop]; omega)
    have hsl : ∀ w, (Instr.slice 9 (.string (BA l)) (some (.int .i64 (D : Int))) (some (.int .i64 ((D : Int) + (n : Int)))) none).run Try.prog w = .ok (.string (BA (r.take n))) w := fun w => by
      rw [run_slice_string w 9 (BA l) .i64 .i64 _ _ Try.underlying9 (by omega) (by omega) (by rw [SZ]; omega), show ((D : Int)).toNat = D by omega, show ((D : Int) + (n : Int)).toNat = D + n by omega, EX.out]
    have n200 : n ≤ 200 := by omega
    have DR : D + n ≤ l.length := by omega
    clear hr hD HE hpre hdr hrl hsh hR h200
    go_enter Try.func26, Try.ntmps26
    go_wp2_with fail
    refine (CN.out _).mono ?_
    rintro e w1 ⟨rfl, rfl⟩
    go_wp2_with fail
    refine bodyPost_ret (v := .tuple #[.agg #[.int .u64 0, .string (BA (r.take n)), .slice none 0 0, .slice none 0 0], .int .i64 ((D : Int) + (n : Int)), .int .i64 0]) (by simp [results, Try.results26, go_sem]) rfl ?_
    exact ⟨(Below.refl w.heap.size w).alloc (Nat.le_refl _) _, .inr ⟨.mk 0 (BA (r.take n)) [] [], r.drop n, none, 0, HR.out, rfl, by rw [← HL.out, Int.natCast_add]; rfl, SlG.nil _ _⟩⟩

theorem take_first (l : List UInt8) (n : Nat) : (BA l).extract 0 n = BA (l.take n) := BA_take n l

set_option maxRecDepth 100000 in
set_option maxHeartbeats 1000000 in
theorem rRead_f (l : List UInt8) (w : World) (hl : l.length ≤ 1099511627776) : Calls Try.prog 26 #[.int .u8 102, .string (BA l)] w (RdR (rd1 .f l) l w) := by
  have SZ : (BA l).size = l.length := BA_size l
  by_cases h8 : l.length < 8
  · have HR := Lib.hid (show rd1 .f l = .error 3 from rdMap_err (by unfold rdFloat rdTake; rw [if_pos h8]))
    go_enter Try.func26, Try.ntmps26
    go_wp2_with fail
    refine bodyPost_ret (v := .tuple #[.agg #[.int .u64 0, .string ⟨#[]⟩, .slice none 0 0, .slice none 0 0], .int .i64 0, .int .i64 3]) (by simp [results, Try.results26, go_sem]) rfl ?_
    exact ⟨(Below.refl w.heap.size w).alloc (Nat.le_refl _) _, .inl ⟨3, _, _, _, _, _, _, HR.out, rfl⟩⟩
  have EX := Lib.hid (BA_take 8 l)
  have hk8 : (BA (l.take 8)).size = 8 := by rw [BA_size, List.length_take]; omega
  have UK := Lib.hid (runkey (BA (l.take 8)) hk8)
  have h8' : 8 ≤ l.length := by omega
  have HF : rdFloat l = if unOk (BA (l.take 8)) then .ok (Fl.bitsOf (unB (BA (l.take 8))), l.drop 8) else .error 4 := by
    unfold rdFloat rdTake; rw [if_neg h8]
  cases hk : unOk (BA (l.take 8))
  · have HR := Lib.hid (show rd1 .f l = .error 4 from rdMap_err (by rw [HF, hk]; rfl))
    have UO := Lib.hid hk
    clear hk HF
    go_enter Try.func26, Try.ntmps26
    go_wp2_with fail
    rw [EX.out]
    refine (UK.out _).mono ?_
    rintro e w1 ⟨rfl, rfl⟩
    rw [UO.out]
    go_wp2_with fail
    refine bodyPost_ret (v := .tuple #[.agg #[.int .u64 0, .string ⟨#[]⟩, .slice none 0 0, .slice none 0 0], .int .i64 0, .int .i64 4]) (by simp [results, Try.results26, go_sem]) rfl ?_
    exact ⟨(Below.refl w.heap.size w).alloc (Nat.le_refl _) _, .inl ⟨4, _, _, _, _, _, _, HR.out, rfl⟩⟩
  · obtain ⟨b, hb⟩ : ∃ b, b = unB (BA (l.take 8)) := ⟨_, rfl⟩
    have HR := Lib.hid (show rd1 .f l = .ok (.mk (Fl.bitsOf b : Int) ⟨#[]⟩ [] [], l.drop 8) from rdMap_ok (by rw [HF, hk, hb]; rfl))
    have UO := Lib.hid hk
    have HF : Fl.Fits b := by
      have hp : numTo (BA (l.take 8)) 8 ≤ Fl.NANP := of_decide_eq_true hk
      rw [hb]; unfold unB; rw [if_pos hp]; exact Fl.atB_fits hp
    have RB := Lib.hid (rbits b HF)
    have HB := Lib.hid hb
    clear hk HF hb
    go_enter Try.func26, Try.ntmps26
    go_wp2_with fail
    rw [EX.out]
    refine (UK.out _).mono ?_
    rintro e w1 ⟨rfl, rfl⟩
    rw [UO.out, ← HB.out]
    go_wp2_with fail
    refine (RB.out _).mono ?_
    rintro e w1 ⟨rfl, rfl⟩
    go_wp2_with fail
    refine bodyPost_ret (v := .tuple #[.agg #[.int .u64 (Fl.bitsOf b : Nat), .string ⟨#[]⟩, .slice none 0 0, .slice none 0 0], .int .i64 8, .int .i64 0]) (by simp [results, Try.results26, go_sem]) rfl ?_
    exact ⟨(Below.refl w.heap.size w).alloc (Nat.le_refl _) _, .inr ⟨.mk (Fl.bitsOf b : Int) ⟨#[]⟩ [] [], l.drop 8, none, 0, HR.out, rfl, by rw [List.length_drop, show l.length - (l.length - 8) = 8 by omega]; rfl, SlG.nil _ _⟩⟩

theorem below_row {w w1 w2 : World} {o : Obj} (h : w1 = w.alloc o) (hb : Below w1.heap.size w1 w2) (cs : Array Value) (t : TypeId) (ho : o = .cells cs t) :
    (∀ j v, cs[j]? = some v → w2.cell? ⟨w.heap.size, j, none⟩ = some v) ∧ (∀ j, w2.frozen? ⟨w.heap.size, j, none⟩ = false) := by
  subst h; subst ho
  refine ⟨fun j v h => ?_, fun j => ?_⟩
  · rw [hb.cell (p := ⟨w.heap.size, j, none⟩) (by simp), World.cell?_alloc_at _ _ _ _ rfl]; exact h
  · rw [hb.frozen (p := ⟨w.heap.size, j, none⟩) (by simp), World.frozen?_alloc_at _ _ _ _ rfl]

theorem set4_below {w w2 : World} (h : Below w.heap.size w w2) (v0 v1 v2 v3 : Value) : Below w.heap.size w (set4 w2 w.heap.size v0 v1 v2 v3) :=
  h.grown (set4_grown w2 w.heap.size v0 v1 v2 v3) h.size (fun k hk => by injection hk with hk; omega)

set_option maxRecDepth 100000 in
set_option maxHeartbeats 1000000 in
theorem rRead_l (l : List UInt8) (w : World) (hl : l.length ≤ 1099511627776) : Calls Try.prog 26 #[.int .u8 108, .string (BA l)] w (RdR (rd1 .l l) l w) := by
  have UK := Lib.hid (fun w => runpack (BA l) w (by rw [BA_size]; exact hl))
  by_cases hu : upC (BA l) = 0
  · have HR := Lib.hid (show rd1 .l l = .ok (.mk 0 ⟨#[]⟩ (upV (BA l)) [], l.drop (upN (BA l)).toNat) from rdMap_ok (by unfold rdTags; rw [if_pos hu]))
    have UN := upN_le hu
    obtain ⟨N, hN⟩ : ∃ N : Nat, N = (upN (BA l)).toNat := ⟨_, rfl⟩
    rw [← hN] at UN HR
    have HN := Lib.hid UN.2
    have NL := UN.1
    have HL := Lib.hid (show N = l.length - (l.drop N).length by rw [List.length_drop]; omega)
    obtain ⟨zs, hz⟩ : ∃ zs, zs = upV (BA l) := ⟨_, rfl⟩
    rw [← hz] at HR
    have HZ := Lib.hid hz
    have UC := Lib.hid hu
    clear hu UN hN hz
    go_enter Try.func26, Try.ntmps26
    go_wp2_with fail
    refine (UK.out _).mono ?_
    rintro e w2 ⟨v, rfl, ho, hb⟩
    rw [UC.out, HN.out]
    rw [← HZ.out] at ho
    obtain ⟨A, c, rfl, _, hsl, _, hA⟩ := ho.form
    obtain ⟨hz, fz⟩ := below_row rfl hb _ _ rfl
    have z0 := hz 0 _ rfl
    have z1 := hz 1 _ rfl
    have z2 := hz 2 _ rfl
    have z3 := hz 3 _ rfl
    have f0 := fz 0
    have f1 := fz 1
    have f2 := fz 2
    have f3 := fz 3
    have hsz := hb.size
    have wl : w.heap.size < w2.heap.size := by simp at hsz; omega
    have HB := Lib.hid (below_then ((Below.refl w.heap.size w).alloc (Nat.le_refl _) _) hb)
    have SN := Lib.hid hsl
    have AN := Lib.hid (show ∀ b o, A = some ⟨b, o, none⟩ → w.heap.size < b from fun b o e => by obtain ⟨g, eg, hg⟩ := hA _ e; injection eg with eg; simp at hg; omega)
    clear ho hb hsl hA hz fz hsz
    go_wp2_with fail
    have GW := set4_grown w2 w.heap.size (.int .u64 0) (.string ⟨#[]⟩) (.slice A zs.length c) (.slice none 0 0)
    refine bodyPost_ret (v := .tuple #[.agg #[.int .u64 0, .string ⟨#[]⟩, .slice A zs.length c, .slice none 0 0], .int .i64 (N : Int), .int .i64 0]) (by simp [results, Try.results26, go_sem, z0, z1, z2, z3]) rfl ?_
    exact ⟨set4_below HB.out _ _ _ _, .inr ⟨.mk 0 ⟨#[]⟩ zs [], l.drop N, A, c, HR.out, rfl, by rw [← HL.out]; rfl, SN.out.keep GW (fun b o e e2 => by injection e2 with e2; have := AN.out b o e; omega), fun b o e => by have := AN.out b o e; omega⟩⟩
  · have HR := Lib.hid (show rd1 .l l = .error (upC (BA l)) from rdMap_err (by unfold rdTags; rw [if_neg hu]))
    obtain ⟨C, hC⟩ : ∃ C, C = upC (BA l) := ⟨_, rfl⟩
    rw [← hC] at HR
    have HC := Lib.hid hC
    clear hu hC
    go_enter Try.func26, Try.ntmps26
    go_wp2_with fail
    refine (UK.out _).mono ?_
    rintro e w2 ⟨v, rfl, ho, hb⟩
    rw [← HC.out]
    obtain ⟨A, c, rfl, _, _, _, _⟩ := ho.form
    obtain ⟨hz, fz⟩ := below_row rfl hb _ _ rfl
    have z0 := hz 0 _ rfl
    have z1 := hz 1 _ rfl
    have z2 := hz 2 _ rfl
    have z3 := hz 3 _ rfl
    have f0 := fz 0
    have f1 := fz 1
    have f2 := fz 2
    have f3 := fz 3
    have hsz := hb.size
    have wl : w.heap.size < w2.heap.size := by simp at hsz; omega
    have HB := Lib.hid (below_then ((Below.refl w.heap.size w).alloc (Nat.le_refl _) _) hb)
    clear ho hb hz fz hsz
    go_wp2_with fail
    refine bodyPost_ret (v := .tuple #[.agg #[.int .u64 0, .string ⟨#[]⟩, .slice A (upV (BA l)).length c, .slice none 0 0], .int .i64 (upN (BA l)), .int .i64 C]) (by simp [results, Try.results26, go_sem, z0, z1, z2, z3]) rfl ?_
    exact ⟨set4_below HB.out _ _ _ _, .inl ⟨C, _, _, _, _, _, _, HR.out, rfl⟩⟩

/-- cloisonneref03.Read -/
theorem rRead (L : Ltr) (l : List UInt8) (w : World) (hl : l.length ≤ 1099511627776) : Calls Try.prog 26 #[.int .u8 L.code, .string (BA l)] w (RdR (rd1 L l) l w) := by
  cases L
  · exact rRead_b l w hl
  · exact rRead_n l w hl
  · exact rRead_t l w hl
  · exact rRead_f l w hl
  · exact rRead_l l w hl

end Go.Proofs.Ytmcackghpkegbaa
