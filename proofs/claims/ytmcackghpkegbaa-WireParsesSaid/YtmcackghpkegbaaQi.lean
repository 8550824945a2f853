/- cloisonneref03.Begin: walked. -/
import Derived.Test.YtmcackghpkegbaaQd
import Derived.Test.YtmcackghpkegbaaQe
import Derived.Test.YtmcackghpkegbaaQh
import Derived.Deep.RegionWith
import Derived.Deep.Cut
import Derived.Deep.CutRange
import Derived.Deep.DeepCutAuto
namespace Go.Proofs.Ytmcackghpkegbaa
open Go.RowKit

theorem drop_pre {a r : List UInt8} : r = (a ++ r).drop ((a ++ r).length - r.length) := by
  rw [List.length_append, Nat.add_sub_cancel]; simp
theorem rd1_drop {L : Ltr} {l r : List UInt8} {x : Item} (h : rd1 L l = .ok (x, r)) : r = l.drop (l.length - r.length) ∧ r.length ≤ l.length := by
  obtain ⟨_, _, _, e⟩ := rd1_of L 0 h
  exact ⟨by rw [e]; exact drop_pre, by rw [e, List.length_append]; omega⟩
theorem rdNum_drop {l r : List UInt8} {n : Nat} (h : rdNum 0 0 l = .ok (n, r)) : r = l.drop (l.length - r.length) ∧ r.length ≤ l.length := by
  obtain ⟨_, e⟩ := rdNum_of h
  exact ⟨by rw [e]; exact drop_pre, by rw [e, List.length_append]; omega⟩
theorem rdMap_app {α : Type} (xs ys : List α) (o : Rd (List α)) : rdMap (xs ++ ·) (rdMap (ys ++ ·) o) = rdMap ((xs ++ ys) ++ ·) o := by
  cases o with
  | error c => rfl
  | ok q => obtain ⟨y, r⟩ := q; simp [rdMap]
theorem rdMap_cons {α : Type} (x : α) (o : Rd (List α)) : rdMap (x :: ·) o = rdMap ([x] ++ ·) o := rfl
theorem rdMap_nil {α : Type} (o : Rd (List α)) : rdMap (([] : List α) ++ ·) o = o := by
  cases o with
  | error c => rfl
  | ok q => obtain ⟨y, r⟩ := q; simp [rdMap]

theorem box_new {w w2 : World} {v0 v1 v2 v3 : Value} {t : TypeId} (hb : Below (w.alloc (.cells #[v0, v1, v2, v3] t)).drew.heap.size (w.alloc (.cells #[v0, v1, v2, v3] t)).drew w2) :
    w2.cell? ⟨w.heap.size, 0, none⟩ = some v0 ∧ w2.cell? ⟨w.heap.size, 1, none⟩ = some v1 ∧ w2.cell? ⟨w.heap.size, 2, none⟩ = some v2 ∧ w2.cell? ⟨w.heap.size, 3, none⟩ = some v3 ∧
    w2.frozen? ⟨w.heap.size, 0, none⟩ = false ∧ w2.frozen? ⟨w.heap.size, 1, none⟩ = false ∧ w2.frozen? ⟨w.heap.size, 2, none⟩ = false ∧ w2.frozen? ⟨w.heap.size, 3, none⟩ = false := by
  obtain ⟨h1, h2⟩ := below_row (w := w) (w1 := w.alloc (.cells #[v0, v1, v2, v3] t)) rfl (show Below (w.alloc (.cells #[v0, v1, v2, v3] t)).heap.size (w.alloc (.cells #[v0, v1, v2, v3] t)) w2 from ⟨hb.os, hb.tape, hb.output, hb.size, hb.block⟩) _ _ rfl
  exact ⟨h1 0 _ rfl, h1 1 _ rfl, h1 2 _ rfl, h1 3 _ rfl, h2 0, h2 1, h2 2, h2 3⟩

theorem bel_call {w w2 : World} (hb : Below w.drew.heap.size w.drew w2) : Below w.heap.size w w2 := ⟨hb.os, hb.tape, hb.output, hb.size, hb.block⟩
theorem bel_box {w w2 : World} {o : Obj} (hb : Below (w.alloc o).drew.heap.size (w.alloc o).drew w2) : Below w.heap.size w w2 :=
  below_then ((Below.refl w.heap.size w).alloc (Nat.le_refl _) o) ⟨hb.os, hb.tape, hb.output, hb.size, hb.block⟩
/-- what a reading leaves in a box of its own at g -/
structure BoxI (w wx : World) (g : Nat) (N : Int) (s : ByteArray) (A : Option Addr) (zs : List Int) (LL c : Nat) : Prop where
  below : Below w.heap.size w wx
  ge : w.heap.size ≤ g
  lt : g < wx.heap.size
  c0 : wx.cell? ⟨g, 0, none⟩ = some (.int .u64 N)
  c1 : wx.cell? ⟨g, 1, none⟩ = some (.string s)
  c2 : wx.cell? ⟨g, 2, none⟩ = some (.slice A LL c)
  c3 : wx.cell? ⟨g, 3, none⟩ = some (.slice none 0 0)
  sl : SlG w.heap.size wx A zs
theorem BoxI.call {w w2 : World} {N : Int} {s : ByteArray} {A : Option Addr} {zs : List Int} {LL c : Nat} {t : TypeId} (hb : Below w.heap.size w w2) (sl : SlG w.heap.size w2 A zs) :
    BoxI w (w2.alloc (.cells #[.int .u64 N, .string s, .slice A LL c, .slice none 0 0] t)) w2.heap.size N s A zs LL c := by
  refine ⟨hb.alloc hb.size _, hb.size, by simp, ?_, ?_, ?_, ?_, sl.keep (World.grownBy_alloc w2 _ none) (fun r e => by cases e)⟩
  all_goals rw [World.cell?_alloc_at _ _ _ _ rfl]; rfl
theorem BoxI.box {w w2 : World} {N : Int} {s : ByteArray} {A : Option Addr} {zs : List Int} {LL c : Nat} {o : Obj} {v0 v1 v2 v3 : Value} (hb : Below w.heap.size w w2) (sl : SlG (w.alloc o).drew.heap.size w2 A zs) (hl : w.heap.size < w2.heap.size)
    (z0 : w2.cell? ⟨w.heap.size, 0, none⟩ = some v0) (z1 : w2.cell? ⟨w.heap.size, 1, none⟩ = some v1) (z2 : w2.cell? ⟨w.heap.size, 2, none⟩ = some v2) (z3 : w2.cell? ⟨w.heap.size, 3, none⟩ = some v3) :
    BoxI w (set4 w2 w.heap.size (.int .u64 N) (.string s) (.slice A LL c) (.slice none 0 0)) w.heap.size N s A zs LL c := by
  have hg := set4_grown w2 w.heap.size (.int .u64 N) (.string s) (.slice A LL c) (.slice none 0 0)
  obtain ⟨q0, q1, q2, q3⟩ := set4o_at w2 w.heap.size 0 (.int .u64 N) (.string s) (.slice A LL c) (.slice none 0 0) (by rw [z0]; rfl) (by rw [z1]; rfl) (by rw [z2]; rfl) (by rw [z3]; rfl)
  exact ⟨set4_below hb _ _ _ _, Nat.le_refl _, Nat.lt_of_lt_of_le hl hg.size, q0, q1, q2, q3, (sl.keep hg (fun r e => by injection e with e; simp; omega)).more (by simp)⟩

/-- what cloisonneref03.Begin leaves -/
def RbPost (o : Rd (List Item)) (l : List UInt8) (w : World) (e : Ending) (w' : World) : Prop :=
  Below w.heap.size w w' ∧ ((∃ c, o = .error c ∧ e = .returned (.tuple #[.slice none 0 0, .int .i64 0, .int .i64 c])) ∨
    (∃ xs r A c, o = .ok (xs, r) ∧ e = .returned (.tuple #[.slice A xs.length c, .int .i64 ((l.length - r.length : Nat) : Int), .int .i64 0]) ∧ SlIt 2 w' A xs))

set_option maxRecDepth 100000 in
set_option maxHeartbeats 4000000 in
/-- cloisonneref03.Begin -/
theorem rBegin (sh : ByteArray) (l : List UInt8) (w : World) (hs : sh.size ≤ maxLen) (hl : l.length ≤ 1099511627776) : Calls Try.prog 16 #[.string sh, .string (BA l)] w (RbPost (bgR sh l) l w) := by
  have RR := Lib.hid (rRight sh w hs)
  obtain ⟨O, hO⟩ : ∃ O, O = bgR sh l := ⟨_, rfl⟩
  rw [← hO]
  cases hk : kindsOf sh with
  | none =>
    have HK := Lib.hid hk
    have R := Lib.hid (hO.trans (bgR_none (l := l) hk))
    clear hk hO
    go_enter Try.func16, Try.ntmps16
    go_wp2_with fail
    refine RR.out.mono ?_
    rintro e w1 ⟨rfl, rfl⟩
    rw [HK.out]
    go_wp2_with fail
    refine bodyPost_ret (results_tmp3 rfl _ _ _) rfl ?_
    exact ⟨Below.refl _ _, .inl ⟨1, R.out, rfl⟩⟩
  | some ks =>
  have h40 : sh.size ≤ 40 := by
    rcases Nat.lt_or_ge 40 sh.size with h | h
    · unfold kindsOf at hk; rw [if_pos h] at hk; cases hk
    · exact h
  have KG := Lib.hid (show kindsGo sh.data.toList false = some ks by unfold kindsOf at hk; rw [if_neg (by omega)] at hk; exact hk)
  have HK := Lib.hid hk
  have HO := Lib.hid (hO.trans (bgR_some (l := l) hk))
  obtain ⟨S, hS⟩ : ∃ S, S = BA l := ⟨_, rfl⟩
  have SZ : S.size = l.length := by rw [hS]; exact BA_size l
  have RD := Lib.hid (show ∀ (L : Ltr) (p : Nat) (w : World), Calls Try.prog 26 #[.int .u8 L.code, .string (S.extract p S.size)] w (RdR (rd1 L (l.drop p)) (l.drop p) w) from fun L p w => by
    rw [hS, BA_drop]; exact rRead L (l.drop p) w (by rw [List.length_drop]; omega))
  have CT := Lib.hid (show ∀ (p : Nat) (w : World), Calls Try.prog 27 #[.string (S.extract p S.size)] w fun e w' => e = .returned (.tuple #[.int .u64 (ctN (rdNum 0 0 (l.drop p))), .int .i64 (ctK (l.drop p).length (rdNum 0 0 (l.drop p))), .int .i64 (ctE (rdNum 0 0 (l.drop p)))]) ∧ w = w' from fun p w => by
    rw [hS, BA_drop]
    have h := rCount (BA (l.drop p)) w (by rw [BA_size, List.length_drop]; omega)
    rw [BA_list, BA_size] at h; exact h)
  have sl40 : S.size ≤ 1099511627776 := by omega
  have HSZ := Lib.hid SZ
  rw [← hS]
  clear hk hO hS SZ
  go_enter Try.func16, Try.ntmps16
  go_wp2_with fail
  refine RR.out.mono ?_
  rintro e w1 ⟨rfl, rfl⟩
  rw [HK.out]
  go_wp2_with fail
  go_loopw [7, 8, 9] (fun vo vp vi wr => ∃ (i p : Nat) (kr : List (Ltr × Bool)) (xs : List Item), i ≤ sh.size ∧ p ≤ S.size ∧ xs.length ≤ i ∧ vi = .int .i64 i ∧ vp = .int .i64 p ∧ Hid (kindsGo (sh.data.toList.drop i) false = some kr) ∧ Hid (O = rdMap (xs ++ ·) (rdAll kr (l.drop p))) ∧ Hid (OwnI 1 wr w.heap.size vo xs) ∧ Hid (Below w.heap.size w wr)) (fun _ _ i _ => sh.size - (intOf i).toNat)
  case atStart => exact ⟨0, 0, ks, [], Nat.zero_le _, Nat.zero_le _, Nat.zero_le _, rfl, rfl, KG, Lib.hid (by rw [rdMap_nil]; exact HO.out), OwnI.made 1 w w.heap.size (Nat.le_refl _), (Below.refl _ _).alloc (Nat.le_refl _) _⟩
  case round =>
    obtain ⟨i, p, kr, xs, hi, hp, hx, rfl, rfl, HG, HE, HW, HB⟩ := hrel
    have hsz := HB.out.size
    by_cases hlt : i < sh.size
    case neg =>
      have h0 : kr = [] := by
        have h := HG.out
        rw [List.drop_of_length_le (by simp; omega)] at h
        injection h with h; exact h.symm
      have R := Lib.hid (show O = .ok (xs, l.drop p) by rw [HE.out, h0]; simp [rdAll, rdMap])
      have HL := Lib.hid (show p = l.length - (l.drop p).length by have := HSZ.out; rw [List.length_drop]; omega)
      obtain ⟨A, c, rfl, hsl⟩ := HW.out.form
      have SL := Lib.hid (hsl.slit 2)
      clear hsl h0
      go_wp2_with fail
      refine bodyPost_ret (results_tmp3 rfl _ _ _) rfl ?_
      exact ⟨HB.out, .inr ⟨xs, l.drop p, A, c, R.out, by rw [← HL.out]; rfl, SL.out⟩⟩
    have hdb := drop_byte sh i hlt
    obtain ⟨b, hb⟩ : ∃ b, sh[i] = b := ⟨_, rfl⟩
    rw [hb] at hdb
    have H0 := HG.out
    rw [hdb] at H0
    have i3 : (0 : Int) ≤ (i : Int) := by omega
    have p0 : (0 : Int) ≤ (p : Int) := by omega
    have p1 : (p : Int) ≤ (S.size : Int) := by omega
    by_cases b42 : b = 42
    · obtain ⟨e, r', L, rest, hdr, hL, hr, hG⟩ := kinds_star (by rw [b42] at H0; exact H0)
      have hl1 : i + 1 < sh.size := by
        have h := congrArg List.length hdr
        rw [List.length_drop, List.length_cons] at h
        have : sh.data.toList.length = sh.size := by simp
        omega
      have hdb2 := drop_byte sh (i + 1) hl1
      obtain ⟨e2, he2⟩ : ∃ e2, sh[i + 1] = e2 := ⟨_, rfl⟩
      rw [he2] at hdb2
      rw [hdb2] at hdr
      injection hdr with h1 h2
      subst h1
      rw [← h2] at hG
      have T : ((b.toNat : Int) != 42) = false := by subst b42; rfl
      have HGN := Lib.hid hG
      have C0 := Lib.hid (show ∀ (q : Nat) w2, Calls Try.prog 26 #[.int .u8 (e2.toNat : Int), .string (S.extract q S.size)] w2 (RdR (rd1 L (l.drop q)) (l.drop q) w2) from fun q w2 => by rw [ltr_code hL]; exact RD.out L q w2)
      have HE1 := HE.out
      rw [hr] at HE1
      have CN := CT.out p
      have i4 : ((i : Int) + 1).toNat = i + 1 := by omega
      clear hdb hdb2 H0 hr hG b42 hL h2
      cases ho : rdNum 0 0 (l.drop p) with
      | error c =>
        have HS : rdSize 64 (l.drop p) = .error c := by unfold rdSize; rw [ho]
        have R := Lib.hid (show O = .error c by
          have h9 : rdAll ((L, true) :: rest) (l.drop p) = .error c := rdAll_err (by simp only [rdK, if_true]; rw [HS])
          rw [HE1, h9]; rfl)
        have cn := rdNum_code _ _ _ _ ho
        have TC : (c != 0) = true := by simp [cn]
        rw [ho] at CN
        have CN2 := Lib.hid CN
        clear HE1 ho HS cn CN
        go_wp2_with fail
        refine (CN2.out _).mono ?_
        rintro e3 w3 ⟨rfl, rfl⟩
        simp only [ctN, ctK, ctE]
        go_wp2_with fail
        refine bodyPost_ret (results_tmp3 rfl _ _ _) rfl ?_
        exact ⟨HB.out, .inl ⟨c, R.out, rfl⟩⟩
      | ok q =>
        obtain ⟨n, r⟩ := q
        obtain ⟨hr1, hr2⟩ := rdNum_drop ho
        obtain ⟨M, hM⟩ : ∃ M : Nat, M = (l.drop p).length - r.length := ⟨_, rfl⟩
        have hr3 : r = l.drop (p + M) := by
          rw [← hM, List.drop_drop] at hr1; exact hr1
        have hpM : p + M ≤ S.size := by
          have h1 := HSZ.out
          rw [List.length_drop] at hM
          omega
        rw [ho] at CN
        have CN2 := Lib.hid (show ∀ w, Calls Try.prog 27 #[.string (S.extract p S.size)] w fun e w' => e = .returned (.tuple #[.int .u64 (n : Int), .int .i64 (M : Int), .int .i64 0]) ∧ w = w' by rw [hM]; exact CN)
        by_cases h64 : 64 < n
        · have HS : rdSize 64 (l.drop p) = .error 5 := by unfold rdSize; rw [ho]; simp only; rw [if_pos h64]
          have R := Lib.hid (show O = .error 5 by
            have h9 : rdAll ((L, true) :: rest) (l.drop p) = .error 5 := rdAll_err (by simp only [rdK, if_true]; rw [HS])
            rw [HE1, h9]; rfl)
          have T2 : decide ((64 : Int) < (n : Int)) = true := decide_eq_true (by omega)
          clear HE1 ho HS CN hr1 hr2 hM hr3
          go_wp2_with fail
          refine (CN2.out _).mono ?_
          rintro e3 w3 ⟨rfl, rfl⟩
          go_wp2_with fail
          refine bodyPost_ret (results_tmp3 rfl _ _ _) rfl ?_
          exact ⟨HB.out, .inl ⟨5, R.out, rfl⟩⟩
        have HS : rdSize 64 (l.drop p) = .ok (n, r) := by unfold rdSize; rw [ho]; simp only; rw [if_neg h64]
        obtain ⟨K, hK⟩ : ∃ K, K = rdKids L n (l.drop (p + M)) := ⟨_, rfl⟩
        have HK0 := Lib.hid hK
        have KE := Lib.hid (show ∀ c, K = .error c → O = .error c from fun c h => by
          have h9 : rdAll ((L, true) :: rest) (l.drop p) = .error c := rdAll_err (by simp only [rdK, if_true]; rw [HS]; simp only; rw [hr3, ← hK, h]; rfl)
          rw [HE1, h9]; rfl)
        have KO := Lib.hid (show ∀ ks r2, K = .ok (ks, r2) → O = rdMap ((xs ++ [.mk 0 ⟨#[]⟩ [] ks]) ++ ·) (rdAll rest r2) from fun ks r2 h => by
          have h9 : rdAll ((L, true) :: rest) (l.drop p) = rdMap (Item.mk 0 ⟨#[]⟩ [] ks :: ·) (rdAll rest r2) := rdAll_ok (by simp only [rdK, if_true]; rw [HS]; simp only; rw [hr3, ← hK, h]; rfl)
          rw [HE1, h9, rdMap_cons, rdMap_app])
        have n64 : n ≤ 64 := by omega
        clear HE1 ho HS CN hr1 hr2 hM hr3 hK h64
        go_wp2_with fail
        refine (CN2.out _).mono ?_
        rintro e3 w3 ⟨rfl, rfl⟩
        go_wp2_with fail
        obtain ⟨wo, hwo⟩ : ∃ wo, wo = wr := ⟨_, rfl⟩
        subst hwo
        go_loopw [8, 17] (fun vp vj wr => ∃ (j q : Nat) (ys : List Item) (V : Value), j ≤ n ∧ q ≤ S.size ∧ vp = .int .i64 q ∧ vj = .int .u64 j ∧ Hid (ys.length = j) ∧ Hid (K = rdMap (ys ++ ·) (rdKids L (n - j) (l.drop q))) ∧ Hid (Below wo.heap.size wo wr) ∧ Hid (wr.cell? ⟨wo.heap.size, 0, none⟩ = some (.int .u64 0)) ∧ Hid (wr.cell? ⟨wo.heap.size, 1, none⟩ = some (.string ⟨#[]⟩)) ∧ Hid (wr.cell? ⟨wo.heap.size, 2, none⟩ = some (.slice none 0 0)) ∧ Hid (wr.cell? ⟨wo.heap.size, 3, none⟩ = some V) ∧ Hid (wr.frozen? ⟨wo.heap.size, 3, none⟩ = false) ∧ Hid (OwnI 0 wr (wo.heap.size + 1) V ys) ∧ wo.heap.size < wr.heap.size) (fun _ vj _ => n - (intOf vj).toNat)
        case atStart =>
          refine ⟨0, p + M, [], .slice none 0 0, Nat.zero_le _, hpM, by go_num, rfl, rfl, Lib.hid (by rw [rdMap_nil]; exact HK0.out), (Below.refl _ _).alloc (Nat.le_refl _) _, ?_, ?_, ?_, ?_, ?_, OwnI.nil _ _ _, by simp⟩
          all_goals first | exact World.cell?_alloc_at _ _ _ _ rfl | exact World.frozen?_alloc_at _ _ _ _ rfl
        case round =>
          obtain ⟨j, q, ys, V, hj, hq, rfl, rfl, HYL, HKK, HBO, HY0, HY1, HY2, HY3, HYF, HKW, hlw⟩ := hrel
          have Y0 := HY0.out
          have Y1 := HY1.out
          have Y2 := HY2.out
          have Y3 := HY3.out
          have YF := HYF.out
          by_cases hjn : j < n
          case neg =>
            have jn : j = n := by omega
            have RK := Lib.hid (show O = rdMap ((xs ++ [.mk 0 ⟨#[]⟩ [] ys]) ++ ·) (rdAll rest (l.drop q)) from KO.out ys (l.drop q) (by rw [HKK.out, jn, Nat.sub_self]; simp [rdKids, rdMap]))
            obtain ⟨AK, cK, rfl, hsl⟩ := HKW.out.form
            rw [HYL.out] at Y3
            have VL := HW.out.lt
            have SK := Lib.hid (show SlItP 1 (fun k => w.heap.size ≤ k ∧ u7.ownBlock ≠ some k) wr AK ys from hsl.to (fun k _ hk => ⟨by omega, fun e => by have := (VL k e).2; omega⟩))
            have OW := Lib.hid (HW.out.below HBO.out)
            have BW := Lib.hid (below_then HB.out HBO.out)
            have bsz := BW.out.size
            clear VL hsl jn
            go_wp2_with (at_builtin; refine wp_putI rfl (.tmp 103) (.tmp 105) rfl 1 w.heap.size u7 xs rfl (OW.out.alloc _) (.mk 0 ⟨#[]⟩ [] ys) none AK 0 cK wr.heap.size rfl ?ha0 ?hsl0 ?hsk0 ?hxl0 ?hbs0 ?hk0; (case ha0 => rw [heap_alloc_new, ← HYL.out]; rfl); (case hsl0 => exact SlP.nil _ _ _); (case hsk0 => exact SK.out.keep (World.grownBy_alloc _ _ none) (fun k _ _ e => by cases e)); (case hxl0 => omega); (case hbs0 => simp; omega); intro v1 w1 hown1 hg1 hf1; have HO1 := Lib.hid hown1; have HB1 := Lib.hid ((BW.out.alloc bsz _).grown hg1 (by simp; omega) (fun k hk => (HW.out.lt k hk).1)); clear hown1 hg1 hf1)
            go_roundw
            case rel => exact ⟨i + 2, q, rest, xs ++ [.mk 0 ⟨#[]⟩ [] ys], by omega, hq, by rw [List.length_append, List.length_singleton]; omega, by go_num, by first | rfl | go_num, HGN, RK, HO1, HB1⟩
            case measure => simp [intOf]; omega
          have NJ := Lib.hid (show n - j = (n - (j + 1)) + 1 by omega)
          have q0 : (0 : Int) ≤ (q : Int) := by omega
          have q1 : (q : Int) ≤ (S.size : Int) := by omega
          have i5 : (0 : Int) ≤ (i : Int) + 1 := by omega
          have i6 : (i : Int) + 1 < (sh.size : Int) := by omega
          cases ho : rd1 L (l.drop q) with
          | error c =>
            have R := Lib.hid (KE.out c (by rw [HKK.out, NJ.out, rdKids_err ho]; rfl))
            have HO1 := Lib.hid ho
            have cn := rd1_code ho
            have TC : (c != 0) = true := by simp [cn]
            clear ho cn
            go_wp2_with fail
            go_region_with (go_at_call 26; refine (C0.out q _).mono ?_; rintro e w2 hp2; obtain ⟨N, s, A, a, c0, k, rfl, hb2⟩ := hp2.err HO1.out; clear hp2; (first | (have hz := box_new hb2; have hw := Lib.hid (set4_below (bel_box hb2)); obtain ⟨z0, z1, z2, z3, f0, f1, f2, f3⟩ := hz; clear hb2) | (have hw := Lib.hid (bel_call hb2); clear hb2)))
            all_goals
              go_wp2_with fail
              refine bodyPost_ret (results_tmp3 rfl _ _ _) rfl ?_
              first
                | exact ⟨below_then (below_then HB.out HBO.out) (hw.out _ _ _ _), .inl ⟨c, R.out, rfl⟩⟩
                | exact ⟨below_then (below_then HB.out HBO.out) (hw.out.alloc hw.out.size _), .inl ⟨c, R.out, rfl⟩⟩
          | ok z =>
            obtain ⟨x, r⟩ := z
            obtain ⟨hr1, hr2⟩ := rd1_drop ho
            obtain ⟨_, _, hks, _⟩ := rd1_of L 0 ho
            obtain ⟨M2, hM⟩ : ∃ M2 : Nat, M2 = (l.drop q).length - r.length := ⟨_, rfl⟩
            have hr3 : r = l.drop (q + M2) := by
              rw [← hM, List.drop_drop] at hr1; exact hr1
            have hqM : q + M2 ≤ S.size := by
              have h1 := HSZ.out
              rw [List.length_drop] at hM
              omega
            obtain ⟨ys2, hys⟩ : ∃ ys2, ys2 = ys ++ [x] := ⟨_, rfl⟩
            have HYN := Lib.hid (show ys2.length = j + 1 by rw [hys, List.length_append, List.length_singleton, HYL.out])
            have NX := Lib.hid (show K = rdMap (ys2 ++ ·) (rdKids L (n - (j + 1)) (l.drop (q + M2))) by
              rw [HKK.out, NJ.out, rdKids_ok ho, rdMap_cons, rdMap_app, hr3, hys])
            obtain ⟨N, XS, XL, ks0⟩ := x
            obtain rfl : ks0 = [] := hks
            have HYS := Lib.hid hys
            obtain ⟨LL, hLL⟩ : ∃ LL, LL = XL.length := ⟨_, rfl⟩
            have C2 := Lib.hid (show ∀ w2, Calls Try.prog 26 #[.int .u8 (e2.toNat : Int), .string (S.extract q S.size)] w2 (fun e w' => ∃ A c, e = .returned (.tuple #[.agg #[.int .u64 N, .string XS, .slice A LL c, .slice none 0 0], .int .i64 (M2 : Int), .int .i64 0]) ∧ SlG w2.heap.size w' A XL ∧ Below w2.heap.size w2 w') from fun w2 => by
              refine (C0.out q w2).mono fun e w' hp => ?_
              obtain ⟨A, c, rfl, h2, _, h3⟩ := hp.ok ho
              exact ⟨A, c, by rw [hM, hLL]; rfl, h2, h3⟩)
            have HLL := Lib.hid hLL
            clear ho hr1 hr2 hM hr3 hLL hys
            go_upto_region 25 with fail
            go_cut [18, 19, 20] from 75 to 102 (fun v18 v19 v20 wx => ∃ g A c, v18 = .pointer (some ⟨g, 0, none⟩) ∧ v19 = .int .i64 (M2 : Int) ∧ v20 = .int .i64 0 ∧ Hid (BoxI wr wx g N XS A XL LL c))
            case first =>
              go_region_with (go_at_call 26; refine (C2.out _).mono ?_; rintro e w2 ⟨A, c, rfl, hsl, hb2⟩; have HS := Lib.hid hsl; clear hsl; (first | (have hz := box_new hb2; have hw := Lib.hid (bel_box hb2); have hl2 := hb2.size; obtain ⟨z0, z1, z2, z3, f0, f1, f2, f3⟩ := hz; clear hb2) | (have hw := Lib.hid (bel_call hb2); clear hb2)))
              all_goals
                go_wp2_with fail
                go_meet
                first
                  | exact ⟨_, A, c, rfl, rfl, rfl, BoxI.box hw.out HS.out (by simp at hl2; omega) z0 z1 z2 z3⟩
                  | exact ⟨_, A, c, rfl, rfl, rfl, BoxI.call hw.out HS.out⟩
            case rest =>
              obtain ⟨g, A, c, rfl, rfl, rfl, BX⟩ := hcut
              have X0 := BX.out.c0
              have X1 := BX.out.c1
              have X2 := BX.out.c2
              have X3 := BX.out.c3
              have gl := BX.out.lt
              have KW := Lib.hid (HKW.out.below BX.out.below)
              have VL := HKW.out.lt
              have W3 : wc.cell? ⟨wo.heap.size, 3, none⟩ = some V := (BX.out.below.cell (p := ⟨wo.heap.size, 3, none⟩) hlw).trans Y3
              have WF : wc.frozen? ⟨wo.heap.size, 3, none⟩ = false := (BX.out.below.frozen (p := ⟨wo.heap.size, 3, none⟩) hlw).trans YF
              have W0 := Lib.hid ((BX.out.below.cell (p := ⟨wo.heap.size, 0, none⟩) hlw).trans Y0)
              have W1 := Lib.hid ((BX.out.below.cell (p := ⟨wo.heap.size, 1, none⟩) hlw).trans Y1)
              have W2 := Lib.hid ((BX.out.below.cell (p := ⟨wo.heap.size, 2, none⟩) hlw).trans Y2)
              have SP := Lib.hid (show SlP (fun k => wo.heap.size + 1 ≤ k ∧ V.ownBlock ≠ some k) wc A XL from BX.out.sl.p (fun k hk => ⟨by omega, fun e => by have := (VL k e).2; omega⟩))
              have BW := Lib.hid (below_then HBO.out BX.out.below)
              have bsz := BX.out.below.size
              clear VL Y0 Y1 Y2 Y3 YF
              go_wp2_with (at_builtin; refine wp_putI rfl (.tmp 95) (.tmp 97) rfl 0 (wo.heap.size + 1) V ys rfl (KW.out.alloc _) (.mk N XS XL []) A none c 0 wc.heap.size rfl ?ha1 ?hsl1 ?hsk1 ?hxl1 ?hbs1 ?hk1; (case ha1 => rw [heap_alloc_new, HLL.out]; rfl); (case hsl1 => exact SP.out.keep (World.grownBy_alloc _ _ none) (fun k _ _ e => by cases e)); (case hsk1 => exact SlItP.nil _ _ _ _); (case hxl1 => have := HYL.out; omega); (case hbs1 => simp; omega); intro v1 w1 hown1 hg1 hf1; rw [← HYS.out] at hown1; obtain ⟨A1, c1, hv1, _⟩ := hown1.form; rw [HYN.out] at hv1; subst hv1; have HO1 := Lib.hid hown1; have HBX := Lib.hid (((Below.refl (wo.heap.size + 1) wc).alloc (by omega) _).grown hg1 (by simp; omega) (fun k hk => (KW.out.lt k hk).1)); have Z3 : w1.cell? ⟨wo.heap.size, 3, none⟩ = some V := (HBX.out.cell (p := ⟨wo.heap.size, 3, none⟩) (by simp)).trans W3; have ZF : w1.frozen? ⟨wo.heap.size, 3, none⟩ = false := (HBX.out.frozen (p := ⟨wo.heap.size, 3, none⟩) (by simp)).trans WF; clear hown1 hg1 hf1)
              go_roundw
              case rel =>
                refine ⟨j + 1, q + M2, ys2, .slice A1 (j + 1) c1, by omega, hqM, by go_num, by go_num, HYN, NX, ?_, ?_, ?_, ?_, ?_, ?_, ?_, ?_⟩
                · exact (BW.out.trans (HBX.out.mono (Nat.le_succ _))).setCell (Nat.le_refl _) _
                · exact (World.cell?_setCell_other _ _ _ _ (addr_ne _ (by decide))).trans ((HBX.out.cell (p := ⟨wo.heap.size, 0, none⟩) (Nat.lt_succ_self _)).trans W0.out)
                · exact (World.cell?_setCell_other _ _ _ _ (addr_ne _ (by decide))).trans ((HBX.out.cell (p := ⟨wo.heap.size, 1, none⟩) (Nat.lt_succ_self _)).trans W1.out)
                · exact (World.cell?_setCell_other _ _ _ _ (addr_ne _ (by decide))).trans ((HBX.out.cell (p := ⟨wo.heap.size, 2, none⟩) (Nat.lt_succ_self _)).trans W2.out)
                · exact World.cell?_setCell_same' _ _ _ (by rw [Z3]; rfl)
                · show World.frozen? _ _ = false
                  rw [World.frozen?_setCell]; exact ZF
                · exact HO1.out.keep (grown_setj _ _ _ _) (fun k e => by injection e with e; omega)
                · have := HBX.out.size
                  simp [World.setCell]; omega
              case measure => simp [intOf]; omega
    · obtain ⟨L, rest, hL, hr, hG⟩ := kinds_at H0 b42
      have T : ((b.toNat : Int) != 42) = true := by
        have h : ((b.toNat : Int) == 42) = false := byte_ne b42
        rw [bne, h]; rfl
      have HGN := Lib.hid hG
      have C1 := Lib.hid (show ∀ w2, Calls Try.prog 26 #[.int .u8 (b.toNat : Int), .string (S.extract p S.size)] w2 (RdR (rd1 L (l.drop p)) (l.drop p) w2) from fun w2 => by rw [ltr_code hL]; exact RD.out L p w2)
      have HE1 := HE.out
      rw [hr] at HE1
      clear hdb H0 hr hG b42 hL
      cases ho : rd1 L (l.drop p) with
      | error c =>
        have R := Lib.hid (show O = .error c by
          have h9 : rdAll ((L, false) :: rest) (l.drop p) = .error c := rdAll_err (show rdK (L, false) (l.drop p) = .error c from ho)
          rw [HE1, h9]; rfl)
        have HO1 := Lib.hid ho
        have cn := rd1_code ho
        have TC : (c != 0) = true := by simp [cn]
        clear HE1 ho cn
        go_wp2_with fail
        go_region_with (go_at_call 26; refine (C1.out _).mono ?_; rintro e w2 hp2; obtain ⟨N, s, A, a, c0, k, rfl, hb2⟩ := hp2.err HO1.out; clear hp2; (first | (have hz := box_new hb2; have hw := Lib.hid (set4_below (bel_box hb2)); obtain ⟨z0, z1, z2, z3, f0, f1, f2, f3⟩ := hz; clear hb2) | (have hw := Lib.hid (bel_call hb2); clear hb2)))
        all_goals
          go_wp2_with fail
          refine bodyPost_ret (results_tmp3 rfl _ _ _) rfl ?_
          first
            | exact ⟨below_then HB.out (hw.out _ _ _ _), .inl ⟨c, R.out, rfl⟩⟩
            | exact ⟨below_then HB.out (hw.out.alloc hw.out.size _), .inl ⟨c, R.out, rfl⟩⟩
      | ok q =>
        obtain ⟨x, r⟩ := q
        obtain ⟨hr1, hr2⟩ := rd1_drop ho
        obtain ⟨_, _, hks, _⟩ := rd1_of L 0 ho
        obtain ⟨M, hM⟩ : ∃ M : Nat, M = (l.drop p).length - r.length := ⟨_, rfl⟩
        have hr3 : r = l.drop (p + M) := by
          rw [← hM, List.drop_drop] at hr1; exact hr1
        have hpM : p + M ≤ S.size := by
          have h1 := HSZ.out
          rw [List.length_drop] at hM
          omega
        have NX := Lib.hid (show O = rdMap ((xs ++ [x]) ++ ·) (rdAll rest (l.drop (p + M))) by
          have h9 : rdAll ((L, false) :: rest) (l.drop p) = rdMap (x :: ·) (rdAll rest r) := rdAll_ok (show rdK (L, false) (l.drop p) = .ok (x, r) from ho)
          rw [HE1, h9, rdMap_cons, rdMap_app, hr3])
        obtain ⟨N, XS, XL, ks0⟩ := x
        obtain rfl : ks0 = [] := hks
        obtain ⟨LL, hLL⟩ : ∃ LL, LL = XL.length := ⟨_, rfl⟩
        have C2 := Lib.hid (show ∀ w2, Calls Try.prog 26 #[.int .u8 (b.toNat : Int), .string (S.extract p S.size)] w2 (fun e w' => ∃ A c, e = .returned (.tuple #[.agg #[.int .u64 N, .string XS, .slice A LL c, .slice none 0 0], .int .i64 (M : Int), .int .i64 0]) ∧ SlG w2.heap.size w' A XL ∧ Below w2.heap.size w2 w') from fun w2 => by
          refine (C1.out w2).mono fun e w' hp => ?_
          obtain ⟨A, c, rfl, h2, _, h3⟩ := hp.ok ho
          exact ⟨A, c, by rw [hM, hLL]; rfl, h2, h3⟩)
        have HLL := Lib.hid hLL
        clear HE1 ho hr1 hr2 hM hr3 hLL C1
        go_upto_region 9 with fail
        go_cut [10, 11, 12] from 25 to 106 (fun v10 v11 v12 wx => ∃ g A c, v10 = .pointer (some ⟨g, 0, none⟩) ∧ v11 = .int .i64 (M : Int) ∧ v12 = .int .i64 0 ∧ Hid (BoxI wr wx g N XS A XL LL c))
        case first =>
          go_region_with (go_at_call 26; refine (C2.out _).mono ?_; rintro e w2 ⟨A, c, rfl, hsl, hb2⟩; have HS := Lib.hid hsl; clear hsl; (first | (have hz := box_new hb2; have hw := Lib.hid (bel_box hb2); have hl2 := hb2.size; obtain ⟨z0, z1, z2, z3, f0, f1, f2, f3⟩ := hz; clear hb2) | (have hw := Lib.hid (bel_call hb2); clear hb2)))
          all_goals
            go_wp2_with fail
            go_meet
            first
              | exact ⟨_, A, c, rfl, rfl, rfl, BoxI.box hw.out HS.out (by simp at hl2; omega) z0 z1 z2 z3⟩
              | exact ⟨_, A, c, rfl, rfl, rfl, BoxI.call hw.out HS.out⟩
        case rest =>
          obtain ⟨g, A, c, rfl, rfl, rfl, BX⟩ := hcut
          have X0 := BX.out.c0
          have X1 := BX.out.c1
          have X2 := BX.out.c2
          have X3 := BX.out.c3
          have gl := BX.out.lt
          have OW := Lib.hid (HW.out.below BX.out.below)
          have VL := HW.out.lt
          have SP := Lib.hid (show SlP (fun k => w.heap.size ≤ k ∧ u7.ownBlock ≠ some k) wc A XL from BX.out.sl.p (fun k hk => ⟨by omega, fun e => by have := (VL k e).2; omega⟩))
          have BW := Lib.hid (below_then HB.out BX.out.below)
          have bsz := BW.out.size
          clear VL
          go_wp2_with (at_builtin; refine wp_putI rfl (.tmp 49) (.tmp 51) rfl 1 w.heap.size u7 xs rfl (OW.out.alloc _) (.mk N XS XL []) A none c 0 wc.heap.size rfl ?ha2 ?hsl2 ?hsk2 ?hxl2 ?hbs2 ?hk2; (case ha2 => rw [heap_alloc_new, HLL.out]; rfl); (case hsl2 => exact SP.out.keep (World.grownBy_alloc _ _ none) (fun k _ _ e => by cases e)); (case hsk2 => exact SlItP.nil _ _ _ _); (case hxl2 => omega); (case hbs2 => simp; omega); intro v1 w1 hown1 hg1 hf1; have HO1 := Lib.hid hown1; have HB1 := Lib.hid ((BW.out.alloc bsz _).grown hg1 (by simp; omega) (fun k hk => (HW.out.lt k hk).1)); clear hown1 hg1 hf1)
          go_roundw
          case rel => exact ⟨i + 1, p + M, rest, xs ++ [.mk N XS XL []], by omega, hpM, by rw [List.length_append, List.length_singleton]; omega, by go_num, by go_num, HGN, NX, HO1, HB1⟩
          case measure => simp [intOf]; omega

end Go.Proofs.Ytmcackghpkegbaa
