/- Proved parts: B5ta B5tb B5f B5g B5h B5r B5tc B5o. Conditions: each theorem's own. -/
import Derived.Test.YtbfgpdgiaclphaaM43
import Derived.Test.YtbfgpdgiaclphaaM33
import Derived.Test.YtbfgpdgiaclphaaM44
namespace Go.Proofs.Ytbfgpdgiaclphaa
open Go.RowKit Go.Shelf

abbrev WItm := ByteArray × Value
def encW (x : WItm) : Array Value := #[.string x.1, x.2]
/-- the item that comes behind pre -/
def OkW (L0 : Ch) (j0 : Nat) (pre : List WItm) (x : WItm) (V : World) : Prop :=
  j0 + pre.length < L0.length ∧ x.1 = L0.key (j0 + pre.length) ∧ ∃ A c, x.2 = .slice A (L0.chn (j0 + pre.length)).length c ∧ (L0.chn (j0 + pre.length)).length ≤ c ∧ SlV V A (L0.chn (j0 + pre.length))
def EndW (L0 : Ch) (j0 : Nat) (xs : List WItm) : Prop := j0 + xs.length = L0.length
def strAt : Value → ByteArray
  | .string k => k
  | _ => ⟨#[]⟩
def isOn : Value → Bool
  | .bool t => t
  | _ => false
theorem Fix.cells {b i p : Nat} {L0 : Ch} {K : ByteArray} {V : World} (h : Fix b L0 i K p V) (hi : i < L0.length) : K = L0.key i ∧ ∃ g m c A c2, p < m ∧ m ≤ c ∧ V.cell? ⟨b, 6, none⟩ = some (.slice (some ⟨g, 0, none⟩) m c) ∧ V.cell? ⟨g, p, none⟩ = some (.slice A (L0.chn i).length c2) ∧ (L0.chn i).length ≤ c2 ∧ SlV V A (L0.chn i) := by
  obtain ⟨wz, N, s, os2, h0, q⟩ := h
  obtain ⟨e1, hp, e2⟩ := q hi
  obtain ⟨g, c, A, c2, e3, e4, _, e5, e6⟩ := Sh.cview h0 hp
  have c6 := (Sh.rowAt h0).cell 6
  simp only [Sh.row, List.getElem?_cons_succ, List.getElem?_cons_zero] at c6
  rw [e2] at e4 e5 e6
  rw [e3] at c6
  refine ⟨e1, g, s.cs.length, c, A, c2, hp, ?_, c6, e4, e5, e6⟩
  have hv := h0.vecAt (i := 3) (t := 64) (v := s.cv) (xs := s.vs) rfl
  obtain ⟨F, hP⟩ := h0.get (i := 5) (o := oDat s.vs s.cs) rfl
  rcases vec_form hv with ⟨e7, _⟩ | ⟨g', c', e7, hc, _⟩
  · rw [e3] at e7; cases e7
  · rw [e3] at e7
    injection e7 with _ _ e8
    rw [e8, ← hP.len]; exact hc

/-- the step behind the i-th key -/
theorem stepN {b i : Nat} {L0 : Ch} {K : ByteArray} {V : World} (hr : L0.Rise) (hi : i < L0.length) (eK : K = L0.key i) (h : View b L0 (i + 1) V) :
    Calls Try.prog 63 #[PtrS b, .func (.func 64) #[] #[], .string K] V fun e V' => ∃ (K : ByteArray) (p : Nat), e = .returned (.tuple #[.string K, .int .i64 (p : Int), .bool (decide (i + 1 < L0.length))]) ∧ Below V.heap.size V V' ∧ Fix b L0 (i + 1) K p V' := by
  subst eK
  refine stepA h _ (fun y hy => ?_) fun q => Ch.rise_lt hr (Nat.lt_succ_self i) q
  obtain ⟨j, hj, rfl⟩ := List.mem_iff_getElem.1 hy
  rw [List.length_take] at hj
  have e : (L0.take (i + 1))[j].1 = L0.key j := by
    rw [List.getElem_take]
    unfold Ch.key
    rw [List.getD_eq_getElem?_getD, List.getElem?_eq_getElem (by omega)]; rfl
  rw [e]
  rcases Nat.lt_or_ge j i with z | z
  · exact ltB_asym (Ch.rise_lt hr z hi)
  · rw [show j = i by omega]; exact ltB_irr _

attribute [local go_sem] Oper.semAt_some
set_option maxHeartbeats 4000000 in
set_option maxRecDepth 100000 in
theorem xWalkB {n b q0 q1 q2 j0 : Nat} {fv : Value} {k : ByteArray} {L0 : Ch} {w0 : World} (I : List WItm → World → Prop) (hr : L0.Rise) (hj : j0 ≤ L0.length)
    (hI : ∀ pre V, I pre V → View b L0 (j0 + pre.length) V ∧ V.cell? ⟨q0, 0, none⟩ = some (PtrS b))
    (hS : ∀ W, View b L0 j0 W → Calls Try.prog 63 #[PtrS b, fv, .string k] W fun e V' => ∃ (K : ByteArray) (p : Nat), e = .returned (.tuple #[.string K, .int .i64 (p : Int), .bool (decide (j0 < L0.length))]) ∧ Below W.heap.size W V' ∧ Fix b L0 j0 K p V')
    (l1 : q1 < w0.heap.size) (l2 : q2 < w0.heap.size) (c1 : w0.cell? ⟨q1, 0, none⟩ = some fv) (c2 : w0.cell? ⟨q2, 0, none⟩ = some (.string k)) :
    GivesB Fence.wide n Try.prog 62 #[.pointer (some ⟨q0, 0, none⟩), .pointer (some ⟨q1, 0, none⟩), .pointer (some ⟨q2, 0, none⟩)] encW I (OkW L0 j0) (EndW L0 j0) w0 := by
  intro l J Jx W hb hJ hJx hJI hY h0
  have c0 := (hI _ _ (hJI _ _ h0)).2
  have c1 := (hb.cell (p := ⟨q1, 0, none⟩) l1).trans c1
  have c2 := (hb.cell (p := ⟨q2, 0, none⟩) l2).trans c2
  have SB := Lib.hid (hS W (by have := (hI _ _ (hJI _ _ h0)).1; simpa using this))
  have JB := Lib.hid hJ
  have XB := Lib.hid hJx
  have HI := Lib.hid (fun pre V (h : J pre V) => hI _ _ (hJI _ _ h))
  have HY := Lib.hid hY
  have H0 := Lib.hid h0
  have HR := Lib.hid hr
  have HJ0 := Lib.hid hj
  clear hI hS hb hJ hJx hJI hY h0 hr hj l1 l2
  refine callsIn_of_wp Try.func62 rfl trivial ?_ rfl
  simp only [Try.ntmps62, List.size_toArray, List.length_cons, List.length_nil, Nat.reduceAdd, Nat.reduceSub, Array.replicate_succ, Array.replicate_zero, List.push_toArray, List.append_toArray, List.nil_append, List.cons_append]
  gi_wp2_with (refine ⟨trivial, (fun h => by cases h), ?_⟩; gi_at_call 63; refine (callsIn_wide.2 SB.out).mono ?_; rintro e w1 ⟨K, p, rfl, hb1, hF⟩; have HB1 := Lib.hid hb1; have HF := Lib.hid hF; clear hb1 hF)
  gi_loopw [5, 6, 7] (fun vk vp vt wr => ∃ (pre : List WItm) (K : ByteArray) (p : Nat), vk = .string K ∧ vp = .int .i64 (p : Int) ∧ vt = .bool (decide (j0 + pre.length < L0.length)) ∧ j0 + pre.length ≤ L0.length ∧ Hid (J pre wr) ∧ Hid (Fix b L0 (j0 + pre.length) K p wr))
    (fun vk _ vt _ => if isOn vt then L0.length - L0.pos (strAt vk) else 0)
  case atStart => exact ⟨[], K, p, rfl, rfl, rfl, HJ0.out, Lib.hid (JB.out _ _ _ H0.out HB1.out), HF⟩
  case round =>
    obtain ⟨pre, K, p, rfl, rfl, rfl, hle, HJi, HFi⟩ := hrel
    have c0 := (HI.out _ _ HJi.out).2
    cases d : decide (j0 + pre.length < L0.length) with
    | false =>
      have e : j0 + pre.length = L0.length := by have := of_decide_eq_false d; omega
      have E := Lib.hid (show EndW L0 j0 pre from e)
      clear d e HB1 HF SB H0 HY
      gi_wp2_with (refine ⟨(fun _ h => by cases h), ?_⟩)
      go_end0
      exact ⟨⟨_, rfl⟩, .inl ⟨pre, E.out, HJi.out⟩⟩
    | true =>
      have hi := of_decide_eq_true d
      obtain ⟨eK, g, m, c, A, c9, pm, mc, k6, kp, kc, ks⟩ := HFi.out.cells hi
      obtain ⟨z, hz⟩ : ∃ z, z = (L0.chn (j0 + pre.length)).length := ⟨_, rfl⟩
      rw [← hz] at kp
      have ok : OkW L0 j0 pre (K, .slice A z c9) wr := ⟨hi, eK, A, c9, by rw [hz], kc, ks⟩
      obtain ⟨fn, tmps, assign, body, hy, hR⟩ := HY.out pre (K, .slice A z c9) wr HJi.out ok
      have hR := round_anyDepth (m' := n - 1) rfl hR
      have hy : (Instr.yield l #[.string K, .slice A z c9]).run Try.prog wr = .ok (.round l fn tmps assign body) wr := hy
      have HRD := Lib.hid hR
      have HIi := Lib.hid (show j0 + pre.length < L0.length from hi)
      have EK := Lib.hid eK
      have p0 : (0 : Int) ≤ (p : Int) := by omega
      have p1 : (p : Int) < (m : Int) := by omega
      clear hR ok kc ks hz d HB1 HF SB H0 hi eK
      have ln : j0 + (pre ++ [(K, Value.slice A z c9)]).length = j0 + pre.length + 1 := by rw [List.length_append]; rfl
      have ST := Lib.hid (fun V (h : J (pre ++ [(K, .slice A z c9)]) V) => stepN HR.out HIi.out EK.out (by have := (HI.out _ _ h).1; rw [ln] at this; exact this))
      have LN := Lib.hid ln
      clear ln
      gi_wp2_with (first
        | (refine ⟨(fun h => by cases h), ?_⟩; refine HRD.out.mono ?_; rintro e W3 (⟨rfl, hJ3⟩ | ⟨rfl, hJx3⟩) <;> first | (have c3 := (HI.out _ _ hJ3).2; have HJ3 := Lib.hid hJ3; clear hJ3) | (have HX3 := Lib.hid hJx3; clear hJx3))
        | (refine ⟨trivial, (fun h => by cases h), ?_⟩; gi_at_call 63; refine (callsIn_wide.2 (ST.out _ HJ3.out)).mono ?_; rintro e w4 ⟨K4, p4, rfl, hb4, hF4⟩; have HB4 := Lib.hid hb4; have HF4 := Lib.hid hF4; clear hb4 hF4))
      · refine ⟨⟨pre ++ [(K, .slice A z c9)], K4, p4, rfl, rfl, by rw [LN.out], by rw [LN.out]; exact HIi.out, Lib.hid (JB.out _ _ _ HJ3.out HB4.out), by rw [LN.out]; exact HF4⟩, ?_⟩
        have hi := HIi.out
        have e1 : L0.pos K = j0 + pre.length := by rw [EK.out]; exact Ch.pos_of HR.out hi
        show (if decide (j0 + pre.length + 1 < L0.length) = true then L0.length - L0.pos K4 else 0) < (if true = true then L0.length - L0.pos K else 0)
        rw [if_pos rfl, e1]
        split
        · rename_i q
          have q := of_decide_eq_true q
          obtain ⟨_, _, _, _, f1, f2⟩ := HF4.out
          rw [(f2 q).1, Ch.pos_of HR.out q]; omega
        · omega
      · go_end0
        exact ⟨⟨_, rfl⟩, .inr ⟨_, HX3.out⟩⟩

end Go.Proofs.Ytbfgpdgiaclphaa

namespace Go.Proofs.Ytbfgpdgiaclphaa
open Go.RowKit Go.Shelf

set_option maxRecDepth 100000 in
theorem xWalkRS (b : Nat) (k : ByteArray) (w : World) : Calls Try.prog 37 #[PtrS b, .func (.func 38) #[] #[], .string k] w fun e w' => e = .returned (.func (.func 62) #[] #[.pointer (some ⟨w.heap.size, 0, none⟩), .pointer (some ⟨w.heap.size + 1, 0, none⟩), .pointer (some ⟨w.heap.size + 2, 0, none⟩)]) ∧
    w' = ((w.alloc (.cells #[PtrS b] 85)).alloc (.cells #[.func (.func 38) #[] #[]] 115)).alloc (.cells #[.string k] 9) := by
  go_enter Try.func37, Try.ntmps37
  go_wp2_with fail
  go_ret
  exact ⟨rfl, rfl⟩
set_option maxRecDepth 100000 in
theorem xFromR (b : Nat) (k : ByteArray) (w : World) : Calls Try.prog 18 #[PtrS b, .string k] w fun e w' => e = .returned (.func (.func 62) #[] #[.pointer (some ⟨w.heap.size, 0, none⟩), .pointer (some ⟨w.heap.size + 1, 0, none⟩), .pointer (some ⟨w.heap.size + 2, 0, none⟩)]) ∧
    w' = ((w.alloc (.cells #[PtrS b] 85)).alloc (.cells #[.func (.func 38) #[] #[]] 115)).alloc (.cells #[.string k] 9) := by
  have C := Lib.hid (xWalkRS b k w)
  go_enter Try.func18, Try.ntmps18
  go_wp2_with fail
  refine C.out.mono ?_
  rintro e w1 ⟨rfl, rfl⟩
  clear C
  go_wp2_with fail
  go_ret
  exact ⟨rfl, rfl⟩
/-- from, for a loop whose body turns the room -/
theorem givesB_from {n b : Nat} {k : ByteArray} {L0 : Ch} {w : World} {j0 : Nat} (I : List WItm → World → Prop) (hr : L0.Rise) (hj : j0 = L0.pos k)
    (hI : ∀ pre V, I pre V → View b L0 (j0 + pre.length) V ∧ V.cell? ⟨w.heap.size, 0, none⟩ = some (PtrS b)) :
    GivesB Fence.wide n Try.prog 62 #[.pointer (some ⟨w.heap.size, 0, none⟩), .pointer (some ⟨w.heap.size + 1, 0, none⟩), .pointer (some ⟨w.heap.size + 2, 0, none⟩)] encW I (OkW L0 j0) (EndW L0 j0)
      (((w.alloc (.cells #[PtrS b] 85)).alloc (.cells #[.func (.func 38) #[] #[]] 115)).alloc (.cells #[.string k] 9)) := by
  have r1 := (RowAt.new (w.alloc (.cells #[PtrS b] 85)) [.func (.func 38) #[] #[]] 115).alloc (.cells #[.string k] 9)
  have r2 := RowAt.new ((w.alloc (.cells #[PtrS b] 85)).alloc (.cells #[.func (.func 38) #[] #[]] 115)) [.string k] 9
  simp only [World.size_alloc] at r1 r2
  refine xWalkB I hr (by rw [hj]; exact L0.pos_le k) hI (fun W h => ?_) r1.lt r2.lt (r1.cell 0) (r2.cell 0)
  refine stepS h k (fun y hy => ?_) fun q => by rw [hj] at q ⊢; exact Ch.stop q
  obtain ⟨i, hi, rfl⟩ := List.mem_iff_getElem.1 hy
  rw [List.length_take] at hi
  have e : (L0.take j0)[i].1 = L0.key i := by
    rw [List.getElem_take]
    unfold Ch.key
    rw [List.getD_eq_getElem?_getD, List.getElem?_eq_getElem (by omega)]; rfl
  rw [e]
  exact Ch.below (by omega)
def Ch.aft (L : Ch) (k : ByteArray) : Nat := if L.has k then L.pos k + 1 else L.pos k
end Go.Proofs.Ytbfgpdgiaclphaa

namespace Go.Proofs.Ytbfgpdgiaclphaa
open Go.RowKit

section
variable {w0 w : World} {N : Nat → Prop} {b : Nat} {s : Sh} {L : Ch} {P : Nat} {os : List Ob} {i : Nat}
/-- take, whether a place is free or not -/
theorem xTakeR {A : Option Addr} {c : List Ver} {n cap : Nat} {k : ByteArray} (hn : n = c.length) (h : Side w0 N w (s.os b ++ [oCh A c])) (hcap : n ≤ cap) (a : s.AtF L P) (hk : k.size ≤ 1000) (hh : L.has k = false) :
    Calls Try.prog 46 #[PtrS b, .slice A n cap] w fun e w' => ∃ (n0 : Nat) (cv fv : Value) (vs : List Value) (cs : List (List Ver)) (fr : List Nat), e = .returned (.int .i64 (n0 : Int)) ∧ Side w0 N w' ((s.rows cv fv vs cs fr).os b) ∧ Fine (s.l.put k n0) cs fr (L.give k c) ∧ cs.length ≤ s.cs.length + 1 := by
  have n3 := a.n3
  have n4 := a.n4
  have fl := a.fine.len
  rcases List.eq_nil_or_concat s.fr with e | ⟨fr, p, e⟩
  · refine (xTake1R hn h hcap e (by omega)).mono fun r w' ⟨cv, h1, h2⟩ => ?_
    refine ⟨s.cs.length, cv, s.fv, _, _, _, h1, h2, ?_, by simp⟩
    exact a.fine.push hh hk
  · rw [List.concat_eq_append] at e
    have hf := a.fine
    rw [e] at hf
    refine (xTake2R hn h hcap e (hf.frlt p (by simp)) (by rw [e] at fl; simp at fl; omega)).mono fun r w' ⟨fv, h1, h2⟩ => ?_
    exact ⟨p, s.cv, fv, _, _, _, h1, h2, hf.reuse hh hk, by rw [List.length_set]; omega⟩
/-- lay, whether there is a tree or not -/
theorem xLayR (h : Side w0 N w (s.os b)) (h0 : s.T = none → s.tv = .slice none 0 0 ∧ s.l = []) (k : ByteArray) (n : Nat) (hl : s.l.length ≤ 4000) (hb : s.bd ≤ 800000) (hk : k.size ≤ 1000000) :
    Calls Try.prog 45 #[PtrS b, .string k, .int .i64 (n : Int)] w fun e w' => e = .returned (.tuple #[]) ∧ ∃ (T : Option Nat) (tv : Value) (bd : Nat), Side w0 N w' (({ s with T := T, tv := tv, l := s.l.put k n, bd := bd } : Sh).os b) ∧ T ≠ none ∧ bd ≤ s.bd + 29 := by
  cases ht : s.T with
  | none =>
    obtain ⟨e1, e2⟩ := h0 ht
    exact (xLay0R h ht e1 e2 k n hk).mono fun e w' ⟨h1, t, tv, h2⟩ => ⟨h1, some t, tv, 29, h2, by simp, by omega⟩
  | some t =>
    refine (xLay1R h ht k n hl hb hk).mono fun e w' ⟨h1, h2⟩ => ⟨h1, some t, s.tv, s.bd + 29, ?_, by simp, Nat.le_refl _⟩
    rw [← ht]; exact h2
set_option maxRecDepth 100000 in
set_option maxHeartbeats 4000000 in
/-- set, of a new key -/
theorem xSetNewR {A : Option Addr} {c : List Ver} {n cap : Nat} {k : ByteArray} (h : Side w0 N w (s.os b ++ [oCh A c])) (a : s.At L P) (hn : n = c.length) (hcap : n ≤ cap) (hP : P + 1 ≤ 13200) (hL : L.length + 1 ≤ 3950) (hg : GoodL c) (hr : rightL c = true) (hk : k.size ≤ 1000) (hh : L.has k = false) :
    Calls Try.prog 20 #[PtrS b, .string k, .slice A n cap] w fun e w' => e = .returned (.tuple #[]) ∧ ∃ s', Side w0 N w' (s'.os b) ∧ Sh.Hd s s' ∧ s'.At (L.give k c) (P + 1) := by
  have fk := good_of a.f.good a.f.right k
  have hx1 := a.x1
  have hx2 := a.x2
  have hx3 := a.x3
  obtain ⟨b1, b2, b3⟩ := sums_small a.f.good a.f.n5
  have wu := wgt_small fk.1 fk.2.1 hk
  have wv := wgt_small hg hr hk
  have au := aliv_le (k, L.of k)
  have av := aliv_le (k, c)
  have ln := hg.len
  obtain ⟨m, hm⟩ : ∃ m, m = (L.of k).length := ⟨_, rfl⟩
  obtain ⟨u1, hu1⟩ : ∃ m, m = Ch.wgt (k, L.of k) := ⟨_, rfl⟩
  obtain ⟨u2, hu2⟩ : ∃ m, m = Ch.aliv (k, L.of k) := ⟨_, rfl⟩
  obtain ⟨v1, hv1⟩ : ∃ m, m = Ch.wgt (k, c) := ⟨_, rfl⟩
  obtain ⟨v2, hv2⟩ : ∃ m, m = Ch.aliv (k, c) := ⟨_, rfl⟩
  obtain ⟨d1, hd1⟩ : ∃ d, d = s.x1 - (u1 : Int) := ⟨_, rfl⟩
  obtain ⟨d2, hd2⟩ : ∃ d, d = s.x2 - (u2 : Int) := ⟨_, rfl⟩
  obtain ⟨d3, hd3⟩ : ∃ d, d = s.x3 - (m : Int) := ⟨_, rfl⟩
  obtain ⟨y1, hy1⟩ : ∃ d, d = d1 + (v1 : Int) := ⟨_, rfl⟩
  obtain ⟨y2, hy2⟩ : ∃ d, d = d2 + (v2 : Int) := ⟨_, rfl⟩
  obtain ⟨y3, hy3⟩ : ∃ d, d = d3 + (n : Int) := ⟨_, rfl⟩
  have SUM := Lib.hid (show y1 = (L.live : Int) - (u1 : Int) + (v1 : Int) ∧ y2 = (L.alive : Int) - (u2 : Int) + (v2 : Int) ∧ y3 = (L.vers : Int) - (m : Int) + (n : Int) from ⟨by omega, by omega, by omega⟩)
  have HU := Lib.hid (show u1 = Ch.wgt (k, L.of k) ∧ u2 = Ch.aliv (k, L.of k) ∧ m = (L.of k).length ∧ v1 = Ch.wgt (k, c) ∧ v2 = Ch.aliv (k, c) ∧ n = c.length from ⟨hu1, hu2, hm, hv1, hv2, hn⟩)
  have KC := Lib.hid (fun W (hb : Below w.heap.size w W) => show Calls Try.prog 35 #[PtrS b, .string k] W fun e w' => ∃ A c, e = .returned (.slice A m c) ∧ SlV w' A (L.of k) ∧ Below W.heap.size W w' from (xChainR (h.below hb) a.f k).mono fun e w' ⟨A', c', h1, _, h3, h4⟩ => ⟨A', c', by rw [hm]; exact h1, h3, h4⟩)
  have KS := Lib.hid (fun W A' c' (hs : SlV W A' (L.of k)) => show Calls Try.prog 42 #[.string k, .slice A' m c'] W fun e w' => e = .returned (.agg #[.int .i64 (u1 : Int), .int .i64 (u2 : Int), .int .i64 (m : Int)]) ∧ Below W.heap.size W w' from by
    rw [hm, hu1, hu2]
    exact xSumsR k (L.of k) A' c' W hs fk.1 fk.2.1 (by omega))
  have KT := Lib.hid (fun W (hb : Below w.heap.size w W) => show Calls Try.prog 42 #[.string k, .slice A n cap] W fun e w' => e = .returned (.agg #[.int .i64 (v1 : Int), .int .i64 (v2 : Int), .int .i64 (n : Int)]) ∧ Below W.heap.size W w' from by
    rw [hn, hv1, hv2]
    obtain ⟨F, hP⟩ := (h.below hb).get (i := 8) (o := oCh A c) rfl
    exact xSumsR k c A cap W hP.1.1 hg hr (by omega))
  have KL := Lib.hid (fun W => xLessR s.x1 s.x2 s.x3 u1 u2 m d1 d2 d3 W (by rw [hd1, hx1]; unfold wrap64; omega) (by rw [hd2, hx2]; unfold wrap64; omega) (by rw [hd3, hx3]; unfold wrap64; omega))
  have KP := Lib.hid (fun W => xPlusR d1 d2 d3 v1 v2 n y1 y2 y3 W (by rw [hy1, hd1, hx1]; unfold wrap64; omega) (by rw [hy2, hd2, hx2]; unfold wrap64; omega) (by rw [hy3, hd3, hx3]; unfold wrap64; omega))
  have CX := Lib.hid (fun W (hb : Below w.heap.size w W) => show W.cell? ⟨b, 8, none⟩ = some (.int .i64 s.x1) ∧ W.cell? ⟨b, 9, none⟩ = some (.int .i64 s.x2) ∧ W.cell? ⟨b, 10, none⟩ = some (.int .i64 s.x3) ∧ (∀ j, W.frozen? ⟨b, j, none⟩ = false) from by
    have r := Sh.rowAt (h.below hb)
    exact ⟨r.cell 8, r.cell 9, r.cell 10, fun j => r.frozen j⟩)
  have HS := Lib.hid (fun W (hb : Below w.heap.size w W) => Sh.sumSet (y1 := y1) (y2 := y2) (y3 := y3) (h.below hb))
  have B0 := Lib.hid (show Below w.heap.size w w.drew from (Below.refl _ _).drew)
  have HA := Lib.hid a
  have HG := Lib.hid (And.intro hg hr)
  have HN := Lib.hid hn
  have HCAP := Lib.hid hcap
  clear fk hx1 hx2 hx3 b1 b2 b3 wu wv au av ln hm hu1 hu2 hv1 hv2 hd1 hd2 hd3 hy1 hy2 hy3
  clear h a hn hg hr hcap
  go_enter Try.func20, Try.ntmps20
  go_wp2_with fail
  refine wp_region_held_drew (S := (fun _ => True)) (by kernel_rfl) (trivial) (fun hHeld => ?_)
  refine rgnTake 0 rfl (by kernel_rfl) (by kernel_rfl) (by kernel_rfl) (fun _ _ _ h => h) (by rfl) (v := ?v1) ?hy1 hHeld ?rest1
  case hy1 => (intro v hSw; first | (go_simp; done) | (go_simp; with_reducible rfl))
  try simp only [Act.put, List.setIfInBounds_toArray, List.set_cons_zero, List.set_cons_succ]
  refine rgnTake 1 rfl (by kernel_rfl) (by kernel_rfl) (by kernel_rfl) (fun _ _ _ h => h) (by rfl) (v := ?v2) ?hy2 hHeld ?rest2
  case hy2 => (intro v hSw; first | (go_simp; done) | (go_simp; with_reducible rfl))
  try simp only [Act.put, List.setIfInBounds_toArray, List.set_cons_zero, List.set_cons_succ]
  refine rgnTake 2 rfl (by kernel_rfl) (by kernel_rfl) (by kernel_rfl) (fun _ _ _ h => h) (by rfl) (v := ?v3) ?hy3 hHeld ?rest3
  case hy3 => (intro v hSw; first | (go_simp; done) | (go_simp; with_reducible rfl))
  try simp only [Act.put, List.setIfInBounds_toArray, List.set_cons_zero, List.set_cons_succ]
  refine rgnTake 3 rfl (by kernel_rfl) (by kernel_rfl) (by kernel_rfl) (fun _ _ _ h => h) (by rfl) (v := ?v4) ?hy4 hHeld ?rest4
  case hy4 => (intro v hSw; first | (go_simp; done) | (go_simp; with_reducible rfl))
  try simp only [Act.put, List.setIfInBounds_toArray, List.set_cons_zero, List.set_cons_succ]
  refine rgnTake 5 rfl (by kernel_rfl) (by kernel_rfl) (by kernel_rfl) (fun _ _ _ h => h) (by rfl) (v := ?v5) ?hy5 hHeld ?rest5
  case hy5 => (intro v hSw; first | (go_simp; done) | (go_simp; with_reducible rfl))
  try simp only [Act.put, List.setIfInBounds_toArray, List.set_cons_zero, List.set_cons_succ]
  refine rgnTake 6 rfl (by kernel_rfl) (by kernel_rfl) (by kernel_rfl) (fun _ _ _ h => h) (by rfl) (v := ?v6) ?hy6 hHeld ?rest6
  case hy6 => (intro v hSw; first | (go_simp; done) | (go_simp; with_reducible rfl))
  try simp only [Act.put, List.setIfInBounds_toArray, List.set_cons_zero, List.set_cons_succ]
  refine rgnTake 7 rfl (by kernel_rfl) (by kernel_rfl) (by kernel_rfl) (fun _ _ _ h => h) (by rfl) (v := ?v7) ?hy7 hHeld ?rest7
  case hy7 => (intro v hSw; first | (go_simp; done) | (go_simp; with_reducible rfl))
  try simp only [Act.put, List.setIfInBounds_toArray, List.set_cons_zero, List.set_cons_succ]
  refine rgnTake 11 rfl (by kernel_rfl) (by kernel_rfl) (by kernel_rfl) (fun _ _ _ h => h) (by rfl) (v := ?v8) ?hy8 hHeld ?rest8
  case hy8 => (intro v hSw; first | (go_simp; done) | (go_simp; with_reducible rfl))
  try simp only [Act.put, List.setIfInBounds_toArray, List.set_cons_zero, List.set_cons_succ]
  refine rgnTake 12 rfl (by kernel_rfl) (by kernel_rfl) (by kernel_rfl) (fun _ _ _ h => h) (by rfl) (v := ?v9) ?hy9 hHeld ?rest9
  case hy9 => (intro v hSw; first | (go_simp; done) | (go_simp; with_reducible rfl))
  try simp only [Act.put, List.setIfInBounds_toArray, List.set_cons_zero, List.set_cons_succ]
  have BX := B0
  refine rgnTwo 4 8 rfl rfl (by kernel_rfl) (fun K hK => ?_) (fun K hK => ?_)
  · obtain ⟨c8, c9, c10, -⟩ := CX.out _ BX.out
    go_simp
    refine hK.out _ _ trivial (fun hHeld => ?_)
    clear hK K c8 c9 c10
    try simp only [Act.put, List.setIfInBounds_toArray, List.set_cons_zero, List.set_cons_succ]
    refine rgnOne 8 rfl (by kernel_rfl) (fun K hK => ?_)
    go_simp
    refine (KC.out _ BX.out).mono ?_
    rintro r W1 ⟨A1, c1, rfl, hs1, hb1⟩
    refine hK.out _ _ trivial (fun hHeld => ?_)
    clear hK K
    try simp only [Act.put, List.setIfInBounds_toArray, List.set_cons_zero, List.set_cons_succ]
    have S1 := Lib.hid hs1
    have B1 := Lib.hid (below_then BX.out hb1)
    clear hs1 hb1
    refine rgnOne 9 rfl (by kernel_rfl) (fun K hK => ?_)
    go_simp
    refine (KS.out _ _ _ S1.out).mono ?_
    rintro r W2 ⟨rfl, hb2⟩
    refine hK.out _ _ trivial (fun hHeld => ?_)
    clear hK K
    try simp only [Act.put, List.setIfInBounds_toArray, List.set_cons_zero, List.set_cons_succ]
    have B2 := Lib.hid (below_then B1.out hb2)
    clear hb2
    refine rgnOne 10 rfl (by kernel_rfl) (fun K hK => ?_)
    go_simp
    refine (KL.out _).mono ?_
    rintro r W3 ⟨rfl, hb3⟩
    refine hK.out _ _ trivial (fun hHeld => ?_)
    clear hK K
    try simp only [Act.put, List.setIfInBounds_toArray, List.set_cons_zero, List.set_cons_succ]
    have B3 := Lib.hid (below_then B2.out hb3)
    clear hb3
    refine rgnOne 13 rfl (by kernel_rfl) (fun K hK => ?_)
    go_simp
    refine (KT.out _ B3.out).mono ?_
    rintro r W4 ⟨rfl, hb4⟩
    refine hK.out _ _ trivial (fun hHeld => ?_)
    clear hK K
    try simp only [Act.put, List.setIfInBounds_toArray, List.set_cons_zero, List.set_cons_succ]
    have B4 := Lib.hid (below_then B3.out hb4)
    clear hb4
    refine rgnOne 14 rfl (by kernel_rfl) (fun K hK => ?_)
    go_simp
    refine (KP.out _).mono ?_
    rintro r W5 ⟨rfl, hb5⟩
    refine hK.out _ _ trivial (fun hHeld => ?_)
    clear hK K
    try simp only [Act.put, List.setIfInBounds_toArray, List.set_cons_zero, List.set_cons_succ]
    have B5 := Lib.hid (below_then B4.out hb5)
    obtain ⟨c8, c9, c10, cf⟩ := CX.out _ B5.out
    have f8 := cf 8
    have f9 := cf 9
    have f10 := cf 10
    have HS5 := Lib.hid (HS.out _ B5.out)
    clear hb5 cf
    refine rgnTake 15 rfl (by kernel_rfl) (by kernel_rfl) (by kernel_rfl) (fun _ _ _ h => h) (by rfl) (v := ?v10) ?hy10 hHeld ?rest10
    case hy10 => (intro v hSw; first | (go_simp; done) | (go_simp; with_reducible rfl))
    try simp only [Act.put, List.setIfInBounds_toArray, List.set_cons_zero, List.set_cons_succ]
    refine rgnTake 16 rfl (by kernel_rfl) (by kernel_rfl) (by kernel_rfl) (fun _ _ _ h => h) (by rfl) (v := ?v11) ?hy11 hHeld ?rest11
    case hy11 => (intro v hSw; first | (go_simp; done) | (go_simp; with_reducible rfl))
    try simp only [Act.put, List.setIfInBounds_toArray, List.set_cons_zero, List.set_cons_succ]
    refine rgnOne 17 rfl (by kernel_rfl) (fun K hK => ?_)
    go_simp
    refine hK.out _ _ trivial (fun hHeld => ?_)
    clear hK K c8 c9 c10 f8 f9 f10
    try simp only [Act.put, List.setIfInBounds_toArray, List.set_cons_zero, List.set_cons_succ]
    obtain ⟨W6, hW6⟩ : ∃ W6, W6 = ((W5.setCell ⟨b, 8, none⟩ (.int .i64 y1)).setCell ⟨b, 9, none⟩ (.int .i64 y2)).setCell ⟨b, 10, none⟩ (.int .i64 y3) := ⟨_, rfl⟩
    rw [← hW6] at HS5 ⊢
    clear hW6
    refine wpAnyH_done (by kernel_rfl) ?_ _
    have af : (s.sum y1 y2 y3).AtF L P := HA.out.f.sums
    have FC := Lib.hid ((xFindR HS5.out af k).mono (R' := fun e w' => e = .returned (.tuple #[.pointer none, .int .i64 0]) ∧ Side w0 N w' ((s.sum y1 y2 y3).os b ++ [oCh A c])) fun e w' ⟨tp, p, q1, q2, q3, _⟩ => by
      obtain ⟨rfl, rfl⟩ := q3 hh
      exact ⟨q1, HS5.out.below q2⟩)
    have KTK := Lib.hid (fun W (hW : Side w0 N W ((s.sum y1 y2 y3).os b ++ [oCh A c])) => xTakeR (k := k) HN.out hW HCAP.out af hk hh)
    have nn1 := af.n1
    have nn2 := af.n2
    have nn4 := af.n4
    have nn5 := af.n5
    have LL := Lib.hid (show s.l.length = L.length from af.fine.llen)
    have BD := Lib.hid (show s.bd ≤ 800000 from by have : s.bd ≤ 29 * (2 * P - L.length) := nn2; omega)
    have KLY := Lib.hid (fun W cv fv vs cs fr (n0 : Nat) (hW : Side w0 N W (((s.sum y1 y2 y3).rows cv fv vs cs fr).os b)) => xLayR hW (show s.T = none → _ from HA.out.f.t0) k n0 (show s.l.length ≤ 4000 by rw [LL.out]; omega) BD.out (by omega))
    clear af nn1 nn2 nn4 nn5
    go_wp2_with fail
    refine FC.out.mono ?_
    rintro e W7 ⟨rfl, h7⟩
    have K7 := Lib.hid (KTK.out _ h7)
    clear h7 FC KTK
    go_wp2_with fail
    refine K7.out.mono ?_
    rintro e W8 ⟨n0, cv, fv, vs, cs, fr, rfl, h8, f8, l8⟩
    have K8 := Lib.hid (KLY.out _ _ _ _ _ _ n0 h8)
    have F8 := Lib.hid f8
    have L8 := Lib.hid l8
    clear h8 f8 l8 K7 KLY
    go_wp2_with fail
    refine K8.out.mono ?_
    rintro e W9 ⟨rfl, T, tv, bd, h9, t9, b9⟩
    have H9 := Lib.hid h9
    have T9 := Lib.hid t9
    have B9 := Lib.hid b9
    clear h9 t9 b9 K8
    go_wp2_with fail
    refine bodyPost_end (results_none rfl _ _ _) rfl ⟨rfl, _, H9.out, ⟨rfl, rfl, rfl, rfl, rfl, rfl, rfl⟩, ?_⟩
    have af := HA.out.f
    have gl : (L.give k c).length = L.length + 1 := by rw [Ch.give_len, hh]; rfl
    obtain ⟨z1, z2, z3⟩ := sums_give L k c
    obtain ⟨w1, w2, w3⟩ := SUM.out
    obtain ⟨w4, w5, w6, w7, w8, w9⟩ := HU.out
    have b9 : bd ≤ s.bd + 29 := B9.out
    have l8 : cs.length ≤ s.cs.length + 1 := L8.out
    have e1 := af.n1
    have e2 := af.n2
    have e3 := af.n3
    have e4 := af.good.len
    refine ⟨⟨F8.out, fun e => absurd e T9.out, by rw [gl]; omega, by rw [gl]; show bd ≤ _; omega, by show cs.length ≤ P + 1; omega, hP, good_give af.good HG.out.1 HG.out.2 hk (by rw [gl]; omega), right_give af.good af.right HG.out.2, by rw [gl]; exact hL⟩, ?_, ?_, ?_⟩
    · show y1 = _; omega
    · show y2 = _; omega
    · show y3 = _; omega
  · go_simp
    refine (KC.out _ BX.out).mono ?_
    rintro r W1 ⟨A1, c1, rfl, hs1, hb1⟩
    refine hK.out _ _ trivial (fun hHeld => ?_)
    clear hK K
    try simp only [Act.put, List.setIfInBounds_toArray, List.set_cons_zero, List.set_cons_succ]
    have S1 := Lib.hid hs1
    have B1 := Lib.hid (below_then BX.out hb1)
    clear hs1 hb1
    refine rgnTwo 4 9 rfl rfl (by kernel_rfl) (fun K hK => ?_) (fun K hK => ?_)
    · obtain ⟨c8, c9, c10, -⟩ := CX.out _ B1.out
      go_simp
      refine hK.out _ _ trivial (fun hHeld => ?_)
      clear hK K c8 c9 c10
      try simp only [Act.put, List.setIfInBounds_toArray, List.set_cons_zero, List.set_cons_succ]
      refine rgnOne 9 rfl (by kernel_rfl) (fun K hK => ?_)
      go_simp
      refine (KS.out _ _ _ S1.out).mono ?_
      rintro r W2 ⟨rfl, hb2⟩
      refine hK.out _ _ trivial (fun hHeld => ?_)
      clear hK K
      try simp only [Act.put, List.setIfInBounds_toArray, List.set_cons_zero, List.set_cons_succ]
      have B2 := Lib.hid (below_then B1.out hb2)
      clear hb2
      refine rgnOne 10 rfl (by kernel_rfl) (fun K hK => ?_)
      go_simp
      refine (KL.out _).mono ?_
      rintro r W3 ⟨rfl, hb3⟩
      refine hK.out _ _ trivial (fun hHeld => ?_)
      clear hK K
      try simp only [Act.put, List.setIfInBounds_toArray, List.set_cons_zero, List.set_cons_succ]
      have B3 := Lib.hid (below_then B2.out hb3)
      clear hb3
      refine rgnOne 13 rfl (by kernel_rfl) (fun K hK => ?_)
      go_simp
      refine (KT.out _ B3.out).mono ?_
      rintro r W4 ⟨rfl, hb4⟩
      refine hK.out _ _ trivial (fun hHeld => ?_)
      clear hK K
      try simp only [Act.put, List.setIfInBounds_toArray, List.set_cons_zero, List.set_cons_succ]
      have B4 := Lib.hid (below_then B3.out hb4)
      clear hb4
      refine rgnOne 14 rfl (by kernel_rfl) (fun K hK => ?_)
      go_simp
      refine (KP.out _).mono ?_
      rintro r W5 ⟨rfl, hb5⟩
      refine hK.out _ _ trivial (fun hHeld => ?_)
      clear hK K
      try simp only [Act.put, List.setIfInBounds_toArray, List.set_cons_zero, List.set_cons_succ]
      have B5 := Lib.hid (below_then B4.out hb5)
      obtain ⟨c8, c9, c10, cf⟩ := CX.out _ B5.out
      have f8 := cf 8
      have f9 := cf 9
      have f10 := cf 10
      have HS5 := Lib.hid (HS.out _ B5.out)
      clear hb5 cf
      refine rgnTake 15 rfl (by kernel_rfl) (by kernel_rfl) (by kernel_rfl) (fun _ _ _ h => h) (by rfl) (v := ?v12) ?hy12 hHeld ?rest12
      case hy12 => (intro v hSw; first | (go_simp; done) | (go_simp; with_reducible rfl))
      try simp only [Act.put, List.setIfInBounds_toArray, List.set_cons_zero, List.set_cons_succ]
      refine rgnTake 16 rfl (by kernel_rfl) (by kernel_rfl) (by kernel_rfl) (fun _ _ _ h => h) (by rfl) (v := ?v13) ?hy13 hHeld ?rest13
      case hy13 => (intro v hSw; first | (go_simp; done) | (go_simp; with_reducible rfl))
      try simp only [Act.put, List.setIfInBounds_toArray, List.set_cons_zero, List.set_cons_succ]
      refine rgnOne 17 rfl (by kernel_rfl) (fun K hK => ?_)
      go_simp
      refine hK.out _ _ trivial (fun hHeld => ?_)
      clear hK K c8 c9 c10 f8 f9 f10
      try simp only [Act.put, List.setIfInBounds_toArray, List.set_cons_zero, List.set_cons_succ]
      obtain ⟨W6, hW6⟩ : ∃ W6, W6 = ((W5.setCell ⟨b, 8, none⟩ (.int .i64 y1)).setCell ⟨b, 9, none⟩ (.int .i64 y2)).setCell ⟨b, 10, none⟩ (.int .i64 y3) := ⟨_, rfl⟩
      rw [← hW6] at HS5 ⊢
      clear hW6
      refine wpAnyH_done (by kernel_rfl) ?_ _
      have af : (s.sum y1 y2 y3).AtF L P := HA.out.f.sums
      have FC := Lib.hid ((xFindR HS5.out af k).mono (R' := fun e w' => e = .returned (.tuple #[.pointer none, .int .i64 0]) ∧ Side w0 N w' ((s.sum y1 y2 y3).os b ++ [oCh A c])) fun e w' ⟨tp, p, q1, q2, q3, _⟩ => by
        obtain ⟨rfl, rfl⟩ := q3 hh
        exact ⟨q1, HS5.out.below q2⟩)
      have KTK := Lib.hid (fun W (hW : Side w0 N W ((s.sum y1 y2 y3).os b ++ [oCh A c])) => xTakeR (k := k) HN.out hW HCAP.out af hk hh)
      have nn1 := af.n1
      have nn2 := af.n2
      have nn4 := af.n4
      have nn5 := af.n5
      have LL := Lib.hid (show s.l.length = L.length from af.fine.llen)
      have BD := Lib.hid (show s.bd ≤ 800000 from by have : s.bd ≤ 29 * (2 * P - L.length) := nn2; omega)
      have KLY := Lib.hid (fun W cv fv vs cs fr (n0 : Nat) (hW : Side w0 N W (((s.sum y1 y2 y3).rows cv fv vs cs fr).os b)) => xLayR hW (show s.T = none → _ from HA.out.f.t0) k n0 (show s.l.length ≤ 4000 by rw [LL.out]; omega) BD.out (by omega))
      clear af nn1 nn2 nn4 nn5
      go_wp2_with fail
      refine FC.out.mono ?_
      rintro e W7 ⟨rfl, h7⟩
      have K7 := Lib.hid (KTK.out _ h7)
      clear h7 FC KTK
      go_wp2_with fail
      refine K7.out.mono ?_
      rintro e W8 ⟨n0, cv, fv, vs, cs, fr, rfl, h8, f8, l8⟩
      have K8 := Lib.hid (KLY.out _ _ _ _ _ _ n0 h8)
      have F8 := Lib.hid f8
      have L8 := Lib.hid l8
      clear h8 f8 l8 K7 KLY
      go_wp2_with fail
      refine K8.out.mono ?_
      rintro e W9 ⟨rfl, T, tv, bd, h9, t9, b9⟩
      have H9 := Lib.hid h9
      have T9 := Lib.hid t9
      have B9 := Lib.hid b9
      clear h9 t9 b9 K8
      go_wp2_with fail
      refine bodyPost_end (results_none rfl _ _ _) rfl ⟨rfl, _, H9.out, ⟨rfl, rfl, rfl, rfl, rfl, rfl, rfl⟩, ?_⟩
      have af := HA.out.f
      have gl : (L.give k c).length = L.length + 1 := by rw [Ch.give_len, hh]; rfl
      obtain ⟨z1, z2, z3⟩ := sums_give L k c
      obtain ⟨w1, w2, w3⟩ := SUM.out
      obtain ⟨w4, w5, w6, w7, w8, w9⟩ := HU.out
      have b9 : bd ≤ s.bd + 29 := B9.out
      have l8 : cs.length ≤ s.cs.length + 1 := L8.out
      have e1 := af.n1
      have e2 := af.n2
      have e3 := af.n3
      have e4 := af.good.len
      refine ⟨⟨F8.out, fun e => absurd e T9.out, by rw [gl]; omega, by rw [gl]; show bd ≤ _; omega, by show cs.length ≤ P + 1; omega, hP, good_give af.good HG.out.1 HG.out.2 hk (by rw [gl]; omega), right_give af.good af.right HG.out.2, by rw [gl]; exact hL⟩, ?_, ?_, ?_⟩
      · show y1 = _; omega
      · show y2 = _; omega
      · show y3 = _; omega
    · go_simp
      refine (KS.out _ _ _ S1.out).mono ?_
      rintro r W2 ⟨rfl, hb2⟩
      refine hK.out _ _ trivial (fun hHeld => ?_)
      clear hK K
      try simp only [Act.put, List.setIfInBounds_toArray, List.set_cons_zero, List.set_cons_succ]
      have B2 := Lib.hid (below_then B1.out hb2)
      clear hb2
      obtain ⟨c8, c9, c10, -⟩ := CX.out _ B2.out
      refine rgnOne 4 rfl (by kernel_rfl) (fun K hK => ?_)
      go_simp
      refine hK.out _ _ trivial (fun hHeld => ?_)
      clear hK K c8 c9 c10
      try simp only [Act.put, List.setIfInBounds_toArray, List.set_cons_zero, List.set_cons_succ]
      refine rgnOne 10 rfl (by kernel_rfl) (fun K hK => ?_)
      go_simp
      refine (KL.out _).mono ?_
      rintro r W3 ⟨rfl, hb3⟩
      refine hK.out _ _ trivial (fun hHeld => ?_)
      clear hK K
      try simp only [Act.put, List.setIfInBounds_toArray, List.set_cons_zero, List.set_cons_succ]
      have B3 := Lib.hid (below_then B2.out hb3)
      clear hb3
      refine rgnOne 13 rfl (by kernel_rfl) (fun K hK => ?_)
      go_simp
      refine (KT.out _ B3.out).mono ?_
      rintro r W4 ⟨rfl, hb4⟩
      refine hK.out _ _ trivial (fun hHeld => ?_)
      clear hK K
      try simp only [Act.put, List.setIfInBounds_toArray, List.set_cons_zero, List.set_cons_succ]
      have B4 := Lib.hid (below_then B3.out hb4)
      clear hb4
      refine rgnOne 14 rfl (by kernel_rfl) (fun K hK => ?_)
      go_simp
      refine (KP.out _).mono ?_
      rintro r W5 ⟨rfl, hb5⟩
      refine hK.out _ _ trivial (fun hHeld => ?_)
      clear hK K
      try simp only [Act.put, List.setIfInBounds_toArray, List.set_cons_zero, List.set_cons_succ]
      have B5 := Lib.hid (below_then B4.out hb5)
      obtain ⟨c8, c9, c10, cf⟩ := CX.out _ B5.out
      have f8 := cf 8
      have f9 := cf 9
      have f10 := cf 10
      have HS5 := Lib.hid (HS.out _ B5.out)
      clear hb5 cf
      refine rgnTake 15 rfl (by kernel_rfl) (by kernel_rfl) (by kernel_rfl) (fun _ _ _ h => h) (by rfl) (v := ?v14) ?hy14 hHeld ?rest14
      case hy14 => (intro v hSw; first | (go_simp; done) | (go_simp; with_reducible rfl))
      try simp only [Act.put, List.setIfInBounds_toArray, List.set_cons_zero, List.set_cons_succ]
      refine rgnTake 16 rfl (by kernel_rfl) (by kernel_rfl) (by kernel_rfl) (fun _ _ _ h => h) (by rfl) (v := ?v15) ?hy15 hHeld ?rest15
      case hy15 => (intro v hSw; first | (go_simp; done) | (go_simp; with_reducible rfl))
      try simp only [Act.put, List.setIfInBounds_toArray, List.set_cons_zero, List.set_cons_succ]
      refine rgnOne 17 rfl (by kernel_rfl) (fun K hK => ?_)
      go_simp
      refine hK.out _ _ trivial (fun hHeld => ?_)
      clear hK K c8 c9 c10 f8 f9 f10
      try simp only [Act.put, List.setIfInBounds_toArray, List.set_cons_zero, List.set_cons_succ]
      obtain ⟨W6, hW6⟩ : ∃ W6, W6 = ((W5.setCell ⟨b, 8, none⟩ (.int .i64 y1)).setCell ⟨b, 9, none⟩ (.int .i64 y2)).setCell ⟨b, 10, none⟩ (.int .i64 y3) := ⟨_, rfl⟩
      rw [← hW6] at HS5 ⊢
      clear hW6
      refine wpAnyH_done (by kernel_rfl) ?_ _
      have af : (s.sum y1 y2 y3).AtF L P := HA.out.f.sums
      have FC := Lib.hid ((xFindR HS5.out af k).mono (R' := fun e w' => e = .returned (.tuple #[.pointer none, .int .i64 0]) ∧ Side w0 N w' ((s.sum y1 y2 y3).os b ++ [oCh A c])) fun e w' ⟨tp, p, q1, q2, q3, _⟩ => by
        obtain ⟨rfl, rfl⟩ := q3 hh
        exact ⟨q1, HS5.out.below q2⟩)
      have KTK := Lib.hid (fun W (hW : Side w0 N W ((s.sum y1 y2 y3).os b ++ [oCh A c])) => xTakeR (k := k) HN.out hW HCAP.out af hk hh)
      have nn1 := af.n1
      have nn2 := af.n2
      have nn4 := af.n4
      have nn5 := af.n5
      have LL := Lib.hid (show s.l.length = L.length from af.fine.llen)
      have BD := Lib.hid (show s.bd ≤ 800000 from by have : s.bd ≤ 29 * (2 * P - L.length) := nn2; omega)
      have KLY := Lib.hid (fun W cv fv vs cs fr (n0 : Nat) (hW : Side w0 N W (((s.sum y1 y2 y3).rows cv fv vs cs fr).os b)) => xLayR hW (show s.T = none → _ from HA.out.f.t0) k n0 (show s.l.length ≤ 4000 by rw [LL.out]; omega) BD.out (by omega))
      clear af nn1 nn2 nn4 nn5
      go_wp2_with fail
      refine FC.out.mono ?_
      rintro e W7 ⟨rfl, h7⟩
      have K7 := Lib.hid (KTK.out _ h7)
      clear h7 FC KTK
      go_wp2_with fail
      refine K7.out.mono ?_
      rintro e W8 ⟨n0, cv, fv, vs, cs, fr, rfl, h8, f8, l8⟩
      have K8 := Lib.hid (KLY.out _ _ _ _ _ _ n0 h8)
      have F8 := Lib.hid f8
      have L8 := Lib.hid l8
      clear h8 f8 l8 K7 KLY
      go_wp2_with fail
      refine K8.out.mono ?_
      rintro e W9 ⟨rfl, T, tv, bd, h9, t9, b9⟩
      have H9 := Lib.hid h9
      have T9 := Lib.hid t9
      have B9 := Lib.hid b9
      clear h9 t9 b9 K8
      go_wp2_with fail
      refine bodyPost_end (results_none rfl _ _ _) rfl ⟨rfl, _, H9.out, ⟨rfl, rfl, rfl, rfl, rfl, rfl, rfl⟩, ?_⟩
      have af := HA.out.f
      have gl : (L.give k c).length = L.length + 1 := by rw [Ch.give_len, hh]; rfl
      obtain ⟨z1, z2, z3⟩ := sums_give L k c
      obtain ⟨w1, w2, w3⟩ := SUM.out
      obtain ⟨w4, w5, w6, w7, w8, w9⟩ := HU.out
      have b9 : bd ≤ s.bd + 29 := B9.out
      have l8 : cs.length ≤ s.cs.length + 1 := L8.out
      have e1 := af.n1
      have e2 := af.n2
      have e3 := af.n3
      have e4 := af.good.len
      refine ⟨⟨F8.out, fun e => absurd e T9.out, by rw [gl]; omega, by rw [gl]; show bd ≤ _; omega, by show cs.length ≤ P + 1; omega, hP, good_give af.good HG.out.1 HG.out.2 hk (by rw [gl]; omega), right_give af.good af.right HG.out.2, by rw [gl]; exact hL⟩, ?_, ?_, ?_⟩
      · show y1 = _; omega
      · show y2 = _; omega
      · show y3 = _; omega
end

end Go.Proofs.Ytbfgpdgiaclphaa

namespace Go.Proofs.Ytbfgpdgiaclphaa
open Go.RowKit

section
variable {w0 w : World} {N : Nat → Prop} {b : Nat} {s : Sh} {L : Ch} {P : Nat} {os : List Ob} {i : Nat}
set_option maxRecDepth 100000 in
set_option maxHeartbeats 4000000 in
/-- set, of a key that goes -/
theorem xSetDelR {A : Option Addr} {c : List Ver} {cap : Nat} {k : ByteArray} (h : Side w0 N w (s.os b ++ [oCh A c])) (a : s.At L P) (hn : 0 = c.length) (hg : GoodL c) (hr : rightL c = true) (hk : k.size ≤ 1000) (hh : L.has k = true) :
    Calls Try.prog 20 #[PtrS b, .string k, .slice A 0 cap] w fun e w' => e = .returned (.tuple #[]) ∧ ∃ s', Side w0 N w' (s'.os b) ∧ Sh.Hd s s' ∧ s'.At (L.cut k) P := by
  have fk := good_of a.f.good a.f.right k
  have hx1 := a.x1
  have hx2 := a.x2
  have hx3 := a.x3
  obtain ⟨b1, b2, b3⟩ := sums_small a.f.good a.f.n5
  have wu := wgt_small fk.1 fk.2.1 hk
  have wv := wgt_small hg hr hk
  have au := aliv_le (k, L.of k)
  have av := aliv_le (k, c)
  have ln := hg.len
  obtain ⟨m, hm⟩ : ∃ m, m = (L.of k).length := ⟨_, rfl⟩
  obtain ⟨u1, hu1⟩ : ∃ m, m = Ch.wgt (k, L.of k) := ⟨_, rfl⟩
  obtain ⟨u2, hu2⟩ : ∃ m, m = Ch.aliv (k, L.of k) := ⟨_, rfl⟩
  obtain ⟨v1, hv1⟩ : ∃ m, m = Ch.wgt (k, c) := ⟨_, rfl⟩
  obtain ⟨v2, hv2⟩ : ∃ m, m = Ch.aliv (k, c) := ⟨_, rfl⟩
  obtain ⟨d1, hd1⟩ : ∃ d, d = s.x1 - (u1 : Int) := ⟨_, rfl⟩
  obtain ⟨d2, hd2⟩ : ∃ d, d = s.x2 - (u2 : Int) := ⟨_, rfl⟩
  obtain ⟨d3, hd3⟩ : ∃ d, d = s.x3 - (m : Int) := ⟨_, rfl⟩
  obtain ⟨y1, hy1⟩ : ∃ d, d = d1 + (v1 : Int) := ⟨_, rfl⟩
  obtain ⟨y2, hy2⟩ : ∃ d, d = d2 + (v2 : Int) := ⟨_, rfl⟩
  obtain ⟨y3, hy3⟩ : ∃ d, d = d3 + ((0 : Nat) : Int) := ⟨_, rfl⟩
  have SUM := Lib.hid (show y1 = (L.live : Int) - (u1 : Int) + (v1 : Int) ∧ y2 = (L.alive : Int) - (u2 : Int) + (v2 : Int) ∧ y3 = (L.vers : Int) - (m : Int) + ((0 : Nat) : Int) from ⟨by omega, by omega, by omega⟩)
  have HU := Lib.hid (show u1 = Ch.wgt (k, L.of k) ∧ u2 = Ch.aliv (k, L.of k) ∧ m = (L.of k).length ∧ v1 = Ch.wgt (k, c) ∧ v2 = Ch.aliv (k, c) ∧ 0 = c.length from ⟨hu1, hu2, hm, hv1, hv2, hn⟩)
  have KC := Lib.hid (fun W (hb : Below w.heap.size w W) => show Calls Try.prog 35 #[PtrS b, .string k] W fun e w' => ∃ A c, e = .returned (.slice A m c) ∧ SlV w' A (L.of k) ∧ Below W.heap.size W w' from (xChainR (h.below hb) a.f k).mono fun e w' ⟨A', c', h1, _, h3, h4⟩ => ⟨A', c', by rw [hm]; exact h1, h3, h4⟩)
  have KS := Lib.hid (fun W A' c' (hs : SlV W A' (L.of k)) => show Calls Try.prog 42 #[.string k, .slice A' m c'] W fun e w' => e = .returned (.agg #[.int .i64 (u1 : Int), .int .i64 (u2 : Int), .int .i64 (m : Int)]) ∧ Below W.heap.size W w' from by
    rw [hm, hu1, hu2]
    exact xSumsR k (L.of k) A' c' W hs fk.1 fk.2.1 (by omega))
  have KT := Lib.hid (fun W (hb : Below w.heap.size w W) => show Calls Try.prog 42 #[.string k, .slice A 0 cap] W fun e w' => e = .returned (.agg #[.int .i64 (v1 : Int), .int .i64 (v2 : Int), .int .i64 ((0 : Nat) : Int)]) ∧ Below W.heap.size W w' from by
    rw [hn, hv1, hv2]
    obtain ⟨F, hP⟩ := (h.below hb).get (i := 8) (o := oCh A c) rfl
    exact xSumsR k c A cap W hP.1.1 hg hr (by omega))
  have KL := Lib.hid (fun W => xLessR s.x1 s.x2 s.x3 u1 u2 m d1 d2 d3 W (by rw [hd1, hx1]; unfold wrap64; omega) (by rw [hd2, hx2]; unfold wrap64; omega) (by rw [hd3, hx3]; unfold wrap64; omega))
  have KP := Lib.hid (fun W => xPlusR d1 d2 d3 v1 v2 ((0 : Nat) : Int) y1 y2 y3 W (by rw [hy1, hd1, hx1]; unfold wrap64; omega) (by rw [hy2, hd2, hx2]; unfold wrap64; omega) (by rw [hy3, hd3, hx3]; unfold wrap64; omega))
  have CX := Lib.hid (fun W (hb : Below w.heap.size w W) => show W.cell? ⟨b, 8, none⟩ = some (.int .i64 s.x1) ∧ W.cell? ⟨b, 9, none⟩ = some (.int .i64 s.x2) ∧ W.cell? ⟨b, 10, none⟩ = some (.int .i64 s.x3) ∧ (∀ j, W.frozen? ⟨b, j, none⟩ = false) from by
    have r := Sh.rowAt (h.below hb)
    exact ⟨r.cell 8, r.cell 9, r.cell 10, fun j => r.frozen j⟩)
  have HS := Lib.hid (fun W (hb : Below w.heap.size w W) => Sh.sumSet (y1 := y1) (y2 := y2) (y3 := y3) (h.below hb))
  have B0 := Lib.hid (show Below w.heap.size w w.drew from (Below.refl _ _).drew)
  have HA := Lib.hid a
  have HG := Lib.hid (And.intro hg hr)
  have HN := Lib.hid hn
  clear fk hx1 hx2 hx3 b1 b2 b3 wu wv au av ln hm hu1 hu2 hv1 hv2 hd1 hd2 hd3 hy1 hy2 hy3
  clear h a hn hg hr
  go_enter Try.func20, Try.ntmps20
  go_wp2_with fail
  refine wp_region_held_drew (S := (fun _ => True)) (by kernel_rfl) (trivial) (fun hHeld => ?_)
  refine rgnTake 0 rfl (by kernel_rfl) (by kernel_rfl) (by kernel_rfl) (fun _ _ _ h => h) (by rfl) (v := ?v1) ?hy1 hHeld ?rest1
  case hy1 => (intro v hSw; first | (go_simp; done) | (go_simp; with_reducible rfl))
  try simp only [Act.put, List.setIfInBounds_toArray, List.set_cons_zero, List.set_cons_succ]
  refine rgnTake 1 rfl (by kernel_rfl) (by kernel_rfl) (by kernel_rfl) (fun _ _ _ h => h) (by rfl) (v := ?v2) ?hy2 hHeld ?rest2
  case hy2 => (intro v hSw; first | (go_simp; done) | (go_simp; with_reducible rfl))
  try simp only [Act.put, List.setIfInBounds_toArray, List.set_cons_zero, List.set_cons_succ]
  refine rgnTake 2 rfl (by kernel_rfl) (by kernel_rfl) (by kernel_rfl) (fun _ _ _ h => h) (by rfl) (v := ?v3) ?hy3 hHeld ?rest3
  case hy3 => (intro v hSw; first | (go_simp; done) | (go_simp; with_reducible rfl))
  try simp only [Act.put, List.setIfInBounds_toArray, List.set_cons_zero, List.set_cons_succ]
  refine rgnTake 3 rfl (by kernel_rfl) (by kernel_rfl) (by kernel_rfl) (fun _ _ _ h => h) (by rfl) (v := ?v4) ?hy4 hHeld ?rest4
  case hy4 => (intro v hSw; first | (go_simp; done) | (go_simp; with_reducible rfl))
  try simp only [Act.put, List.setIfInBounds_toArray, List.set_cons_zero, List.set_cons_succ]
  refine rgnTake 5 rfl (by kernel_rfl) (by kernel_rfl) (by kernel_rfl) (fun _ _ _ h => h) (by rfl) (v := ?v5) ?hy5 hHeld ?rest5
  case hy5 => (intro v hSw; first | (go_simp; done) | (go_simp; with_reducible rfl))
  try simp only [Act.put, List.setIfInBounds_toArray, List.set_cons_zero, List.set_cons_succ]
  refine rgnTake 6 rfl (by kernel_rfl) (by kernel_rfl) (by kernel_rfl) (fun _ _ _ h => h) (by rfl) (v := ?v6) ?hy6 hHeld ?rest6
  case hy6 => (intro v hSw; first | (go_simp; done) | (go_simp; with_reducible rfl))
  try simp only [Act.put, List.setIfInBounds_toArray, List.set_cons_zero, List.set_cons_succ]
  refine rgnTake 7 rfl (by kernel_rfl) (by kernel_rfl) (by kernel_rfl) (fun _ _ _ h => h) (by rfl) (v := ?v7) ?hy7 hHeld ?rest7
  case hy7 => (intro v hSw; first | (go_simp; done) | (go_simp; with_reducible rfl))
  try simp only [Act.put, List.setIfInBounds_toArray, List.set_cons_zero, List.set_cons_succ]
  refine rgnTake 11 rfl (by kernel_rfl) (by kernel_rfl) (by kernel_rfl) (fun _ _ _ h => h) (by rfl) (v := ?v8) ?hy8 hHeld ?rest8
  case hy8 => (intro v hSw; first | (go_simp; done) | (go_simp; with_reducible rfl))
  try simp only [Act.put, List.setIfInBounds_toArray, List.set_cons_zero, List.set_cons_succ]
  refine rgnTake 12 rfl (by kernel_rfl) (by kernel_rfl) (by kernel_rfl) (fun _ _ _ h => h) (by rfl) (v := ?v9) ?hy9 hHeld ?rest9
  case hy9 => (intro v hSw; first | (go_simp; done) | (go_simp; with_reducible rfl))
  try simp only [Act.put, List.setIfInBounds_toArray, List.set_cons_zero, List.set_cons_succ]
  have BX := B0
  refine rgnTwo 4 8 rfl rfl (by kernel_rfl) (fun K hK => ?_) (fun K hK => ?_)
  · obtain ⟨c8, c9, c10, -⟩ := CX.out _ BX.out
    go_simp
    refine hK.out _ _ trivial (fun hHeld => ?_)
    clear hK K c8 c9 c10
    try simp only [Act.put, List.setIfInBounds_toArray, List.set_cons_zero, List.set_cons_succ]
    refine rgnOne 8 rfl (by kernel_rfl) (fun K hK => ?_)
    go_simp
    refine (KC.out _ BX.out).mono ?_
    rintro r W1 ⟨A1, c1, rfl, hs1, hb1⟩
    refine hK.out _ _ trivial (fun hHeld => ?_)
    clear hK K
    try simp only [Act.put, List.setIfInBounds_toArray, List.set_cons_zero, List.set_cons_succ]
    have S1 := Lib.hid hs1
    have B1 := Lib.hid (below_then BX.out hb1)
    clear hs1 hb1
    refine rgnOne 9 rfl (by kernel_rfl) (fun K hK => ?_)
    go_simp
    refine (KS.out _ _ _ S1.out).mono ?_
    rintro r W2 ⟨rfl, hb2⟩
    refine hK.out _ _ trivial (fun hHeld => ?_)
    clear hK K
    try simp only [Act.put, List.setIfInBounds_toArray, List.set_cons_zero, List.set_cons_succ]
    have B2 := Lib.hid (below_then B1.out hb2)
    clear hb2
    refine rgnOne 10 rfl (by kernel_rfl) (fun K hK => ?_)
    go_simp
    refine (KL.out _).mono ?_
    rintro r W3 ⟨rfl, hb3⟩
    refine hK.out _ _ trivial (fun hHeld => ?_)
    clear hK K
    try simp only [Act.put, List.setIfInBounds_toArray, List.set_cons_zero, List.set_cons_succ]
    have B3 := Lib.hid (below_then B2.out hb3)
    clear hb3
    refine rgnOne 13 rfl (by kernel_rfl) (fun K hK => ?_)
    go_simp
    refine (KT.out _ B3.out).mono ?_
    rintro r W4 ⟨rfl, hb4⟩
    refine hK.out _ _ trivial (fun hHeld => ?_)
    clear hK K
    try simp only [Act.put, List.setIfInBounds_toArray, List.set_cons_zero, List.set_cons_succ]
    have B4 := Lib.hid (below_then B3.out hb4)
    clear hb4
    refine rgnOne 14 rfl (by kernel_rfl) (fun K hK => ?_)
    go_simp
    refine (KP.out _).mono ?_
    rintro r W5 ⟨rfl, hb5⟩
    refine hK.out _ _ trivial (fun hHeld => ?_)
    clear hK K
    try simp only [Act.put, List.setIfInBounds_toArray, List.set_cons_zero, List.set_cons_succ]
    have B5 := Lib.hid (below_then B4.out hb5)
    obtain ⟨c8, c9, c10, cf⟩ := CX.out _ B5.out
    have f8 := cf 8
    have f9 := cf 9
    have f10 := cf 10
    have HS5 := Lib.hid (HS.out _ B5.out)
    clear hb5 cf
    refine rgnTake 15 rfl (by kernel_rfl) (by kernel_rfl) (by kernel_rfl) (fun _ _ _ h => h) (by rfl) (v := ?v10) ?hy10 hHeld ?rest10
    case hy10 => (intro v hSw; first | (go_simp; done) | (go_simp; with_reducible rfl))
    try simp only [Act.put, List.setIfInBounds_toArray, List.set_cons_zero, List.set_cons_succ]
    refine rgnTake 16 rfl (by kernel_rfl) (by kernel_rfl) (by kernel_rfl) (fun _ _ _ h => h) (by rfl) (v := ?v11) ?hy11 hHeld ?rest11
    case hy11 => (intro v hSw; first | (go_simp; done) | (go_simp; with_reducible rfl))
    try simp only [Act.put, List.setIfInBounds_toArray, List.set_cons_zero, List.set_cons_succ]
    refine rgnOne 17 rfl (by kernel_rfl) (fun K hK => ?_)
    go_simp
    refine hK.out _ _ trivial (fun hHeld => ?_)
    clear hK K c8 c9 c10 f8 f9 f10
    try simp only [Act.put, List.setIfInBounds_toArray, List.set_cons_zero, List.set_cons_succ]
    obtain ⟨W6, hW6⟩ : ∃ W6, W6 = ((W5.setCell ⟨b, 8, none⟩ (.int .i64 y1)).setCell ⟨b, 9, none⟩ (.int .i64 y2)).setCell ⟨b, 10, none⟩ (.int .i64 y3) := ⟨_, rfl⟩
    rw [← hW6] at HS5 ⊢
    clear hW6
    refine wpAnyH_done (by kernel_rfl) ?_ _
    have af : (s.sum y1 y2 y3).AtF L P := HA.out.f.sums
    obtain ⟨n0, p1, p2, p3, -, p5⟩ := af.fine.place hh
    obtain ⟨t, ht⟩ := Sh.hasT HS5.out af hh
    have FC := Lib.hid ((xFindR HS5.out af k).mono (R' := fun e w' => e = .returned (.tuple #[Ptr t, .int .i64 (n0 : Int)]) ∧ Side w0 N w' ((s.sum y1 y2 y3).os b)) fun e w' ⟨tp, p, q1, q2, _, q4⟩ => by
      obtain ⟨t', e1, rfl, rfl⟩ := q4 hh
      rw [ht] at e1
      injection e1 with e1
      subst e1
      rw [p1] at q1
      exact ⟨q1, (HS5.out.below q2).drop⟩)
    have P5 := Lib.hid p5
    have nn1 := af.n1
    have nn2 := af.n2
    have nn3 := af.n3
    have nn4 := af.n4
    have nn5 := af.n5
    have LL := Lib.hid (show s.l.length = L.length from af.fine.llen)
    have CL := Lib.hid (show s.cs.length = L.length + s.fr.length from af.fine.len)
    have BD := Lib.hid (show s.bd ≤ 800000 from by have : s.bd ≤ 29 * (2 * P - L.length) := nn2; omega)
    have KD := Lib.hid (fun W (hW : Side w0 N W ((s.sum y1 y2 y3).os b)) => (sDel hW (i := 1) (t := t) (l := s.l) (bd := s.bd) (by rw [← ht]; rfl) k (by rw [LL.out]; omega) BD.out).mono (R' := fun x w' => (∃ n2 b2, x = .returned (.tuple #[.int .i64 n2, .bool b2])) ∧ Side w0 N w' (({ s.sum y1 y2 y3 with l := s.l.del k, bd := s.bd + 29 } : Sh).os b)) fun x w' ⟨q1, q2⟩ => ⟨⟨_, _, q1⟩, by rw [← ht] at q2; exact q2⟩)
    have KR := Lib.hid (fun W (hW : Side w0 N W (({ s.sum y1 y2 y3 with l := s.l.del k, bd := s.bd + 29 } : Sh).os b)) => xReleaseR (p := n0) hW p2 (by show s.fr.length ≤ _; have := CL.out; have : s.cs.length ≤ P := nn3; omega))
    clear af p1 p2 p3 p5 ht nn1 nn2 nn3 nn4 nn5
    go_wp2_with fail
    refine FC.out.mono ?_
    rintro e W7 ⟨rfl, h7⟩
    have K7 := Lib.hid (KD.out _ h7)
    clear h7 FC KD
    go_wp2_with fail
    refine K7.out.mono ?_
    rintro e W8 ⟨⟨n2, b2, rfl⟩, h8⟩
    have K8 := Lib.hid (KR.out _ h8)
    clear h8 K7 KR
    go_wp2_with fail
    refine K8.out.mono ?_
    rintro e W9 ⟨fv, rfl, h9⟩
    have H9 := Lib.hid h9
    clear h9 K8
    go_wp2_with fail
    refine bodyPost_end (results_none rfl _ _ _) rfl ⟨rfl, _, H9.out, ⟨rfl, rfl, rfl, rfl, rfl, rfl, rfl⟩, ?_⟩
    have af := HA.out.f
    have gl := Ch.cut_len hh
    obtain ⟨z1, z2, z3⟩ := sums_cut hh
    obtain ⟨w1, w2, w3⟩ := SUM.out
    obtain ⟨w4, w5, w6, w7, w8, w9⟩ := HU.out
    have c0 : c = [] := List.length_eq_zero_iff.1 w9.symm
    have v10 : v1 = 0 := by rw [w7, c0]; rfl
    have v20 : v2 = 0 := by rw [w8, c0]; rfl
    have e1 := af.n1
    have e2 := af.n2
    have e3 := af.n3
    have e5 := af.n5
    refine ⟨⟨af.fine.del P5.out hh, fun e => ?_, by omega, by show s.bd + 29 ≤ _; omega, by show (s.cs.set n0 []).length ≤ P; rw [List.length_set]; exact e3, af.n4, good_cut af.good hh, fun x hx => af.right x ((Ch.mem_cut af.good.rise hh).1 hx).1, by omega⟩, ?_, ?_, ?_⟩
    · have q := af.t0 e
      refine ⟨q.1, ?_⟩
      show s.l.del k = []
      rw [q.2]; rfl
    · show y1 = _; omega
    · show y2 = _; omega
    · show y3 = _; omega
  · go_simp
    refine (KC.out _ BX.out).mono ?_
    rintro r W1 ⟨A1, c1, rfl, hs1, hb1⟩
    refine hK.out _ _ trivial (fun hHeld => ?_)
    clear hK K
    try simp only [Act.put, List.setIfInBounds_toArray, List.set_cons_zero, List.set_cons_succ]
    have S1 := Lib.hid hs1
    have B1 := Lib.hid (below_then BX.out hb1)
    clear hs1 hb1
    refine rgnTwo 4 9 rfl rfl (by kernel_rfl) (fun K hK => ?_) (fun K hK => ?_)
    · obtain ⟨c8, c9, c10, -⟩ := CX.out _ B1.out
      go_simp
      refine hK.out _ _ trivial (fun hHeld => ?_)
      clear hK K c8 c9 c10
      try simp only [Act.put, List.setIfInBounds_toArray, List.set_cons_zero, List.set_cons_succ]
      refine rgnOne 9 rfl (by kernel_rfl) (fun K hK => ?_)
      go_simp
      refine (KS.out _ _ _ S1.out).mono ?_
      rintro r W2 ⟨rfl, hb2⟩
      refine hK.out _ _ trivial (fun hHeld => ?_)
      clear hK K
      try simp only [Act.put, List.setIfInBounds_toArray, List.set_cons_zero, List.set_cons_succ]
      have B2 := Lib.hid (below_then B1.out hb2)
      clear hb2
      refine rgnOne 10 rfl (by kernel_rfl) (fun K hK => ?_)
      go_simp
      refine (KL.out _).mono ?_
      rintro r W3 ⟨rfl, hb3⟩
      refine hK.out _ _ trivial (fun hHeld => ?_)
      clear hK K
      try simp only [Act.put, List.setIfInBounds_toArray, List.set_cons_zero, List.set_cons_succ]
      have B3 := Lib.hid (below_then B2.out hb3)
      clear hb3
      refine rgnOne 13 rfl (by kernel_rfl) (fun K hK => ?_)
      go_simp
      refine (KT.out _ B3.out).mono ?_
      rintro r W4 ⟨rfl, hb4⟩
      refine hK.out _ _ trivial (fun hHeld => ?_)
      clear hK K
      try simp only [Act.put, List.setIfInBounds_toArray, List.set_cons_zero, List.set_cons_succ]
      have B4 := Lib.hid (below_then B3.out hb4)
      clear hb4
      refine rgnOne 14 rfl (by kernel_rfl) (fun K hK => ?_)
      go_simp
      refine (KP.out _).mono ?_
      rintro r W5 ⟨rfl, hb5⟩
      refine hK.out _ _ trivial (fun hHeld => ?_)
      clear hK K
      try simp only [Act.put, List.setIfInBounds_toArray, List.set_cons_zero, List.set_cons_succ]
      have B5 := Lib.hid (below_then B4.out hb5)
      obtain ⟨c8, c9, c10, cf⟩ := CX.out _ B5.out
      have f8 := cf 8
      have f9 := cf 9
      have f10 := cf 10
      have HS5 := Lib.hid (HS.out _ B5.out)
      clear hb5 cf
      refine rgnTake 15 rfl (by kernel_rfl) (by kernel_rfl) (by kernel_rfl) (fun _ _ _ h => h) (by rfl) (v := ?v12) ?hy12 hHeld ?rest12
      case hy12 => (intro v hSw; first | (go_simp; done) | (go_simp; with_reducible rfl))
      try simp only [Act.put, List.setIfInBounds_toArray, List.set_cons_zero, List.set_cons_succ]
      refine rgnTake 16 rfl (by kernel_rfl) (by kernel_rfl) (by kernel_rfl) (fun _ _ _ h => h) (by rfl) (v := ?v13) ?hy13 hHeld ?rest13
      case hy13 => (intro v hSw; first | (go_simp; done) | (go_simp; with_reducible rfl))
      try simp only [Act.put, List.setIfInBounds_toArray, List.set_cons_zero, List.set_cons_succ]
      refine rgnOne 17 rfl (by kernel_rfl) (fun K hK => ?_)
      go_simp
      refine hK.out _ _ trivial (fun hHeld => ?_)
      clear hK K c8 c9 c10 f8 f9 f10
      try simp only [Act.put, List.setIfInBounds_toArray, List.set_cons_zero, List.set_cons_succ]
      obtain ⟨W6, hW6⟩ : ∃ W6, W6 = ((W5.setCell ⟨b, 8, none⟩ (.int .i64 y1)).setCell ⟨b, 9, none⟩ (.int .i64 y2)).setCell ⟨b, 10, none⟩ (.int .i64 y3) := ⟨_, rfl⟩
      rw [← hW6] at HS5 ⊢
      clear hW6
      refine wpAnyH_done (by kernel_rfl) ?_ _
      have af : (s.sum y1 y2 y3).AtF L P := HA.out.f.sums
      obtain ⟨n0, p1, p2, p3, -, p5⟩ := af.fine.place hh
      obtain ⟨t, ht⟩ := Sh.hasT HS5.out af hh
      have FC := Lib.hid ((xFindR HS5.out af k).mono (R' := fun e w' => e = .returned (.tuple #[Ptr t, .int .i64 (n0 : Int)]) ∧ Side w0 N w' ((s.sum y1 y2 y3).os b)) fun e w' ⟨tp, p, q1, q2, _, q4⟩ => by
        obtain ⟨t', e1, rfl, rfl⟩ := q4 hh
        rw [ht] at e1
        injection e1 with e1
        subst e1
        rw [p1] at q1
        exact ⟨q1, (HS5.out.below q2).drop⟩)
      have P5 := Lib.hid p5
      have nn1 := af.n1
      have nn2 := af.n2
      have nn3 := af.n3
      have nn4 := af.n4
      have nn5 := af.n5
      have LL := Lib.hid (show s.l.length = L.length from af.fine.llen)
      have CL := Lib.hid (show s.cs.length = L.length + s.fr.length from af.fine.len)
      have BD := Lib.hid (show s.bd ≤ 800000 from by have : s.bd ≤ 29 * (2 * P - L.length) := nn2; omega)
      have KD := Lib.hid (fun W (hW : Side w0 N W ((s.sum y1 y2 y3).os b)) => (sDel hW (i := 1) (t := t) (l := s.l) (bd := s.bd) (by rw [← ht]; rfl) k (by rw [LL.out]; omega) BD.out).mono (R' := fun x w' => (∃ n2 b2, x = .returned (.tuple #[.int .i64 n2, .bool b2])) ∧ Side w0 N w' (({ s.sum y1 y2 y3 with l := s.l.del k, bd := s.bd + 29 } : Sh).os b)) fun x w' ⟨q1, q2⟩ => ⟨⟨_, _, q1⟩, by rw [← ht] at q2; exact q2⟩)
      have KR := Lib.hid (fun W (hW : Side w0 N W (({ s.sum y1 y2 y3 with l := s.l.del k, bd := s.bd + 29 } : Sh).os b)) => xReleaseR (p := n0) hW p2 (by show s.fr.length ≤ _; have := CL.out; have : s.cs.length ≤ P := nn3; omega))
      clear af p1 p2 p3 p5 ht nn1 nn2 nn3 nn4 nn5
      go_wp2_with fail
      refine FC.out.mono ?_
      rintro e W7 ⟨rfl, h7⟩
      have K7 := Lib.hid (KD.out _ h7)
      clear h7 FC KD
      go_wp2_with fail
      refine K7.out.mono ?_
      rintro e W8 ⟨⟨n2, b2, rfl⟩, h8⟩
      have K8 := Lib.hid (KR.out _ h8)
      clear h8 K7 KR
      go_wp2_with fail
      refine K8.out.mono ?_
      rintro e W9 ⟨fv, rfl, h9⟩
      have H9 := Lib.hid h9
      clear h9 K8
      go_wp2_with fail
      refine bodyPost_end (results_none rfl _ _ _) rfl ⟨rfl, _, H9.out, ⟨rfl, rfl, rfl, rfl, rfl, rfl, rfl⟩, ?_⟩
      have af := HA.out.f
      have gl := Ch.cut_len hh
      obtain ⟨z1, z2, z3⟩ := sums_cut hh
      obtain ⟨w1, w2, w3⟩ := SUM.out
      obtain ⟨w4, w5, w6, w7, w8, w9⟩ := HU.out
      have c0 : c = [] := List.length_eq_zero_iff.1 w9.symm
      have v10 : v1 = 0 := by rw [w7, c0]; rfl
      have v20 : v2 = 0 := by rw [w8, c0]; rfl
      have e1 := af.n1
      have e2 := af.n2
      have e3 := af.n3
      have e5 := af.n5
      refine ⟨⟨af.fine.del P5.out hh, fun e => ?_, by omega, by show s.bd + 29 ≤ _; omega, by show (s.cs.set n0 []).length ≤ P; rw [List.length_set]; exact e3, af.n4, good_cut af.good hh, fun x hx => af.right x ((Ch.mem_cut af.good.rise hh).1 hx).1, by omega⟩, ?_, ?_, ?_⟩
      · have q := af.t0 e
        refine ⟨q.1, ?_⟩
        show s.l.del k = []
        rw [q.2]; rfl
      · show y1 = _; omega
      · show y2 = _; omega
      · show y3 = _; omega
    · go_simp
      refine (KS.out _ _ _ S1.out).mono ?_
      rintro r W2 ⟨rfl, hb2⟩
      refine hK.out _ _ trivial (fun hHeld => ?_)
      clear hK K
      try simp only [Act.put, List.setIfInBounds_toArray, List.set_cons_zero, List.set_cons_succ]
      have B2 := Lib.hid (below_then B1.out hb2)
      clear hb2
      obtain ⟨c8, c9, c10, -⟩ := CX.out _ B2.out
      refine rgnOne 4 rfl (by kernel_rfl) (fun K hK => ?_)
      go_simp
      refine hK.out _ _ trivial (fun hHeld => ?_)
      clear hK K c8 c9 c10
      try simp only [Act.put, List.setIfInBounds_toArray, List.set_cons_zero, List.set_cons_succ]
      refine rgnOne 10 rfl (by kernel_rfl) (fun K hK => ?_)
      go_simp
      refine (KL.out _).mono ?_
      rintro r W3 ⟨rfl, hb3⟩
      refine hK.out _ _ trivial (fun hHeld => ?_)
      clear hK K
      try simp only [Act.put, List.setIfInBounds_toArray, List.set_cons_zero, List.set_cons_succ]
      have B3 := Lib.hid (below_then B2.out hb3)
      clear hb3
      refine rgnOne 13 rfl (by kernel_rfl) (fun K hK => ?_)
      go_simp
      refine (KT.out _ B3.out).mono ?_
      rintro r W4 ⟨rfl, hb4⟩
      refine hK.out _ _ trivial (fun hHeld => ?_)
      clear hK K
      try simp only [Act.put, List.setIfInBounds_toArray, List.set_cons_zero, List.set_cons_succ]
      have B4 := Lib.hid (below_then B3.out hb4)
      clear hb4
      refine rgnOne 14 rfl (by kernel_rfl) (fun K hK => ?_)
      go_simp
      refine (KP.out _).mono ?_
      rintro r W5 ⟨rfl, hb5⟩
      refine hK.out _ _ trivial (fun hHeld => ?_)
      clear hK K
      try simp only [Act.put, List.setIfInBounds_toArray, List.set_cons_zero, List.set_cons_succ]
      have B5 := Lib.hid (below_then B4.out hb5)
      obtain ⟨c8, c9, c10, cf⟩ := CX.out _ B5.out
      have f8 := cf 8
      have f9 := cf 9
      have f10 := cf 10
      have HS5 := Lib.hid (HS.out _ B5.out)
      clear hb5 cf
      refine rgnTake 15 rfl (by kernel_rfl) (by kernel_rfl) (by kernel_rfl) (fun _ _ _ h => h) (by rfl) (v := ?v14) ?hy14 hHeld ?rest14
      case hy14 => (intro v hSw; first | (go_simp; done) | (go_simp; with_reducible rfl))
      try simp only [Act.put, List.setIfInBounds_toArray, List.set_cons_zero, List.set_cons_succ]
      refine rgnTake 16 rfl (by kernel_rfl) (by kernel_rfl) (by kernel_rfl) (fun _ _ _ h => h) (by rfl) (v := ?v15) ?hy15 hHeld ?rest15
      case hy15 => (intro v hSw; first | (go_simp; done) | (go_simp; with_reducible rfl))
      try simp only [Act.put, List.setIfInBounds_toArray, List.set_cons_zero, List.set_cons_succ]
      refine rgnOne 17 rfl (by kernel_rfl) (fun K hK => ?_)
      go_simp
      refine hK.out _ _ trivial (fun hHeld => ?_)
      clear hK K c8 c9 c10 f8 f9 f10
      try simp only [Act.put, List.setIfInBounds_toArray, List.set_cons_zero, List.set_cons_succ]
      obtain ⟨W6, hW6⟩ : ∃ W6, W6 = ((W5.setCell ⟨b, 8, none⟩ (.int .i64 y1)).setCell ⟨b, 9, none⟩ (.int .i64 y2)).setCell ⟨b, 10, none⟩ (.int .i64 y3) := ⟨_, rfl⟩
      rw [← hW6] at HS5 ⊢
      clear hW6
      refine wpAnyH_done (by kernel_rfl) ?_ _
      have af : (s.sum y1 y2 y3).AtF L P := HA.out.f.sums
      obtain ⟨n0, p1, p2, p3, -, p5⟩ := af.fine.place hh
      obtain ⟨t, ht⟩ := Sh.hasT HS5.out af hh
      have FC := Lib.hid ((xFindR HS5.out af k).mono (R' := fun e w' => e = .returned (.tuple #[Ptr t, .int .i64 (n0 : Int)]) ∧ Side w0 N w' ((s.sum y1 y2 y3).os b)) fun e w' ⟨tp, p, q1, q2, _, q4⟩ => by
        obtain ⟨t', e1, rfl, rfl⟩ := q4 hh
        rw [ht] at e1
        injection e1 with e1
        subst e1
        rw [p1] at q1
        exact ⟨q1, (HS5.out.below q2).drop⟩)
      have P5 := Lib.hid p5
      have nn1 := af.n1
      have nn2 := af.n2
      have nn3 := af.n3
      have nn4 := af.n4
      have nn5 := af.n5
      have LL := Lib.hid (show s.l.length = L.length from af.fine.llen)
      have CL := Lib.hid (show s.cs.length = L.length + s.fr.length from af.fine.len)
      have BD := Lib.hid (show s.bd ≤ 800000 from by have : s.bd ≤ 29 * (2 * P - L.length) := nn2; omega)
      have KD := Lib.hid (fun W (hW : Side w0 N W ((s.sum y1 y2 y3).os b)) => (sDel hW (i := 1) (t := t) (l := s.l) (bd := s.bd) (by rw [← ht]; rfl) k (by rw [LL.out]; omega) BD.out).mono (R' := fun x w' => (∃ n2 b2, x = .returned (.tuple #[.int .i64 n2, .bool b2])) ∧ Side w0 N w' (({ s.sum y1 y2 y3 with l := s.l.del k, bd := s.bd + 29 } : Sh).os b)) fun x w' ⟨q1, q2⟩ => ⟨⟨_, _, q1⟩, by rw [← ht] at q2; exact q2⟩)
      have KR := Lib.hid (fun W (hW : Side w0 N W (({ s.sum y1 y2 y3 with l := s.l.del k, bd := s.bd + 29 } : Sh).os b)) => xReleaseR (p := n0) hW p2 (by show s.fr.length ≤ _; have := CL.out; have : s.cs.length ≤ P := nn3; omega))
      clear af p1 p2 p3 p5 ht nn1 nn2 nn3 nn4 nn5
      go_wp2_with fail
      refine FC.out.mono ?_
      rintro e W7 ⟨rfl, h7⟩
      have K7 := Lib.hid (KD.out _ h7)
      clear h7 FC KD
      go_wp2_with fail
      refine K7.out.mono ?_
      rintro e W8 ⟨⟨n2, b2, rfl⟩, h8⟩
      have K8 := Lib.hid (KR.out _ h8)
      clear h8 K7 KR
      go_wp2_with fail
      refine K8.out.mono ?_
      rintro e W9 ⟨fv, rfl, h9⟩
      have H9 := Lib.hid h9
      clear h9 K8
      go_wp2_with fail
      refine bodyPost_end (results_none rfl _ _ _) rfl ⟨rfl, _, H9.out, ⟨rfl, rfl, rfl, rfl, rfl, rfl, rfl⟩, ?_⟩
      have af := HA.out.f
      have gl := Ch.cut_len hh
      obtain ⟨z1, z2, z3⟩ := sums_cut hh
      obtain ⟨w1, w2, w3⟩ := SUM.out
      obtain ⟨w4, w5, w6, w7, w8, w9⟩ := HU.out
      have c0 : c = [] := List.length_eq_zero_iff.1 w9.symm
      have v10 : v1 = 0 := by rw [w7, c0]; rfl
      have v20 : v2 = 0 := by rw [w8, c0]; rfl
      have e1 := af.n1
      have e2 := af.n2
      have e3 := af.n3
      have e5 := af.n5
      refine ⟨⟨af.fine.del P5.out hh, fun e => ?_, by omega, by show s.bd + 29 ≤ _; omega, by show (s.cs.set n0 []).length ≤ P; rw [List.length_set]; exact e3, af.n4, good_cut af.good hh, fun x hx => af.right x ((Ch.mem_cut af.good.rise hh).1 hx).1, by omega⟩, ?_, ?_, ?_⟩
      · have q := af.t0 e
        refine ⟨q.1, ?_⟩
        show s.l.del k = []
        rw [q.2]; rfl
      · show y1 = _; omega
      · show y2 = _; omega
      · show y3 = _; omega
end

end Go.Proofs.Ytbfgpdgiaclphaa

namespace Go.Proofs.Ytbfgpdgiaclphaa
open Go.RowKit

section
variable {w0 w : World} {N : Nat → Prop} {b : Nat} {s : Sh} {L : Ch} {P : Nat}
theorem Sh.At.more {P' : Nat} (a : s.At L P) (h : P ≤ P') (h2 : P' ≤ 13200) : s.At L P' :=
  ⟨⟨a.f.fine, a.f.t0, Nat.le_trans a.f.n1 h, by have := a.f.n2; omega, Nat.le_trans a.f.n3 h, h2, a.f.good, a.f.right, a.f.n5⟩, a.x1, a.x2, a.x3⟩
/-- set, of whatever key, to a chain with versions -/
theorem xSetR {A : Option Addr} {c : List Ver} {n cap : Nat} {k : ByteArray} (h : Side w0 N w (s.os b ++ [oCh A c])) (a : s.At L P) (hn : n = c.length) (hcap : n ≤ cap) (h0 : 0 < n) (hP : P + 1 ≤ 13200) (hL : L.length + 1 ≤ 3950) (hg : GoodL c) (hr : rightL c = true) (hk : k.size ≤ 1000) :
    Calls Try.prog 20 #[PtrS b, .string k, .slice A n cap] w fun e w' => e = .returned (.tuple #[]) ∧ ∃ s', Side w0 N w' (s'.os b) ∧ Sh.Hd s s' ∧ s'.At (L.give k c) (P + 1) := by
  cases hh : L.has k with
  | true => exact (xSetOldR h a hn hcap h0 hg hr hk hh).mono fun e w' ⟨h1, s', h2, h3, h4⟩ => ⟨h1, s', h2, h3, h4.more (by omega) hP⟩
  | false => exact xSetNewR h a hn hcap hP hL hg hr hk hh
set_option maxRecDepth 100000 in
set_option maxHeartbeats 4000000 in
/-- add -/
theorem xAddR {k : ByteArray} (v : Ver) (h : Side w0 N w (s.os b)) (a : s.At L P) (hP : P + 1 ≤ 13200) (hL : L.length + 1 ≤ 3950) (hg : GoodL (L.of k ++ [v])) (hr : rightL (L.of k ++ [v]) = true) (hk : k.size ≤ 1000) :
    Calls Try.prog 16 #[PtrS b, .string k, v.v] w fun e w' => e = .returned (.tuple #[]) ∧ ∃ s', Side w0 N w' (s'.os b) ∧ Sh.Hd s s' ∧ s'.At (L.put k v) (P + 1) := by
  rw [Ch.put_give]
  have r0 := RowAt.new w v.cs 60
  have b0 : Below w.heap.size w (w.alloc (.cells v.cs.toArray 60)) := (Below.refl _ _).alloc (Nat.le_refl _) _
  obtain ⟨B, hB⟩ : ∃ B, B = w.heap.size := ⟨_, rfl⟩
  obtain ⟨w1, hw1⟩ : ∃ w1, w1 = w.alloc (.cells v.cs.toArray 60) := ⟨_, rfl⟩
  rw [← hw1] at b0 r0
  rw [← hB] at r0
  have h1 := h.below b0
  obtain ⟨c, hc⟩ : ∃ c, c = L.of k ++ [v] := ⟨_, rfl⟩
  obtain ⟨m, hm⟩ : ∃ m, m = (L.of k).length := ⟨_, rfl⟩
  obtain ⟨n, hn⟩ : ∃ m, m = c.length := ⟨_, rfl⟩
  have nm : n = m + 1 := by rw [hn, hc, hm]; simp
  have KC := Lib.hid (fun W (hb : Below w1.heap.size w1 W) => show Calls Try.prog 35 #[PtrS b, .string k] W fun e w' => ∃ A c, e = .returned (.slice A m c) ∧ SlV w' A (L.of k) ∧ Below W.heap.size W w' from by
    have h2 : Side w0 N W (s.os b ++ []) := by rw [List.append_nil]; exact h1.below hb
    exact (xChainR h2 a.f k).mono fun e w' ⟨A', c', h1, _, h3, h4⟩ => ⟨A', c', by rw [hm]; exact h1, h3, h4⟩)
  have KA := Lib.hid (fun W A' c' (hb : Below w1.heap.size w1 W) (hs : SlV W A' (L.of k)) => show Calls Try.prog 34 #[.slice A' m c', v.v] W fun e w' => ∃ A2 c2, e = .returned (.tuple #[.slice A2 n c2, .int .i64 0]) ∧ Side w0 N w' (s.os b ++ [oCh A2 c]) ∧ n ≤ c2 ∧ Below W.heap.size W w' from by
    rw [hm]
    refine (xAdd9 (L.of k) v A' c' W hs hg).mono fun e w' ⟨A2, c2, e1, e2, e3, e4, e5⟩ => ?_
    rw [hr, if_pos rfl, if_pos rfl, ← hc, ← hn] at e1
    rw [hr, if_pos rfl, ← hc] at e2 e4 e5
    obtain ⟨g, rfl, hg2⟩ := e5 (by omega)
    refine ⟨_, c2, e1, ?_, by omega, e3⟩
    exact (h1.below hb).more e3 (o := oCh (some ⟨g, 0, none⟩) c) (F' := fun k => k = g) ⟨⟨e2, fun _ => ⟨g, 0, rfl, rfl⟩⟩, fun k e => by
      obtain ⟨b', o, e6, hlt, _⟩ := e2 (by omega)
      injection e6 with e6
      injection e6 with e6 _ _
      rw [e, e6]; exact hlt⟩ fun k e => by rw [e]; exact hg2)
  have KS := Lib.hid (fun W A2 c2 (hW : Side w0 N W (s.os b ++ [oCh A2 c])) (hc2 : n ≤ c2) => xSetR hW a hn hc2 (by omega) hP hL (by rw [hc]; exact hg) (by rw [hc]; exact hr) hk)
  have R0 := Lib.hid r0
  have HW1 := Lib.hid hw1
  have HB := Lib.hid hB
  have BX := Lib.hid (show Below w1.heap.size w1 w1.drew from (Below.refl _ _).drew)
  obtain ⟨sq, gn, u⟩ := v
  obtain ⟨nu, t, bt⟩ := u
  rw [← hc]
  clear h a hP hL hg hr hk r0 b0 hB hw1 h1 hc hm hn nm
  have KA : Hid (∀ W A' c', Below w1.heap.size w1 W → SlV W A' (L.of k) → Calls Try.prog 34 #[.slice A' m c', .agg #[.int .i64 sq, .bool gn, .bool nu, .string t, .int .u64 (bt : Int)]] W fun e w' => ∃ A2 c2, e = .returned (.tuple #[.slice A2 n c2, .int .i64 0]) ∧ Side w0 N w' (s.os b ++ [oCh A2 c]) ∧ n ≤ c2 ∧ Below W.heap.size W w') := KA
  have HW1 : Hid (w1 = w.alloc (.cells #[.int .i64 sq, .bool gn, .bool nu, .string t, .int .u64 (bt : Int)] 60)) := HW1
  show Calls Try.prog 16 #[PtrS b, .string k, .agg #[.int .i64 sq, .bool gn, .bool nu, .string t, .int .u64 (bt : Int)]] w _
  go_enter Try.func16, Try.ntmps16
  go_wp2_with fail
  rw [← HW1.out, ← HB.out]
  have CF := Lib.hid (fun W (hb : Below w1.heap.size w1 W) => verF (R0.out.below hb))
  obtain ⟨d0, d1, d2, d3, d4⟩ := CF.out _ BX.out
  refine wp_region_held_drew (S := (fun w' => w'.cell? ⟨B, 0, none⟩ = some (.int .i64 sq) ∧ w'.cell? ⟨B, 1, none⟩ = some (.bool gn) ∧ w'.cell? ⟨B, 2, none⟩ = some (.bool nu) ∧ w'.cell? ⟨B, 3, none⟩ = some (.string t) ∧ w'.cell? ⟨B, 4, none⟩ = some (.int .u64 (bt : Int)))) (by kernel_rfl) (⟨d0, d1, d2, d3, d4⟩) (fun hHeld => ?_)
  refine rgnTake 0 rfl (by kernel_rfl) (by kernel_rfl) (by kernel_rfl) (fun _ _ _ h => h) (by rfl) (v := ?v1) ?hy1 hHeld ?rest1
  case hy1 => (intro v hSw; obtain ⟨y0, y1, y2, y3, y4⟩ := hSw; first | (go_simp; done) | (go_simp; with_reducible rfl))
  try simp only [Act.put, List.setIfInBounds_toArray, List.set_cons_zero, List.set_cons_succ]
  refine rgnTake 1 rfl (by kernel_rfl) (by kernel_rfl) (by kernel_rfl) (fun _ _ _ h => h) (by rfl) (v := ?v2) ?hy2 hHeld ?rest2
  case hy2 => (intro v hSw; obtain ⟨y0, y1, y2, y3, y4⟩ := hSw; first | (go_simp; done) | (go_simp; with_reducible rfl))
  try simp only [Act.put, List.setIfInBounds_toArray, List.set_cons_zero, List.set_cons_succ]
  refine rgnTake 3 rfl (by kernel_rfl) (by kernel_rfl) (by kernel_rfl) (fun _ _ _ h => h) (by rfl) (v := ?v3) ?hy3 hHeld ?rest3
  case hy3 => (intro v hSw; obtain ⟨y0, y1, y2, y3, y4⟩ := hSw; first | (go_simp; done) | (go_simp; with_reducible rfl))
  try simp only [Act.put, List.setIfInBounds_toArray, List.set_cons_zero, List.set_cons_succ]
  refine rgnOne 2 rfl (by kernel_rfl) (fun K hK => ?_)
  go_simp
  refine (KC.out _ BX.out).mono ?_
  rintro r W1 ⟨A1, c1, rfl, hs1, hb1⟩
  have S1 := Lib.hid hs1
  have B1 := Lib.hid (below_then BX.out hb1)
  clear hs1 hb1
  refine hK.out _ _ ((CF.out _ B1.out)) (fun hHeld => ?_)
  clear hK K
  try simp only [Act.put, List.setIfInBounds_toArray, List.set_cons_zero, List.set_cons_succ]
  refine rgnOne 4 rfl (by kernel_rfl) (fun K hK => ?_)
  go_simp
  refine (KA.out _ _ _ B1.out S1.out).mono ?_
  rintro r W2 ⟨A2, c2, rfl, hs2, hc2, hb2⟩
  have S2 := Lib.hid hs2
  have C2 := Lib.hid hc2
  have B2 := Lib.hid (below_then B1.out hb2)
  clear hs2 hb2 hc2
  refine hK.out _ _ ((CF.out _ B2.out)) (fun hHeld => ?_)
  clear hK K
  try simp only [Act.put, List.setIfInBounds_toArray, List.set_cons_zero, List.set_cons_succ]
  refine rgnTake 5 rfl (by kernel_rfl) (by kernel_rfl) (by kernel_rfl) (fun _ _ _ h => h) (by rfl) (v := ?v4) ?hy4 hHeld ?rest4
  case hy4 => (intro v hSw; obtain ⟨y0, y1, y2, y3, y4⟩ := hSw; first | (go_simp; done) | (go_simp; with_reducible rfl))
  try simp only [Act.put, List.setIfInBounds_toArray, List.set_cons_zero, List.set_cons_succ]
  refine rgnTake 6 rfl (by kernel_rfl) (by kernel_rfl) (by kernel_rfl) (fun _ _ _ h => h) (by rfl) (v := ?v5) ?hy5 hHeld ?rest5
  case hy5 => (intro v hSw; obtain ⟨y0, y1, y2, y3, y4⟩ := hSw; first | (go_simp; done) | (go_simp; with_reducible rfl))
  try simp only [Act.put, List.setIfInBounds_toArray, List.set_cons_zero, List.set_cons_succ]
  refine rgnTake 7 rfl (by kernel_rfl) (by kernel_rfl) (by kernel_rfl) (fun _ _ _ h => h) (by rfl) (v := ?v6) ?hy6 hHeld ?rest6
  case hy6 => (intro v hSw; obtain ⟨y0, y1, y2, y3, y4⟩ := hSw; first | (go_simp; done) | (go_simp; with_reducible rfl))
  try simp only [Act.put, List.setIfInBounds_toArray, List.set_cons_zero, List.set_cons_succ]
  refine rgnTake 8 rfl (by kernel_rfl) (by kernel_rfl) (by kernel_rfl) (fun _ _ _ h => h) (by rfl) (v := ?v7) ?hy7 hHeld ?rest7
  case hy7 => (intro v hSw; obtain ⟨y0, y1, y2, y3, y4⟩ := hSw; first | (go_simp; done) | (go_simp; with_reducible rfl))
  try simp only [Act.put, List.setIfInBounds_toArray, List.set_cons_zero, List.set_cons_succ]
  refine rgnTake 9 rfl (by kernel_rfl) (by kernel_rfl) (by kernel_rfl) (fun _ _ _ h => h) (by rfl) (v := ?v8) ?hy8 hHeld ?rest8
  case hy8 => (intro v hSw; obtain ⟨y0, y1, y2, y3, y4⟩ := hSw; first | (go_simp; done) | (go_simp; with_reducible rfl))
  try simp only [Act.put, List.setIfInBounds_toArray, List.set_cons_zero, List.set_cons_succ]
  refine wpAnyH_done (by kernel_rfl) ?_ _
  go_wp2_with fail
  refine (KS.out _ _ _ S2.out C2.out).mono ?_
  rintro e W3 ⟨rfl, hp⟩
  have HP := Lib.hid hp
  clear hp
  go_wp2_with fail
  exact bodyPost_end (results_none rfl _ _ _) rfl ⟨rfl, HP.out⟩
end

end Go.Proofs.Ytbfgpdgiaclphaa

namespace Go.Proofs.Ytbfgpdgiaclphaa
open Go.RowKit

section
variable {w0 w : World} {N : Nat → Prop} {b : Nat} {s : Sh} {L : Ch} {P : Nat} {os2 : List Ob}
theorem Sh.ring (h : Side w0 N w (s.os b ++ os2)) : ∃ v, PrW w s.q v s.r.size s.r.beg s.r.seq s.r.kept ∧ s.r.Ok := by
  obtain ⟨F, v, _, hp, ok⟩ := h.get (i := 6) (o := oRing s.q s.r) rfl
  exact ⟨v, hp, ok⟩
/-- the room's cells -/
theorem Sh.cells (h : Side w0 N w (s.os b ++ os2)) : w.cell? ⟨b, 0, none⟩ = some s.lb ∧ w.cell? ⟨b, 1, none⟩ = some (.int .i64 s.g1) ∧ w.cell? ⟨b, 2, none⟩ = some (.int .i64 s.g2) ∧ w.cell? ⟨b, 3, none⟩ = some (.int .i64 s.g3) ∧ w.cell? ⟨b, 4, none⟩ = some (.pointer (some ⟨s.q, 0, none⟩)) ∧
    w.cell? ⟨b, 8, none⟩ = some (.int .i64 s.x1) ∧ w.cell? ⟨b, 9, none⟩ = some (.int .i64 s.x2) ∧ w.cell? ⟨b, 10, none⟩ = some (.int .i64 s.x3) := by
  have r := Sh.rowAt h
  exact ⟨r.cell 0, r.cell 1, r.cell 2, r.cell 3, r.cell 4, r.cell 8, r.cell 9, r.cell 10⟩
set_option maxRecDepth 100000 in
/-- Live -/
theorem xLiveR (h : Side w0 N w (s.os b ++ os2)) : Calls Try.prog 58 #[PtrM b] w fun e w' => e = .returned (.int .i64 s.x1) ∧ Below w.heap.size w w' := by
  obtain ⟨-, -, -, -, -, c8, c9, c10⟩ := Sh.cells h
  have B0 := Lib.hid (Below.refl w.heap.size w)
  clear h
  go_enter Try.func58, Try.ntmps58
  go_wp2_with fail
  go_ret
  exact ⟨rfl, B0.out⟩
set_option maxRecDepth 100000 in
/-- Keys -/
theorem xKeysR (h : Side w0 N w (s.os b ++ os2)) : Calls Try.prog 10 #[PtrM b] w fun e w' => e = .returned (.int .i64 s.x2) ∧ Below w.heap.size w w' := by
  obtain ⟨-, -, -, -, -, c8, c9, c10⟩ := Sh.cells h
  have B0 := Lib.hid (Below.refl w.heap.size w)
  clear h
  go_enter Try.func10, Try.ntmps10
  go_wp2_with fail
  go_ret
  exact ⟨rfl, B0.out⟩
set_option maxRecDepth 100000 in
/-- Versions -/
theorem xVersionsR (h : Side w0 N w (s.os b ++ os2)) : Calls Try.prog 9 #[PtrM b] w fun e w' => e = .returned (.int .i64 s.x3) ∧ Below w.heap.size w w' := by
  obtain ⟨-, -, -, -, -, c8, c9, c10⟩ := Sh.cells h
  have B0 := Lib.hid (Below.refl w.heap.size w)
  clear h
  go_enter Try.func9, Try.ntmps9
  go_wp2_with fail
  go_ret
  exact ⟨rfl, B0.out⟩
set_option maxRecDepth 100000 in
/-- Seq -/
theorem xSeqR (h : Side w0 N w (s.os b ++ os2)) : Calls Try.prog 22 #[PtrM b] w fun e w' => e = .returned (.int .i64 (s.r.seq : Nat)) ∧ Below w.heap.size w w' := by
  obtain ⟨-, -, -, -, c4, -, -, -⟩ := Sh.cells h
  obtain ⟨v, hp, ok⟩ := Sh.ring h
  have RC := Lib.hid (show Calls Try.prog 50 #[PtrR s.q] w fun e w' => e = .returned (.int .i64 (s.r.seq : Nat)) ∧ Below w.heap.size w w' from xSeq0 _ v _ _ _ _ w hp)
  obtain ⟨z, hz⟩ : ∃ z : Int, z = (s.r.seq : Nat) := ⟨_, rfl⟩
  rw [← hz] at RC ⊢
  clear h hp ok hz
  go_enter Try.func22, Try.ntmps22
  go_wp2_with fail
  refine RC.out.mono ?_
  rintro e w1 ⟨rfl, hb⟩
  have HB := Lib.hid hb
  clear hb
  go_wp2_with fail
  go_ret
  exact ⟨rfl, HB.out⟩
set_option maxRecDepth 100000 in
/-- Floor -/
theorem xFloorR (h : Side w0 N w (s.os b ++ os2)) : Calls Try.prog 17 #[PtrM b] w fun e w' => e = .returned (.int .i64 (s.r.floor : Nat)) ∧ Below w.heap.size w w' := by
  obtain ⟨-, -, -, -, c4, -, -, -⟩ := Sh.cells h
  obtain ⟨v, hp, ok⟩ := Sh.ring h
  have RC := Lib.hid (show Calls Try.prog 36 #[PtrR s.q] w fun e w' => e = .returned (.int .i64 (s.r.floor : Nat)) ∧ Below w.heap.size w w' from xFloor0 _ v _ _ _ _ w hp ok.s16 ok.sq)
  obtain ⟨z, hz⟩ : ∃ z : Int, z = (s.r.floor : Nat) := ⟨_, rfl⟩
  rw [← hz] at RC ⊢
  clear h hp ok hz
  go_enter Try.func17, Try.ntmps17
  go_wp2_with fail
  refine RC.out.mono ?_
  rintro e w1 ⟨rfl, hb⟩
  have HB := Lib.hid hb
  clear hb
  go_wp2_with fail
  go_ret
  exact ⟨rfl, HB.out⟩
end

end Go.Proofs.Ytbfgpdgiaclphaa

namespace Go.Proofs.Ytbfgpdgiaclphaa
open Go.RowKit Go.Shelf

theorem View.of {wz w V : World} {N : Nat → Prop} {b P : Nat} {s : Sh} {os2 : List Ob} {L : Ch} (h : Side wz N w (s.os b ++ os2)) (a : s.AtF L P) (i : Nat) (hb : Below w.heap.size w V) : View b L i V :=
  ⟨wz, N, s, L, P, os2, L.take i, h.below hb, a, (List.take_append_drop i L).symm, fun x hx => ⟨x, hx, rfl⟩⟩
theorem cell_kept {X Y : World} {row : Option Nat} {p : Addr} {v : Value} (h : X.cell? p = some v) (hg : X.grownBy Y row) (hr : ∀ r, row = some r → ∃ o : Obj, X.heap[r]? = some o ∧ o.isCells = false) : Y.cell? p = some v := by
  have e : some p.block ≠ row := fun e => by
    obtain ⟨o, ho, hc⟩ := hr p.block e.symm
    have q := h
    unfold World.cell? at q
    rw [ho] at q
    cases o <;> simp_all [Obj.isCells]
  exact (World.cell?_of_block (hg.block _ (block_lt_of_cell h) e)).trans h

theorem SlV.kept {X Y : World} {row : Option Nat} {A : Option Addr} {l : List Ver} (h : SlV X A l) (hg : X.grownBy Y row) (hr : ∀ r, row = some r → ∃ o : Obj, X.heap[r]? = some o ∧ o.isCells = false) : SlV Y A l := fun hp => by
  obtain ⟨b, o, e, hl, hc⟩ := h hp
  refine ⟨b, o, e, Nat.lt_of_lt_of_le hl hg.size, fun j hj => ?_⟩
  obtain ⟨c0, c1, c2, c3, c4⟩ := hc j hj
  exact ⟨cell_kept c0 hg hr, cell_kept c1 hg hr, cell_kept c2 hg hr, cell_kept c3 hg hr, cell_kept c4 hg hr⟩

attribute [local go_sem] Oper.semAt_some
end Go.Proofs.Ytbfgpdgiaclphaa

namespace Go.Proofs.Ytbfgpdgiaclphaa
open Go.RowKit

/-- may a key stand behind another one? -/
def flw (a k : ByteArray) : Bool := ltB a k && decide (k.size ≤ 32)
theorem gt_eq (k a : ByteArray) : (!(Op.bytesLess k.toList a.toList || (k.toList == a.toList))) = ltB a k := by
  unfold ltB
  cases h : Op.bytesLess a.toList k.toList with
  | true =>
    have e1 : Op.bytesLess k.toList a.toList = false := Val.less_asym _ _ h
    rw [e1, (Val.less_ne h).2]; rfl
  | false =>
    cases h2 : Op.bytesLess k.toList a.toList with
    | true => rfl
    | false =>
      have := Val.less_total _ _ h h2
      rw [this]; simp
theorem ltB_nil (k : ByteArray) : ltB ⟨#[]⟩ k = decide (1 ≤ k.size) := by
  have e : k.size = k.toList.length := by rw [Val.toL]; simp
  rw [e]
  unfold ltB
  rw [show (⟨#[]⟩ : ByteArray).toList = [] by rw [Val.toL]]
  cases k.toList <;> simp [Op.bytesLess]
theorem ltB_pos {a k : ByteArray} (h : ltB a k = true) : 1 ≤ k.size := by
  have e : k.size = k.toList.length := by rw [Val.toL]; simp
  rw [e]
  unfold ltB at h
  cases z : k.toList with
  | nil => rw [z] at h; cases q : a.toList <;> rw [q] at h <;> simp [Op.bytesLess] at h
  | cons c l => simp
theorem flw_first (k : ByteArray) : flw ⟨#[]⟩ k = keyOk k := by unfold flw keyOk; rw [ltB_nil]
theorem flw_next (p k : ByteArray) : flw p k = (keyOk k && ltB p k) := by
  unfold flw keyOk
  cases h : ltB p k with
  | false => simp
  | true => have := ltB_pos h; simp [this]
set_option maxRecDepth 100000 in
/-- follows -/
theorem xFollowsR (k a : ByteArray) (w : World) (hk : k.size ≤ 1000000) : Calls Try.prog 29 #[.string k, .string a] w fun e w' => e = .returned (.bool (flw a k)) ∧ w' = w := by
  have G := gt_eq k a
  have E := Lib.hid (show flw a k = (ltB a k && decide (k.size ≤ 32)) from rfl)
  obtain ⟨T, hT⟩ : ∃ T, T = ltB a k := ⟨_, rfl⟩
  obtain ⟨F, hF⟩ : ∃ T, T = flw a k := ⟨_, rfl⟩
  rw [← hF, ← hT] at E
  rw [← hT] at G
  rw [← hF]
  clear hT hF
  obtain ⟨X, hX⟩ : ∃ X, Op.bytesLess k.toList a.toList = X := ⟨_, rfl⟩
  obtain ⟨Y, hY⟩ : ∃ X, (k.toList == a.toList) = X := ⟨_, rfl⟩
  rw [hX, hY] at G
  obtain ⟨Z, hZ⟩ : ∃ Z, Z = decide (k.size ≤ 32) := ⟨_, rfl⟩
  have zi : decide ((k.size : Int) ≤ 32) = Z := by rw [hZ]; exact decide_eq_decide.2 (by omega)
  rw [← hZ] at E
  clear hZ
  cases X with
  | true =>
    have e : F = false := by rw [E.out, ← G]; rfl
    subst e
    clear G E hY
    go_enter Try.func29, Try.ntmps29
    go_wp2_with fail
    go_ret
    exact ⟨rfl, rfl⟩
  | false =>
    cases Y with
    | true =>
      have e : F = false := by rw [E.out, ← G]; rfl
      subst e
      clear G E
      go_enter Try.func29, Try.ntmps29
      go_wp2_with fail
      go_ret
      exact ⟨rfl, rfl⟩
    | false =>
      have e : F = Z := by rw [E.out, ← G]; rfl
      subst e
      clear G E
      go_enter Try.func29, Try.ntmps29
      go_wp2_with fail
      go_ret
      exact ⟨rfl, rfl⟩
/-- the key ahead -/
def ahdW (l : List Wr) (i : Nat) : ByteArray := if i = 0 then ⟨#[]⟩ else (l.getD (i - 1) Wr.Z).key
theorem wrOk_eq (l : List Wr) (i : Nat) (x : Wr) : wrOk (prevW l i) x = (flw (ahdW l i) x.key && (x.val.ok && (!x.gone || x.val.isZ))) := by
  unfold wrOk prevW ahdW
  by_cases z : i = 0
  · rw [if_pos z, if_pos z, flw_first]; simp
  · rw [if_neg z, if_neg z, flw_next]
    cases keyOk x.key <;> cases x.val.ok <;> cases (!x.gone || x.val.isZ) <;> simp
theorem row5 {w : World} {b : Nat} {t : TypeId} {v0 v1 v2 v3 v4 : Value} (h : RowAt w b [v0, v1, v2, v3, v4] t) : w.cell? ⟨b, 0, none⟩ = some v0 ∧ w.cell? ⟨b, 1, none⟩ = some v1 ∧ w.cell? ⟨b, 2, none⟩ = some v2 ∧ w.cell? ⟨b, 3, none⟩ = some v3 ∧ w.cell? ⟨b, 4, none⟩ = some v4 := ⟨h.cell 0, h.cell 1, h.cell 2, h.cell 3, h.cell 4⟩
set_option maxRecDepth 100000 in
set_option maxHeartbeats 4000000 in
/-- May -/
theorem xMayR (l : List Wr) (A : Option Addr) (c : Nat) (w : World) (h : SlWr w A l) (hf : FitsW l) :
    Calls Try.prog 13 #[.slice A l.length c] w fun e w' => e = .returned (.bool (mayW l)) ∧ Below w.heap.size w w' := by
  obtain ⟨n, hn⟩ : ∃ n, n = l.length := ⟨_, rfl⟩
  obtain ⟨R, hR⟩ : ∃ R, R = mayW l := ⟨_, rfl⟩
  rw [← hn, ← hR]
  have HN := Lib.hid hn
  have HR := Lib.hid hR
  have HS := Lib.hid h
  have HF := Lib.hid hf
  have NZ := Lib.hid neq_zero
  clear hn hR h hf
  by_cases z1 : n < 1
  · have e := HR.out
    rw [mayW_len (by rw [← HN.out]; omega)] at e
    subst e
    go_enter Try.func13, Try.ntmps13
    go_wp2_with fail
    go_ret
    exact ⟨rfl, Below.refl _ _⟩
  by_cases z2 : 16 < n
  · have e := HR.out
    rw [mayW_len (by rw [← HN.out]; omega)] at e
    subst e
    go_enter Try.func13, Try.ntmps13
    go_wp2_with fail
    go_ret
    exact ⟨rfl, Below.refl _ _⟩
  go_enter Try.func13, Try.ntmps13
  go_wp2_with fail
  go_loopw [3, 16] (fun va vi wr => ∃ i : Nat, i ≤ n ∧ vi = .int .i64 i ∧ va = .string (ahdW l i) ∧ Hid (∀ j, j < i → wrOk (prevW l j) (l.getD j Wr.Z) = true) ∧ Hid (Below w.heap.size w wr)) (fun _ vi _ => n - (intOf vi).toNat)
  case atStart => exact ⟨0, Nat.zero_le _, rfl, rfl, Lib.hid (fun j hj => by cases hj), Lib.hid (Below.refl _ _)⟩
  case round =>
    obtain ⟨i, hi, rfl, rfl, HM, HB⟩ := hrel
    by_cases q : i < n
    · obtain ⟨bb, o, rfl, hb, c0, c1, c2, c3, c4⟩ := (HS.out.below HB.out).at (j := i) (by rw [← HN.out]; exact q)
      have RN := Lib.hid (fun (hm : wrOk (prevW l i) (l.getD i Wr.Z) = false) => show R = false by rw [HR.out]; exact mayW_no (by rw [← HN.out]; exact q) hm)
      have XF := Lib.hid (HF.out.get (i := i) (by rw [← HN.out]; exact q))
      obtain ⟨a, ha⟩ : ∃ a, a = ahdW l i := ⟨_, rfl⟩
      have AN := Lib.hid (show ahdW l (i + 1) = (l.getD i Wr.Z).key from rfl)
      obtain ⟨x, hx⟩ : ∃ x, x = l.getD i Wr.Z := ⟨_, rfl⟩
      have HMY := Lib.hid (show wrOk (prevW l i) x = true → ∀ j, j < i + 1 → wrOk (prevW l j) (l.getD j Wr.Z) = true from fun hm j hj => by
        by_cases e : j = i
        · rw [e, ← hx]; exact hm
        · exact HM.out j (by omega))
      have EM := Lib.hid (wrOk_eq l i x)
      rw [← hx] at c0 c1 c2 c3 c4 RN XF AN
      rw [← ha] at EM
      obtain ⟨k, g, v⟩ := x
      obtain ⟨m, t, u⟩ := v
      have VR := Lib.hid (fun w' => vpRight ⟨m, t, u⟩ w' XF.out.1)
      have FR := Lib.hid (fun w' => xFollowsR k a w' XF.out.2)
      have NE := NZ.out ⟨m, t, u⟩
      obtain ⟨K1, hK1⟩ : ∃ K, K = flw a k := ⟨_, rfl⟩
      obtain ⟨K2, hK2⟩ : ∃ K, K = Val.ok ⟨m, t, u⟩ := ⟨_, rfl⟩
      obtain ⟨Y, hY⟩ : ∃ Y, Y = Val.isZ ⟨m, t, u⟩ := ⟨_, rfl⟩
      simp only [← hK1] at FR
      simp only [← hK2] at VR
      simp only [← hY] at NE
      have EM := Lib.hid (show wrOk (prevW l i) ⟨k, g, ⟨m, t, u⟩⟩ = (K1 && (K2 && (!g || Y))) from by rw [EM.out, hK1, hK2, hY])
      have VR : Hid (∀ w', Calls Try.prog 30 #[.agg #[.bool m, .string t, .int .u64 (u : Int)]] w' fun e w'' => e = .returned (.bool K2) ∧ Below w'.heap.size w' w'') := VR
      have NE : ∀ w, (binOp .neq 43 (.agg #[.bool m, .string t, .int .u64 (u : Int)]) (.agg #[.bool false, .string ⟨#[]⟩, .int .u64 0])).run Try.prog w = .ok (.bool (!Y)) w := NE
      have i0 : (0 : Int) ≤ (i : Int) := by omega
      have i1 : (i : Int) < (n : Int) := by omega
      have hn16 : n ≤ 16 := by omega
      rw [← ha]
      obtain ⟨r1, hr1⟩ : ∃ r, r = wr.alloc (.cells #[.string k, .bool g, .bool m, .string t, .int .u64 (u : Int)] 45) := ⟨_, rfl⟩
      have R1 := Lib.hid (show RowAt r1 wr.heap.size [.string k, .bool g, .bool m, .string t, .int .u64 (u : Int)] 45 from by rw [hr1]; exact RowAt.new wr _ _)
      have B1 := Lib.hid (show Below w.heap.size w r1 from by rw [hr1]; exact HB.out.alloc HB.out.size _)
      have HR1 := Lib.hid hr1
      clear hx hK1 hK2 hY hb hi ha hr1
      have c0 : wr.cell? ⟨bb, o + i * 5, none⟩ = some (.string k) := c0
      have c1 : wr.cell? ⟨bb, o + i * 5 + 1, none⟩ = some (.bool g) := c1
      have c2 : wr.cell? ⟨bb, o + i * 5 + 2, none⟩ = some (.bool m) := c2
      have c3 : wr.cell? ⟨bb, o + i * 5 + 3, none⟩ = some (.string t) := c3
      have c4 : wr.cell? ⟨bb, o + i * 5 + 4, none⟩ = some (.int .u64 (u : Int)) := c4
      go_wp2_with fail
      rw [← HR1.out]
      refine (FR.out _).mono ?_
      rintro e w1 ⟨rfl, hw1⟩
      have hw1 := hw1.symm
      subst hw1
      clear c0 c1 c2 c3 c4
      obtain ⟨q0, q1, q2, q3, q4⟩ := row5 R1.out
      cases K1 with
      | false =>
        have e := RN.out (by rw [EM.out]; rfl)
        subst e
        go_wp2_with fail
        go_ret
        exact ⟨rfl, B1.out⟩
      | true =>
        go_wp2_with fail
        refine (VR.out _).mono ?_
        rintro e w2 ⟨rfl, hb2⟩
        have R2 := Lib.hid (R1.out.below hb2)
        have B2 := Lib.hid (below_then B1.out hb2)
        clear hb2 q0 q1 q2 q3 q4
        obtain ⟨q0, q1, q2, q3, q4⟩ := row5 R2.out
        cases K2 with
        | false =>
          have e := RN.out (by rw [EM.out]; rfl)
          subst e
          go_wp2_with fail
          go_ret
          exact ⟨rfl, B2.out⟩
        | true =>
          by_cases z3 : g = true ∧ Y = false
          · obtain ⟨rfl, rfl⟩ := z3
            have e := RN.out (by rw [EM.out]; rfl)
            subst e
            go_wp2_with fail
            go_ret
            exact ⟨rfl, B2.out⟩
          · have z4 : (!g || Y) = true := by cases g <;> cases Y <;> simp at z3 ⊢
            have HM2 := Lib.hid (HMY.out (by rw [EM.out, z4]; rfl))
            cases g with
            | false =>
              clear z3 z4
              go_wp2_with fail
              go_roundw
              case rel => exact ⟨i + 1, by omega, by go_num, by rw [AN.out], HM2, B2⟩
              case measure => simp [intOf]; omega
            | true =>
              obtain rfl : Y = true := by cases Y; exact absurd ⟨rfl, rfl⟩ z3; rfl
              clear z3 z4
              go_wp2_with fail
              go_roundw
              case rel => exact ⟨i + 1, by omega, by go_num, by rw [AN.out], HM2, B2⟩
              case measure => simp [intOf]; omega
    · obtain rfl : i = n := by omega
      have e := HR.out
      rw [mayW_yes (by rw [← HN.out]; omega) (by rw [← HN.out]; omega) (fun j hj => HM.out j (by rw [HN.out]; exact hj))] at e
      subst e
      go_wp2_with fail
      go_ret
      exact ⟨rfl, HB.out⟩

end Go.Proofs.Ytbfgpdgiaclphaa
