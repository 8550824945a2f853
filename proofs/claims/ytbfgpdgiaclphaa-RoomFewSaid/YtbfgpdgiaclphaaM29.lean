/- Proved parts: T9q T8t T8x T8y T8z. Conditions: each theorem's own. -/
import Derived.Test.YtbfgpdgiaclphaaM28
import Derived.Test.YtbfgpdgiaclphaaM26
import Derived.Test.YtbfgpdgiaclphaaM27
namespace Go.Proofs.Ytbfgpdgiaclphaa
open Go.RowKit

/-- all fills up, from step i on -/
def Tab.fills (ws : List (Nat × Nat)) : Nat → Tab → Tab
  | 0, s => s
  | i + 1, s => Tab.fills ws i (s.fill (ws.getD i (0, 0)))
def FineFills (ws : List (Nat × Nat)) : Nat → Tab → Prop
  | 0, _ => True
  | i + 1, s => FineFill s (ws.getD i (0, 0)) ∧ FineFills ws i (s.fill (ws.getD i (0, 0)))
def Tab.bare : Tab := ⟨[], [], 0, 0, 0⟩
/-- the root goes, if it has a lone kid; all goes, if no key is left -/
def Tab.shut (s : Tab) : Tab :=
  if s.count = 0 then Tab.bare
  else if 1 < s.depth ∧ (s.nd s.root).length = 1 then ({ s with root := ((s.nd s.root).num 0).toNat, depth := s.depth - 1 } : Tab).off s.root
  else s
structure FineShut (s : Tab) : Prop where
  ir : s.root < s.nds.length
  lr : (s.nd s.root).length ≤ 10000
  dep : s.depth ≤ 850000
  lf : s.free.length ≤ 850000
  kid : (s.nd s.root).length = 1 → 1 < s.depth → ∃ c : Nat, (s.nd s.root).num 0 = c

set_option maxHeartbeats 4000000 in
set_option maxRecDepth 100000 in
/-- remove -/
theorem xRemove (w : World) (T : Nat) (E : Nat → Prop) (s : Tab) (v : Value) (ws : List (Nat × Nat)) (e : Nat) (h : TabG w T E s) (hv : SlW w v ws) (hb : ∀ k, v.ownBlock = some k → ¬ E k) (he : ws.length = e + 1) (hws : ws.length ≤ 10000)
    (h1 : (ws.getD e (0, 0)).1 < s.nds.length) (h2 : (ws.getD e (0, 0)).2 < (s.nd (ws.getD e (0, 0)).1).length) (h4 : (s.nd (ws.getD e (0, 0)).1).length ≤ 100000)
    (hu : FineFills ws e (s.cutK (ws.getD e (0, 0)).1 (ws.getD e (0, 0)).2)) (ht : FineShut (Tab.fills ws e (s.cutK (ws.getD e (0, 0)).1 (ws.getD e (0, 0)).2))) :
    Calls Try.prog 74 #[Ptr T, v] w fun r w' => r = .returned (.tuple #[]) ∧ LeftP w T E (Tab.fills ws e (s.cutK (ws.getD e (0, 0)).1 (ws.getD e (0, 0)).2)).shut w' := by
  obtain ⟨A, c, rfl, hs⟩ := hv
  obtain ⟨g, rfl, _⟩ := hs 0 (by omega)
  have gE : ¬ E g := hb g rfl
  have WC := Lib.hid (show ∀ w', Chg E w w' → ∀ j, j < ws.length → w'.cell? ⟨g, j * 2, none⟩ = some (.int .i64 (ws.getD j (0, 0)).1) ∧ w'.cell? ⟨g, j * 2 + 1, none⟩ = some (.int .i64 (ws.getD j (0, 0)).2) from fun w' hc j hj => by
    obtain ⟨g', e', a1, a2⟩ := hs j hj
    injection e' with e'
    injection e' with e' _ _
    subst e'
    exact ⟨hc.cell a1 gE, hc.cell a2 gE⟩)
  obtain ⟨P, hP⟩ : ∃ P, P = (ws.getD e (0, 0)).1 := ⟨_, rfl⟩
  obtain ⟨a, ha⟩ : ∃ a, a = (ws.getD e (0, 0)).2 := ⟨_, rfl⟩
  rw [← hP] at h1
  rw [← hP, ← ha] at h2
  rw [← hP] at h4
  rw [← hP, ← ha] at hu ht ⊢
  have we := WC.out w (Chg.refl E w) e (by omega)
  rw [← hP, ← ha] at we
  have LC := Lib.hid (xDrop w T E s P a h h1 h2 h4)
  have e0 : s.put P ((s.nd P).take a ++ (s.nd P).drop (a + 1)) = s.cutK P a := rfl
  rw [e0] at LC
  obtain ⟨S0, hS0⟩ : ∃ S0, S0 = s.cutK P a := ⟨_, rfl⟩
  rw [← hS0] at LC hu ht ⊢
  obtain ⟨S, hS⟩ : ∃ S, S = Tab.fills ws e S0 := ⟨_, rfl⟩
  rw [← hS] at ht ⊢
  have HU := Lib.hid hu
  have HT := Lib.hid ht
  have HS := Lib.hid hS
  have HE := Lib.hid he
  have wl := we.1
  have wr := we.2
  rw [he] at hws ⊢
  have ei : (e : Int) + 1 - 1 = (e : Int) := by omega
  clear hu ht hS h h1 h2 h4 hs hb hP ha we hS0 he e0
  go_enter Try.func74, Try.ntmps74
  go_wp2_with (go_at_call 86; refine LC.out.mono ?_; rintro r w3 ⟨rfl, hl⟩; have HL := Lib.hid hl; clear hl)
  clear wl wr
  go_loopw [5] (fun vi wr => ∃ (i : Nat) (s1 : Tab), i ≤ e ∧ vi = .int .i64 i ∧ Hid (LeftP w T E s1 wr) ∧ Hid (Tab.fills ws i s1 = S) ∧ Hid (FineFills ws i s1)) (fun vi _ => (intOf vi).toNat)
  case atStart => exact ⟨e, S0, Nat.le_refl _, rfl, HL, Lib.hid HS.out.symm, HU⟩
  case round =>
    obtain ⟨i, s1, hie, rfl, HLi, HSi, HUi⟩ := hrel
    cases i with
    | zero =>
      have hs2 : s1 = S := HSi.out
      subst hs2
      obtain ⟨E1, ⟨rv, fv, vs, tv⟩, a1, c1⟩ := HLi.out
      have f := HT.out
      have p1 : s1.root < vs.length := by rw [tv.len]; exact f.ir
      obtain ⟨g0, c0, hrv, hg0, gT, hc⟩ := tv.rowAt (by omega)
      obtain ⟨A3, cz, ev3, hi3⟩ := (tv.node s1.root p1).form
      obtain ⟨R, hR⟩ : ∃ R, R = s1.root := ⟨_, rfl⟩
      obtain ⟨D, hD⟩ : ∃ D, D = s1.depth := ⟨_, rfl⟩
      obtain ⟨C, hC⟩ : ∃ C, C = s1.count := ⟨_, rfl⟩
      have d0 := tv.row.cell 0
      have d1 := tv.row.cell 1
      have d2 := tv.row.cell 2
      have d3 := tv.row.cell 3
      have d4 := tv.row.cell 4
      simp only [List.getElem?_cons_zero, List.getElem?_cons_succ] at d0 d1 d2 d3 d4
      rw [hrv] at d0
      have f0 := tv.row.frozen 0
      have f1 := tv.row.frozen 1
      have f2 := tv.row.frozen 2
      have f3 := tv.row.frozen 3
      have f4 := tv.row.frozen 4
      have d5 := (hc s1.root p1).1
      rw [ev3] at d5
      obtain ⟨z, hz⟩ : ∃ z, z = (s1.nd s1.root).length := ⟨_, rfl⟩
      obtain ⟨N, hN⟩ : ∃ N, N = vs.length := ⟨_, rfl⟩
      rw [← hz, ← hR] at d5
      rw [← hR] at d2
      rw [← hD] at d3
      rw [← hC] at d4
      rw [← hN] at d0
      have p1' : R < N := by rw [hR, hN]; exact p1
      have TV := Lib.hid tv
      have LW := Lib.hid (show ∀ s' w5, LeftP wr T E1 s' w5 → LeftP w T E s' w5 from fun s' w5 hl => LeftP.then c1 a1 hl)
      have HZ := Lib.hid hz
      have HR := Lib.hid hR
      have HD := Lib.hid hD
      have HC := Lib.hid hC
      have HI := Lib.hid hi3
      have ET := Lib.hid tv.eT
      clear f hc tv a1 c1 hz hR hD hC hN ev3 p1 HUi HSi HLi hi3 hrv
      by_cases c9 : C = 0
      · have ci : ((C : Int) == 0) = true := by rw [c9]; rfl
        have ci2 : (C : Int) = 0 := by omega
        have UP := Lib.hid (show s1.shut = Tab.bare from if_pos (by rw [← HC.out]; exact c9))
        clear c9
        go_wp2_with fail
        refine bodyPost_end (results_none rfl _ _ _) rfl ⟨rfl, ?_⟩
        rw [UP.out]
        refine LW.out _ _ ⟨fun k => k = T, ?_, fun k e => .inl (by rw [e]; exact ET.out), ?_⟩
        · have r := (((((TV.out.row.set 0 (.slice none 0 0)).set 1 (.slice none 0 0)).set 2 (.int .i64 0)).set 3 (.int .i64 0)).set 4 (.int .i64 0))
          refine ⟨.slice none 0 0, .slice none 0 0, [], r, ⟨rfl, .inl ⟨rfl, rfl⟩⟩, ⟨rfl, .inl ⟨rfl, rfl⟩⟩, rfl, fun i hi => absurd hi (by simp), fun i _ _ _ hi => absurd hi (by simp), rfl, fun k e => (by cases e), fun k e => (by cases e), fun i _ _ hi => absurd hi (by simp), fun k e => ?_⟩
          rw [show k = T from e]
          exact RowAt.lt r
        · exact Chg.setCell (Chg.setCell (Chg.setCell (Chg.setCell (Chg.setCell (Chg.refl E1 wr) (.inl ET.out) _) (.inl ET.out) _) (.inl ET.out) _) (.inl ET.out) _) (.inl ET.out) _
      · have ci : ((C : Int) == 0) = false := by simp; exact c9
        have ci2 : ¬ (C : Int) = 0 := by omega
        by_cases d9 : 1 < D
        · have d9' : (1 : Int) < (D : Int) := by omega
          by_cases z9 : z = 1
          · have zi : ((z : Int) == 1) = true := by rw [z9]; rfl
            subst z9
            obtain ⟨k, hk⟩ := HT.out.kid HZ.out.symm (by rw [← HD.out]; exact d9)
            obtain ⟨b, o, rfl, _, n0⟩ := HI.out 0 (by rw [← HZ.out]; decide)
            rw [hk, Nat.zero_mul, Nat.add_zero] at n0
            have UP := Lib.hid (show s1.shut = ({ s1 with root := ((s1.nd s1.root).num 0).toNat, depth := s1.depth - 1 } : Tab).off s1.root from (if_neg (by rw [← HC.out]; exact c9)).trans (if_pos ⟨by rw [← HD.out]; exact d9, HZ.out.symm⟩))
            have V4 := TV.out.field (s' := { s1 with root := k }) (u := .int .i64 k) 2 rfl rfl rfl
            have V5 := V4.field (s' := { s1 with root := k, depth := s1.depth - 1 }) (u := .int .i64 ((s1.depth - 1 : Nat) : Int)) 3 rfl rfl rfl
            have hd1 : ((s1.depth - 1 : Nat) : Int) = (D : Int) - 1 := by rw [← HD.out]; omega
            have db : D ≤ 850000 := by rw [HD.out]; exact HT.out.dep
            have wd : IntKind.i64.wrap ((D : Int) - 1) = (D : Int) - 1 := by rw [IntKind.wrap_i64]; omega
            rw [hd1] at V5
            have RL := Lib.hid (xRelease _ T E1 { s1 with root := k, depth := s1.depth - 1 } s1.root ⟨_, _, _, V5⟩ HT.out.ir (by show 0 < (s1.nd s1.root).length; rw [← HZ.out]; decide) (by have := HT.out.lf; show s1.free.length ≤ _; omega))
            rw [hk, Int.toNat_natCast] at UP
            rw [← HR.out] at RL UP
            clear V4 V5 hd1
            go_wp2_with (go_at_call 88; refine RL.out.mono ?_; rintro r w5 ⟨rfl, hl⟩; have HL5 := Lib.hid hl; clear hl)
            refine bodyPost_end (results_none rfl _ _ _) rfl ⟨rfl, ?_⟩
            rw [UP.out]
            exact LW.out _ _ (LeftP.then (Chg.setCell (Chg.setCell (Chg.refl E1 wr) (.inl ET.out) _) (.inl ET.out) _) (fun _ e => .inl e) HL5.out)
          · have zi : ((z : Int) == 1) = false := by simp; omega
            have zi2 : ¬ (z : Int) = 1 := by omega
            have UP := Lib.hid (show s1.shut = s1 from (if_neg (by rw [← HC.out]; exact c9)).trans (if_neg (fun t => z9 (HZ.out.trans t.2))))
            go_wp2_with fail
            refine bodyPost_end (results_none rfl _ _ _) rfl ⟨rfl, ?_⟩
            rw [UP.out]
            exact LW.out _ _ (LeftP.same ⟨_, _, _, TV.out⟩ (Below.refl _ _))
        · have d9' : ¬ (1 : Int) < (D : Int) := by omega
          have UP := Lib.hid (show s1.shut = s1 from (if_neg (by rw [← HC.out]; exact c9)).trans (if_neg (fun t => d9 (by rw [HD.out]; exact t.1))))
          go_wp2_with fail
          refine bodyPost_end (results_none rfl _ _ _) rfl ⟨rfl, ?_⟩
          rw [UP.out]
          exact LW.out _ _ (LeftP.same ⟨_, _, _, TV.out⟩ (Below.refl _ _))
    | succ i =>
      have hu := HUi.out
      obtain ⟨hf, hu2⟩ := hu
      have hs2 : Tab.fills ws i (s1.fill (ws.getD i (0, 0))) = S := HSi.out
      obtain ⟨E1, g1, a1, c1⟩ := HLi.out
      obtain ⟨y0, y1⟩ := WC.out wr c1 i (by have := HE.out; omega)
      obtain ⟨X, hX⟩ : ∃ X, X = ws.getD i (0, 0) := ⟨_, rfl⟩
      rw [← hX] at y0 y1 hf hu2 hs2
      have i1 : (i : Int) + 1 - 1 = (i : Int) := by omega
      have i0 : (0 : Int) < (i : Int) + 1 := by omega
      have FC := Lib.hid (xFill wr T E1 s1 X g1 hf)
      have HU2 := Lib.hid hu2
      have HS2 := Lib.hid hs2
      have LW := Lib.hid (show ∀ s' w5, LeftP wr T E1 s' w5 → LeftP w T E s' w5 from fun s' w5 hl => LeftP.then c1 a1 hl)
      clear hf hu2 hs2 g1 a1 c1 hX HUi HSi
      go_wp2_with (go_at_call 87; refine FC.out.mono ?_; rintro r w5 ⟨rfl, hl⟩; have HL5 := Lib.hid (LW.out _ w5 hl); clear hl)
      go_roundw
      case rel => exact ⟨i, _, by omega, rfl, HL5, HS2, HU2⟩
      case measure => simp [intOf]

end Go.Proofs.Ytbfgpdgiaclphaa

namespace Go.Proofs.Ytbfgpdgiaclphaa
open Go.RowKit

section
variable {s : Tab} {L : Nat → List Nat} {l : KV} {h p : Nat} {K : ByteArray}
theorem Mid.count (m : Mid s L l h p K) (c : Nat) : Mid { s with count := c } L l h p K := ⟨m.d1, m.top, m.nodup, m.lev, m.lt, m.fnd, m.free, m.size, m.link, m.leaf⟩
/-- a leaf has other items -/
theorem Whole.leafset (m : Whole s L l) {A B : List Nat} {P : Nat} (e : L 0 = A ++ [P] ++ B) (zs : KV) : Mid (s.put P zs) L (A.flatMap s.nd ++ zs ++ B.flatMap s.nd) 0 P ((s.nd P).key 0) := by
  have pm : P ∈ L 0 := by rw [e]; simp
  have pl := m.lt 0 P m.d1 pm
  have nx := nodup_mid (by rw [← e]; exact m.nodup 0 m.d1)
  have n1 : ∀ r, (s.put P zs).nd r = if r = P then zs else s.nd r := fun r => Tab.put_nd pl r
  have up : ∀ j r, j < s.depth → j ≠ 0 → r ∈ L j → r ≠ P := fun j r hj hn hr t => hn (m.lev j 0 r hj m.d1 hr (by rw [t]; exact pm))
  refine ⟨m.d1, m.top, m.nodup, m.lev, fun j r hj hr => by rw [Tab.put_len]; exact m.lt j r hj hr, m.fnd, fun f hf => by rw [Tab.put_len]; exact m.free f hf, fun j r hj hr hn => ?_, fun j hj => ?_, ?_⟩
  · have : r ≠ P := fun t => by
      by_cases c : j = 0
      · exact hn ⟨c, t⟩
      · exact up j r hj c hr t
    rw [n1, if_neg this]
    exact m.size j r hj hr (fun t => by have := t.1; have hj : j < s.depth := hj; omega)
  · have hj : j + 1 < s.depth := hj
    rw [fm_congr (g := s.nd) (fun r hr => by rw [n1, if_neg (up (j + 1) r hj (by omega) hr)]), m.linkW hj]
    apply List.map_congr_left
    intro r hr
    unfold Tab.lk
    by_cases c : j = 0
    · by_cases t : r = P
      · rw [if_pos ⟨by simp [c], t⟩, t]
      · rw [if_neg (fun u => t u.2), n1, if_neg t]
    · rw [if_neg (fun u => c (by have := u.1; simpa using this)), n1, if_neg (up j r (by omega) c hr)]
  · rw [e]
    simp only [List.flatMap_append, List.flatMap_cons, List.flatMap_nil, List.append_nil]
    rw [fm_congr (X := A) (g := s.nd) (fun r hr => by rw [n1, if_neg (fun t => (nx.1 r hr).1 (by simp [t]))]), fm_congr (X := B) (g := s.nd) (fun r hr => by rw [n1, if_neg (fun t => (nx.2.2.1 r hr).2 (by simp [t]))]), n1, if_pos rfl]
theorem Whole.wide (m : Whole s L l) : ∀ i, i < s.depth → 2 ^ i ≤ (L (s.depth - 1 - i)).length
  | 0, _ => by rw [Nat.sub_zero, m.top]; simp
  | i + 1, hi => by
    have ih := Whole.wide m i (by omega)
    have k := congrArg List.length (m.linkW (j := s.depth - 1 - (i + 1)) (by omega))
    rw [List.length_map, show s.depth - 1 - (i + 1) + 1 = s.depth - 1 - i by omega] at k
    have two : ∀ X : List Nat, (∀ r, r ∈ X → 2 ≤ (s.nd r).length) → 2 * X.length ≤ (X.flatMap s.nd).length := by
      intro X
      induction X with
      | nil => intro _; simp
      | cons x X ihx =>
        intro hX
        have a := hX x (by simp)
        have b := ihx fun r hr => hX r (by simp [hr])
        rw [List.flatMap_cons, List.length_append, List.length_cons]; omega
    have := two (L (s.depth - 1 - i)) fun r hr => by
      have := m.size _ r (by omega) hr (fun t => by omega)
      rw [if_neg (by omega)] at this
      exact this.1
    rw [Nat.pow_succ]; omega
theorem Whole.depth_le (m : Whole s L l) : 2 ^ (s.depth - 1) ≤ l.length := by
  have w := m.wide (s.depth - 1) (by have := m.d1; omega)
  rw [Nat.sub_self] at w
  have one : ∀ X : List Nat, (∀ r, r ∈ X → 1 ≤ (s.nd r).length) → X.length ≤ (X.flatMap s.nd).length := by
    intro X
    induction X with
    | nil => intro _; simp
    | cons x X ihx =>
      intro hX
      have a := hX x (by simp)
      have b := ihx fun r hr => hX r (by simp [hr])
      rw [List.flatMap_cons, List.length_append, List.length_cons]; omega
  have := one (L 0) fun r hr => (m.pos m.d1 hr).1
  rw [m.leaf] at this
  omega

theorem ups_ok {ws : List (Nat × Nat)} {e : Nat} : ∀ i, i ≤ e → ∀ (s : Tab) (L : Nat → List Nat) (K : ByteArray), Mid s L l (e - i) (ws.getD i (0, 0)).1 K → e + 1 = s.depth →
    (∀ j, j < i → (ws.getD j (0, 0)).1 ∈ L (e - j) ∧ (ws.getD j (0, 0)).2 < (s.nd (ws.getD j (0, 0)).1).length ∧ (s.nd (ws.getD j (0, 0)).1).num (ws.getD j (0, 0)).2 = ((ws.getD (j + 1) (0, 0)).1 : Int)) →
    2 ≤ (s.nd (ws.getD i (0, 0)).1).length → (s.nd (ws.getD i (0, 0)).1).length ≤ 5 → s.nds.length + s.free.length + i ≤ 850000 →
    FineUps ws i s ∧ ∃ L2 K2, Mid (Tab.ups ws i s) L2 l e (ws.getD 0 (0, 0)).1 K2 ∧ 2 ≤ ((Tab.ups ws i s).nd (ws.getD 0 (0, 0)).1).length ∧ ((Tab.ups ws i s).nd (ws.getD 0 (0, 0)).1).length ≤ 5 ∧
      (Tab.ups ws i s).depth = s.depth ∧ (Tab.ups ws i s).root = s.root ∧ (Tab.ups ws i s).count = s.count ∧ (Tab.ups ws i s).nds.length + (Tab.ups ws i s).free.length ≤ s.nds.length + s.free.length + i
  | 0, _, s, L, K, m, _, _, h2, h5, _ => ⟨trivial, L, K, m, h2, h5, rfl, rfl, rfl, Nat.le_refl _⟩
  | i + 1, hi, s, L, K, m, hd, hp, h2, h5, hb => by
    obtain ⟨q1, q2, q3⟩ := hp i (by omega)
    have he : e - i = e - (i + 1) + 1 := by omega
    rw [he] at q1
    have hdd : e - (i + 1) + 1 < s.depth := by omega
    have qs := m.qsize hdd q1
    have ff := m.fineUp hdd q1 q2 q3 (by omega) (by omega) (by omega) (by omega)
    obtain ⟨L', m', l', st0⟩ := m.up hdd q1 q2 q3 h2 (by omega)
    have st : Stepped s (s.up (ws.getD i (0, 0)) (ws.getD (i + 1) (0, 0)).1) L (e - (i + 1)) (ws.getD i (0, 0)).1 (s.nd (ws.getD i (0, 0)).1).length 1 := st0
    clear st0
    rw [← he] at m'
    obtain ⟨k1, L2, K2, k2, k3, k4, k5, k6, k7, k8⟩ := ups_ok i (by omega) (s.up (ws.getD i (0, 0)) (ws.getD (i + 1) (0, 0)).1) L' _ m' (by rw [st.depth]; exact hd) (fun j hj => by
      obtain ⟨j1, j2, j3⟩ := hp j (by omega)
      have jq : (ws.getD j (0, 0)).1 ≠ (ws.getD i (0, 0)).1 := fun t => by
        have := m.lev (e - j) (e - (i + 1) + 1) _ (by omega) hdd j1 (by rw [t]; exact q1); omega
      have jn := st.other (e - j) _ (by omega) (by omega) j1 jq
      rw [l' (e - j) (by omega), jn]
      exact ⟨j1, j2, j3⟩) (by have := st.size; omega) (by have := st.size; omega) (by have := st.sum; omega)
    refine ⟨⟨ff, k1⟩, L2, K2, k2, k3, k4, k5.trans st.depth, k6.trans st.root, k7.trans st.count, ?_⟩
    have := st.sum
    show (Tab.ups ws i (s.up (ws.getD i (0, 0)) (ws.getD (i + 1) (0, 0)).1)).nds.length + (Tab.ups ws i (s.up (ws.getD i (0, 0)) (ws.getD (i + 1) (0, 0)).1)).free.length ≤ _
    omega
theorem fills_ok {ws : List (Nat × Nat)} {e : Nat} : ∀ i, i ≤ e → ∀ (s : Tab) (L : Nat → List Nat) (K : ByteArray), Mid s L l (e - i) (ws.getD i (0, 0)).1 K → e + 1 = s.depth →
    (∀ j, j < i → (ws.getD j (0, 0)).1 ∈ L (e - j) ∧ (ws.getD j (0, 0)).2 < (s.nd (ws.getD j (0, 0)).1).length ∧ (s.nd (ws.getD j (0, 0)).1).num (ws.getD j (0, 0)).2 = ((ws.getD (j + 1) (0, 0)).1 : Int)) →
    (e ≠ 0 → 1 ≤ (s.nd (ws.getD i (0, 0)).1).length) → (s.nd (ws.getD i (0, 0)).1).length ≤ 4 → s.nds.length + s.free.length + 2 * i ≤ 850000 →
    FineFills ws i s ∧ ∃ L2 K2, Mid (Tab.fills ws i s) L2 l e (ws.getD 0 (0, 0)).1 K2 ∧ (e ≠ 0 → 1 ≤ ((Tab.fills ws i s).nd (ws.getD 0 (0, 0)).1).length) ∧ ((Tab.fills ws i s).nd (ws.getD 0 (0, 0)).1).length ≤ 4 ∧
      (Tab.fills ws i s).depth = s.depth ∧ (Tab.fills ws i s).root = s.root ∧ (Tab.fills ws i s).count = s.count ∧ (Tab.fills ws i s).nds.length + (Tab.fills ws i s).free.length ≤ s.nds.length + s.free.length + 2 * i
  | 0, _, s, L, K, m, _, _, h2, h5, _ => ⟨trivial, L, K, m, h2, h5, rfl, rfl, rfl, Nat.le_refl _⟩
  | i + 1, hi, s, L, K, m, hd, hp, h2, h5, hb => by
    obtain ⟨q1, q2, q3⟩ := hp i (by omega)
    have h2' := h2 (by omega)
    have he : e - i = e - (i + 1) + 1 := by omega
    rw [he] at q1
    have hdd : e - (i + 1) + 1 < s.depth := by omega
    have qs := m.qsize hdd q1
    have ff := m.fineFill hdd q1 q2 h2' (by omega) (by omega) (by omega)
    obtain ⟨L', n, m', l', st0, n1, n2, n3⟩ := m.fill hdd q1 q2 q3 h2' h5 (by omega) (by omega)
    have st : Stepped s (s.fill (ws.getD i (0, 0))) L (e - (i + 1)) (ws.getD i (0, 0)).1 n 2 := st0
    clear st0
    rw [← he] at m'
    obtain ⟨k1, L2, K2, k2, k3, k4, k5, k6, k7, k8⟩ := fills_ok i (by omega) (s.fill (ws.getD i (0, 0))) L' _ m' (by rw [st.depth]; exact hd) (fun j hj => by
      obtain ⟨j1, j2, j3⟩ := hp j (by omega)
      have jq : (ws.getD j (0, 0)).1 ≠ (ws.getD i (0, 0)).1 := fun t => by
        have := m.lev (e - j) (e - (i + 1) + 1) _ (by omega) hdd j1 (by rw [t]; exact q1); omega
      have jn := st.other (e - j) _ (by omega) (by omega) j1 jq
      rw [l' (e - j) (by omega), jn]
      exact ⟨j1, j2, j3⟩) (fun _ => by have := st.size; omega) n3 (by have := st.sum; omega)
    refine ⟨⟨ff, k1⟩, L2, K2, k2, k3, k4, k5.trans st.depth, k6.trans st.root, k7.trans st.count, ?_⟩
    have := st.sum
    show (Tab.fills ws i (s.fill (ws.getD i (0, 0)))).nds.length + (Tab.fills ws i (s.fill (ws.getD i (0, 0)))).free.length ≤ _
    omega
end

end Go.Proofs.Ytbfgpdgiaclphaa

namespace Go.Proofs.Ytbfgpdgiaclphaa
open Go.RowKit

section
variable {s : Tab} {L : Nat → List Nat} {l : KV} {e : Nat} {K : ByteArray}
theorem Mid.fineTop (m : Mid s L l e s.root K) (he : e + 1 = s.depth) (h2 : 1 ≤ (s.nd s.root).length) (h5 : (s.nd s.root).length ≤ 5) (hb : s.nds.length + s.free.length ≤ 850000) (hd : s.depth ≤ 850000) : FineTop s :=
  ⟨m.lt (s.depth - 1) s.root (by omega) (by rw [m.top]; simp), h2, by omega, fun f hf => (m.free f hf).1, by omega, by omega, hd⟩
/-- a new root -/
theorem Mid.top_ok (m : Mid s L l e s.root K) (he : e + 1 = s.depth) (h2 : 2 ≤ (s.nd s.root).length) (h5 : (s.nd s.root).length ≤ 5) :
    ∃ L', Whole s.top L' l ∧ s.top.count = s.count ∧ s.top.nds.length + s.top.free.length ≤ s.nds.length + s.free.length + 2 ∧ s.top.depth ≤ s.depth + 1 := by
  have rL : s.root ∈ L e := by rw [show e = s.depth - 1 by omega, m.top]; simp
  have Le : L e = [s.root] := by rw [show e = s.depth - 1 by omega, m.top]
  have rl := m.lt e s.root (by omega) rL
  by_cases c : 4 < (s.nd s.root).length
  · have ef : s.top = { s.cutR.take [((s.nd s.root).key 0, (s.root : Int)), ((s.nd s.root).key 3, (s.place : Int))] with root := s.cutR.place, depth := s.depth + 1 } := if_pos c
    obtain ⟨R, hR⟩ : ∃ R, R = s.root := ⟨_, rfl⟩
    obtain ⟨p1, hp1⟩ : ∃ p1, p1 = s.place := ⟨_, rfl⟩
    obtain ⟨p2, hp2⟩ : ∃ p2, p2 = s.cutR.place := ⟨_, rfl⟩
    have fl : ∀ f, f ∈ s.free → f < s.nds.length := fun f hf => (m.free f hf).1
    have l1 : (s.put s.root ((s.nd s.root).take 3)).nds.length = s.nds.length := Tab.put_len _ _ _
    have l2 := Tab.take_len (s := s.put s.root ((s.nd s.root).take 3)) (zs := (s.nd s.root).drop 3)
    rw [l1] at l2
    have n2 : ∀ r, s.cutR.nd r = if r = p1 then (s.nd R).drop 3 else if r = R then (s.nd R).take 3 else s.nd r := fun r => by
      unfold Tab.cutR
      rw [Tab.take_nd' (s := s.put s.root ((s.nd s.root).take 3)) (fun f hf => by rw [l1]; exact fl f hf), Tab.put_place, ← hp1, Tab.put_nd rl, hR]
    have f2 : s.cutR.free = s.free.dropLast := Tab.take_free
    have f2l : ∀ f, f ∈ s.cutR.free → f < s.nds.length ∧ f ∈ s.free := fun f hf => by
      rw [f2] at hf
      have := List.dropLast_subset _ hf
      exact ⟨fl f this, this⟩
    have len2 : s.nds.length ≤ s.cutR.nds.length := l2.1
    have n3 : ∀ r, s.top.nd r = if r = p2 then [((s.nd R).key 0, (R : Int)), ((s.nd R).key 3, (p1 : Int))] else s.cutR.nd r := fun r => by
      rw [ef]
      show (s.cutR.take _).nd r = _
      rw [Tab.take_nd' (fun f hf => Nat.lt_of_lt_of_le (f2l f hf).1 len2), ← hp2, hp1, hR]
    have new1 : ∀ j, j < s.depth → p1 ∉ L j := fun j hj hm => by
      rcases Tab.place_new (s := s) with k | k
      · rw [← hp1] at k; exact (m.free p1 k).2 j hj hm
      · have := m.lt j p1 hj hm
        rw [← hp1] at k; omega
    have new2 : (∀ j, j < s.depth → p2 ∉ L j) ∧ p2 ≠ p1 := by
      have po := Tab.place_out (s := s) (zs := (s.nd s.root).drop 3) m.fnd
      rw [Tab.take_free, ← hp1] at po
      rcases Tab.place_new (s := s.cutR) with k | k
      · rw [← hp2] at k
        refine ⟨fun j hj hm => (m.free p2 (f2l p2 k).2).2 j hj hm, fun t => ?_⟩
        rw [f2, t] at k
        exact po k
      · rw [← hp2] at k
        refine ⟨fun j hj hm => by have := m.lt j p2 hj hm; omega, fun t => ?_⟩
        have : p1 < s.cutR.nds.length := by
          have := Tab.place_lt (s := s.put s.root ((s.nd s.root).take 3)) (zs := (s.nd s.root).drop 3) (fun f hf => by rw [l1]; exact fl f hf)
          rw [Tab.put_place, ← hp1] at this
          exact this
        omega
    have p1R : p1 ≠ R := fun t => new1 e (by omega) (by rw [t, hR]; exact rL)
    have p2R : p2 ≠ R := fun t => new2.1 e (by omega) (by rw [t, hR]; exact rL)
    have nR : s.top.nd R = (s.nd R).take 3 := by rw [n3, if_neg (Ne.symm p2R), n2, if_neg (Ne.symm p1R), if_pos rfl]
    have nP1 : s.top.nd p1 = (s.nd R).drop 3 := by rw [n3, if_neg (Ne.symm new2.2), n2, if_pos rfl]
    have nP2 : s.top.nd p2 = [((s.nd R).key 0, (R : Int)), ((s.nd R).key 3, (p1 : Int))] := by rw [n3, if_pos rfl]
    have nO : ∀ j r, j < s.depth → r ∈ L j → r ≠ R → s.top.nd r = s.nd r := fun j r hj hr hn => by
      rw [n3, if_neg (fun t => new2.1 j hj (by rw [← t]; exact hr)), n2, if_neg (fun t => new1 j hj (by rw [← t]; exact hr)), if_neg hn]
    have dT : s.top.depth = s.depth + 1 := by rw [ef]
    have rT : s.top.root = p2 := by rw [ef]; exact hp2.symm
    have cT : s.top.count = s.count := by
      rw [ef]
      exact (Tab.take_same s.cutR _).2.2.trans (Tab.take_same (s.put s.root ((s.nd s.root).take 3)) _).2.2
    have fT : s.top.free = s.free.dropLast.dropLast := by
      rw [ef, ← f2]
      exact Tab.take_free
    have lT : s.top.nds.length = (s.cutR.take [((s.nd s.root).key 0, (s.root : Int)), ((s.nd s.root).key 3, (s.place : Int))]).nds.length := by rw [ef]
    have lT1 : s.cutR.nds.length ≤ s.top.nds.length := by rw [lT]; exact (Tab.take_len (s := s.cutR)).1
    have p1T : p1 < s.top.nds.length := by
      have := Tab.place_lt (s := s.put s.root ((s.nd s.root).take 3)) (zs := (s.nd s.root).drop 3) (fun f hf => by rw [l1]; exact fl f hf)
      rw [Tab.put_place, ← hp1] at this
      exact Nat.lt_of_lt_of_le this lT1
    have p2T : p2 < s.top.nds.length := by
      rw [lT, hp2]
      exact Tab.place_lt (s := s.cutR) (fun f hf => Nat.lt_of_lt_of_le (f2l f hf).1 len2)
    have sum : s.top.nds.length + s.top.free.length ≤ s.nds.length + s.free.length + 2 := by
      have a1 := Tab.take_sum (s := s.put s.root ((s.nd s.root).take 3)) (zs := (s.nd s.root).drop 3)
      have a2 := Tab.take_sum (s := s.cutR) (zs := [((s.nd s.root).key 0, (s.root : Int)), ((s.nd s.root).key 3, (s.place : Int))])
      rw [l1] at a1
      have a3 : s.top.free = (s.cutR.take [((s.nd s.root).key 0, (s.root : Int)), ((s.nd s.root).key 3, (s.place : Int))]).free := by rw [ef]
      have a4 : (s.put s.root ((s.nd s.root).take 3)).free = s.free := rfl
      rw [a4] at a1
      unfold Tab.cutR at a2 lT a3
      rw [lT, a3]
      omega
    refine ⟨fun j => if j = s.depth then [p2] else if j = e then [R, p1] else L j, ?_, cT, sum, by omega⟩
    have Rn : ∀ j r, j < s.depth → j ≠ e → r ∈ L j → r ≠ R := fun j r hj hn hr t => hn (m.lev j e r hj (by omega) hr (by rw [t, hR]; exact rL))
    refine ⟨by omega, ?_, fun j hj => ?_, fun i j r hi hj h1 h3 => ?_, fun j r hj hr => ?_, ?_, fun f hf => ?_, fun j r hj hr _ => ?_, fun j hj => ?_, ?_⟩
    · rw [dT, rT, show s.depth + 1 - 1 = s.depth by omega, if_pos rfl]
    · show (if j = s.depth then [p2] else if j = e then [R, p1] else L j).Nodup
      by_cases a : j = s.depth
      · rw [if_pos a]; simp
      · rw [if_neg a]
        by_cases b : j = e
        · rw [if_pos b]; simp; exact fun t => p1R t.symm
        · rw [if_neg b]; exact m.nodup j (by omega)
    · rw [dT] at hi hj
      have key : ∀ i, i < s.depth + 1 → r ∈ (if i = s.depth then [p2] else if i = e then [R, p1] else L i) → (i = s.depth ∧ r = p2) ∨ (i = e ∧ r = p1) ∨ (i < s.depth ∧ r ∈ L i) := fun i hi h => by
        by_cases a : i = s.depth
        · rw [if_pos a] at h; simp at h; exact .inl ⟨a, h⟩
        · rw [if_neg a] at h
          by_cases b : i = e
          · rw [if_pos b] at h
            simp at h
            rcases h with h | h
            · exact .inr (.inr ⟨by omega, by rw [b, h, hR]; exact rL⟩)
            · exact .inr (.inl ⟨b, h⟩)
          · rw [if_neg b] at h; exact .inr (.inr ⟨by omega, h⟩)
      rcases key i hi h1 with ⟨a1, a2⟩ | ⟨a1, a2⟩ | ⟨a1, a2⟩ <;> rcases key j hj h3 with ⟨b1, b2⟩ | ⟨b1, b2⟩ | ⟨b1, b2⟩
      · omega
      · exact absurd (a2.symm.trans b2) new2.2
      · exact absurd (a2 ▸ b2) (new2.1 j b1)
      · exact absurd (b2.symm.trans a2) new2.2
      · omega
      · exact absurd (a2 ▸ b2) (new1 j b1)
      · exact absurd (b2 ▸ a2) (new2.1 i a1)
      · exact absurd (b2 ▸ a2) (new1 i a1)
      · exact m.lev i j r a1 b1 a2 b2
    · rw [dT] at hj
      by_cases a : j = s.depth
      · rw [if_pos a] at hr; simp at hr; rw [hr]; exact p2T
      · rw [if_neg a] at hr
        by_cases b : j = e
        · rw [if_pos b] at hr
          simp at hr
          rcases hr with hr | hr
          · rw [hr, hR]; omega
          · rw [hr]; exact p1T
        · rw [if_neg b] at hr
          have := m.lt j r (by omega) hr
          omega
    · rw [fT]; exact (m.fnd.sublist (List.dropLast_sublist _)).sublist (List.dropLast_sublist _)
    · rw [fT] at hf
      have hf1 := List.dropLast_subset _ hf
      have hf2 := List.dropLast_subset _ hf1
      obtain ⟨a1, a2⟩ := m.free f hf2
      refine ⟨by omega, fun j hj => ?_⟩
      rw [dT] at hj
      have fp1 : f ≠ p1 := fun t => by
        have po := Tab.place_out (s := s) (zs := (s.nd s.root).drop 3) m.fnd
        rw [Tab.take_free, ← hp1, ← t] at po
        exact po hf1
      have fp2 : f ≠ p2 := fun t => by
        have po := Tab.place_out (s := s.cutR) (zs := (s.nd s.root).drop 3) (by rw [f2]; exact m.fnd.sublist (List.dropLast_sublist _))
        rw [Tab.take_free, f2, ← hp2, ← t] at po
        exact po hf
      by_cases a : j = s.depth
      · rw [if_pos a]; simp; exact fp2
      · rw [if_neg a]
        by_cases b : j = e
        · rw [if_pos b]; simp
          exact ⟨fun t => a2 e (by omega) (by rw [t, hR]; exact rL), fp1⟩
        · rw [if_neg b]; exact a2 j (by omega)
    · rw [dT] at hj ⊢
      rw [if_neg (show ¬ s.depth + 1 = 1 by have := m.d1; omega)]
      by_cases a : j = s.depth
      · rw [if_pos a] at hr; simp at hr; rw [hr, nP2]; exact ⟨by simp, by simp⟩
      · rw [if_neg a] at hr
        by_cases b : j = e
        · rw [if_pos b] at hr
          simp at hr
          rcases hr with hr | hr
          · rw [hr, nR, List.length_take, hR]; omega
          · rw [hr, nP1, List.length_drop, hR]; omega
        · rw [if_neg b] at hr
          have := m.size j r (by omega) hr (fun t => b t.1)
          rw [if_neg (show ¬ s.depth = 1 by omega)] at this
          rw [nO j r (by omega) hr (Rn j r (by omega) b hr)]
          exact this
    · rw [dT] at hj
      have lks : ∀ (W : List Nat), W.map (s.top.lk (decide (j = s.top.depth)) 0 ⟨#[]⟩) = W.map (fun r => ((s.top.nd r).key 0, (r : Int))) := fun W => by
        apply List.map_congr_left
        intro r _
        unfold Tab.lk
        rw [if_neg (fun t => by have := t.1; simp at this; omega)]
      rw [lks]
      by_cases a : j + 1 = s.depth
      · have je : j = e := by omega
        rw [if_pos a, if_neg (show ¬ j = s.depth by omega), if_pos je]
        simp only [List.flatMap_cons, List.flatMap_nil, List.append_nil, List.map_cons, List.map_nil]
        rw [nP2, nR, nP1, KV.key0_take _ _ (by decide), KV.key0_drop]
      · rw [if_neg a, if_neg (show ¬ j = s.depth by omega)]
        have key : (if j + 1 = e then [R, p1] else L (j + 1)).flatMap s.top.nd = (L (j + 1)).flatMap s.nd := by
          by_cases b : j + 1 = e
          · rw [if_pos b, b, Le]
            simp only [List.flatMap_cons, List.flatMap_nil, List.append_nil]
            rw [nR, nP1, List.take_append_drop, hR]
          · rw [if_neg b]
            exact fm_congr fun r hr => nO (j + 1) r (by omega) hr (Rn (j + 1) r (by omega) b hr)
        rw [key, if_neg (show ¬ j = e by omega), m.link j (by omega)]
        apply List.map_congr_left
        intro r hr
        unfold Tab.lk
        rw [if_neg (fun t => by have := t.1; simp at this; omega), nO j r (by omega) hr (Rn j r (by omega) (by omega) hr)]
    · rw [if_neg (show ¬ 0 = s.depth by have := m.d1; omega), ← m.leaf]
      by_cases b : 0 = e
      · rw [if_pos b, b, Le]
        simp only [List.flatMap_cons, List.flatMap_nil, List.append_nil]
        rw [nR, nP1, List.take_append_drop, hR]
      · rw [if_neg b]
        exact fm_congr fun r hr => nO 0 r m.d1 hr (Rn 0 r m.d1 b hr)
  · have ef : s.top = s := if_neg c
    rw [ef]
    exact ⟨L, m.clean (fun _ _ => ⟨by split <;> omega, by omega⟩) (fun h => by omega), rfl, by omega, by omega⟩
end

end Go.Proofs.Ytbfgpdgiaclphaa

namespace Go.Proofs.Ytbfgpdgiaclphaa
open Go.RowKit

section
variable {s : Tab} {L : Nat → List Nat} {l : KV} {e : Nat} {K : ByteArray}
theorem Mid.shut_ok (m : Mid s L l e s.root K) (he : e + 1 = s.depth) (h1 : e ≠ 0 → 1 ≤ (s.nd s.root).length) (h4 : (s.nd s.root).length ≤ 4) (hc : s.count = l.length) (hb : s.nds.length + s.free.length ≤ 850000) (hd : s.depth ≤ 850000) :
    FineShut s ∧ ((l = [] ∧ s.shut = Tab.bare) ∨ ∃ L', Whole s.shut L' l ∧ s.shut.count = l.length ∧ s.shut.nds.length + s.shut.free.length ≤ s.nds.length + s.free.length + 1) := by
  have rL : s.root ∈ L e := by rw [show e = s.depth - 1 by omega, m.top]; simp
  have Le : L e = [s.root] := by rw [show e = s.depth - 1 by omega, m.top]
  have rl := m.lt e s.root (by omega) rL
  -- a lone kid
  have lone : (s.nd s.root).length = 1 → 1 < s.depth → ∃ c : Nat, L (e - 1) = [c] ∧ (s.nd s.root).num 0 = c := fun a b => by
    have k := m.link (e - 1) (by omega)
    rw [show e - 1 + 1 = e by omega, Le] at k
    simp only [List.flatMap_cons, List.flatMap_nil, List.append_nil] at k
    have kl := congrArg List.length k
    rw [List.length_map, a] at kl
    match hL : L (e - 1), kl with
    | [c], _ =>
      rw [hL] at k
      exact ⟨c, rfl, by rw [k]; rfl⟩
    | [], kl => simp at kl
    | _ :: _ :: _, kl => simp at kl
  refine ⟨⟨rl, by omega, hd, by omega, fun a b => by obtain ⟨c, _, h⟩ := lone a b; exact ⟨c, h⟩⟩, ?_⟩
  by_cases c0 : s.count = 0
  · refine .inl ⟨List.eq_nil_of_length_eq_zero (by omega), if_pos c0⟩
  · refine .inr ?_
    by_cases c1 : 1 < s.depth ∧ (s.nd s.root).length = 1
    · obtain ⟨c, hcl, hcn⟩ := lone c1.2 c1.1
      have ef : s.shut = ({ s with root := c, depth := s.depth - 1 } : Tab).off s.root := by
        unfold Tab.shut
        rw [if_neg c0, if_pos c1, hcn]; rfl
      have nd' : ∀ r, s.shut.nd r = if r = s.root then [] else s.nd r := fun r => by
        rw [ef]; exact Tab.off_nd (s := { s with root := c, depth := s.depth - 1 }) rl r
      have dT : s.shut.depth = e := by rw [ef]; show s.depth - 1 = e; omega
      have fT : s.shut.free = s.free ++ [s.root] := by rw [ef]; rfl
      have lT : s.shut.nds.length = s.nds.length := by rw [ef]; exact Tab.off_len _ _
      have rn : ∀ j r, j < e → r ∈ L j → r ≠ s.root := fun j r hj hr t => by
        have := m.lev j e r (by omega) (by omega) hr (by rw [t]; exact rL); omega
      have nO : ∀ j r, j < e → r ∈ L j → s.shut.nd r = s.nd r := fun j r hj hr => by rw [nd', if_neg (rn j r hj hr)]
      refine ⟨L, ⟨by omega, ?_, fun j hj => m.nodup j (by omega), fun i j r hi hj => m.lev i j r (by omega) (by omega), fun j r hj hr => by rw [lT]; exact m.lt j r (by omega) hr, ?_, fun f hf => ?_, fun j r hj hr _ => ?_, fun j hj => ?_, ?_⟩, by rw [ef]; exact hc, by rw [lT, fT]; simp; omega⟩
      · rw [dT, hcl, ef]; rfl
      · rw [fT, List.nodup_append]
        exact ⟨m.fnd, by simp, fun x hx y hy t => by simp at hy; exact (m.free x hx).2 e (by omega) (by rw [t, hy]; exact rL)⟩
      · rw [fT, List.mem_append] at hf
        rw [lT, dT]
        rcases hf with hf | hf
        · exact ⟨(m.free f hf).1, fun j hj => (m.free f hf).2 j (by omega)⟩
        · simp at hf
          rw [hf]; exact ⟨rl, fun j hj hm => rn j s.root hj hm rfl⟩
      · rw [dT] at hj ⊢
        have := m.size j r (by omega) hr (fun t => by omega)
        rw [if_neg (show ¬ s.depth = 1 by omega)] at this
        rw [nO j r hj hr]
        by_cases t : e = 1
        · rw [if_pos t]; omega
        · rw [if_neg t]; exact this
      · rw [dT] at hj
        rw [fm_congr (g := s.nd) (fun r hr => nO (j + 1) r hj hr), m.link j (by omega)]
        apply List.map_congr_left
        intro r hr
        unfold Tab.lk
        rw [if_neg (fun t => by have := t.1; simp at this; omega), if_neg (fun t => by have := t.1; simp at this; omega), nO j r (by omega) hr]
      · rw [← m.leaf]
        exact fm_congr fun r hr => nO 0 r (by omega) hr
    · have ef : s.shut = s := by
        unfold Tab.shut
        rw [if_neg c0, if_neg c1]
      rw [ef]
      refine ⟨L, m.clean (fun _ _ => ⟨?_, h4⟩) (fun h => by omega), hc, by omega⟩
      by_cases d : s.depth = 1
      · rw [if_pos d]
        have e0 : e = 0 := by omega
        have k := m.leaf
        rw [← e0, Le] at k
        simp only [List.flatMap_cons, List.flatMap_nil, List.append_nil] at k
        rw [k]; omega
      · rw [if_neg d]
        have := h1 (by omega)
        have : ¬ (s.nd s.root).length = 1 := fun t => c1 ⟨by have := m.d1; omega, t⟩
        omega

theorem tput_new {l : KV} {k : ByteArray} {n : Int} (hn : l.has k = false) : l.put k n = ins l (l.pos k) (k, n) := by
  unfold KV.put ins
  rw [if_neg (by rw [hn]; decide)]
theorem above_pos {l : KV} {k : ByteArray} (h0 : RiseL l) (hn : l.has k = false) {j : Nat} (h : l.pos k ≤ j) (hj : j < l.length) : ltB k (l.key j) = true := by
  have hp : l.pos k < l.length := by omega
  have st := KV.pos_stop k l hp
  have lt : ltB k (l.key (l.pos k)) = true := by
    cases e : ltB k (l.key (l.pos k)) with
    | true => rfl
    | false => rw [(KV.has_iff l k).2 ⟨hp, (ltB_total e st).symm⟩] at hn; cases hn
  by_cases t : j = l.pos k
  · rw [t]; exact lt
  · exact ltB_trans lt (KV.rise_at h0 (by omega) hj)
theorem put_rise {l : KV} {k : ByteArray} {n : Int} (h0 : RiseL l) : RiseL (l.put k n) := by
  by_cases hn : l.has k = true
  · have e : l.put k n = l.set (l.pos k) (k, n) := if_pos hn
    obtain ⟨hp, hk⟩ := (KV.has_iff l k).1 hn
    have em : (l.put k n).map Prod.fst = l.map Prod.fst := by
      rw [e, List.map_set]
      show (l.map Prod.fst).set (l.pos k) k = _
      apply List.ext_getElem (by simp)
      intro i h1 h2
      rw [List.getElem_set]
      by_cases t : l.pos k = i
      · rw [if_pos t]
        have hi : i < l.length := by simpa using h2
        rw [List.getElem_map, KV.getE l i hi]
        show k = l.key i
        rw [← t, hk]
      · rw [if_neg t]
    have h1 : (l.map Prod.fst).Pairwise (fun a b => ltB a b = true) := List.pairwise_map.2 h0
    rw [← em] at h1
    exact List.pairwise_map.1 h1
  · have hn : l.has k = false := by simpa using hn
    rw [tput_new hn]
    have pl := KV.pos_le k l
    unfold ins RiseL
    rw [List.pairwise_append, List.pairwise_cons]
    refine ⟨h0.sublist (List.take_sublist _ _), ⟨fun y hy => ?_, h0.sublist (List.drop_sublist _ _)⟩, fun x hx y hy => ?_⟩
    · obtain ⟨i, hi, rfl⟩ := List.getElem_of_mem hy
      rw [List.length_drop] at hi
      rw [List.getElem_drop, KV.getE _ _ (by omega)]
      exact above_pos h0 hn (by omega) (by omega)
    · obtain ⟨i, hi, rfl⟩ := List.getElem_of_mem hx
      rw [List.length_take] at hi
      rw [List.getElem_take, KV.getE _ _ (by omega)]
      have lx := KV.pos_below k l i (by omega)
      rw [List.mem_cons] at hy
      rcases hy with rfl | hy
      · exact lx
      · obtain ⟨j, hj, rfl⟩ := List.getElem_of_mem hy
        rw [List.length_drop] at hj
        rw [List.getElem_drop, KV.getE _ _ (by omega)]
        exact ltB_trans lx (above_pos h0 hn (by omega) (by omega))
theorem del_rise {l : KV} {k : ByteArray} (h0 : RiseL l) : RiseL (l.del k) := by
  unfold KV.del
  split
  · have sb : (l.take (l.pos k) ++ l.drop (l.pos k + 1)).Sublist l := by
      have k1 : (l.drop (l.pos k + 1)).Sublist (l.drop (l.pos k)) := by rw [← List.drop_drop]; exact List.drop_sublist _ _
      have := (List.Sublist.refl (l.take (l.pos k))).append k1
      rwa [List.take_append_drop] at this
    exact h0.sublist sb
  · exact h0
end

section
variable {s : Tab} {L : Nat → List Nat} {l : KV}
/-- the way, and the leaf at its end -/
theorem Whole.way (m : Whole s L l) (h0 : RiseL l) (k : ByteArray) : ∃ e P a A B, s.depth = e + 1 ∧ s.Walks k s.depth s.root ∧ Path s L k e s.root (s.down k s.depth s.root) ∧ (s.down k s.depth s.root).getD e (0, 0) = (P, a) ∧ a = (s.nd P).pos k ∧ Found s L l k P A B ∧ P < s.nds.length ∧ 1 ≤ (s.nd P).length ∧ (s.nd P).length ≤ 4 ∧ (e ≠ 0 → 2 ≤ (s.nd P).length) := by
  obtain ⟨e, he⟩ : ∃ e, s.depth = e + 1 := ⟨s.depth - 1, by have := m.d1; omega⟩
  have hr := Here.root m k
  rw [he, Nat.add_sub_cancel] at hr
  obtain ⟨w, p⟩ := m.path h0 k e s.root (by omega) hr
  rw [← he] at w p
  obtain ⟨A, B, f⟩ := p.here.found m h0
  have pm : ((s.down k s.depth s.root).getD e (0, 0)).1 ∈ L 0 := by rw [f.cut]; simp
  have sz := m.pos m.d1 pm
  refine ⟨e, _, _, A, B, he, w, p, rfl, p.last, f, m.lt 0 _ m.d1 pm, sz.1, sz.2, fun h => ?_⟩
  have := m.size 0 _ m.d1 pm (fun t => by have := t.1; omega)
  rw [if_neg (by omega)] at this
  exact this.1
theorem Found.put {k : ByteArray} {P : Nat} {A B : List Nat} (f : Found s L l k P A B) (n : Int) (hn : l.has k = false) : l.put k n = A.flatMap s.nd ++ ins (s.nd P) ((s.nd P).pos k) (k, n) ++ B.flatMap s.nd := by
  have pl := KV.pos_le k (s.nd P)
  rw [tput_new hn, f.pos]
  obtain ⟨U, hU⟩ : ∃ U, U = A.flatMap s.nd := ⟨_, rfl⟩
  have fa := f.all
  rw [← hU] at fa ⊢
  rw [fa]
  unfold ins
  rw [List.append_assoc, List.take_length_add_append, List.drop_length_add_append, List.take_append_of_le_length pl, List.drop_append_of_le_length pl]
  simp
theorem Found.put_old {k : ByteArray} {P : Nat} {A B : List Nat} (f : Found s L l k P A B) (n : Int) (hn : l.has k = true) : l.put k n = A.flatMap s.nd ++ (s.nd P).set ((s.nd P).pos k) (k, n) ++ B.flatMap s.nd := by
  have hp : (s.nd P).pos k < (s.nd P).length := ((KV.has_iff _ _).1 (f.has ▸ hn)).1
  have e : l.put k n = l.set (l.pos k) (k, n) := if_pos hn
  rw [e, f.pos]
  obtain ⟨U, hU⟩ : ∃ U, U = A.flatMap s.nd := ⟨_, rfl⟩
  have fa := f.all
  rw [← hU] at fa ⊢
  rw [fa, List.append_assoc, List.set_append_right _ _ (by omega), Nat.add_sub_cancel_left, List.set_append_left _ _ hp, List.append_assoc]
theorem Found.del {k : ByteArray} {P : Nat} {A B : List Nat} (f : Found s L l k P A B) (hn : l.has k = true) : l.del k = A.flatMap s.nd ++ ((s.nd P).take ((s.nd P).pos k) ++ (s.nd P).drop ((s.nd P).pos k + 1)) ++ B.flatMap s.nd := by
  have hp : (s.nd P).pos k < (s.nd P).length := ((KV.has_iff _ _).1 (f.has ▸ hn)).1
  have e : l.del k = l.take (l.pos k) ++ l.drop (l.pos k + 1) := if_pos hn
  rw [e, f.pos]
  obtain ⟨U, hU⟩ : ∃ U, U = A.flatMap s.nd := ⟨_, rfl⟩
  have fa := f.all
  rw [← hU] at fa ⊢
  rw [fa, List.append_assoc, List.take_length_add_append, Nat.add_assoc, List.drop_length_add_append, List.take_append_of_le_length (by omega), List.drop_append_of_le_length (by omega)]
  simp
end

end Go.Proofs.Ytbfgpdgiaclphaa

namespace Go.Proofs.Ytbfgpdgiaclphaa
open Go.RowKit

section
variable {s : Tab} {L : Nat → List Nat} {l : KV}
theorem Path.root {s : Tab} {L : Nat → List Nat} {k : ByteArray} {h p : Nat} {ws : List (Nat × Nat)} (h1 : Path s L k h p ws) : (ws.getD 0 (0, 0)).1 = p := h1.top
theorem Whole.putNew (m : Whole s L l) (h0 : RiseL l) (k : ByteArray) (n : Int) (hn : l.has k = false) (hb : s.nds.length + s.free.length + s.depth + 4 ≤ 850000) :
    ∃ e P a, s.depth = e + 1 ∧ s.Walks k s.depth s.root ∧ (s.down k s.depth s.root).length = e + 1 ∧ (s.down k s.depth s.root).getD e (0, 0) = (P, a) ∧ P < s.nds.length ∧ a ≤ (s.nd P).length ∧ 0 < (s.nd P).length ∧ (s.nd P).length ≤ 4 ∧ a = (s.nd P).pos k ∧ (s.nd P).has k = false ∧
      FineUps (s.down k s.depth s.root) e (s.put P (ins (s.nd P) a (k, n))) ∧ FineTop (Tab.ups (s.down k s.depth s.root) e (s.put P (ins (s.nd P) a (k, n)))) ∧
      ∃ L', Whole (Tab.ups (s.down k s.depth s.root) e (s.put P (ins (s.nd P) a (k, n)))).top L' (l.put k n) ∧ (Tab.ups (s.down k s.depth s.root) e (s.put P (ins (s.nd P) a (k, n)))).top.count = s.count ∧
        (Tab.ups (s.down k s.depth s.root) e (s.put P (ins (s.nd P) a (k, n)))).top.nds.length + (Tab.ups (s.down k s.depth s.root) e (s.put P (ins (s.nd P) a (k, n)))).top.free.length ≤ s.nds.length + s.free.length + s.depth + 2 := by
  obtain ⟨e, P, a, A, B, he, w, p, hl, ha, f, hP, h1, h4, h2⟩ := m.way h0 k
  have ap : a ≤ (s.nd P).length := by rw [ha]; exact KV.pos_le k _
  have m1 := m.leafset f.cut (ins (s.nd P) a (k, n))
  rw [ha, ← f.put n hn, ← ha] at m1
  have n1 : ∀ r, (s.put P (ins (s.nd P) a (k, n))).nd r = if r = P then ins (s.nd P) a (k, n) else s.nd r := fun r => Tab.put_nd hP r
  have pm : P ∈ L 0 := by rw [f.cut]; simp
  have il := ins_len (s.nd P) a (k, n) ap
  have lw : ((s.down k s.depth s.root).getD e (0, 0)).1 = P := by rw [hl]
  obtain ⟨u1, L2, K2, u2, u3, u4, u5, u6, u7, u8⟩ := ups_ok (ws := s.down k s.depth s.root) (e := e) (l := l.put k n) e (Nat.le_refl _) (s.put P (ins (s.nd P) a (k, n))) L ((s.nd P).key 0) (by rw [Nat.sub_self, lw]; exact m1) (by show e + 1 = s.depth; omega) (fun j hj => by
    obtain ⟨j1, j2⟩ := p.next j hj
    have jm := p.mem j (by omega)
    have jn : ((s.down k s.depth s.root).getD j (0, 0)).1 ≠ P := fun t => by
      have := m.lev (e - j) 0 _ (by omega) m.d1 jm (by rw [t]; exact pm); omega
    rw [n1, if_neg jn]
    exact ⟨jm, j1, j2⟩) (by rw [lw, n1, if_pos rfl]; omega) (by rw [lw, n1, if_pos rfl]; omega) (by rw [Tab.put_len]; show s.nds.length + s.free.length + e ≤ _; omega)
  have sd : (s.put P (ins (s.nd P) a (k, n))).depth = s.depth := rfl
  have sc : (s.put P (ins (s.nd P) a (k, n))).count = s.count := rfl
  have sl : (s.put P (ins (s.nd P) a (k, n))).nds.length + (s.put P (ins (s.nd P) a (k, n))).free.length = s.nds.length + s.free.length := by rw [Tab.put_len]; rfl
  have e0 : ((s.down k s.depth s.root).getD 0 (0, 0)).1 = (Tab.ups (s.down k s.depth s.root) e (s.put P (ins (s.nd P) a (k, n)))).root := by rw [p.root, u6]; rfl
  rw [e0] at u2 u3 u4
  have hd : e + 1 = (Tab.ups (s.down k s.depth s.root) e (s.put P (ins (s.nd P) a (k, n)))).depth := by rw [u5, sd, he]
  have ft := u2.fineTop hd (by omega) u4 (by omega) (by omega)
  obtain ⟨L', t1, t2, t3, _⟩ := u2.top_ok hd u3 u4
  exact ⟨e, P, a, he, w, p.len, hl, hP, ap, h1, h4, ha, by rw [← f.has]; exact hn, u1, ft, L', t1, by rw [t2, u7, sc], by omega⟩
theorem Whole.putOld (m : Whole s L l) (h0 : RiseL l) (k : ByteArray) (n : Int) (hn : l.has k = true) :
    ∃ e P a, s.depth = e + 1 ∧ s.Walks k s.depth s.root ∧ (s.down k s.depth s.root).length = e + 1 ∧ (s.down k s.depth s.root).getD e (0, 0) = (P, a) ∧ P < s.nds.length ∧ a < (s.nd P).length ∧ (s.nd P).key a = k ∧ (s.nd P).num a = l.num (l.pos k) ∧
      ∃ L', Whole (s.put P ((s.nd P).set a (k, n))) L' (l.put k n) := by
  obtain ⟨e, P, a, A, B, he, w, p, hl, ha, f, hP, h1, h4, h2⟩ := m.way h0 k
  have hs : (s.nd P).has k = true := by rw [← f.has]; exact hn
  obtain ⟨ap, ak⟩ := (KV.has_iff _ _).1 hs
  rw [← ha] at ap ak
  have m1 := m.leafset f.cut ((s.nd P).set a (k, n))
  rw [ha, ← f.put_old n hn, ← ha] at m1
  refine ⟨e, P, a, he, w, p.len, hl, hP, ap, ak, ?_, L, ?_⟩
  · rw [f.pos, ← ha]
    obtain ⟨U, hU⟩ : ∃ U, U = A.flatMap s.nd := ⟨_, rfl⟩
    have fa := f.all
    rw [← hU] at fa ⊢
    rw [fa]
    unfold KV.num
    rw [List.getD_eq_getElem?_getD, List.getD_eq_getElem?_getD, List.append_assoc, List.getElem?_append_right (by omega), Nat.add_sub_cancel_left, List.getElem?_append_left ap]
  · refine m1.clean (fun _ _ => ?_) (fun _ => ?_)
    · rw [Tab.put_nd hP, if_pos rfl, List.length_set]
      have pm : P ∈ L 0 := by rw [f.cut]; simp
      exact m.size 0 P m.d1 pm (fun t => by have := t.1; have := m.d1; omega)
    · rw [Tab.put_nd hP, if_pos rfl]
      by_cases c : a = 0
      · subst c
        unfold KV.key at ak ⊢
        rw [List.getD_eq_getElem?_getD] at ak ⊢
        rw [List.getD_eq_getElem?_getD, List.getElem?_set, if_pos rfl, if_pos ap, ak]; rfl
      · unfold KV.key
        rw [List.getD_eq_getElem?_getD, List.getD_eq_getElem?_getD, List.getElem?_set, if_neg (fun t => c t)]
theorem Whole.get (m : Whole s L l) (h0 : RiseL l) (k : ByteArray) :
    ∃ e P a, s.depth = e + 1 ∧ s.Walks k s.depth s.root ∧ (s.down k s.depth s.root).length = e + 1 ∧ (s.down k s.depth s.root).getD e (0, 0) = (P, a) ∧ P < s.nds.length ∧ (s.nd P).length ≤ 4 ∧ (l.has k = true → a < (s.nd P).length ∧ (s.nd P).key a = k ∧ (s.nd P).num a = l.num (l.pos k)) ∧ (l.has k = false → ¬ (a < (s.nd P).length ∧ (s.nd P).key a = k)) := by
  obtain ⟨e, P, a, A, B, he, w, p, hl, ha, f, hP, h1, h4, h2⟩ := m.way h0 k
  refine ⟨e, P, a, he, w, p.len, hl, hP, h4, fun h => ?_, fun h t => ?_⟩
  · obtain ⟨e', P', a', he', _, _, hl', _, b1, b2, b3, _⟩ := m.putOld h0 k 0 h
    have : e = e' := by omega
    subst this
    rw [hl] at hl'
    injection hl' with q1 q2
    subst q1; subst q2
    exact ⟨b1, b2, b3⟩
  · rw [f.has] at h
    have := (KV.has_iff (s.nd P) k).2 (by rw [← ha]; exact t)
    rw [h] at this; cases this
theorem Whole.del (m : Whole s L l) (h0 : RiseL l) (k : ByteArray) (c : Nat) (hc : c = (l.del k).length) (hn : l.has k = true) (hb : s.nds.length + s.free.length + 2 * s.depth + 4 ≤ 850000) :
    ∃ e P a, s.depth = e + 1 ∧ s.Walks k s.depth s.root ∧ (s.down k s.depth s.root).length = e + 1 ∧ (s.down k s.depth s.root).getD e (0, 0) = (P, a) ∧ P < s.nds.length ∧ a < (s.nd P).length ∧ (s.nd P).length ≤ 4 ∧ (s.nd P).key a = k ∧ (s.nd P).num a = l.num (l.pos k) ∧
      FineFills (s.down k s.depth s.root) e (({ s with count := c } : Tab).cutK P a) ∧ FineShut (Tab.fills (s.down k s.depth s.root) e (({ s with count := c } : Tab).cutK P a)) ∧
      ((l.del k = [] ∧ (Tab.fills (s.down k s.depth s.root) e (({ s with count := c } : Tab).cutK P a)).shut = Tab.bare) ∨ ∃ L', Whole (Tab.fills (s.down k s.depth s.root) e (({ s with count := c } : Tab).cutK P a)).shut L' (l.del k) ∧ (Tab.fills (s.down k s.depth s.root) e (({ s with count := c } : Tab).cutK P a)).shut.count = (l.del k).length ∧
        (Tab.fills (s.down k s.depth s.root) e (({ s with count := c } : Tab).cutK P a)).shut.nds.length + (Tab.fills (s.down k s.depth s.root) e (({ s with count := c } : Tab).cutK P a)).shut.free.length ≤ s.nds.length + s.free.length + 2 * s.depth + 1) := by
  obtain ⟨e, P, a, A, B, he, w, p, hl, ha, f, hP, h1, h4, h2⟩ := m.way h0 k
  obtain ⟨e', P', a', he', _, _, hl', _, b1, b2, b3, _⟩ := m.putOld h0 k 0 hn
  have : e = e' := by omega
  subst this
  have hl2 := hl'
  rw [hl] at hl2
  injection hl2 with q1 q2
  subst q1; subst q2
  obtain ⟨S, hS⟩ : ∃ S, S = (({ s with count := c } : Tab).cutK P a) := ⟨_, rfl⟩
  have m1 := (m.leafset f.cut ((s.nd P).take a ++ (s.nd P).drop (a + 1))).count c
  rw [ha, ← f.del hn, ← ha] at m1
  have es : S = { s.put P ((s.nd P).take a ++ (s.nd P).drop (a + 1)) with count := c } := by rw [hS]; rfl
  rw [← es] at m1
  have n1 : ∀ r, S.nd r = if r = P then (s.nd P).take a ++ (s.nd P).drop (a + 1) else s.nd r := fun r => by rw [es]; exact Tab.put_nd hP r
  have pm : P ∈ L 0 := by rw [f.cut]; simp
  have lw : ((s.down k s.depth s.root).getD e (0, 0)).1 = P := by rw [hl]
  have ll : ((s.nd P).take a ++ (s.nd P).drop (a + 1)).length = (s.nd P).length - 1 := by simp; omega
  have sd : S.depth = s.depth := by rw [es]; rfl
  have sr : S.root = s.root := by rw [es]; rfl
  have sc : S.count = c := by rw [es]
  have sl : S.nds.length + S.free.length = s.nds.length + s.free.length := by rw [es]; show (s.put _ _).nds.length + s.free.length = _; rw [Tab.put_len]
  obtain ⟨u1, L2, K2, u2, u3, u4, u5, u6, u7, u8⟩ := fills_ok (ws := s.down k s.depth s.root) (e := e) (l := l.del k) e (Nat.le_refl _) S L ((s.nd P).key 0) (by rw [Nat.sub_self, lw]; exact m1) (by rw [sd]; omega) (fun j hj => by
    obtain ⟨j1, j2⟩ := p.next j hj
    have jm := p.mem j (by omega)
    have jn : ((s.down k s.depth s.root).getD j (0, 0)).1 ≠ P := fun t => by
      have := m.lev (e - j) 0 _ (by omega) m.d1 jm (by rw [t]; exact pm); omega
    rw [n1, if_neg jn]
    exact ⟨jm, j1, j2⟩) (fun h => by rw [lw, n1, if_pos rfl, ll]; have := h2 h; omega) (by rw [lw, n1, if_pos rfl, ll]; omega) (by omega)
  have e0 : ((s.down k s.depth s.root).getD 0 (0, 0)).1 = (Tab.fills (s.down k s.depth s.root) e S).root := by rw [p.root, u6, sr]
  rw [e0] at u2 u3 u4
  have hd : e + 1 = (Tab.fills (s.down k s.depth s.root) e S).depth := by rw [u5, sd, he]
  obtain ⟨t1, t2⟩ := u2.shut_ok hd u3 u4 (by rw [u7, sc, hc]) (by omega) (by omega)
  refine ⟨e, P, a, he, w, p.len, hl, hP, b1, h4, b2, b3, ?_⟩
  rw [← hS]
  refine ⟨u1, t1, ?_⟩
  rcases t2 with t2 | ⟨L', t2, t3, t4⟩
  · exact .inl t2
  · exact .inr ⟨L', t2, t3, by omega⟩
end

end Go.Proofs.Ytbfgpdgiaclphaa
