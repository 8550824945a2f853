/- Proved parts: T9q T8t. Conditions: each theorem's own. -/
import Derived.Test.YtdcjckdhjfnnhaaM21
import Derived.Test.YtdcjckdhjfnnhaaM19
import Derived.Test.YtdcjckdhjfnnhaaM20
namespace Go.Proofs.Ytdcjckdhjfnnhaa
open Go.RowKit

/-- all fills up, from step i on -/
def Tab.fills (ws : List (Nat × Nat)) : Nat → Tab → Tab
  | 0, s => s
  | i + 1, s => Tab.fills ws i (s.fill (ws.getD i (0, 0)))
def FineFills (ws : List (Nat × Nat)) : Nat → Tab → Prop
  | 0, _ => True
  | i + 1, s => FineFill s (ws.getD i (0, 0)) ∧ FineFills ws i (s.fill (ws.getD i (0, 0)))
def Tab.bare : Tab := ⟨[], [], 0, 0, 0⟩
/-- the root goes, if it has a lone kid; all goes, if no key is left -/
def Tab.shut (s : Tab) : Tab :=
  if s.count = 0 then Tab.bare
  else if 1 < s.depth ∧ (s.nd s.root).length = 1 then ({ s with root := ((s.nd s.root).num 0).toNat, depth := s.depth - 1 } : Tab).off s.root
  else s
structure FineShut (s : Tab) : Prop where
  ir : s.root < s.nds.length
  lr : (s.nd s.root).length ≤ 10000
  dep : s.depth ≤ 50000
  lf : s.free.length ≤ 50000
  kid : (s.nd s.root).length = 1 → 1 < s.depth → ∃ c : Nat, (s.nd s.root).num 0 = c

set_option maxHeartbeats 4000000 in
set_option maxRecDepth 100000 in
/-- remove -/
theorem xRemove (w : World) (T : Nat) (E : Nat → Prop) (s : Tab) (v : Value) (ws : List (Nat × Nat)) (e : Nat) (h : TabG w T E s) (hv : SlW w v ws) (hb : ∀ k, v.ownBlock = some k → ¬ E k) (he : ws.length = e + 1) (hws : ws.length ≤ 10000)
    (h1 : (ws.getD e (0, 0)).1 < s.nds.length) (h2 : (ws.getD e (0, 0)).2 < (s.nd (ws.getD e (0, 0)).1).length) (h4 : (s.nd (ws.getD e (0, 0)).1).length ≤ 100000)
    (hu : FineFills ws e (s.cutK (ws.getD e (0, 0)).1 (ws.getD e (0, 0)).2)) (ht : FineShut (Tab.fills ws e (s.cutK (ws.getD e (0, 0)).1 (ws.getD e (0, 0)).2))) :
    Calls Try.prog 26 #[Ptr T, v] w fun r w' => r = .returned (.tuple #[]) ∧ LeftP w T E (Tab.fills ws e (s.cutK (ws.getD e (0, 0)).1 (ws.getD e (0, 0)).2)).shut w' := by
  obtain ⟨A, c, rfl, hs⟩ := hv
  obtain ⟨g, rfl, _⟩ := hs 0 (by omega)
  have gE : ¬ E g := hb g rfl
  have WC := Lib.hid (show ∀ w', Chg E w w' → ∀ j, j < ws.length → w'.cell? ⟨g, j * 2, none⟩ = some (.int .i64 (ws.getD j (0, 0)).1) ∧ w'.cell? ⟨g, j * 2 + 1, none⟩ = some (.int .i64 (ws.getD j (0, 0)).2) from fun w' hc j hj => by
    obtain ⟨g', e', a1, a2⟩ := hs j hj
    injection e' with e'
    injection e' with e' _ _
    subst e'
    exact ⟨hc.cell a1 gE, hc.cell a2 gE⟩)
  obtain ⟨P, hP⟩ : ∃ P, P = (ws.getD e (0, 0)).1 := ⟨_, rfl⟩
  obtain ⟨a, ha⟩ : ∃ a, a = (ws.getD e (0, 0)).2 := ⟨_, rfl⟩
  rw [← hP] at h1
  rw [← hP, ← ha] at h2
  rw [← hP] at h4
  rw [← hP, ← ha] at hu ht ⊢
  have we := WC.out w (Chg.refl E w) e (by omega)
  rw [← hP, ← ha] at we
  have LC := Lib.hid (xDrop w T E s P a h h1 h2 h4)
  have e0 : s.put P ((s.nd P).take a ++ (s.nd P).drop (a + 1)) = s.cutK P a := rfl
  rw [e0] at LC
  obtain ⟨S0, hS0⟩ : ∃ S0, S0 = s.cutK P a := ⟨_, rfl⟩
  rw [← hS0] at LC hu ht ⊢
  obtain ⟨S, hS⟩ : ∃ S, S = Tab.fills ws e S0 := ⟨_, rfl⟩
  rw [← hS] at ht ⊢
  have HU := Lib.hid hu
  have HT := Lib.hid ht
  have HS := Lib.hid hS
  have HE := Lib.hid he
  have wl := we.1
  have wr := we.2
  rw [he] at hws ⊢
  have ei : (e : Int) + 1 - 1 = (e : Int) := by omega
  clear hu ht hS h h1 h2 h4 hs hb hP ha we hS0 he e0
  go_enter Try.func26, Try.ntmps26
  go_wp2_with (go_at_call 37; refine LC.out.mono ?_; rintro r w3 ⟨rfl, hl⟩; have HL := Lib.hid hl; clear hl)
  clear wl wr
  go_loopw [5] (fun vi wr => ∃ (i : Nat) (s1 : Tab), i ≤ e ∧ vi = .int .i64 i ∧ Hid (LeftP w T E s1 wr) ∧ Hid (Tab.fills ws i s1 = S) ∧ Hid (FineFills ws i s1)) (fun vi _ => (intOf vi).toNat)
  case atStart => exact ⟨e, S0, Nat.le_refl _, rfl, HL, Lib.hid HS.out.symm, HU⟩
  case round =>
    obtain ⟨i, s1, hie, rfl, HLi, HSi, HUi⟩ := hrel
    cases i with
    | zero =>
      have hs2 : s1 = S := HSi.out
      subst hs2
      obtain ⟨E1, ⟨rv, fv, vs, tv⟩, a1, c1⟩ := HLi.out
      have f := HT.out
      have p1 : s1.root < vs.length := by rw [tv.len]; exact f.ir
      obtain ⟨g0, c0, hrv, hg0, gT, hc⟩ := tv.rowAt (by omega)
      obtain ⟨A3, cz, ev3, hi3⟩ := (tv.node s1.root p1).form
      obtain ⟨R, hR⟩ : ∃ R, R = s1.root := ⟨_, rfl⟩
      obtain ⟨D, hD⟩ : ∃ D, D = s1.depth := ⟨_, rfl⟩
      obtain ⟨C, hC⟩ : ∃ C, C = s1.count := ⟨_, rfl⟩
      have d0 := tv.row.cell 0
      have d1 := tv.row.cell 1
      have d2 := tv.row.cell 2
      have d3 := tv.row.cell 3
      have d4 := tv.row.cell 4
      simp only [List.getElem?_cons_zero, List.getElem?_cons_succ] at d0 d1 d2 d3 d4
      rw [hrv] at d0
      have f0 := tv.row.frozen 0
      have f1 := tv.row.frozen 1
      have f2 := tv.row.frozen 2
      have f3 := tv.row.frozen 3
      have f4 := tv.row.frozen 4
      have d5 := (hc s1.root p1).1
      rw [ev3] at d5
      obtain ⟨z, hz⟩ : ∃ z, z = (s1.nd s1.root).length := ⟨_, rfl⟩
      obtain ⟨N, hN⟩ : ∃ N, N = vs.length := ⟨_, rfl⟩
      rw [← hz, ← hR] at d5
      rw [← hR] at d2
      rw [← hD] at d3
      rw [← hC] at d4
      rw [← hN] at d0
      have p1' : R < N := by rw [hR, hN]; exact p1
      have TV := Lib.hid tv
      have LW := Lib.hid (show ∀ s' w5, LeftP wr T E1 s' w5 → LeftP w T E s' w5 from fun s' w5 hl => LeftP.then c1 a1 hl)
      have HZ := Lib.hid hz
      have HR := Lib.hid hR
      have HD := Lib.hid hD
      have HC := Lib.hid hC
      have HI := Lib.hid hi3
      have ET := Lib.hid tv.eT
      clear f hc tv a1 c1 hz hR hD hC hN ev3 p1 HUi HSi HLi hi3 hrv
      by_cases c9 : C = 0
      · have ci : ((C : Int) == 0) = true := by rw [c9]; rfl
        have ci2 : (C : Int) = 0 := by omega
        have UP := Lib.hid (show s1.shut = Tab.bare from if_pos (by rw [← HC.out]; exact c9))
        clear c9
        go_wp2_with fail
        refine bodyPost_end (results_none rfl _ _ _) rfl ⟨rfl, ?_⟩
        rw [UP.out]
        refine LW.out _ _ ⟨fun k => k = T, ?_, fun k e => .inl (by rw [e]; exact ET.out), ?_⟩
        · have r := (((((TV.out.row.set 0 (.slice none 0 0)).set 1 (.slice none 0 0)).set 2 (.int .i64 0)).set 3 (.int .i64 0)).set 4 (.int .i64 0))
          refine ⟨.slice none 0 0, .slice none 0 0, [], r, ⟨rfl, .inl ⟨rfl, rfl⟩⟩, ⟨rfl, .inl ⟨rfl, rfl⟩⟩, rfl, fun i hi => absurd hi (by simp), fun i _ _ _ hi => absurd hi (by simp), rfl, fun k e => (by cases e), fun k e => (by cases e), fun i _ _ hi => absurd hi (by simp), fun k e => ?_⟩
          rw [show k = T from e]
          exact RowAt.lt r
        · exact Chg.setCell (Chg.setCell (Chg.setCell (Chg.setCell (Chg.setCell (Chg.refl E1 wr) (.inl ET.out) _) (.inl ET.out) _) (.inl ET.out) _) (.inl ET.out) _) (.inl ET.out) _
      · have ci : ((C : Int) == 0) = false := by simp; exact c9
        have ci2 : ¬ (C : Int) = 0 := by omega
        by_cases d9 : 1 < D
        · have d9' : (1 : Int) < (D : Int) := by omega
          by_cases z9 : z = 1
          · have zi : ((z : Int) == 1) = true := by rw [z9]; rfl
            subst z9
            obtain ⟨k, hk⟩ := HT.out.kid HZ.out.symm (by rw [← HD.out]; exact d9)
            obtain ⟨b, o, rfl, _, n0⟩ := HI.out 0 (by rw [← HZ.out]; decide)
            rw [hk, Nat.zero_mul, Nat.add_zero] at n0
            have UP := Lib.hid (show s1.shut = ({ s1 with root := ((s1.nd s1.root).num 0).toNat, depth := s1.depth - 1 } : Tab).off s1.root from (if_neg (by rw [← HC.out]; exact c9)).trans (if_pos ⟨by rw [← HD.out]; exact d9, HZ.out.symm⟩))
            have V4 := TV.out.field (s' := { s1 with root := k }) (u := .int .i64 k) 2 rfl rfl rfl
            have V5 := V4.field (s' := { s1 with root := k, depth := s1.depth - 1 }) (u := .int .i64 ((s1.depth - 1 : Nat) : Int)) 3 rfl rfl rfl
            have hd1 : ((s1.depth - 1 : Nat) : Int) = (D : Int) - 1 := by rw [← HD.out]; omega
            have db : D ≤ 50000 := by rw [HD.out]; exact HT.out.dep
            have wd : IntKind.i64.wrap ((D : Int) - 1) = (D : Int) - 1 := by rw [IntKind.wrap_i64]; omega
            rw [hd1] at V5
            have RL := Lib.hid (xRelease _ T E1 { s1 with root := k, depth := s1.depth - 1 } s1.root ⟨_, _, _, V5⟩ HT.out.ir (by show 0 < (s1.nd s1.root).length; rw [← HZ.out]; decide) (by have := HT.out.lf; show s1.free.length ≤ _; omega))
            rw [hk, Int.toNat_natCast] at UP
            rw [← HR.out] at RL UP
            clear V4 V5 hd1
            go_wp2_with (go_at_call 39; refine RL.out.mono ?_; rintro r w5 ⟨rfl, hl⟩; have HL5 := Lib.hid hl; clear hl)
            refine bodyPost_end (results_none rfl _ _ _) rfl ⟨rfl, ?_⟩
            rw [UP.out]
            exact LW.out _ _ (LeftP.then (Chg.setCell (Chg.setCell (Chg.refl E1 wr) (.inl ET.out) _) (.inl ET.out) _) (fun _ e => .inl e) HL5.out)
          · have zi : ((z : Int) == 1) = false := by simp; omega
            have zi2 : ¬ (z : Int) = 1 := by omega
            have UP := Lib.hid (show s1.shut = s1 from (if_neg (by rw [← HC.out]; exact c9)).trans (if_neg (fun t => z9 (HZ.out.trans t.2))))
            go_wp2_with fail
            refine bodyPost_end (results_none rfl _ _ _) rfl ⟨rfl, ?_⟩
            rw [UP.out]
            exact LW.out _ _ (LeftP.same ⟨_, _, _, TV.out⟩ (Below.refl _ _))
        · have d9' : ¬ (1 : Int) < (D : Int) := by omega
          have UP := Lib.hid (show s1.shut = s1 from (if_neg (by rw [← HC.out]; exact c9)).trans (if_neg (fun t => d9 (by rw [HD.out]; exact t.1))))
          go_wp2_with fail
          refine bodyPost_end (results_none rfl _ _ _) rfl ⟨rfl, ?_⟩
          rw [UP.out]
          exact LW.out _ _ (LeftP.same ⟨_, _, _, TV.out⟩ (Below.refl _ _))
    | succ i =>
      have hu := HUi.out
      obtain ⟨hf, hu2⟩ := hu
      have hs2 : Tab.fills ws i (s1.fill (ws.getD i (0, 0))) = S := HSi.out
      obtain ⟨E1, g1, a1, c1⟩ := HLi.out
      obtain ⟨y0, y1⟩ := WC.out wr c1 i (by have := HE.out; omega)
      obtain ⟨X, hX⟩ : ∃ X, X = ws.getD i (0, 0) := ⟨_, rfl⟩
      rw [← hX] at y0 y1 hf hu2 hs2
      have i1 : (i : Int) + 1 - 1 = (i : Int) := by omega
      have i0 : (0 : Int) < (i : Int) + 1 := by omega
      have FC := Lib.hid (xFill wr T E1 s1 X g1 hf)
      have HU2 := Lib.hid hu2
      have HS2 := Lib.hid hs2
      have LW := Lib.hid (show ∀ s' w5, LeftP wr T E1 s' w5 → LeftP w T E s' w5 from fun s' w5 hl => LeftP.then c1 a1 hl)
      clear hf hu2 hs2 g1 a1 c1 hX HUi HSi
      go_wp2_with (go_at_call 38; refine FC.out.mono ?_; rintro r w5 ⟨rfl, hl⟩; have HL5 := Lib.hid (LW.out _ w5 hl); clear hl)
      go_roundw
      case rel => exact ⟨i, _, by omega, rfl, HL5, HS2, HU2⟩
      case measure => simp [intOf]

end Go.Proofs.Ytdcjckdhjfnnhaa

namespace Go.Proofs.Ytdcjckdhjfnnhaa
open Go.RowKit

section
variable {s : Tab} {L : Nat → List Nat} {l : KV} {h p : Nat} {K : ByteArray}
theorem Mid.count (m : Mid s L l h p K) (c : Nat) : Mid { s with count := c } L l h p K := ⟨m.d1, m.top, m.nodup, m.lev, m.lt, m.fnd, m.free, m.size, m.link, m.leaf⟩
/-- a leaf has other items -/
theorem Whole.leafset (m : Whole s L l) {A B : List Nat} {P : Nat} (e : L 0 = A ++ [P] ++ B) (zs : KV) : Mid (s.put P zs) L (A.flatMap s.nd ++ zs ++ B.flatMap s.nd) 0 P ((s.nd P).key 0) := by
  have pm : P ∈ L 0 := by rw [e]; simp
  have pl := m.lt 0 P m.d1 pm
  have nx := nodup_mid (by rw [← e]; exact m.nodup 0 m.d1)
  have n1 : ∀ r, (s.put P zs).nd r = if r = P then zs else s.nd r := fun r => Tab.put_nd pl r
  have up : ∀ j r, j < s.depth → j ≠ 0 → r ∈ L j → r ≠ P := fun j r hj hn hr t => hn (m.lev j 0 r hj m.d1 hr (by rw [t]; exact pm))
  refine ⟨m.d1, m.top, m.nodup, m.lev, fun j r hj hr => by rw [Tab.put_len]; exact m.lt j r hj hr, m.fnd, fun f hf => by rw [Tab.put_len]; exact m.free f hf, fun j r hj hr hn => ?_, fun j hj => ?_, ?_⟩
  · have : r ≠ P := fun t => by
      by_cases c : j = 0
      · exact hn ⟨c, t⟩
      · exact up j r hj c hr t
    rw [n1, if_neg this]
    exact m.size j r hj hr (fun t => by have := t.1; have hj : j < s.depth := hj; omega)
  · have hj : j + 1 < s.depth := hj
    rw [fm_congr (g := s.nd) (fun r hr => by rw [n1, if_neg (up (j + 1) r hj (by omega) hr)]), m.linkW hj]
    apply List.map_congr_left
    intro r hr
    unfold Tab.lk
    by_cases c : j = 0
    · by_cases t : r = P
      · rw [if_pos ⟨by simp [c], t⟩, t]
      · rw [if_neg (fun u => t u.2), n1, if_neg t]
    · rw [if_neg (fun u => c (by have := u.1; simpa using this)), n1, if_neg (up j r (by omega) c hr)]
  · rw [e]
    simp only [List.flatMap_append, List.flatMap_cons, List.flatMap_nil, List.append_nil]
    rw [fm_congr (X := A) (g := s.nd) (fun r hr => by rw [n1, if_neg (fun t => (nx.1 r hr).1 (by simp [t]))]), fm_congr (X := B) (g := s.nd) (fun r hr => by rw [n1, if_neg (fun t => (nx.2.2.1 r hr).2 (by simp [t]))]), n1, if_pos rfl]
theorem Whole.wide (m : Whole s L l) : ∀ i, i < s.depth → 2 ^ i ≤ (L (s.depth - 1 - i)).length
  | 0, _ => by rw [Nat.sub_zero, m.top]; simp
  | i + 1, hi => by
    have ih := Whole.wide m i (by omega)
    have k := congrArg List.length (m.linkW (j := s.depth - 1 - (i + 1)) (by omega))
    rw [List.length_map, show s.depth - 1 - (i + 1) + 1 = s.depth - 1 - i by omega] at k
    have two : ∀ X : List Nat, (∀ r, r ∈ X → 2 ≤ (s.nd r).length) → 2 * X.length ≤ (X.flatMap s.nd).length := by
      intro X
      induction X with
      | nil => intro _; simp
      | cons x X ihx =>
        intro hX
        have a := hX x (by simp)
        have b := ihx fun r hr => hX r (by simp [hr])
        rw [List.flatMap_cons, List.length_append, List.length_cons]; omega
    have := two (L (s.depth - 1 - i)) fun r hr => by
      have := m.size _ r (by omega) hr (fun t => by omega)
      rw [if_neg (by omega)] at this
      exact this.1
    rw [Nat.pow_succ]; omega
theorem Whole.depth_le (m : Whole s L l) : 2 ^ (s.depth - 1) ≤ l.length := by
  have w := m.wide (s.depth - 1) (by have := m.d1; omega)
  rw [Nat.sub_self] at w
  have one : ∀ X : List Nat, (∀ r, r ∈ X → 1 ≤ (s.nd r).length) → X.length ≤ (X.flatMap s.nd).length := by
    intro X
    induction X with
    | nil => intro _; simp
    | cons x X ihx =>
      intro hX
      have a := hX x (by simp)
      have b := ihx fun r hr => hX r (by simp [hr])
      rw [List.flatMap_cons, List.length_append, List.length_cons]; omega
  have := one (L 0) fun r hr => (m.pos m.d1 hr).1
  rw [m.leaf] at this
  omega

theorem ups_ok {ws : List (Nat × Nat)} {e : Nat} : ∀ i, i ≤ e → ∀ (s : Tab) (L : Nat → List Nat) (K : ByteArray), Mid s L l (e - i) (ws.getD i (0, 0)).1 K → e + 1 = s.depth →
    (∀ j, j < i → (ws.getD j (0, 0)).1 ∈ L (e - j) ∧ (ws.getD j (0, 0)).2 < (s.nd (ws.getD j (0, 0)).1).length ∧ (s.nd (ws.getD j (0, 0)).1).num (ws.getD j (0, 0)).2 = ((ws.getD (j + 1) (0, 0)).1 : Int)) →
    2 ≤ (s.nd (ws.getD i (0, 0)).1).length → (s.nd (ws.getD i (0, 0)).1).length ≤ 5 → s.nds.length + s.free.length + i ≤ 50000 →
    FineUps ws i s ∧ ∃ L2 K2, Mid (Tab.ups ws i s) L2 l e (ws.getD 0 (0, 0)).1 K2 ∧ 2 ≤ ((Tab.ups ws i s).nd (ws.getD 0 (0, 0)).1).length ∧ ((Tab.ups ws i s).nd (ws.getD 0 (0, 0)).1).length ≤ 5 ∧
      (Tab.ups ws i s).depth = s.depth ∧ (Tab.ups ws i s).root = s.root ∧ (Tab.ups ws i s).count = s.count ∧ (Tab.ups ws i s).nds.length + (Tab.ups ws i s).free.length ≤ s.nds.length + s.free.length + i
  | 0, _, s, L, K, m, _, _, h2, h5, _ => ⟨trivial, L, K, m, h2, h5, rfl, rfl, rfl, Nat.le_refl _⟩
  | i + 1, hi, s, L, K, m, hd, hp, h2, h5, hb => by
    obtain ⟨q1, q2, q3⟩ := hp i (by omega)
    have he : e - i = e - (i + 1) + 1 := by omega
    rw [he] at q1
    have hdd : e - (i + 1) + 1 < s.depth := by omega
    have qs := m.qsize hdd q1
    have ff := m.fineUp hdd q1 q2 q3 (by omega) (by omega) (by omega) (by omega)
    obtain ⟨L', m', l', st0⟩ := m.up hdd q1 q2 q3 h2 (by omega)
    have st : Stepped s (s.up (ws.getD i (0, 0)) (ws.getD (i + 1) (0, 0)).1) L (e - (i + 1)) (ws.getD i (0, 0)).1 (s.nd (ws.getD i (0, 0)).1).length 1 := st0
    clear st0
    rw [← he] at m'
    obtain ⟨k1, L2, K2, k2, k3, k4, k5, k6, k7, k8⟩ := ups_ok i (by omega) (s.up (ws.getD i (0, 0)) (ws.getD (i + 1) (0, 0)).1) L' _ m' (by rw [st.depth]; exact hd) (fun j hj => by
      obtain ⟨j1, j2, j3⟩ := hp j (by omega)
      have jq : (ws.getD j (0, 0)).1 ≠ (ws.getD i (0, 0)).1 := fun t => by
        have := m.lev (e - j) (e - (i + 1) + 1) _ (by omega) hdd j1 (by rw [t]; exact q1); omega
      have jn := st.other (e - j) _ (by omega) (by omega) j1 jq
      rw [l' (e - j) (by omega), jn]
      exact ⟨j1, j2, j3⟩) (by have := st.size; omega) (by have := st.size; omega) (by have := st.sum; omega)
    refine ⟨⟨ff, k1⟩, L2, K2, k2, k3, k4, k5.trans st.depth, k6.trans st.root, k7.trans st.count, ?_⟩
    have := st.sum
    show (Tab.ups ws i (s.up (ws.getD i (0, 0)) (ws.getD (i + 1) (0, 0)).1)).nds.length + (Tab.ups ws i (s.up (ws.getD i (0, 0)) (ws.getD (i + 1) (0, 0)).1)).free.length ≤ _
    omega
theorem fills_ok {ws : List (Nat × Nat)} {e : Nat} : ∀ i, i ≤ e → ∀ (s : Tab) (L : Nat → List Nat) (K : ByteArray), Mid s L l (e - i) (ws.getD i (0, 0)).1 K → e + 1 = s.depth →
    (∀ j, j < i → (ws.getD j (0, 0)).1 ∈ L (e - j) ∧ (ws.getD j (0, 0)).2 < (s.nd (ws.getD j (0, 0)).1).length ∧ (s.nd (ws.getD j (0, 0)).1).num (ws.getD j (0, 0)).2 = ((ws.getD (j + 1) (0, 0)).1 : Int)) →
    (e ≠ 0 → 1 ≤ (s.nd (ws.getD i (0, 0)).1).length) → (s.nd (ws.getD i (0, 0)).1).length ≤ 4 → s.nds.length + s.free.length + 2 * i ≤ 50000 →
    FineFills ws i s ∧ ∃ L2 K2, Mid (Tab.fills ws i s) L2 l e (ws.getD 0 (0, 0)).1 K2 ∧ (e ≠ 0 → 1 ≤ ((Tab.fills ws i s).nd (ws.getD 0 (0, 0)).1).length) ∧ ((Tab.fills ws i s).nd (ws.getD 0 (0, 0)).1).length ≤ 4 ∧
      (Tab.fills ws i s).depth = s.depth ∧ (Tab.fills ws i s).root = s.root ∧ (Tab.fills ws i s).count = s.count ∧ (Tab.fills ws i s).nds.length + (Tab.fills ws i s).free.length ≤ s.nds.length + s.free.length + 2 * i
  | 0, _, s, L, K, m, _, _, h2, h5, _ => ⟨trivial, L, K, m, h2, h5, rfl, rfl, rfl, Nat.le_refl _⟩
  | i + 1, hi, s, L, K, m, hd, hp, h2, h5, hb => by
    obtain ⟨q1, q2, q3⟩ := hp i (by omega)
    have h2' := h2 (by omega)
    have he : e - i = e - (i + 1) + 1 := by omega
    rw [he] at q1
    have hdd : e - (i + 1) + 1 < s.depth := by omega
    have qs := m.qsize hdd q1
    have ff := m.fineFill hdd q1 q2 h2' (by omega) (by omega) (by omega)
    obtain ⟨L', n, m', l', st0, n1, n2, n3⟩ := m.fill hdd q1 q2 q3 h2' h5 (by omega) (by omega)
    have st : Stepped s (s.fill (ws.getD i (0, 0))) L (e - (i + 1)) (ws.getD i (0, 0)).1 n 2 := st0
    clear st0
    rw [← he] at m'
    obtain ⟨k1, L2, K2, k2, k3, k4, k5, k6, k7, k8⟩ := fills_ok i (by omega) (s.fill (ws.getD i (0, 0))) L' _ m' (by rw [st.depth]; exact hd) (fun j hj => by
      obtain ⟨j1, j2, j3⟩ := hp j (by omega)
      have jq : (ws.getD j (0, 0)).1 ≠ (ws.getD i (0, 0)).1 := fun t => by
        have := m.lev (e - j) (e - (i + 1) + 1) _ (by omega) hdd j1 (by rw [t]; exact q1); omega
      have jn := st.other (e - j) _ (by omega) (by omega) j1 jq
      rw [l' (e - j) (by omega), jn]
      exact ⟨j1, j2, j3⟩) (fun _ => by have := st.size; omega) n3 (by have := st.sum; omega)
    refine ⟨⟨ff, k1⟩, L2, K2, k2, k3, k4, k5.trans st.depth, k6.trans st.root, k7.trans st.count, ?_⟩
    have := st.sum
    show (Tab.fills ws i (s.fill (ws.getD i (0, 0)))).nds.length + (Tab.fills ws i (s.fill (ws.getD i (0, 0)))).free.length ≤ _
    omega
end

end Go.Proofs.Ytdcjckdhjfnnhaa
