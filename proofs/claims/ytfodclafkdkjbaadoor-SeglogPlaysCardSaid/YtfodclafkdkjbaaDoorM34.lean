/- Proved parts: S7q. Conditions: each theorem's own. -/
import Derived.Test.YtfodclafkdkjbaaDoorM15
namespace Go.Proofs.YtfodclafkdkjbaaDoor
open Go.RowKit

theorem bN_app (a b : ByteArray) (j : Nat) : bN (a ++ b) j = if j < a.size then bN a j else bN b (j - a.size) := by
  unfold bN
  have e : (a ++ b).data.toList = a.data.toList ++ b.data.toList := by simp [ByteArray.data_append]
  rw [e, List.getD_eq_getElem?_getD, List.getD_eq_getElem?_getD, List.getD_eq_getElem?_getD]
  by_cases h : j < a.size
  · rw [if_pos h, List.getElem?_append_left (by simpa using h)]
  · rw [if_neg h, List.getElem?_append_right (by simpa using h)]; simp
theorem partsOf_get (s : ByteArray) (j : Nat) (hj : j < cntN s.size) : (partsOf s).getD j ⟨#[]⟩ = partAt s j := by
  unfold partsOf; rw [List.getD_eq_getElem?_getD, List.getElem?_map, List.getElem?_range hj]; rfl
theorem cntN_pos (n : Nat) : 1 ≤ cntN n := by unfold cntN; split <;> omega
theorem joined_to (s : ByteArray) : ∀ k, k ≤ cntN s.size → joined (partsOf s) k = s.extract 0 (if 50 * k ≤ s.size then 50 * k else s.size)
  | 0, _ => by
    refine bytes_eq ?_ fun j hj => ?_
    · rw [if_pos (by omega), size_extract _ _ _ (by omega)]; rfl
    · exact absurd hj (by show ¬ j < (⟨#[]⟩ : ByteArray).size; simp [ByteArray.size])
  | k + 1, h => by
    have hk : 50 * k ≤ s.size := by unfold cntN at h; split at h <;> omega
    show joined (partsOf s) k ++ (partsOf s).getD k ⟨#[]⟩ = _
    rw [joined_to s k (by omega), if_pos hk, partsOf_get s k (by omega)]
    have hb : ∀ e, e ≤ s.size → 50 * k ≤ e → s.extract 0 (50 * k) ++ s.extract (50 * k) e = s.extract 0 e := fun e h1 h2 => by
      refine bytes_eq ?_ fun j hj => ?_
      · rw [ByteArray.size_append, size_extract _ _ _ hk, size_extract _ _ _ h1, size_extract _ _ _ h1]; omega
      · rw [ByteArray.size_append, size_extract _ _ _ hk, size_extract _ _ _ h1] at hj
        rw [bN_app, size_extract _ _ _ hk]
        by_cases q : j < 50 * k - 0
        · rw [if_pos q, bN_extract _ _ _ _ q, bN_extract _ _ _ _ (by omega)]
        · rw [if_neg q, bN_extract _ _ _ _ (by omega), bN_extract _ _ _ _ (by omega)]; congr 1; omega
    unfold partAt
    split <;> exact hb _ (by omega) (by omega)
theorem joined_parts (s : ByteArray) : joined (partsOf s) (partsOf s).length = s := by
  rw [partsOf_len, joined_to s _ (Nat.le_refl _)]
  have e : (if 50 * cntN s.size ≤ s.size then 50 * cntN s.size else s.size) = s.size := by
    unfold cntN; split <;> split <;> omega
  rw [e]; simp
theorem parts_small (s : ByteArray) (j : Nat) (hj : j < (partsOf s).length) : ((partsOf s).getD j ⟨#[]⟩).size ≤ 50 := by
  rw [partsOf_len] at hj
  rw [partsOf_get s j hj]
  have hk : 50 * j ≤ s.size := by unfold cntN at hj; split at hj <;> omega
  unfold partAt
  rw [size_extract _ _ _ (by split <;> omega)]
  unfold cntN at hj
  split <;> omega

theorem Base.congr {S A : Nat} {G : Int} {u : Nat} {y : Int} {P Q : Nat → Cont} {kept : List ByteArray} (h : Base S A G u y P kept) (hq : ∀ e, e < 2 → ∀ i, i < S → Q e i = P e i) : Base S A G u y Q kept :=
  { h with par := fun e he i hi hs => by rw [hq e he i hi] at hs ⊢; exact h.par e he i hi hs,
           sa := h.sa.same (hq A h.a2), sb := h.sb.same (hq (1 - A) (by omega)), ch := h.ch.same (fun i _ hi => (hq A h.a2 i (by have := h.used; omega)).symm) }
theorem Base.gen_le {S A : Nat} {G : Int} {u : Nat} {y : Int} {P : Nat → Cont} {kept : List ByteArray} (h : Base S A G u y P kept) (hg : 0 < G) : G ≤ 2147483647 := by
  have hu := h.pos hg
  have hc := h.ch
  cases hc with
  | nil => omega
  | cons e1 e2 _ =>
    have hb := (begins_iff _ _ _ _).1 (recN_some e1 e2).1
    have := parts_pos hb.2.1
    omega

/-- P with k of the new sectors -/
def wrP (P : Nat → Cont) (T a : Nat) (G y : Int) (ps : List ByteArray) (k e i : Nat) : ByteArray := if e = T ∧ a ≤ i ∧ i < a + k then newS G a y ps (i - a) else P e i
theorem wrP_step (P : Nat → Cont) (T a : Nat) (G y : Int) (ps : List ByteArray) (k e i : Nat) : wrP P T a G y ps (k + 1) e i = if e = T ∧ i = a + k then newS G a y ps k else wrP P T a G y ps k e i := by
  unfold wrP
  by_cases h : e = T ∧ i = a + k
  · rw [if_pos h, if_pos (by omega), show i - a = k by omega]
  · rw [if_neg h]
    by_cases q : e = T ∧ a ≤ i ∧ i < a + k
    · rw [if_pos q, if_pos (by omega)]
    · rw [if_neg q, if_neg (by omega)]
/-- where a writer is -/
structure Busy (m : Ext) (l : Lg) (x : Wr) (kept next : List ByteArray) (P : Nat → Cont) : Prop where
  base : Base m.sec l.at_ l.gen l.used l.life P kept
  may : May m.sec (l.gn x.base) (l.fr x.base) l.life x.parts
  gen : x.base = false → 0 < l.gen
  next : next = (if x.base then [] else kept) ++ [joined x.parts x.parts.length]
  pic : (x.moves ≤ x.parts.length ∧ ∀ e, e < 2 → ∀ i, i < m.sec → dryC m e i = P e i ∧ nowC m e i = wrP P (l.to x.base) (l.fr x.base) (l.gn x.base) l.life x.parts x.moves e i) ∨
    (x.moves = x.parts.length + 1 ∧ ∀ e, e < 2 → ∀ i, i < m.sec → dryC m e i = nowC m e i ∧ nowC m e i = wrP P (l.to x.base) (l.fr x.base) (l.gn x.base) l.life x.parts x.parts.length e i)
structure LInv (m : Ext) (l : Lg) (ox : Option Wr) (kept next : List ByteArray) : Prop where
  ok : m.Ok
  off : m.off = false
  ext : m.ext = 2
  first : l.first = 0
  st : (l.busy = false ∧ next = kept ∧ (∀ x, ox = some x → x.moves = x.parts.length + 2) ∧ ∃ P, Base m.sec l.at_ l.gen l.used l.life P kept ∧ ∀ e, e < 2 → ∀ i, i < m.sec → nowC m e i = P e i ∧ dryC m e i = P e i) ∨
    (l.busy = true ∧ ∃ x P, ox = some x ∧ x.moves ≤ x.parts.length + 1 ∧ Busy m l x kept next P)
section
variable {m : Ext} {l : Lg} {ox : Option Wr} {kept next : List ByteArray}
theorem Lg.to_eq (l : Lg) (h0 : l.first = 0) (h2 : l.at_ < 2) (b : Bool) : l.to b = if b then 1 - l.at_ else l.at_ := by
  unfold Lg.to
  rw [h0]
  cases b with
  | false => rfl
  | true =>
    simp only [if_true]
    split <;> omega
/-- the power goes, and the log is opened anew -/
theorem LInv.crash (h : LInv m l ox kept next) (ps : List (Int × Int)) (m' : Ext) (hm : m' = ((m.crash ps).1.start).1) (o : Lg × List ByteArray) (ho : o = openP (nowC m' 0) (nowC m' 1) m'.sec 0) :
    (o.2 = kept ∨ (ox ≠ none ∧ o.2 = next)) ∧ LInv m' o.1 none o.2 o.2 := by
  obtain ⟨c1, c2, c3, c4, c5⟩ := Ext.crash_start h.ok h.off ps
  rw [← hm] at c1 c2 c3 c4 c5
  have fin : ∀ {A : Nat} {G : Int} {u : Nat} {y : Int} {r : List ByteArray}, Base m.sec A G u y (nowC m') r → o = (⟨0, A, G, u, lifeP (nowC m') m.sec, false⟩, r) ∧ LInv m' o.1 none o.2 o.2 := fun {A G u y r} hb => by
    have e := hb.opens
    have hb' := hb.relife
    rw [c3, e] at ho
    rw [ho]
    refine ⟨rfl, c4, c1, c2.trans h.ext, rfl, .inl ⟨rfl, rfl, (fun x q => by cases q), nowC m', ?_, fun e he i hi => ⟨rfl, ((c5 e i (by rw [h.ext]; exact he) (by rw [← c3]; exact hi)).1).symm⟩⟩⟩
    rw [c3]; exact hb'
  have ex : m.ext = 2 := h.ext
  rcases h.st with ⟨_, hn, _, P, hb, hp⟩ | ⟨_, x, P, hx, hmv, hb⟩
  · have hq : ∀ e, e < 2 → ∀ i, i < m.sec → nowC m' e i = P e i := fun e he i hi => by
      obtain ⟨p1, p2⟩ := hp e he i hi
      rcases (c5 e i (by omega) hi).2 with q | q
      · rw [q, p1]
      · rw [q, p2]
    obtain ⟨f1, f2⟩ := fin (hb.congr hq)
    exact ⟨.inl (by rw [f1]), f2⟩
  · have h0 := h.first
    have a2 := hb.base.a2
    have hT := l.to_eq h0 a2 x.base
    have hT2 : l.to x.base < 2 := by rw [hT]; split <;> omega
    have mix : MixP P (nowC m') m.sec (l.to x.base) (l.gn x.base) (l.fr x.base) l.life x.parts := by
      have hq : ∀ e, e < 2 → ∀ i, i < m.sec → nowC m' e i = P e i ∨ nowC m' e i = wrP P (l.to x.base) (l.fr x.base) (l.gn x.base) l.life x.parts x.parts.length e i := fun e he i hi => by
        have q := (c5 e i (by omega) hi).2
        rcases hb.pic with ⟨k, hp⟩ | ⟨k, hp⟩
        · obtain ⟨p1, p2⟩ := hp e he i hi
          rcases q with q | q
          · rw [q, p2]
            unfold wrP
            by_cases z : e = l.to x.base ∧ l.fr x.base ≤ i ∧ i < l.fr x.base + x.moves
            · rw [if_pos z, if_pos (by omega)]; exact .inr rfl
            · rw [if_neg z]; exact .inl rfl
          · rw [q, p1]; exact .inl rfl
        · obtain ⟨p1, p2⟩ := hp e he i hi
          rcases q with q | q
          · rw [q, p2]; exact .inr rfl
          · rw [q, p1, p2]; exact .inr rfl
      have fit := hb.may.fit
      refine ⟨⟨fun i hi ho => ?_, fun j hj => ?_⟩, fun i hi => ?_⟩
      · rcases hq _ hT2 i hi with q | q
        · exact q
        · rw [q]; unfold wrP; rw [if_neg (by omega)]
      · rcases hq _ hT2 (l.fr x.base + j) (by omega) with q | q
        · exact .inl q
        · refine .inr ?_
          rw [q]; unfold wrP; rw [if_pos ⟨rfl, by omega, by omega⟩, show l.fr x.base + j - l.fr x.base = j by omega]
      · rcases hq (1 - l.to x.base) (by omega) i hi with q | q
        · exact q
        · rw [q]; unfold wrP; rw [if_neg (by omega)]
    by_cases hf : Full (nowC m' (l.to x.base)) (l.gn x.base) (l.fr x.base) l.life x.parts
    · refine ⟨.inr ⟨by rw [hx]; simp, ?_⟩, ?_⟩
      all_goals
        have hmay := hb.may
        have hnx := hb.next
        cases hbb : x.base with
        | false =>
          rw [hbb] at mix hf hmay hnx hT
          have eT : l.to false = l.at_ := hT
          rw [eT] at mix hf
          have sb := hb.base.sb.same (q := nowC m' (1 - l.at_)) mix.other
          obtain ⟨f1, f2⟩ := fin (hb.base.fullRec hmay mix hf (Int.le_refl _) (fun i hi hs e => sb.life i (Nat.zero_le _) hi hs e))
          first | exact f2 | (rw [f1, hnx]; rfl)
        | true =>
          rw [hbb] at mix hf hmay hnx hT
          have eT : l.to true = 1 - l.at_ := hT
          rw [eT] at mix hf
          obtain ⟨f1, f2⟩ := fin (hb.base.fullBase hmay mix hf (Int.le_refl _))
          first | exact f2 | (rw [f1, hnx]; rfl)
    · have hmay := hb.may
      cases hbb : x.base with
      | false =>
        rw [hbb] at mix hf hmay hT
        have eT : l.to false = l.at_ := hT
        rw [eT] at mix hf
        obtain ⟨f1, f2⟩ := fin (hb.base.partRec hmay mix hf)
        exact ⟨.inl (by rw [f1]), f2⟩
      | true =>
        rw [hbb] at mix hf hmay hT
        have eT : l.to true = 1 - l.at_ := hT
        rw [eT] at mix hf
        obtain ⟨f1, f2⟩ := fin (hb.base.partBase hmay mix hf)
        exact ⟨.inl (by rw [f1]), f2⟩
/-- a writer -/
theorem LInv.write (h : LInv m l ox kept next) (s : ByteArray) (b : Bool) : ((l.write m.sec s b).2.2 = 0 → ∃ x, (l.write m.sec s b).2.1 = some x ∧ LInv m (l.write m.sec s b).1 (some x) kept ((if b then [] else kept) ++ [s])) ∧ ((l.write m.sec s b).2.2 ≠ 0 → (l.write m.sec s b).1 = l ∧ (l.write m.sec s b).2.1 = none) := by
  unfold Lg.write
  by_cases h1 : l.busy = true
  · rw [if_pos h1]; exact ⟨fun e => by simp at e, fun _ => ⟨rfl, rfl⟩⟩
  rw [if_neg h1]
  by_cases h2 : (!b && decide (l.gen = 0)) = true
  · rw [if_pos h2]; exact ⟨fun e => by simp at e, fun _ => ⟨rfl, rfl⟩⟩
  rw [if_neg h2]
  by_cases h3 : m.sec < l.fr b + cntN s.size
  · rw [if_pos (decide_eq_true h3)]; exact ⟨fun e => by simp at e, fun _ => ⟨rfl, rfl⟩⟩
  rw [if_neg (by simpa using h3)]
  by_cases h4 : (decide (2147483647 < l.life) || (b && decide (2147483647 ≤ l.gen))) = true
  · rw [if_pos h4]; exact ⟨fun e => by simp at e, fun _ => ⟨rfl, rfl⟩⟩
  rw [if_neg h4]
  refine ⟨fun _ => ⟨_, rfl, ?_⟩, fun e => absurd rfl e⟩
  rcases h.st with ⟨hbz, hn, _, P, hb, hp⟩ | ⟨hbz, _⟩
  case inr => exact absurd hbz h1
  have hl : l.life ≤ 2147483647 := by
    simp only [Bool.or_eq_true, decide_eq_true_eq, not_or] at h4; omega
  have g0 := hb.g0
  have hg : b = false → 0 < l.gen := fun e => by
    rw [e] at h2
    simp at h2; omega
  refine ⟨h.ok, h.off, h.ext, h.first, .inr ⟨rfl, _, P, rfl, Nat.zero_le _, ⟨hb, ⟨?_, ?_, hb.y0, hl, ?_, ?_, h.ok.2.2.2.1, parts_small s⟩, hg, ?_, ?_⟩⟩⟩
  · show 1 ≤ l.gn b
    unfold Lg.gn
    cases b with
    | false => have := hg rfl; exact this
    | true => simp only [if_true]; omega
  · show l.gn b ≤ 2147483647
    unfold Lg.gn
    cases b with
    | false => exact hb.gen_le (hg rfl)
    | true =>
      simp only [Bool.true_and, Bool.or_eq_true, decide_eq_true_eq, not_or] at h4
      simp only [if_true]; omega
  · show 0 < (partsOf s).length
    rw [partsOf_len]; exact cntN_pos _
  · show l.fr b + (partsOf s).length ≤ m.sec
    rw [partsOf_len]; omega
  · show _ = _ ++ [joined (partsOf s) (partsOf s).length]
    rw [joined_parts]
  · refine .inl ⟨Nat.zero_le _, fun e he i hi => ⟨(hp e he i hi).2, ?_⟩⟩
    rw [(hp e he i hi).1]; unfold wrP; rw [if_neg (by simp only; omega)]
/-- a move -/
theorem LInv.move {x : Wr} (h : LInv m l (some x) kept next) : (Go.Proofs.YtfodclafkdkjbaaDoor.move m l x).2.2.2.2 = 0 ∧ LInv (Go.Proofs.YtfodclafkdkjbaaDoor.move m l x).1 (Go.Proofs.YtfodclafkdkjbaaDoor.move m l x).2.1 (some (Go.Proofs.YtfodclafkdkjbaaDoor.move m l x).2.2.1) (if (Go.Proofs.YtfodclafkdkjbaaDoor.move m l x).2.2.2.1 = 2 then next else kept) next := by
  unfold Go.Proofs.YtfodclafkdkjbaaDoor.move
  rcases h.st with ⟨hbz, hn, hd, hi⟩ | ⟨hbz, x', P, hx, hmv, hb⟩
  · rw [if_pos (hd x rfl)]
    refine ⟨rfl, h.ok, h.off, h.ext, h.first, .inl ⟨hbz, by simp, hd, ?_⟩⟩
    simp only [if_true, hn]; exact hi
  · injection hx with hx
    subst hx
    have fit := hb.may.fit
    have a2 := hb.base.a2
    have hT := l.to_eq h.first a2 x.base
    have hT2 : l.to x.base < 2 := by rw [hT]; split <;> omega
    rw [if_neg (by omega)]
    by_cases c1 : x.moves < x.parts.length
    · rw [if_pos c1]
      obtain ⟨w0, w1, w2, w3, w4⟩ := Ext.write_there h.ok h.off (e := l.to x.base) (i := l.fr x.base + x.moves) (by rw [h.ext]; exact hT2) (by omega) (x.sector l) (by
        unfold Wr.sector newS; rw [pack6_size]; omega)
      rw [if_pos w0]
      refine ⟨rfl, Ext.write_ok h.ok _ _ _, w1, w2.trans h.ext, h.first, .inr ⟨hbz, _, P, rfl, by simp only; omega, ?_⟩⟩
      rcases hb.pic with ⟨k, hp⟩ | ⟨k, _⟩
      case inr => omega
      refine ⟨by rw [w3]; exact hb.base, by rw [w3]; exact hb.may, hb.gen, by simpa using hb.next, .inl ⟨by simp only; omega, fun e he i hi => ?_⟩⟩
      rw [w3] at hi
      obtain ⟨p1, p2⟩ := hp e he i hi
      obtain ⟨q1, q2⟩ := w4 e i hi
      refine ⟨by rw [q1, p1], ?_⟩
      rw [q2]
      simp only
      rw [wrP_step]
      by_cases z : e = l.to x.base ∧ i = l.fr x.base + x.moves
      · rw [if_pos z, if_pos z]; rfl
      · rw [if_neg z, if_neg z, p2]
    · rw [if_neg c1]
      by_cases c2 : x.moves = x.parts.length
      · rw [if_pos c2]
        obtain ⟨w0, w1, w2, w3, w4⟩ := Ext.flush_there h.ok h.off (e := l.to x.base) (by rw [h.ext]; exact hT2)
        rw [if_pos w0]
        refine ⟨rfl, Ext.flush_ok h.ok _, w1, w2.trans h.ext, h.first, .inr ⟨hbz, _, P, rfl, by simp only; omega, ?_⟩⟩
        rcases hb.pic with ⟨k, hp⟩ | ⟨k, _⟩
        case inr => omega
        refine ⟨by rw [w3]; exact hb.base, by rw [w3]; exact hb.may, hb.gen, by simpa using hb.next, .inr ⟨by simp only; omega, fun e he i hi => ?_⟩⟩
        rw [w3] at hi
        obtain ⟨p1, p2⟩ := hp e he i hi
        obtain ⟨q1, q2⟩ := w4 e i (by rw [h.ext]; exact he) hi
        rw [c2] at p2
        refine ⟨?_, by rw [q1, p2]⟩
        rw [q1, q2]
        by_cases z : e = l.to x.base
        · rw [if_pos z]
        · rw [if_neg z, p1, p2]; unfold wrP; rw [if_neg (fun k => z k.1)]
      · rw [if_neg c2]
        rcases hb.pic with ⟨k, _⟩ | ⟨k, hp⟩
        case inl => omega
        have hmay := hb.may
        have hnx := hb.next
        have fin : Base m.sec (l.to x.base) (l.gn x.base) (l.fr x.base + x.parts.length) l.life (nowC m) next := by
          have mix : MixP P (nowC m) m.sec (l.to x.base) (l.gn x.base) (l.fr x.base) l.life x.parts := by
            refine ⟨⟨fun i hi ho => ?_, fun j hj => ?_⟩, fun i hi => ?_⟩
            · rw [(hp _ hT2 i hi).2]; unfold wrP; rw [if_neg (by omega)]
            · rw [(hp _ hT2 _ (by omega)).2]; unfold wrP; rw [if_pos ⟨rfl, by omega, by omega⟩, show l.fr x.base + j - l.fr x.base = j by omega]; exact .inr rfl
            · rw [(hp _ (by omega) i hi).2]; unfold wrP; rw [if_neg (by omega)]
          have hf : Full (nowC m (l.to x.base)) (l.gn x.base) (l.fr x.base) l.life x.parts := fun j hj => by
            rw [(hp _ hT2 _ (by omega)).2]; unfold wrP; rw [if_pos ⟨rfl, by omega, by omega⟩, show l.fr x.base + j - l.fr x.base = j by omega]
          cases hbb : x.base with
          | false =>
            rw [hbb] at mix hf hmay hnx hT
            have eT : l.to false = l.at_ := hT
            rw [eT] at mix hf ⊢
            have sb := hb.base.sb.same (q := nowC m (1 - l.at_)) mix.other
            rw [hnx]
            exact hb.base.fullRec hmay mix hf (Int.le_refl _) (fun i hi hs e => sb.life i (Nat.zero_le _) hi hs e)
          | true =>
            rw [hbb] at mix hf hmay hnx hT
            have eT : l.to true = 1 - l.at_ := hT
            rw [eT] at mix hf ⊢
            rw [hnx]
            have := hb.base.fullBase hmay mix hf (Int.le_refl _)
            rw [show l.fr true + x.parts.length = x.parts.length from Nat.zero_add _]
            exact this
        refine ⟨rfl, h.ok, h.off, h.ext, h.first, .inl ⟨rfl, by simp, fun x' e => by injection e with e; rw [← e]; simp only; omega, nowC m, ?_, fun e he i hi => ⟨rfl, (hp e he i hi).1⟩⟩⟩
        simpa using fin
end

end Go.Proofs.YtfodclafkdkjbaaDoor
