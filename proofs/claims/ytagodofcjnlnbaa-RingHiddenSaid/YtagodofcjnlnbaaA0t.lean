/- Two rings of the program's; the program's and the reference's; with a copy. -/
import Derived.Test.YtagodofcjnlnbaaA0o
namespace Go.Proofs.Ytagodofcjnlnbaa
open Go.RowKit

/-- two rings of the program's, apart from each other and from N's blocks, which are as they were in w0 -/
def TwoR (R : RelR) (w0 : World) (N : Nat → Prop) (w : World) (b : Nat) (r : Rg) (b2 : Nat) (r2 : Rg) : Prop := ∃ F F2 : Nat → Prop, R w b F r ∧ R w b2 F2 r2 ∧ (∀ k, F k → ¬ F2 k) ∧ (∀ k, F k → ¬ N k) ∧ (∀ k, F2 k → ¬ N k) ∧ (∀ k, N k → k < w0.heap.size) ∧ Chg (fun k => ¬ N k) w0 w
/-- the program's and the reference's -/
def BoR (R : RelR) (w0 : World) (N : Nat → Prop) (w : World) (b : Nat) (r : Rg) (p : Nat) (m : Rg) : Prop := ∃ (F : Nat → Prop) (v : Value), R w b F r ∧ RefG w p v m ∧ (∀ k, F k → ¬ rfoot p v k) ∧ (∀ k, F k → ¬ N k) ∧ (∀ k, rfoot p v k → ¬ N k) ∧ (∀ k, N k → k < w0.heap.size) ∧ Chg (fun k => ¬ N k) w0 w
/-- .. and one more of the program's -/
def TriR (R : RelR) (w0 : World) (N : Nat → Prop) (w : World) (b : Nat) (r : Rg) (p : Nat) (m : Rg) (c : Nat) (rc : Rg) : Prop := ∃ (F F2 : Nat → Prop) (v : Value), R w b F r ∧ RefG w p v m ∧ R w c F2 rc ∧ (∀ k, F k → ¬ rfoot p v k) ∧ (∀ k, F k → ¬ F2 k) ∧ (∀ k, rfoot p v k → ¬ F2 k) ∧ (∀ k, F k → ¬ N k) ∧ (∀ k, rfoot p v k → ¬ N k) ∧ (∀ k, F2 k → ¬ N k) ∧ (∀ k, N k → k < w0.heap.size) ∧ Chg (fun k => ¬ N k) w0 w
section
variable {R : RelR} (X : RingAt R) {w0 w w' : World} {N : Nat → Prop} {b b2 p c : Nat} {r r2 m rc : Rg}
theorem TwoR.swap (h : TwoR R w0 N w b r b2 r2) : TwoR R w0 N w b2 r2 b r := by
  obtain ⟨F, F2, h1, h2, h3, h4, h5, h6, h7⟩ := h
  exact ⟨F2, F, h2, h1, fun k e f => h3 k f e, h5, h4, h6, h7⟩
theorem TwoR.chg (h : TwoR R w0 N w b r b2 r2) : Chg (fun k => ¬ N k) w0 w := by obtain ⟨_, _, _, _, _, _, _, _, c⟩ := h; exact c
theorem BoR.chg (h : BoR R w0 N w b r p m) : Chg (fun k => ¬ N k) w0 w := by obtain ⟨_, _, _, _, _, _, _, _, c⟩ := h; exact c
theorem TriR.chg (h : TriR R w0 N w b r p m c rc) : Chg (fun k => ¬ N k) w0 w := by obtain ⟨_, _, _, _, _, _, _, _, _, _, _, _, _, c⟩ := h; exact c
theorem stays {B : Nat} (c : Chg (fun k => ¬ N k) w0 w) (hB : B ≤ w0.heap.size) (hN : ∀ k, k < B → N k) : Below B w0 w :=
  ⟨c.os, c.tape, c.output, c.size, fun k hk => c.block k (by omega) fun f => f (hN k hk)⟩
include X
theorem TwoR.fst (h : TwoR R w0 N w b r b2 r2) : ∃ N', OneR R w N' w b r ∧ ∀ w' r', OneR R w N' w' b r' → TwoR R w0 N w' b r' b2 r2 := by
  obtain ⟨F, F2, h1, h2, h3, h4, h5, h6, h7⟩ := h
  refine ⟨fun k => k < w.heap.size ∧ ¬ F k, ⟨F, h1, fun k e f => f.2 e, fun k e => e.1, Chg.refl _ _⟩, fun w' r' q => ?_⟩
  obtain ⟨F', q1, q2, _, q4⟩ := q
  have kk : ∀ k, F2 k → w'.heap[k]? = w.heap[k]? := fun k e => q4.block k (X.lt h2 e) fun f => f ⟨X.lt h2 e, fun g => h3 k g e⟩
  refine ⟨F', F2, q1, X.keep h2 kk q4.size, fun k e f => q2 k e ⟨X.lt h2 f, fun g => h3 k g f⟩, fun k e f => ?_, h5, h6, h7.trans q4 fun k e => ?_⟩
  · have hk := h6 k f
    exact q2 k e ⟨Nat.lt_of_lt_of_le hk h7.size, fun g => h4 k g f⟩
  · by_cases hk : k < w.heap.size
    · refine .inl fun f => ?_
      exact e ⟨hk, fun g => h4 k g f⟩
    · exact .inr (Nat.le_trans h7.size (by omega))
omit X in
theorem BoR.one (h : BoR R w0 N w b r p m) : ∃ N', OneR R w N' w b r ∧ ∀ w' r', OneR R w N' w' b r' → BoR R w0 N w' b r' p m := by
  obtain ⟨F, v, h1, h2, h3, h4, h5, h6, h7⟩ := h
  refine ⟨fun k => k < w.heap.size ∧ ¬ F k, ⟨F, h1, fun k e f => f.2 e, fun k e => e.1, Chg.refl _ _⟩, fun w' r' q => ?_⟩
  obtain ⟨F', q1, q2, _, q4⟩ := q
  have kk : ∀ k, rfoot p v k → w'.heap[k]? = w.heap[k]? := fun k e => q4.block k (h2.lt k e) fun f => f ⟨h2.lt k e, fun g => h3 k g e⟩
  refine ⟨F', v, q1, h2.keep kk, fun k e f => q2 k e ⟨h2.lt k f, fun g => h3 k g f⟩, fun k e f => ?_, h5, h6, h7.trans q4 fun k e => ?_⟩
  · have hk := h6 k f
    exact q2 k e ⟨Nat.lt_of_lt_of_le hk h7.size, fun g => h4 k g f⟩
  · by_cases hk : k < w.heap.size
    · refine .inl fun f => ?_
      exact e ⟨hk, fun g => h4 k g f⟩
    · exact .inr (Nat.le_trans h7.size (by omega))
omit X in
theorem BoR.drewN (h : BoR R w0 N w b r p m) (X : RingAt R) (n : Nat) : BoR R w0 N (w.drewN n) b r p m := by
  obtain ⟨F, v, h1, h2, h3, h4, h5, h6, h7⟩ := h
  exact ⟨F, v, X.keep h1 (fun _ _ => rfl) (Nat.le_refl _), h2.drewN n, h3, h4, h5, h6, h7.drewN n⟩
theorem bPush (x : Int) (h : BoR R w0 N w b r p m) (ok : m.Ok) (hl : m.l.length ≤ 1000) :
    Calls Try.prog 12 #[PtrR p, .int .u64 x] w fun e w' => e = .returned (.tuple #[.int .i64 (m.told x : Nat), .int .i64 (m.no x)]) ∧ BoR R w0 N w' b r p (m.push x) := by
  obtain ⟨F, v, h1, h2, h3, h4, h5, h6, h7⟩ := h
  refine (rPush0 p v m x w h2 ok hl).mono ?_
  rintro e w' ⟨he, c, v', g, k'⟩
  refine ⟨he, F, v', X.keep h1 (fun k e => c.block k (X.lt h1 e) (h3 k e)) c.size, g, fun k e f => ?_, h4, fun k e f => ?_, h6, h7.trans c fun k e => .inl (h5 k e)⟩
  · rcases k' k f with q | q
    · exact h3 k e q
    · have := X.lt h1 e; omega
  · rcases k' k e with q | q
    · exact h5 k q f
    · have := h6 k f; have := h7.size; omega
omit X in
theorem bRow (h : BoR R w0 N w b r p m) : ∃ v, RefG w p v m := by obtain ⟨_, v, _, h2, _⟩ := h; exact ⟨v, h2⟩
theorem bSeq (h : BoR R w0 N w b r p m) (ok : m.Ok) :
    Calls Try.prog 10 #[PtrR p] w fun e w' => e = .returned (.int .i64 (m.seq : Nat)) ∧ BoR R w0 N w' b r p m := by
  obtain ⟨v, g⟩ := bRow h
  refine (rSeq0 p v m w g ok).mono ?_
  rintro e w' ⟨he, n, rfl⟩
  exact ⟨he, h.drewN X n⟩
theorem bAsOf (x : Int) (h : BoR R w0 N w b r p m) (ok : m.Ok) (hl : m.l.length ≤ 1000) :
    Calls Try.prog 16 #[PtrR p, .int .u64 x] w fun e w' => e = .returned (.tuple #[.int .i64 (m.asOf x : Nat), .int .i64 (m.asNo x)]) ∧ BoR R w0 N w' b r p m := by
  obtain ⟨v, g⟩ := bRow h
  refine (rAsOf0 p v m x w g ok hl).mono ?_
  rintro e w' ⟨he, n, rfl⟩
  exact ⟨he, h.drewN X n⟩
theorem bClone (h : BoR R w0 N w b r p m) (hl : r.l.length ≤ 1000) :
    Calls Try.prog 9 #[PtrR b] w fun e w' => ∃ c, e = .returned (PtrR c) ∧ TriR R w0 N w' b r p m c r := by
  obtain ⟨F, v, h1, h2, h3, h4, h5, h6, h7⟩ := h
  refine (X.clone b F r w h1 hl).mono ?_
  rintro e w' ⟨⟨c, F2, he, q, hF⟩, hb⟩
  refine ⟨c, he, F, F2, v, X.keep h1 (fun k e => hb.block k (X.lt h1 e)) hb.size, h2.below hb, q, h3, fun k e f => ?_, fun k e f => ?_, h4, h5, fun k e f => ?_, h6, h7.trans (Chg.of_below (F := fun _ => False) hb) fun _ e => e.elim⟩
  · have := X.lt h1 e; have := hF k f; omega
  · have := h2.lt k e; have := hF k f; omega
  · have := h6 k f; have := hF k e; have := h7.size; omega
theorem TriR.two (h : TriR R w0 N w b r p m c rc) : ∃ N', BoR R w N' w b r p m ∧ ∀ w' r' m', BoR R w N' w' b r' p m' → TriR R w0 N w' b r' p m' c rc := by
  obtain ⟨F, F2, v, h1, h2, hc, h3, h3c, h2c, h4, h5, h5c, h6, h7⟩ := h
  refine ⟨fun k => k < w.heap.size ∧ ¬ F k ∧ ¬ rfoot p v k, ⟨F, v, h1, h2, h3, fun k e f => f.2.1 e, fun k e f => f.2.2 e, fun k e => e.1, Chg.refl _ _⟩, fun w' r' m' q => ?_⟩
  obtain ⟨F', v', q1, q2, q3, q4, q5, _, q7⟩ := q
  have inN : ∀ k, F2 k → k < w.heap.size ∧ ¬ F k ∧ ¬ rfoot p v k := fun k e => ⟨X.lt hc e, fun g => h3c k g e, fun g => h2c k g e⟩
  have inM : ∀ k, N k → k < w.heap.size ∧ ¬ F k ∧ ¬ rfoot p v k := fun k e => ⟨Nat.lt_of_lt_of_le (h6 k e) h7.size, fun g => h4 k g e, fun g => h5 k g e⟩
  refine ⟨F', F2, v', q1, q2, X.keep hc (fun k e => q7.block k (X.lt hc e) fun f => f (inN k e)) q7.size, q3, fun k e f => q4 k e (inN k f), fun k e f => q5 k e (inN k f), fun k e f => q4 k e (inM k f), fun k e f => q5 k e (inM k f), h5c, h6, h7.trans q7 fun k e => ?_⟩
  by_cases hk : k < w.heap.size
  · exact .inl fun f => e (inM k f)
  · exact .inr (Nat.le_trans h7.size (by omega))
/-- the copy is asked, and left -/
theorem tSeq (h : TriR R w0 N w b r p m c rc) : Calls Try.prog 13 #[PtrR c] w fun e w' => e = .returned (.int .i64 (rc.seq : Nat)) ∧ BoR R w0 N w' b r p m := by
  obtain ⟨F, F2, v, h1, h2, hc, h3, h3c, h2c, h4, h5, h5c, h6, h7⟩ := h
  refine (X.seq c F2 rc w hc).mono ?_
  rintro e w' ⟨he, q, _⟩
  exact ⟨he, F, v, X.keep h1 (fun k e => q.block k (X.lt h1 e) fun f => h3c k e f) q.size, h2.keep (fun k e => q.block k (h2.lt k e) fun f => h2c k e f), h3, h4, h5, h6, h7.trans q fun k e => .inl (h5c k e)⟩
theorem tPush (x : Int) (h : TriR R w0 N w b r p m c rc) (h0 : 0 ≤ x) (h1 : x ≤ 18446744073709551615) (hl : r.l.length ≤ 1000) :
    Calls Try.prog 11 #[PtrR b, .int .u64 x] w fun e w' => e = .returned (.tuple #[.int .i64 (r.told x : Nat), .int .i64 (r.no x)]) ∧ TriR R w0 N w' b (r.push x) p m c rc := by
  obtain ⟨N1, g1, k1⟩ := TriR.two X h
  obtain ⟨N2, g2, k2⟩ := BoR.one g1
  exact (oPush X x g2 h0 h1 hl).mono fun e w' ⟨he, hh⟩ => ⟨he, k1 _ _ _ (k2 _ _ hh)⟩
theorem tSeqP (h : TriR R w0 N w b r p m c rc) : Calls Try.prog 13 #[PtrR b] w fun e w' => e = .returned (.int .i64 (r.seq : Nat)) ∧ TriR R w0 N w' b r p m c rc := by
  obtain ⟨N1, g1, k1⟩ := TriR.two X h
  obtain ⟨N2, g2, k2⟩ := BoR.one g1
  exact (oSeq X g2).mono fun e w' ⟨he, hh⟩ => ⟨he, k1 _ _ _ (k2 _ _ hh)⟩
theorem tSizeP (h : TriR R w0 N w b r p m c rc) : Calls Try.prog 14 #[PtrR b] w fun e w' => e = .returned (.int .i64 (r.size : Nat)) ∧ TriR R w0 N w' b r p m c rc := by
  obtain ⟨N1, g1, k1⟩ := TriR.two X h
  obtain ⟨N2, g2, k2⟩ := BoR.one g1
  exact (oSize X g2).mono fun e w' ⟨he, hh⟩ => ⟨he, k1 _ _ _ (k2 _ _ hh)⟩
theorem tSeqR (h : TriR R w0 N w b r p m c rc) (ok : m.Ok) : Calls Try.prog 10 #[PtrR p] w fun e w' => e = .returned (.int .i64 (m.seq : Nat)) ∧ TriR R w0 N w' b r p m c rc := by
  obtain ⟨N1, g1, k1⟩ := TriR.two X h
  exact (bSeq X g1 ok).mono fun e w' ⟨he, hh⟩ => ⟨he, k1 _ _ _ hh⟩
theorem tPushR (x : Int) (h : TriR R w0 N w b r p m c rc) (ok : m.Ok) (hl : m.l.length ≤ 1000) :
    Calls Try.prog 12 #[PtrR p, .int .u64 x] w fun e w' => e = .returned (.tuple #[.int .i64 (m.told x : Nat), .int .i64 (m.no x)]) ∧ TriR R w0 N w' b r p (m.push x) c rc := by
  obtain ⟨N1, g1, k1⟩ := TriR.two X h
  exact (bPush X x g1 ok hl).mono fun e w' ⟨he, hh⟩ => ⟨he, k1 _ _ _ hh⟩
theorem bAsOfP (x : Int) (h : BoR R w0 N w b r p m) (h0 : 0 ≤ x) (h1 : x ≤ 18446744073709551615) (hl : r.l.length ≤ 1000) :
    Calls Try.prog 15 #[PtrR b, .int .u64 x] w fun e w' => e = .returned (.tuple #[.int .i64 (r.asOf x : Nat), .int .i64 (r.asNo x)]) ∧ BoR R w0 N w' b r p m := by
  obtain ⟨N2, g2, k2⟩ := BoR.one h
  exact (oAsOf X x g2 h0 h1 hl).mono fun e w' ⟨he, hh⟩ => ⟨he, k2 _ _ hh⟩
theorem bFloorP (h : BoR R w0 N w b r p m) : Calls Try.prog 17 #[PtrR b] w fun e w' => e = .returned (.int .i64 (r.floor : Nat)) ∧ BoR R w0 N w' b r p m := by
  obtain ⟨N2, g2, k2⟩ := BoR.one h
  exact (oFloor X g2).mono fun e w' ⟨he, hh⟩ => ⟨he, k2 _ _ hh⟩
theorem TriR.ok (h : TriR R w0 N w b r p m c rc) : r.Ok := by obtain ⟨_, _, _, q, _⟩ := h; exact X.ok q
theorem BoR.ok (h : BoR R w0 N w b r p m) : r.Ok := by obtain ⟨_, _, q, _⟩ := h; exact X.ok q
omit X in
/-- the reference's ring is laid beside the program's -/
theorem BoR.made {F : Nat → Prop} {s q : Nat} (X : RingAt R) (hb : Below w0.heap.size w0 w) (hr : R w b F r) (hF : ∀ k, F k → w0.heap.size ≤ k) :
    BoR R w0 (fun k => k < w0.heap.size) (w.alloc (.cells #[.int .i64 (s : Int), .int .i64 (q : Int), .slice none 0 0] 30)) b r w.heap.size ⟨s, q, []⟩ := by
  have ha : Below w.heap.size w (w.alloc (.cells #[.int .i64 (s : Int), .int .i64 (q : Int), .slice none 0 0] 30)) := (Below.refl _ _).alloc (Nat.le_refl _) _
  have hw := hb.trans (ha.mono hb.size)
  refine ⟨F, .slice none 0 0, X.keep hr (fun k e => ha.block k (X.lt hr e)) ha.size, ⟨RowAt.new w [.int .i64 (s : Int), .int .i64 (q : Int), .slice none 0 0] _, Own.nil _ _⟩, fun k e f => ?_, fun k e f => ?_, fun k e f => ?_, fun k e => e, ⟨hw.os, hw.tape, hw.output, hw.size, fun k hk _ => hw.block k hk⟩⟩
  · rcases f with f | f
    · have := X.lt hr e; omega
    · cases f
  · have := hF k e; omega
  · rcases e with e | e
    · have := hb.size; omega
    · cases e
end

end Go.Proofs.Ytagodofcjnlnbaa
