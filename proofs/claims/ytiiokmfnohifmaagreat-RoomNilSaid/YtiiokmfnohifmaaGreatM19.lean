/- Proved parts: B3o B3p B3t B3d B3f B3a. Conditions: each theorem's own. -/
import Derived.Test.YtiiokmfnohifmaaGreatM2
import Derived.Test.YtiiokmfnohifmaaGreatM18
namespace Go.Proofs.YtiiokmfnohifmaaGreat
open Go.RowKit

/-- a room in plain words: its setting (the ring's size is the ring's), its ring, its keys -/
structure Rm where
  zs : List Int
  quota : Int
  most : Int
  r : Rg
  L : Ch
namespace Rm
structure Ok (m : Rm) : Prop where
  st : stOk m.zs m.r.size m.quota m.most = true
  r : m.r.Ok
  L : OkL m.L (m.r.seq : Int)
  seq : (m.r.seq : Int) ≤ m.most
  live : (m.L.live : Int) ≤ m.quota
/-- few enough: keys, versions of one key, commits -/
def Few (m : Rm) : Prop := Bnd m.L 3900 500 ∧ m.r.l.length ≤ 500
def floor (m : Rm) : Int := (m.r.floor : Int)
def seq (m : Rm) : Int := (m.r.seq : Int)
def chk (m : Rm) (ws : List Wr) (s : Int) : Int := chkE m.r m.L ws s m.quota m.most
def gone (m : Rm) : Int := (m.L.vers : Int) - ((m.L.swept m.floor).vers : Int)
def ents (m : Rm) : List En := m.L.ents m.seq
def new (zs : List Int) (g1 g2 g3 sq : Int) (L : Ch) : Rm := ⟨zs, g2, g3, ⟨g1.toNat, sq.toNat, []⟩, L⟩
end Rm
/-- a relation: at block b lies a room, in the blocks of F, that is m -/
abbrev RelM := World → Nat → (Nat → Prop) → Rm → Prop
/-- what a call leaves -/
def LeftM (R : RelM) (b : Nat) (F : Nat → Prop) (w : World) (m : Rm) (w' : World) : Prop := Chg F w w' ∧ ∃ F', R w' b F' m ∧ ∀ k, F' k → F k ∨ w.heap.size ≤ k
abbrev PtrM (b : Nat) : Value := .pointer (some ⟨b, 0, none⟩)
/-- writes that the laws hand on -/
def GoodW (w : World) (F : Nat → Prop) (A : Option Addr) (ws : List Wr) : Prop := SlWr w A ws ∧ FitsW ws ∧ ws.length ≤ 1000 ∧ (0 < ws.length → ∀ a, A = some a → ¬ F a.block) ∧ ∀ x, x ∈ ws → x.key.size ≤ 1000 ∧ x.val.txt.size ≤ 1000
/-- the reference's room in memory, with its blocks -/
def RefM (w : World) (p : Nat) (F : Nat → Prop) (m : Rm) : Prop :=
  ∃ q v lb G A c, (∀ k, F k ↔ (k = p ∨ rfoot q v k ∨ G k)) ∧ RoomG w p q v lb m.quota m.most m.r G A c m.L ∧ SepR p q v G
theorem RefM.keep {w w' : World} {p : Nat} {F : Nat → Prop} {m : Rm} (h : RefM w p F m) (hk : ∀ k, F k → w'.heap[k]? = w.heap[k]?) (hs : w.heap.size ≤ w'.heap.size) : RefM w' p F m := by
  obtain ⟨q, v, lb, G, A, c, hF, hr, sp⟩ := h
  exact ⟨q, v, lb, G, A, c, hF, ⟨(hk p ((hF p).2 (.inl rfl))).trans hr.row, hr.ring.keep fun k e => hk k ((hF k).2 (.inr (.inl e))), hr.sl.keep (fun k e => hk k ((hF k).2 (.inr (.inr e)))) hs, fun x e => Nat.lt_of_lt_of_le (hr.lt x e) hs⟩, sp⟩
theorem RefM.lt {w : World} {p : Nat} {F : Nat → Prop} {m : Rm} {k : Nat} (h : RefM w p F m) (e : F k) : k < w.heap.size := by
  obtain ⟨q, v, lb, G, A, c, hF, hr, sp⟩ := h
  rcases (hF k).1 e with e | e | e
  · rw [e]; exact hr.row.lt
  · exact hr.ring.lt k e
  · exact hr.lt k e
theorem RefM.same {w w' : World} {p : Nat} {F : Nat → Prop} {m : Rm} (h : RefM w p F m) (hb : Below w.heap.size w w') : LeftM RefM p F w m w' :=
  ⟨Chg.of_below hb, F, h.keep (fun k e => hb.block k (h.lt e)) hb.size, fun _ e => .inl e⟩

end Go.Proofs.YtiiokmfnohifmaaGreat

namespace Go.Proofs.YtiiokmfnohifmaaGreat
open Go.RowKit

theorem bool_yes {b : Bool} (h : ¬ b = false) : b = true := by cases b <;> simp at h ⊢
namespace Rm
variable {m : Rm} {ws : List Wr} {x : Int} {K N : Nat}
theorem st_parts {zs : List Int} {g1 g2 g3 : Int} (h : stOk zs g1 g2 g3 = true) : 1 ≤ g1 ∧ g1 ≤ 16 ∧ 0 ≤ g2 ∧ 1 ≤ g3 ∧ g3 ≤ 1073741824 := by
  unfold stOk at h
  simp only [Bool.and_eq_true, decide_eq_true_eq] at h
  omega
theorem new_r {g1 sq : Int} (h1 : 1 ≤ g1) (h2 : g1 ≤ 16) (h3 : 0 ≤ sq) (h4 : sq ≤ 1073741824) : Rg.Ok ⟨g1.toNat, sq.toNat, []⟩ :=
  ⟨by show 1 ≤ g1.toNat; omega, by show g1.toNat ≤ 16; omega, by show sq.toNat + 0 ≤ _; omega, fun i j _ hj => (by cases hj), fun i hi => (by cases hi)⟩
theorem ok_new {zs : List Int} {g1 g2 g3 : Int} (h : stOk zs g1 g2 g3 = true) : (Rm.new zs g1 g2 g3 0 []).Ok := by
  obtain ⟨h1, h2, h3, h4, h5⟩ := st_parts h
  refine ⟨?_, new_r h1 h2 (Int.le_refl _) (by decide), OkL.nil _, ?_, ?_⟩
  · show stOk zs ((g1.toNat : Nat) : Int) g2 g3 = true
    rw [Int.toNat_of_nonneg (by omega)]; exact h
  · show ((0 : Nat) : Int) ≤ g3; omega
  · show ((0 : Nat) : Int) ≤ g2; omega
theorem ld_parts {zs : List Int} {g1 g2 g3 sq : Int} {l : List En} (h : ldE zs g1 g2 g3 sq l = 0) : stOk zs g1 g2 g3 = true ∧ 0 ≤ sq ∧ sq ≤ g3 ∧ mayE l sq = true ∧ ((loadL l).live : Int) ≤ g2 := by
  unfold ldE at h
  split at h
  · cases h
  · rename_i z
    split at h
    · cases h
    · rename_i y
      split at h
      · cases h
      · rename_i u
        have z := bool_yes z
        simp only [Bool.and_eq_true, decide_eq_true_eq] at z
        exact ⟨z.1, z.2.1, z.2.2, bool_yes y, by omega⟩
theorem ok_load {zs : List Int} {g1 g2 g3 sq : Int} {l : List En} (h : ldE zs g1 g2 g3 sq l = 0) (hf : FitsE l) : (Rm.new zs g1 g2 g3 sq (loadL l)).Ok ∧ Bnd (loadL l) l.length 1 := by
  obtain ⟨h0, q0, q1, hm, hl⟩ := ld_parts h
  obtain ⟨h1, h2, h3, h4, h5⟩ := st_parts h0
  obtain ⟨o, b⟩ := OkL.load hm hf (by omega)
  refine ⟨⟨?_, new_r h1 h2 q0 (by omega), ?_, ?_, hl⟩, b⟩
  · show stOk zs ((g1.toNat : Nat) : Int) g2 g3 = true
    rw [Int.toNat_of_nonneg (by omega)]; exact h0
  · show OkL (loadL l) (((sq.toNat + 0 : Nat)) : Int)
    rw [show (((sq.toNat + 0 : Nat)) : Int) = sq by omega]; exact o
  · show (((sq.toNat + 0 : Nat)) : Int) ≤ g3; omega
theorem good (h : m.Ok) (hb : m.Few) : GoodC m.L := h.L.good hb.1 (by decide) (by decide)
theorem goods (h : m.Ok) (hb : m.Few) (hf : FitsW ws) : mayW ws = true → (m.r.seq : Int) < m.most → ∀ i, i ≤ ws.length → GoodC (m.L.withW (ws.take i) ((m.r.seq : Int) + 1)) ∧ (m.L.withW (ws.take i) ((m.r.seq : Int) + 1)).length ≤ 10000 := fun hm hs => by
  have st := st_parts h.st
  exact h.L.goods hb.1 (by omega) (by omega) hm hf (by decide) (by decide)
end Rm

section
variable {w0 w : World} {N : Nat → Prop} {os : List Ob} {i : Nat} {p : Nat} {m : Rm} {T : Ending → World → Prop}
end

end Go.Proofs.YtiiokmfnohifmaaGreat

namespace Go.Proofs.YtiiokmfnohifmaaGreat
open Go.RowKit

section
variable {w0 w w' : World} {N : Nat → Prop} {os os2 : List Ob} {i : Nat} {p : Nat} {m : Rm}
/-- the first of them alone -/
theorem Side.drop (h : Side w0 N w (os ++ os2)) : Side w0 N w os := by
  obtain ⟨F, h1, h2, h3, h4, h5⟩ := h
  exact ⟨F, fun i o e => h1 i o (by rw [List.getElem?_append_left (List.getElem?_eq_some_iff.1 e).1]; exact e), fun i j k hi hj => h2 i j k (by rw [List.length_append]; omega) (by rw [List.length_append]; omega), fun i k hi => h3 i k (by rw [List.length_append]; omega), h4, h5⟩
theorem Side.idx {o : Ob} (h : os[i]? = some o) : (os ++ os2)[i]? = some o := by rw [List.getElem?_append_left (List.getElem?_eq_some_iff.1 h).1]; exact h
theorem Side.last {o : Ob} : (os ++ [o])[os.length]? = some o := by rw [List.getElem?_append_right (Nat.le_refl _), Nat.sub_self]; rfl
/-- a row of one's own that comes anew -/
theorem Side.rowNew (h : Side w0 N w os) (cs : List Value) (t : TypeId) : Side w0 N (w.alloc (.cells cs.toArray t)) (os ++ [Ob.row w.heap.size cs t]) :=
  h.more ((Below.refl _ _).alloc (Nat.le_refl _) _) (o := Ob.row w.heap.size cs t) (F' := fun k => k = w.heap.size) ⟨RowAt.new w cs t, fun _ => Iff.rfl⟩ (fun k e => by omega)
theorem Side.rowAt {g : Nat} {cs : List Value} {t : TypeId} (h : Side w0 N w os) (hi : os[i]? = some (Ob.row g cs t)) : RowAt w g cs t := by
  obtain ⟨F, hP⟩ := h.get hi
  exact hP.1
theorem Side.rowSet {g : Nat} {cs cs' : List Value} {t : TypeId} (h : Side w0 N w os) (hi : os[i]? = some (Ob.row g cs t)) (hc : Chg (fun k => k = g) w w') (hr : RowAt w' g cs' t) : Side w0 N w' (os.set i (Ob.row g cs' t)) := by
  obtain ⟨F, hP, _, k⟩ := h.left hi
  exact k w' (Ob.row g cs' t) (fun k => k = g) (hc.mono fun k e => (hP.2 k).2 e) ⟨hr, fun _ => Iff.rfl⟩ fun k e => .inl ((hP.2 k).2 e)
end

end Go.Proofs.YtiiokmfnohifmaaGreat

namespace Go.Proofs.YtiiokmfnohifmaaGreat
open Go.RowKit

/-- a call: of which kind, with what -/
structure Ac where
  kind : Int
  ws : List Wr
  by_ : Int
  seq : Int
  key : ByteArray
end Go.Proofs.YtiiokmfnohifmaaGreat

namespace Go.Proofs.YtiiokmfnohifmaaGreat
open Go.RowKit

def bigW (x : Wr) : Bool := decide (200 < x.key.size) || decide (200 < x.val.txt.size)
/-- are writes more than are gone through? -/
def farW (ws : List Wr) : Bool := decide (30 < ws.length) || ws.any bigW
theorem farW_no {ws : List Wr} (h : farW ws = false) : ws.length ≤ 30 ∧ ∀ x, x ∈ ws → x.key.size ≤ 200 ∧ x.val.txt.size ≤ 200 := by
  unfold farW at h
  simp only [Bool.or_eq_false_iff, decide_eq_false_iff_not, List.any_eq_false] at h
  refine ⟨by omega, fun x hx => ?_⟩
  have := h.2 x hx
  unfold bigW at this
  simp only [Bool.or_eq_true, decide_eq_true_eq, not_or] at this
  omega
/-- what came in: sizes that a machine has -/
def InW (ws : List Wr) : Prop := ∀ x, x ∈ ws → x.key.size ≤ maxLen ∧ x.val.Fits
theorem InW.fits {ws : List Wr} (h : InW ws) (hf : farW ws = false) : FitsW ws ∧ ∀ x, x ∈ ws → x.key.size ≤ 1000 ∧ x.val.txt.size ≤ 1000 := by
  have f := (farW_no hf).2
  exact ⟨fun x hx => ⟨(h x hx).2, by have := (f x hx).1; omega⟩, fun x hx => by have := f x hx; omega⟩

end Go.Proofs.YtiiokmfnohifmaaGreat

namespace Go.Proofs.YtiiokmfnohifmaaGreat
open Go.RowKit

/-- what awake and a nil room ask of the program's room -/
structure RoomAw (R : RelM) : Prop where
  keep : ∀ {w w' : World} {b : Nat} {F : Nat → Prop} {m : Rm}, R w b F m → (∀ k, F k → w'.heap[k]? = w.heap[k]?) → w.heap.size ≤ w'.heap.size → R w' b F m
  lt : ∀ {w : World} {b : Nat} {F : Nat → Prop} {m : Rm} {k : Nat}, R w b F m → F k → k < w.heap.size
  new : ∀ (A : Option Addr) (c : Nat) (zs : List Int) (g1 g2 g3 : Int) (w : World), Sl w A zs → zs.length ≤ 1000 → La.U64 zs →
    Calls Tryz.prog 8 #[.agg #[.slice A zs.length c, .int .i64 g1, .int .i64 g2, .int .i64 g3]] w fun e w' => Below w.heap.size w w' ∧
      ((stOk zs g1 g2 g3 = true ∧ ∃ b F, e = .returned (.tuple #[PtrM b, .int .i64 0]) ∧ R w' b F (Rm.new zs g1 g2 g3 0 []) ∧ ∀ k, F k → w.heap.size ≤ k) ∨
        (stOk zs g1 g2 g3 = false ∧ e = .returned (.tuple #[.pointer none, .int .i64 1])))
  check : ∀ (b : Nat) (F : Nat → Prop) (m : Rm) (ws : List Wr) (A : Option Addr) (c : Nat) (s : Int) (w : World), R w b F m → m.Few → GoodW w F A ws →
    Calls Tryz.prog 29 #[PtrM b, .slice A ws.length c, .int .i64 s] w fun e w' => e = .returned (.int .i64 (m.chk ws s)) ∧ LeftM R b F w m w'
  nil_ : ∀ (ws : List Wr) (A : Option Addr) (c : Nat) (k : ByteArray) (s x : Int) (w : World),
    (Calls Tryz.prog 21 #[.pointer none] w fun e w' => (∃ A c, e = .returned (.agg #[.slice A 0 c, .int .i64 0, .int .i64 0, .int .i64 0])) ∧ Below w.heap.size w w') ∧
    (Calls Tryz.prog 24 #[.pointer none] w fun e w' => e = .returned (.int .i64 0) ∧ Below w.heap.size w w') ∧
    (Calls Tryz.prog 26 #[.pointer none] w fun e w' => e = .returned (.int .i64 0) ∧ Below w.heap.size w w') ∧
    (Calls Tryz.prog 13 #[.pointer none, .int .u64 x] w fun e w' => e = .returned (.tuple #[.int .i64 0, .int .i64 2]) ∧ Below w.heap.size w w') ∧
    (Calls Tryz.prog 27 #[.pointer none, .string k, .int .i64 s] w fun e w' => e = .returned (.tuple #[Val.V0.v, .bool false]) ∧ Below w.heap.size w w') ∧
    (Calls Tryz.prog 28 #[.pointer none, .string k, .int .i64 s] w fun e w' => e = .returned (.tuple #[.string ⟨#[]⟩, Val.V0.v, .bool false]) ∧ Below w.heap.size w w') ∧
    (Calls Tryz.prog 37 #[.pointer none, .string k, .int .i64 s] w fun e w' => e = .returned (.tuple #[.string ⟨#[]⟩, Val.V0.v, .bool false]) ∧ Below w.heap.size w w') ∧
    (Calls Tryz.prog 29 #[.pointer none, .slice A ws.length c, .int .i64 s] w fun e w' => e = .returned (.int .i64 2) ∧ Below w.heap.size w w') ∧
    (Calls Tryz.prog 23 #[.pointer none, .slice A ws.length c, .int .u64 x] w fun e w' => e = .returned (.tuple #[.int .i64 0, .int .i64 2]) ∧ Below w.heap.size w w') ∧
    (Calls Tryz.prog 25 #[.pointer none] w fun e w' => e = .returned (.int .i64 0) ∧ Below w.heap.size w w') ∧
    (Calls Tryz.prog 30 #[.pointer none] w fun e w' => e = .returned (.int .i64 0) ∧ Below w.heap.size w w') ∧
    (Calls Tryz.prog 31 #[.pointer none] w fun e w' => e = .returned (.int .i64 0) ∧ Below w.heap.size w w') ∧
    (Calls Tryz.prog 32 #[.pointer none] w fun e w' => e = .returned (.int .i64 0) ∧ Below w.heap.size w w') ∧
    (Calls Tryz.prog 34 #[.pointer none] w fun e w' => (∃ A c, e = .returned (.slice A 0 c)) ∧ Below w.heap.size w w')
def wK (t : ByteArray) : List Wr := [⟨⟨#[107]⟩, false, ⟨false, t, 0⟩⟩]
theorem wK_sl (w : World) (t : ByteArray) (ty : TypeId) : SlWr (w.alloc (.cells #[.string ⟨#[107]⟩, .bool false, .bool false, .string t, .int .u64 0] ty)) (some ⟨w.heap.size, 0, none⟩) (wK t) := fun _ => by
  have r := RowAt.new w [.string ⟨#[107]⟩, .bool false, .bool false, .string t, .int .u64 0] ty
  refine ⟨w.heap.size, 0, rfl, r.lt, fun j hj => ?_⟩
  have e : j = 0 := by simp [wK] at hj; exact hj
  subst e
  exact ⟨r.cell 0, r.cell 1, r.cell 2, r.cell 3, r.cell 4⟩
theorem wK_good {R : RelM} (X : RoomAw R) {w : World} {b : Nat} {F : Nat → Prop} {m : Rm} (h : R w b F m) (t : ByteArray) (ht : t.size ≤ 64) (ty : TypeId) :
    GoodW (w.alloc (.cells #[.string ⟨#[107]⟩, .bool false, .bool false, .string t, .int .u64 0] ty)) F (some ⟨w.heap.size, 0, none⟩) (wK t) :=
  ⟨wK_sl w t ty, fun x hx => by
    simp only [wK, List.mem_singleton] at hx
    subst hx
    exact ⟨⟨(show (0 : Nat) < 18446744073709551616 by decide), Nat.le_trans ht (by decide)⟩, (show (1 : Nat) ≤ 1000000 by decide)⟩, by simp [wK], fun _ a e f => by
    injection e with e
    subst e
    have := X.lt h f
    simp at this, fun x hx => by
    simp only [wK, List.mem_singleton] at hx
    subst hx
    exact ⟨(show (1 : Nat) ≤ 1000 by decide), Nat.le_trans ht (by decide)⟩⟩

set_option maxRecDepth 100000 in
set_option maxHeartbeats 1000000 in
/-- awake -/
theorem lAwake {R : RelM} (X : RoomAw R) (w : World) : Calls Tryz.prog 7 #[] w fun e w' => e = .returned (.bool true) ∧ Below w.heap.size w w' := by
  have st : stOk [] 1 3 9 = true := by kernel_rfl
  have CN := Lib.hid (X.new none 0 [] 1 3 9 w (Sl.nil _ _) (by decide) (fun _ h => by cases h))
  obtain ⟨m, hm⟩ : ∃ m, m = Rm.new [] 1 3 9 0 [] := ⟨_, rfl⟩
  have c1 : m.chk (wK ⟨#[120]⟩) 0 = 0 := by rw [hm]; kernel_rfl
  have c2 : m.chk (wK ⟨#[120, 121]⟩) 0 = 15 := by rw [hm]; kernel_rfl
  have fw : m.Few := by rw [hm]; exact ⟨⟨by decide, fun _ => Nat.zero_le _⟩, by decide⟩
  have C1 := Lib.hid (fun W b F (h : R W b F m) => X.check b F m (wK ⟨#[120]⟩) (some ⟨W.heap.size, 0, none⟩) 1 0 _ (X.keep h (fun k e => Below.heap_alloc _ _ _ (X.lt h e)) (by simp)) fw (wK_good X h ⟨#[120]⟩ (by decide) 74))
  have C2 := Lib.hid (fun W b F (h : R W b F m) => X.check b F m (wK ⟨#[120, 121]⟩) (some ⟨W.heap.size, 0, none⟩) 1 0 _ (X.keep h (fun k e => Below.heap_alloc _ _ _ (X.lt h e)) (by simp)) fw (wK_good X h ⟨#[120, 121]⟩ (by decide) 74))
  rw [← hm, st] at CN
  simp only [c1] at C1
  simp only [c2] at C2
  have LT := Lib.hid (fun W b F (h : R W b F m) k (e : F k) => X.lt h e)
  clear X c1 c2 fw hm st
  go_enter Tryz.func7, Tryz.ntmps7
  go_wp2_with fail
  refine CN.out.mono ?_
  rintro e w1 ⟨hb1, ⟨_, b, F, rfl, hr, hF⟩ | ⟨hf, _⟩⟩
  case inr => cases hf
  have CC := Lib.hid (C1.out w1 b F hr)
  have B1 := Lib.hid hb1
  have HF := Lib.hid hF
  clear hb1 hr hF CN C1
  go_wp2_with fail
  refine CC.out.mono ?_
  rintro e w2 ⟨rfl, hc, F', hr', hk⟩
  have CD := Lib.hid (C2.out w2 b F' hr')
  have B2 := Lib.hid (show Below w.heap.size w w2 from by
    have b0 : Below w.heap.size w (w1.alloc (.cells #[.string ⟨#[107]⟩, .bool false, .bool false, .string ⟨#[120]⟩, .int .u64 0] 74)) := B1.out.alloc B1.out.size _
    exact b0.trans (hc.below (fun k e => HF.out k e) b0.size))
  have HF2 := Lib.hid (show ∀ k, F' k → w.heap.size ≤ k from fun k e => by
    rcases hk k e with q | q
    · exact HF.out k q
    · have := B1.out.size; simp at q; omega)
  clear hc hr' hk CC C2 B1
  go_wp2_with fail
  refine CD.out.mono ?_
  rintro e w3 ⟨rfl, hc, F3, hr3, hk⟩
  have B3 := Lib.hid (show Below w.heap.size w w3 from by
    have b0 : Below w.heap.size w (w2.alloc (.cells #[.string ⟨#[107]⟩, .bool false, .bool false, .string ⟨#[120, 121]⟩, .int .u64 0] 74)) := B2.out.alloc B2.out.size _
    exact b0.trans (hc.below (fun k e => HF2.out k e) b0.size))
  clear hc hr3 hk CD
  go_wp2_with fail
  go_ret
  exact ⟨rfl, B3.out⟩

end Go.Proofs.YtiiokmfnohifmaaGreat
