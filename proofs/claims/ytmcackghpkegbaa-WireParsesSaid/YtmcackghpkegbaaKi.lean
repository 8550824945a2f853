/- Shapes, what fits them, and its bytes: plain. Unlike items have unlike bytes. -/
import Derived.Test.YtmcackghpkegbaaIt
import Derived.Test.YtmcackghpkegbaaLk
import Derived.Test.YtmcackghpkegbaaAwk
namespace Go.Proofs.Ytmcackghpkegbaa
open Go.RowKit

inductive Ltr where
  | b | n | t | f | l
  deriving DecidableEq
def Ltr.code : Ltr → Int
  | .b => 98 | .n => 110 | .t => 116 | .f => 102 | .l => 108
def ltr (c : UInt8) : Option Ltr := if c = 98 then some .b else if c = 110 then some .n else if c = 116 then some .t else if c = 102 then some .f else if c = 108 then some .l else none
theorem ltr_code {c : UInt8} {L : Ltr} (h : ltr c = some L) : (c.toNat : Int) = L.code := by
  unfold ltr at h
  split at h
  · rename_i e; subst e; cases h; rfl
  split at h
  · rename_i e; subst e; cases h; rfl
  split at h
  · rename_i e; subst e; cases h; rfl
  split at h
  · rename_i e; subst e; cases h; rfl
  split at h
  · rename_i e; subst e; cases h; rfl
  · cases h

/-- what a shape asks for, item by item; st: a * stands ahead -/
def kindsGo : List UInt8 → Bool → Option (List (Ltr × Bool))
  | [], st => if st then none else some []
  | c :: r, st => if c = 42 ∧ st = false then kindsGo r true else match ltr c with
    | some L => (kindsGo r false).map ((L, st) :: ·)
    | none => none
def kindsOf (s : ByteArray) : Option (List (Ltr × Bool)) := if 40 < s.size then none else kindsGo s.data.toList false

theorem kindsGo_star (r : List UInt8) : kindsGo (42 :: r) false = kindsGo r true := by rw [kindsGo, if_pos ⟨rfl, rfl⟩]
theorem kindsGo_yes {c : UInt8} {r : List UInt8} {st : Bool} {L : Ltr} (h : ¬ (c = 42 ∧ st = false)) (hL : ltr c = some L) : kindsGo (c :: r) st = (kindsGo r false).map ((L, st) :: ·) := by rw [kindsGo, if_neg h, hL]
theorem kindsGo_no {c : UInt8} {r : List UInt8} {st : Bool} (h : ¬ (c = 42 ∧ st = false)) (hL : ltr c = none) : kindsGo (c :: r) st = none := by rw [kindsGo, if_neg h, hL]
theorem kindsGo_step {ks : List (Ltr × Bool)} {k : Ltr × Bool} (o : Option (List (Ltr × Bool))) : (o.map (k :: ·)).map (ks ++ ·) = o.map ((ks ++ [k]) ++ ·) := by
  cases o <;> simp

theorem kindsGo_len : ∀ (l : List UInt8) (st : Bool) (ks : List (Ltr × Bool)), kindsGo l st = some ks → ks.length ≤ l.length
  | [], st, ks, h => by
    unfold kindsGo at h; split at h
    · cases h
    · cases h; simp
  | c :: r, st, ks, h => by
    unfold kindsGo at h; split at h
    · have := kindsGo_len r true ks h; simp; omega
    · split at h
      · cases hr : kindsGo r false with
        | none => rw [hr] at h; cases h
        | some ks' =>
          rw [hr] at h; cases h
          have := kindsGo_len r false ks' hr; simp; omega
      · cases h
theorem kindsOf_len {s : ByteArray} {ks : List (Ltr × Bool)} (h : kindsOf s = some ks) : ks.length ≤ 40 := by
  unfold kindsOf at h; split at h
  · cases h
  · have h1 := kindsGo_len _ _ _ h
    have h2 : s.data.toList.length = s.size := by simp
    omega

def right1 : Ltr → Item → Bool
  | .b, x => decide (x.n ≤ 255)
  | .n, _ => true
  | .t, x => decide (x.s.size ≤ 200)
  | .f, x => decide (((Fl.bitsOf (Fl.bitsOf x.n.toNat) : Nat) : Int) = x.n)
  | .l, x => La.right x.l
def strip : Ltr → Item → Item
  | .b, x => .mk 0 x.s x.l x.ks
  | .n, x => .mk 0 x.s x.l x.ks
  | .t, x => .mk x.n ⟨#[]⟩ x.l x.ks
  | .f, x => .mk 0 x.s x.l x.ks
  | .l, x => .mk x.n x.s [] x.ks
def blank (x : Item) : Bool := decide (x.n = 0) && decide (x.s.size = 0) && decide (x.l.length = 0) && decide (x.ks.length = 0)
def only (L : Ltr) (x : Item) : Bool := right1 L x && blank (strip L x)
def fitsK (k : Ltr × Bool) (x : Item) : Bool := if k.2 then decide (x.ks.length ≤ 64) && x.ks.all (only k.1) && blank (.mk x.n x.s x.l []) else only k.1 x
def fitsAll : List (Ltr × Bool) → List Item → Bool
  | [], [] => true
  | k :: ks, x :: xs => fitsK k x && fitsAll ks xs
  | _, _ => false

def leb (n : Nat) : List Int := if n < 128 then [(n : Int)] else ((n % 128 + 128 : Nat) : Int) :: leb (n / 128)
def nums (s : ByteArray) : List Int := s.data.toList.map fun b => (b.toNat : Int)
def enc1 : Ltr → Item → List Int
  | .b, x => [x.n % 256]
  | .n, x => leb x.n.toNat
  | .t, x => leb x.s.size ++ nums x.s
  | .f, x => keyNums (Fl.place (Fl.bitsOf x.n.toNat))
  | .l, x => La.packL x.l
def encK (k : Ltr × Bool) (x : Item) : List Int := if k.2 then leb x.ks.length ++ x.ks.flatMap (enc1 k.1) else enc1 k.1 x
def encAll : List (Ltr × Bool) → List Item → List Int
  | k :: ks, x :: xs => encK k x ++ encAll ks xs
  | _, _ => []

theorem leb_small {n : Nat} (h : n < 128) : leb n = [(n : Int)] := by rw [leb, if_pos h]
theorem leb_big {n : Nat} (h : 128 ≤ n) : leb n = ((n % 128 + 128 : Nat) : Int) :: leb (n / 128) := by rw [leb, if_neg (by omega)]
theorem leb_len : ∀ (k n : Nat), n < 128 ^ (k + 1) → (leb n).length ≤ k + 1
  | 0, n, h => by rw [leb_small (by simpa using h)]; simp
  | k + 1, n, h => by
    by_cases h1 : n < 128
    · rw [leb_small h1]; simp
    · rw [leb_big (by omega), List.length_cons]
      have := leb_len k (n / 128) (by rw [Nat.pow_succ] at h; omega)
      omega
theorem leb_len64 {n : Nat} (h : n < 18446744073709551616) : (leb n).length ≤ 10 := leb_len 9 n (by omega)
theorem leb_inj : ∀ (a b : Nat) (r s : List Int), leb a ++ r = leb b ++ s → a = b ∧ r = s := by
  intro a
  induction a using Nat.strongRecOn with
  | _ a ih =>
    intro b r s h
    by_cases ha : a < 128
    · by_cases hb : b < 128
      · rw [leb_small ha, leb_small hb] at h
        simp only [List.cons_append, List.nil_append, List.cons.injEq] at h
        exact ⟨by omega, h.2⟩
      · rw [leb_small ha, leb_big (by omega)] at h
        simp only [List.cons_append, List.nil_append, List.cons.injEq] at h
        omega
    · by_cases hb : b < 128
      · rw [leb_big (by omega), leb_small hb] at h
        simp only [List.cons_append, List.nil_append, List.cons.injEq] at h
        omega
      · rw [leb_big (n := a) (by omega), leb_big (n := b) (by omega)] at h
        simp only [List.cons_append, List.cons.injEq] at h
        obtain ⟨h1, h2⟩ := ih (a / 128) (by omega) (b / 128) r s h.2
        exact ⟨by omega, h2⟩

theorem nums_len (s : ByteArray) : (nums s).length = s.size := by simp [nums]
theorem nums_inj {a b : ByteArray} (h : nums a = nums b) : a = b := by
  apply WideShapes.bytes_inj
  unfold nums at h
  refine List.map_inj_right (f := fun b : UInt8 => (b.toNat : Int)) (fun x y hxy => ?_) |>.1 h
  have : x.toNat = y.toNat := by omega
  exact UInt8.toNat_inj.1 this

theorem append_inj_len {a b r s : List Int} (h : a ++ r = b ++ s) (hl : a.length = b.length) : a = b ∧ r = s := List.append_inj h hl

theorem keyNums_len (p : Nat) : (keyNums p).length = 8 := rfl
theorem keyNums_inj {p q : Nat} (hp : p < 18446744073709551616) (hq : q < 18446744073709551616) (h : keyNums p = keyNums q) : p = q :=
  key_inj p q hp hq (by unfold keyOf; rw [h])
theorem be8_keyNums (t : Int) (h : 0 ≤ t) : La.be8 t = keyNums t.toNat := by
  unfold La.be8 keyNums; rw [Int.toNat_of_nonneg h]
theorem be8_inj {x y : Int} (hx : 0 ≤ x ∧ x < 18446744073709551616) (hy : 0 ≤ y ∧ y < 18446744073709551616) (h : La.be8 x = La.be8 y) : x = y := by
  rw [be8_keyNums x hx.1, be8_keyNums y hy.1] at h
  have := keyNums_inj (by omega) (by omega) h
  omega
theorem flat_inj : ∀ (a b r s : List Int), a.length = b.length → La.U64 a → La.U64 b → La.flat a ++ r = La.flat b ++ s → a = b ∧ r = s
  | [], [], r, s, _, _, _, h => ⟨rfl, by simpa [La.flat] using h⟩
  | x :: a, y :: b, r, s, hl, ha, hb, h => by
    unfold La.flat at h
    rw [List.flatMap_cons, List.flatMap_cons, List.append_assoc, List.append_assoc] at h
    obtain ⟨h1, h2⟩ := append_inj_len h rfl
    obtain ⟨h3, h4⟩ := flat_inj a b r s (by simpa using hl) (fun z hz => ha z (List.mem_cons_of_mem _ hz)) (fun z hz => hb z (List.mem_cons_of_mem _ hz)) h2
    exact ⟨by rw [be8_inj (ha x (by simp)) (hb y (by simp)) h1, h3], h4⟩
  | [], y :: b, _, _, hl, _, _, _ => by simp at hl
  | x :: a, [], _, _, hl, _, _, _ => by simp at hl
theorem packL_inj {a b r s : List Int} (ha : La.U64 a) (hb : La.U64 b) (h : La.packL a ++ r = La.packL b ++ s) : a = b ∧ r = s := by
  unfold La.packL at h
  rw [List.cons_append, List.cons_append, List.cons.injEq] at h
  exact flat_inj a b r s (by omega) ha hb h.2

theorem blank_iff (x : Item) : blank x = true ↔ x.n = 0 ∧ x.s = ⟨#[]⟩ ∧ x.l = [] ∧ x.ks = [] := by
  unfold blank
  simp only [Bool.and_eq_true, decide_eq_true_eq, List.length_eq_zero_iff]
  constructor
  · rintro ⟨⟨⟨h1, h2⟩, h3⟩, h4⟩
    refine ⟨h1, ?_, h3, h4⟩
    have h5 : x.s.data.toList = [] := List.eq_nil_of_length_eq_zero (by simpa using h2)
    exact WideShapes.bytes_inj (by rw [h5])
  · rintro ⟨h1, h2, h3, h4⟩
    exact ⟨⟨⟨h1, by rw [h2]; rfl⟩, h3⟩, h4⟩

theorem place_lt64 {b : Nat} (h : Fl.Fits b) : Fl.place b < 18446744073709551616 := by
  have := Fl.place_le h; unfold Fl.NANP at this; omega

theorem enc1_inj (L : Ltr) (d : Nat) (x y : Item) (r s : List Int) (fx : FitOne d x) (fy : FitOne d y) (hx : only L x = true) (hy : only L y = true) (h : enc1 L x ++ r = enc1 L y ++ s) : x = y ∧ r = s := by
  unfold only at hx hy
  rw [Bool.and_eq_true, blank_iff] at hx hy
  obtain ⟨x0, x1, _, _, xu, _⟩ := fx
  obtain ⟨y0, y1, _, _, yu, _⟩ := fy
  cases L
  · obtain ⟨hr, _, h2, h3, h4⟩ := hx
    obtain ⟨kr, _, k2, k3, k4⟩ := hy
    simp only [right1, decide_eq_true_eq] at hr kr
    simp only [enc1, List.cons_append, List.nil_append, List.cons.injEq] at h
    exact ⟨Item.ext4 (by omega) (h2.trans k2.symm) (h3.trans k3.symm) (h4.trans k4.symm), h.2⟩
  · obtain ⟨_, _, h2, h3, h4⟩ := hx
    obtain ⟨_, _, k2, k3, k4⟩ := hy
    obtain ⟨e1, e2⟩ := leb_inj _ _ _ _ h
    exact ⟨Item.ext4 (by omega) (h2.trans k2.symm) (h3.trans k3.symm) (h4.trans k4.symm), e2⟩
  · obtain ⟨_, h1, _, h3, h4⟩ := hx
    obtain ⟨_, k1, _, k3, k4⟩ := hy
    simp only [enc1, List.append_assoc] at h
    obtain ⟨e1, e2⟩ := leb_inj _ _ _ _ h
    obtain ⟨e3, e4⟩ := append_inj_len e2 (by rw [nums_len, nums_len]; exact e1)
    exact ⟨Item.ext4 (h1.trans k1.symm) (nums_inj e3) (h3.trans k3.symm) (h4.trans k4.symm), e4⟩
  · obtain ⟨hr, _, h2, h3, h4⟩ := hx
    obtain ⟨kr, _, k2, k3, k4⟩ := hy
    simp only [right1, decide_eq_true_eq] at hr kr
    obtain ⟨e1, e2⟩ := append_inj_len h rfl
    have fa : Fl.Fits (Fl.bitsOf x.n.toNat) := Fl.bitsOf_fits (Fl.Fits.mk (by omega))
    have fb : Fl.Fits (Fl.bitsOf y.n.toNat) := Fl.bitsOf_fits (Fl.Fits.mk (by omega))
    have e3 := keyNums_inj (place_lt64 fa) (place_lt64 fb) e1
    have e4 : Fl.bitsOf (Fl.bitsOf x.n.toNat) = Fl.bitsOf (Fl.bitsOf y.n.toNat) := by rw [← Fl.atB_place fa, ← Fl.atB_place fb, e3]
    exact ⟨Item.ext4 (by omega) (h2.trans k2.symm) (h3.trans k3.symm) (h4.trans k4.symm), e2⟩
  · obtain ⟨_, h1, h2, _, h4⟩ := hx
    obtain ⟨_, k1, k2, _, k4⟩ := hy
    obtain ⟨e1, e2⟩ := packL_inj xu yu h
    exact ⟨Item.ext4 (h1.trans k1.symm) (h2.trans k2.symm) e1 (h4.trans k4.symm), e2⟩

theorem flatMap_inj (L : Ltr) (d : Nat) : ∀ (a b : List Item) (r s : List Int), a.length = b.length → (∀ x ∈ a, FitOne d x) → (∀ x ∈ b, FitOne d x) → a.all (only L) = true → b.all (only L) = true →
    a.flatMap (enc1 L) ++ r = b.flatMap (enc1 L) ++ s → a = b ∧ r = s
  | [], [], r, s, _, _, _, _, _, h => ⟨rfl, by simpa using h⟩
  | x :: a, y :: b, r, s, hl, fa, fb, ha, hb, h => by
    rw [List.flatMap_cons, List.flatMap_cons, List.append_assoc, List.append_assoc] at h
    rw [List.all_cons, Bool.and_eq_true] at ha hb
    obtain ⟨h1, h2⟩ := enc1_inj L d x y _ _ (fa x (by simp)) (fb y (by simp)) ha.1 hb.1 h
    obtain ⟨h3, h4⟩ := flatMap_inj L d a b r s (by simpa using hl) (fun z hz => fa z (List.mem_cons_of_mem _ hz)) (fun z hz => fb z (List.mem_cons_of_mem _ hz)) ha.2 hb.2 h2
    exact ⟨by rw [h1, h3], h4⟩
  | [], y :: b, _, _, hl, _, _, _, _, _ => by simp at hl
  | x :: a, [], _, _, hl, _, _, _, _, _ => by simp at hl

theorem encK_inj (k : Ltr × Bool) (d : Nat) (x y : Item) (r s : List Int) (fx : FitOne (d + 1) x) (fy : FitOne (d + 1) y) (hx : fitsK k x = true) (hy : fitsK k y = true) (h : encK k x ++ r = encK k y ++ s) : x = y ∧ r = s := by
  obtain ⟨L, st⟩ := k
  cases st
  · exact enc1_inj L (d + 1) x y r s fx fy hx hy h
  · simp only [fitsK, if_true, Bool.and_eq_true, decide_eq_true_eq] at hx hy
    simp only [encK, if_true, List.append_assoc] at h
    obtain ⟨⟨_, hxk⟩, hxb⟩ := hx
    obtain ⟨⟨_, hyk⟩, hyb⟩ := hy
    obtain ⟨x1, x2, x3, _⟩ := (blank_iff _).1 hxb
    obtain ⟨y1, y2, y3, _⟩ := (blank_iff _).1 hyb
    obtain ⟨e1, e2⟩ := leb_inj _ _ _ _ h
    obtain ⟨e3, e4⟩ := flatMap_inj L d x.ks y.ks r s e1 fx.2.2.2.2.2.2 fy.2.2.2.2.2.2 hxk hyk e2
    exact ⟨Item.ext4 (x1.trans y1.symm) (x2.trans y2.symm) (x3.trans y3.symm) e3, e4⟩

theorem encAll_inj (d : Nat) : ∀ (ks : List (Ltr × Bool)) (a b : List Item) (r s : List Int), (∀ x ∈ a, FitOne (d + 1) x) → (∀ x ∈ b, FitOne (d + 1) x) → fitsAll ks a = true → fitsAll ks b = true →
    encAll ks a ++ r = encAll ks b ++ s → a = b ∧ r = s
  | [], [], [], r, s, _, _, _, _, h => ⟨rfl, by simpa [encAll] using h⟩
  | k :: ks, x :: a, y :: b, r, s, fa, fb, ha, hb, h => by
    unfold encAll at h
    rw [List.append_assoc, List.append_assoc] at h
    unfold fitsAll at ha hb
    rw [Bool.and_eq_true] at ha hb
    obtain ⟨h1, h2⟩ := encK_inj k d x y _ _ (fa x (by simp)) (fb y (by simp)) ha.1 hb.1 h
    obtain ⟨h3, h4⟩ := encAll_inj d ks a b r s (fun z hz => fa z (List.mem_cons_of_mem _ hz)) (fun z hz => fb z (List.mem_cons_of_mem _ hz)) ha.2 hb.2 h2
    exact ⟨by rw [h1, h3], h4⟩
  | [], [], y :: b, _, _, _, _, _, hb, _ => by simp [fitsAll] at hb
  | [], x :: a, _, _, _, _, _, ha, _, _ => by simp [fitsAll] at ha
  | k :: ks, [], _, _, _, _, _, ha, _, _ => by simp [fitsAll] at ha
  | k :: ks, x :: a, [], _, _, _, _, _, hb, _ => by simp [fitsAll] at hb

/-- bytes, all of them -/
def B256 (zs : List Int) : Prop := ∀ z ∈ zs, 0 ≤ z ∧ z < 256
theorem B256.nil : B256 [] := by intro z h; cases h
theorem B256.append {a b : List Int} (h : B256 a) (k : B256 b) : B256 (a ++ b) := by
  intro z hz; rcases List.mem_append.1 hz with h1 | h1
  · exact h z h1
  · exact k z h1
theorem B256.cons {a : Int} {b : List Int} (h : 0 ≤ a ∧ a < 256) (k : B256 b) : B256 (a :: b) := by
  intro z hz; rcases List.mem_cons.1 hz with rfl | h1
  · exact h
  · exact k z h1
theorem B256.flatMap {f : Item → List Int} : ∀ {l : List Item}, (∀ x ∈ l, B256 (f x)) → B256 (l.flatMap f)
  | [], _ => B256.nil
  | x :: l, h => by
    rw [List.flatMap_cons]
    exact (h x (by simp)).append (B256.flatMap (fun y hy => h y (List.mem_cons_of_mem _ hy)))
theorem leb_b256 : ∀ n : Nat, B256 (leb n) := by
  intro n
  induction n using Nat.strongRecOn with
  | _ n ih =>
    by_cases h : n < 128
    · rw [leb_small h]; exact B256.nil.cons (by omega)
    · rw [leb_big (by omega)]; exact (ih _ (by omega)).cons (by omega)
theorem nums_b256 (s : ByteArray) : B256 (nums s) := by
  intro z hz
  obtain ⟨b, _, rfl⟩ := List.mem_map.1 hz
  have : b.toNat < 256 := b.toNat_lt
  exact ⟨Int.natCast_nonneg _, Int.ofNat_lt.2 this⟩
theorem keyNums_b256 (p : Nat) : B256 (keyNums p) := by
  unfold keyNums
  intro z hz
  simp only [List.mem_cons, List.not_mem_nil, or_false] at hz
  omega
theorem be8_b256 (t : Int) : B256 (La.be8 t) := by
  unfold La.be8
  intro z hz
  simp only [List.mem_cons, List.not_mem_nil, or_false] at hz
  omega
theorem flat_b256 : ∀ l : List Int, B256 (La.flat l)
  | [] => B256.nil
  | x :: l => by unfold La.flat; rw [List.flatMap_cons]; exact (be8_b256 x).append (flat_b256 l)
theorem enc1_b256 (L : Ltr) (x : Item) (h : only L x = true) : B256 (enc1 L x) := by
  cases L
  · exact B256.nil.cons (by omega)
  · exact leb_b256 _
  · exact (leb_b256 _).append (nums_b256 _)
  · exact keyNums_b256 _
  · unfold only at h
    rw [Bool.and_eq_true] at h
    have := ((La.right_iff x.l).1 h.1).1
    exact (flat_b256 x.l).cons (by omega)
theorem encK_b256 (k : Ltr × Bool) (x : Item) (h : fitsK k x = true) : B256 (encK k x) := by
  obtain ⟨L, st⟩ := k
  cases st
  · exact enc1_b256 L x h
  · simp only [fitsK, if_true, Bool.and_eq_true, decide_eq_true_eq] at h
    simp only [encK, if_true]
    exact (leb_b256 _).append (B256.flatMap (fun y hy => enc1_b256 L y (List.all_eq_true.1 h.1.2 y hy)))
theorem encAll_b256 : ∀ (ks : List (Ltr × Bool)) (a : List Item), fitsAll ks a = true → B256 (encAll ks a)
  | [], [], _ => B256.nil
  | k :: ks, x :: a, h => by
    unfold fitsAll at h
    rw [Bool.and_eq_true] at h
    exact (encK_b256 k x h.1).append (encAll_b256 ks a h.2)
  | [], x :: a, h => by simp [fitsAll] at h
  | k :: ks, [], h => by simp [fitsAll] at h

theorem strOfNums_inj {a b : List Int} (ha : B256 a) (hb : B256 b) (h : strOfNums a = strOfNums b) : a = b := by
  have h2 : (a.map fun n => UInt8.ofNat n.toNat) = b.map fun n => UInt8.ofNat n.toNat := by
    rw [← strOfNums_data, ← strOfNums_data, h]
  clear h
  induction a generalizing b with
  | nil => cases b with
    | nil => rfl
    | cons y b => simp at h2
  | cons x a ih => cases b with
    | nil => simp at h2
    | cons y b =>
      simp only [List.map_cons, List.cons.injEq] at h2
      have hx := ha x (by simp)
      have hy := hb y (by simp)
      have h3 : (UInt8.ofNat x.toNat).toNat = (UInt8.ofNat y.toNat).toNat := by rw [h2.1]
      rw [u8_of x hx.1 hx.2, u8_of y hy.1 hy.2] at h3
      rw [ih (fun z hz => ha z (List.mem_cons_of_mem _ hz)) (fun z hz => hb z (List.mem_cons_of_mem _ hz)) h2.2, show x = y by omega]

theorem numsS_strOfNums' {zs : List Int} (h : B256 zs) : ((strOfNums zs).data.toList.map fun b => (b.toNat : Int)) = zs := by
  rw [strOfNums_data, List.map_map]
  conv => rhs; rw [← List.map_id zs]
  apply List.map_congr_left
  intro z hz
  have := h z hz
  simp only [Function.comp, id]
  rw [u8_of z this.1 this.2]; omega

/-- what wire.Print tells: the code, the bytes -/
def prC (sh : ByteArray) (a : List Item) : Int := match kindsOf sh with
  | none => 1
  | some ks => if fitsAll ks a then 0 else 1
def prS (sh : ByteArray) (a : List Item) : ByteArray := match kindsOf sh with
  | none => ⟨#[]⟩
  | some ks => if fitsAll ks a then strOfNums (encAll ks a) else ⟨#[]⟩

theorem prC_01 (sh : ByteArray) (a : List Item) : prC sh a = 0 ∨ prC sh a = 1 := by
  unfold prC; split
  · exact .inr rfl
  · split
    · exact .inl rfl
    · exact .inr rfl

theorem prS_inj {d : Nat} {sh : ByteArray} {a b : List Item} (fa : ∀ x ∈ a, FitOne (d + 1) x) (fb : ∀ x ∈ b, FitOne (d + 1) x) (ha : prC sh a = 0) (hb : prC sh b = 0) (h : prS sh a = prS sh b) : a = b := by
  unfold prC at ha hb
  unfold prS at h
  cases hk : kindsOf sh with
  | none => rw [hk] at ha; cases ha
  | some ks =>
    rw [hk] at ha hb h
    simp only at ha hb h
    by_cases h1 : fitsAll ks a = true
    · by_cases h2 : fitsAll ks b = true
      · rw [if_pos h1, if_pos h2] at h
        have h3 := strOfNums_inj (encAll_b256 ks a h1) (encAll_b256 ks b h2) h
        exact (encAll_inj d ks a b [] [] fa fb h1 h2 (by rw [h3])).1
      · rw [if_neg h2] at hb; cases hb
    · rw [if_neg h1] at ha; cases ha

end Go.Proofs.Ytmcackghpkegbaa
