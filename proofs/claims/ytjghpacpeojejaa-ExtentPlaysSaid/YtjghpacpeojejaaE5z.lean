/- What each call of ExtentPlays leaves, a box beside the worlds. -/
import Derived.Test.YtjghpacpeojejaaE5x
import Derived.Test.YtjghpacpeojejaaE5t
namespace Go.Proofs.Ytjghpacpeojejaa
open Go.RowKit

/-- both worlds are m, the box o lies at q, and nothing below B has turned since w0 -/
structure St (R : RelE) (B : Nat) (w0 : World) (b p g : Nat) (m : Ext) (q : Nat) (o : Obj) (v : World) : Prop where
  two : Two (WithQ R q o) B v b p g m m
  below : Below B w0 v
section
variable {R : RelE} {B b p g q : Nat} {m : Ext} {o : Obj} {w0 v v' : World}
theorem St.drew (X : ExtOps R) (h : St R B w0 b p g m q o v) : St R B w0 b p g m q o v.drew := ⟨h.two.drew (X.withQ q o), below_drew h.below⟩
theorem St.drewN (X : ExtOps R) (h : St R B w0 b p g m q o v) (n : Nat) : St R B w0 b p g m q o (v.drewN n) := ⟨h.two.drewN (X.withQ q o) n, below_drewN h.below n⟩
theorem St.off (h : St R B w0 b p g m q o v) : v.cell? ⟨p, 0, none⟩ = some (.bool m.off) := by
  obtain ⟨F, t⟩ := h.two; exact t.e.p0
theorem St.cell {x0 x1 x2 x3 x4 : Value} {T : TypeId} (h : St R B w0 b p g m q (.cells #[x0, x1, x2, x3, x4] T) v) :
    v.cell? ⟨q, 0, none⟩ = some x0 ∧ v.cell? ⟨q, 1, none⟩ = some x1 ∧ v.cell? ⟨q, 2, none⟩ = some x2 ∧ v.cell? ⟨q, 3, none⟩ = some x3 ∧ v.cell? ⟨q, 4, none⟩ = some x4 := by
  have r : RowAt v q [x0, x1, x2, x3, x4] T := h.two.alone.2
  exact ⟨r.cell 0, r.cell 1, r.cell 2, r.cell 3, r.cell 4⟩
theorem St.new (X : ExtOps R) (h : Two R B v b p g m m) (hb : Below B w0 v) (o : Obj) : St R B w0 b p g m v.heap.size o (v.alloc o) :=
  ⟨h.beside X o, hb.alloc h.size o⟩
theorem c_does (X : ExtOps R) (xk xe xa : Int) (xs : ByteArray) (ps : List (Int × Int)) (PL : Nat) (AP : Option Addr) (cP : Nat) (hPL : PL = ps.length) (ho : Act5.Ok ⟨xk, xe, xa, xs, ps⟩) (hN : AP = none → ps = [] ∧ cP = 0) (hA : 0 < ps.length → ∀ q o, AP = some ⟨q, o, none⟩ → q < B) (hs : SlPk w0 AP ps)
    (v : World) (h : St R B w0 b p g m q o v) :
    Calls Try.prog 10 #[.pointer (some ⟨b, 0, none⟩), .pointer (some ⟨p, 0, none⟩), .agg #[.int .i64 xk, .int .i64 xe, .int .i64 xa, .string xs, .slice AP PL cP]] v fun r v' => r = .returned (.bool true) ∧ St R B w0 b p g (m.act ⟨xk, xe, xa, xs, ps⟩) q o v' := by
  subst hPL
  exact (does5 (X.withQ q o) ⟨xk, xe, xa, xs, ps⟩ AP cP v h.two ho (hs.belowB h.below hA) hA hN).mono fun _ _ hh => ⟨hh.1, hh.2.1, h.below.trans hh.2.2⟩
theorem c_alike (X : ExtOps R) (xe xa : Int) (he : In64 xe) (ha : In64 xa) (v : World) (h : St R B w0 b p g m q o v) :
    Calls Try.prog 11 #[.pointer (some ⟨b, 0, none⟩), .pointer (some ⟨p, 0, none⟩), .int .i64 xe, .int .i64 xa] v fun r v' => r = .returned (.bool true) ∧ St R B w0 b p g m q o v' :=
  (alike5 (X.withQ q o) xe xa v h.two he ha).mono fun _ _ hh => ⟨hh.1, hh.2.1, h.below.trans hh.2.2⟩
theorem c_on (X : ExtOps R) (v : World) (h : St R B w0 b p g m q o v) :
    Calls Try.prog 12 #[.pointer (some ⟨b, 0, none⟩)] v fun r v' => r = .returned (.bool (!m.off)) ∧ St R B w0 b p g m q o v' := by
  obtain ⟨F, t⟩ := h.two
  exact ((X.withQ q o).on b F m v t.r).mono fun _ _ hh => by
    have := t.left hh.2; exact ⟨hh.1, this.1, h.below.trans this.2⟩
theorem c_wet (X : ExtOps R) (xe : Int) (he : In64 xe) (n : Nat) (zs : List Int) (hz : zs = m.wet xe) (hn : n = zs.length) (v : World) (h : St R B w0 b p g m q o v) :
    Calls Try.prog 14 #[.pointer (some ⟨b, 0, none⟩), .int .i64 xe] v fun r v' => (∃ A c, r = .returned (.slice A n c) ∧ SlJ v' A zs) ∧ St R B w0 b p g m q o v' := by
  subst hn; subst hz
  obtain ⟨F, t⟩ := h.two
  exact ((X.withQ q o).wet b F m xe v t.r he).mono fun _ _ hh => by
    have := t.left hh.2; exact ⟨hh.1, this.1, h.below.trans this.2⟩
theorem c_rwet (X : ExtOps R) (xe : Int) (he : In64 xe) (n : Nat) (zs : List Int) (hz : zs = m.wet xe) (hn : n = zs.length) (A0 : Option Addr) (v : World) (h : St R B w0 b p g m q o v) (h0 : SlJ v A0 zs) :
    Calls Try.prog 15 #[.pointer (some ⟨p, 0, none⟩), .int .i64 xe] v fun r v' => (∃ A c, r = .returned (.slice A n c) ∧ SlJ v' A zs ∧ SlJ v' A0 zs) ∧ St R B w0 b p g m q o v' := by
  subst hn; subst hz
  obtain ⟨F, t⟩ := h.two
  exact (eWet p g m xe v t.e he).mono fun _ _ hh => by
    have h2 := t.new (X.withQ q o) hh.2
    obtain ⟨⟨A, c, h1, hs⟩, hb⟩ := hh
    exact ⟨⟨A, c, h1, hs, h0.below hb⟩, h2, h.below.trans (hb.mono t.s)⟩
theorem c_ints (X : ExtOps R) (A A' : Option Addr) (c c' n : Nat) (zs : List Int) (hn : n = zs.length) (hl : n ≤ 1000000) (v : World) (h : St R B w0 b p g m q o v) (h0 : SlJ v A zs) (h1 : SlJ v A' zs) :
    Calls Try.prog 13 #[.slice A n c, .slice A' n c'] v fun r v' => r = .returned (.bool true) ∧ St R B w0 b p g m q o v' := by
  subst hn
  exact (eInts A A' c c' zs zs v h0 h1 hl).mono fun _ _ ⟨hr, k, hw⟩ => by
    subst hw
    exact ⟨by rw [hr, decide_eq_true rfl], h.drewN X k⟩
theorem wet_le {m : Ext} (ho : m.Ok) (e : Int) : (m.wet e).length ≤ 1000000 := by
  have := wetTo_len m e m.sec
  have := ho.2.2.2.1
  show (m.wetTo e m.sec).length ≤ _
  omega
/-- an act keeps the dimensions -/
theorem act_dims (m : Ext) (x : Act5) : (m.act x).ext = m.ext ∧ (m.act x).sec = m.sec := by
  unfold Ext.act Ext.write Ext.flush Ext.crash Ext.start Ext.lay Ext.put
  repeat' split
  all_goals exact ⟨rfl, rfl⟩
end

end Go.Proofs.Ytjghpacpeojejaa
