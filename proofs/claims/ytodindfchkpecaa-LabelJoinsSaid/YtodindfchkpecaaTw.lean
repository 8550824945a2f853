/- Two rows of the call's own that grow side by side; label.In whatever the second list. -/
import Derived.Test.YtodindfchkpecaaIu
import Derived.Test.YtodindfchkpecaaOf
import Derived.Test.YtodindfchkpecaaMk
import Derived.Maps.AppendAt
namespace Go.Proofs.Ytodindfchkpecaa
open Go.RowKit

/-- u and v are rows of the call's own, in two blocks -/
structure Two (w : World) (B : Nat) (u v : Value) (xs ys : List Int) : Prop where
  ou : Own w B u xs
  ov : Own w B v ys
  nu : u.ownBlock ≠ none
  nv : v.ownBlock ≠ none
  ne : u.ownBlock ≠ v.ownBlock

theorem Two.symm {w : World} {B : Nat} {u v : Value} {xs ys : List Int} (h : Two w B u v xs ys) : Two w B v u ys xs := ⟨h.ov, h.ou, h.nv, h.nu, h.ne.symm⟩
theorem Two.alloc {w : World} {B : Nat} {u v : Value} {xs ys : List Int} (h : Two w B u v xs ys) (o : Obj) : Two (w.alloc o) B u v xs ys := ⟨h.ou.alloc o, h.ov.alloc o, h.nu, h.nv, h.ne⟩
theorem Two.made (w : World) (B : Nat) (hB : B ≤ w.heap.size) :
    Two ((w.alloc (.cells #[] 23)).alloc (.cells #[] 23)) B (.slice (some ⟨w.heap.size, 0, none⟩) 0 0) (.slice (some ⟨w.heap.size + 1, 0, none⟩) 0 0) [] [] := by
  refine ⟨(Own.made w B hB [] (Nat.zero_le _)).alloc _, ?_, by simp [Value.ownBlock], by simp [Value.ownBlock], by simp [Value.ownBlock]⟩
  have h := Own.made (w.alloc (.cells #[] 23)) B (by simp; omega) [] (Nat.zero_le _)
  simpa using h

/-- append(v, x), another row beside it -/
theorem wp_put2 {ops : Array Oper} {rest : List Oper} {o : Oper} {a : Act} {Q : Exit → Act → World → Prop} (hgd : o.guard = none) (s x : Operand)
    (ho : o.op = .call { callee := .builtin .append, args := #[s, x], argTypes := #[22, 22] })
    (B : Nat) (v u : Value) (zs us : List Int) (hs : a.eval s = v) {w : World} (two : Two w B v u zs us) (g : Nat) (y : Int) (hx : a.eval x = .slice (some ⟨g, 0, none⟩) 1 1)
    (hc : w.cell? ⟨g, 0, none⟩ = some (.int .u64 y)) (hl : zs.length + 1 ≤ 1099511627776) (hB : B ≤ w.heap.size)
    (h : ∀ v' w', Two w' B v' u (zs ++ [y]) us → Below B w w' → wpList Try.prog ops Q rest (a.put o.dst v') w') : wpList Try.prog ops Q (o :: rest) a w := by
  obtain ⟨i0, hi, hz0, hz1, hz2⟩ := info_parts infoU
  refine wpList_append_own_at w hgd s x 22 ho B 23 i0 _ 1 8 Try.underlying22 hi hz0 hz1 hz2 rfl (by decide) v zs.length _ hs two.ou ⟨g, 0, none⟩ 1 1 [.int .u64 y] hx rfl ?_ ?_
    (by unfold maxLen; omega) (by omega) hB ?_
  · intro j u hj
    cases j with
    | zero => simp at hj; subst hj; exact hc
    | succ j => simp at hj
  · intro u hu; simp at hu; subst hu; rfl
  · intro v' w' h1 h2 _ hat
    have k1 : Own w' B v' (zs ++ [y]) := by unfold Own; simpa using h1
    have k2 : Own w' B u us := World.ownsRow.kept two.ov h2 (.inr two.ne.symm)
    refine h v' w' ⟨k1, k2, ?_, two.nv, ?_⟩ ((Below.refl _ _).grown h2 hB (fun k hk => (World.ownsRow.lt two.ou k hk).1))
    · rcases hat with e | e
      · rw [e]; exact two.nu
      · rw [e]; simp
    · rcases hat with e | e
      · rw [e]; exact two.ne
      · rw [e]
        intro e2
        have := (own_lt two.ov _ e2.symm).2
        omega

/-- label.In -/
theorem lin_any (A B : Option Addr) (c d : Nat) (a b : List Int) (w : World) (h : Sl w A a) (hb : Sl w B b) (hm : a.length ≤ maxLen) (hn : b.length ≤ 60) :
    Calls Try.prog 20 #[.slice A a.length c, .slice B b.length d] w fun e w' => e = .returned (.bool (La.inn a b)) ∧ Below w.heap.size w w' := by
  cases hs : La.ascB b
  · exact lin_unsorted A B c d a b w h hb hm hn hs
  · refine (lin_asc A B c d a b w h hb hm (by omega) hs).mono fun e w' ⟨he, n, hw⟩ => ⟨he, ?_⟩
    rw [hw]; exact below_drewN (Below.refl _ _) n

theorem part_take (a b : List Int) (s : Bool) (k : Nat) (h : k < a.length) : La.parted (a.take (k + 1)) b s = La.parted (a.take k) b s ++ (if La.has b (a.getD k 0) == s then [a.getD k 0] else []) := by
  rw [La.take_succ a k h]
  unfold La.parted
  rw [List.filter_append]
  congr 1
  cases hh : (La.has b (a.getD k 0) == s)
  · simp only [List.filter_cons, hh, List.filter_nil]
  · simp only [List.filter_cons, hh, List.filter_nil]

end Go.Proofs.Ytodindfchkpecaa
