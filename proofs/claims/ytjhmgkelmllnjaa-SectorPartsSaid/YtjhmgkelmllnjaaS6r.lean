/- cloisonneref06: Right, Pack, Unpack, Parts: walked. -/
import Derived.Test.YtjhmgkelmllnjaaProg
import Derived.Test.YtjhmgkelmllnjaaS6m
import Derived.Test.YtjhmgkelmllnjaaChg
import Derived.KernelRfl
import Derived.BigQuiet
import Derived.Deep.RegionHeld3
namespace Go.Proofs.Ytjhmgkelmllnjaa
open Go.RowKit

theorem right_ways (x : Stp) : (x.gen < 1 ∧ x.ok = false) ∨
    (1 ≤ x.gen ∧ 2147483647 < x.gen ∧ x.ok = false) ∨
    (1 ≤ x.gen ∧ x.gen ≤ 2147483647 ∧ x.life < 1 ∧ x.ok = false) ∨
    (1 ≤ x.gen ∧ x.gen ≤ 2147483647 ∧ 1 ≤ x.life ∧ 2147483647 < x.life ∧ x.ok = false) ∨
    (1 ≤ x.gen ∧ x.gen ≤ 2147483647 ∧ 1 ≤ x.life ∧ x.life ≤ 2147483647 ∧ x.index < 0 ∧ x.ok = false) ∨
    (1 ≤ x.gen ∧ x.gen ≤ 2147483647 ∧ 1 ≤ x.life ∧ x.life ≤ 2147483647 ∧ 0 ≤ x.index ∧ 127 < x.index ∧ x.ok = false) ∨
    (1 ≤ x.gen ∧ x.gen ≤ 2147483647 ∧ 1 ≤ x.life ∧ x.life ≤ 2147483647 ∧ 0 ≤ x.index ∧ x.index ≤ 127 ∧ x.parts < 1 ∧ x.ok = false) ∨
    (1 ≤ x.gen ∧ x.gen ≤ 2147483647 ∧ 1 ≤ x.life ∧ x.life ≤ 2147483647 ∧ 0 ≤ x.index ∧ x.index ≤ 127 ∧ 1 ≤ x.parts ∧ 128 < x.parts ∧ x.ok = false) ∨
    (1 ≤ x.gen ∧ x.gen ≤ 2147483647 ∧ 1 ≤ x.life ∧ x.life ≤ 2147483647 ∧ 0 ≤ x.index ∧ x.index ≤ 127 ∧ 1 ≤ x.parts ∧ x.parts ≤ 128 ∧ x.part < 0 ∧ x.ok = false) ∨
    (1 ≤ x.gen ∧ x.gen ≤ 2147483647 ∧ 1 ≤ x.life ∧ x.life ≤ 2147483647 ∧ 0 ≤ x.index ∧ x.index ≤ 127 ∧ 1 ≤ x.parts ∧ x.parts ≤ 128 ∧ 0 ≤ x.part ∧ x.parts ≤ x.part ∧ x.ok = false) ∨
    (1 ≤ x.gen ∧ x.gen ≤ 2147483647 ∧ 1 ≤ x.life ∧ x.life ≤ 2147483647 ∧ 0 ≤ x.index ∧ x.index ≤ 127 ∧ 1 ≤ x.parts ∧ x.parts ≤ 128 ∧ 0 ≤ x.part ∧ x.part < x.parts ∧ x.ok = true) := by
  have T := Stp.ok_iff x
  by_cases c0 : 1 ≤ x.gen
  case neg =>
    have F : x.ok = false := by cases h : x.ok with | false => rfl | true => exact absurd (T.1 h) (by omega)
    exact .inl ⟨by omega, F⟩
  by_cases c1 : x.gen ≤ 2147483647
  case neg =>
    have F : x.ok = false := by cases h : x.ok with | false => rfl | true => exact absurd (T.1 h) (by omega)
    exact .inr (.inl ⟨c0, by omega, F⟩)
  by_cases c2 : 1 ≤ x.life
  case neg =>
    have F : x.ok = false := by cases h : x.ok with | false => rfl | true => exact absurd (T.1 h) (by omega)
    exact .inr (.inr (.inl ⟨c0, c1, by omega, F⟩))
  by_cases c3 : x.life ≤ 2147483647
  case neg =>
    have F : x.ok = false := by cases h : x.ok with | false => rfl | true => exact absurd (T.1 h) (by omega)
    exact .inr (.inr (.inr (.inl ⟨c0, c1, c2, by omega, F⟩)))
  by_cases c4 : 0 ≤ x.index
  case neg =>
    have F : x.ok = false := by cases h : x.ok with | false => rfl | true => exact absurd (T.1 h) (by omega)
    exact .inr (.inr (.inr (.inr (.inl ⟨c0, c1, c2, c3, by omega, F⟩))))
  by_cases c5 : x.index ≤ 127
  case neg =>
    have F : x.ok = false := by cases h : x.ok with | false => rfl | true => exact absurd (T.1 h) (by omega)
    exact .inr (.inr (.inr (.inr (.inr (.inl ⟨c0, c1, c2, c3, c4, by omega, F⟩)))))
  by_cases c6 : 1 ≤ x.parts
  case neg =>
    have F : x.ok = false := by cases h : x.ok with | false => rfl | true => exact absurd (T.1 h) (by omega)
    exact .inr (.inr (.inr (.inr (.inr (.inr (.inl ⟨c0, c1, c2, c3, c4, c5, by omega, F⟩))))))
  by_cases c7 : x.parts ≤ 128
  case neg =>
    have F : x.ok = false := by cases h : x.ok with | false => rfl | true => exact absurd (T.1 h) (by omega)
    exact .inr (.inr (.inr (.inr (.inr (.inr (.inr (.inl ⟨c0, c1, c2, c3, c4, c5, c6, by omega, F⟩)))))))
  by_cases c8 : 0 ≤ x.part
  case neg =>
    have F : x.ok = false := by cases h : x.ok with | false => rfl | true => exact absurd (T.1 h) (by omega)
    exact .inr (.inr (.inr (.inr (.inr (.inr (.inr (.inr (.inl ⟨c0, c1, c2, c3, c4, c5, c6, c7, by omega, F⟩))))))))
  by_cases c9 : x.part < x.parts
  case neg =>
    have F : x.ok = false := by cases h : x.ok with | false => rfl | true => exact absurd (T.1 h) (by omega)
    exact .inr (.inr (.inr (.inr (.inr (.inr (.inr (.inr (.inr (.inl ⟨c0, c1, c2, c3, c4, c5, c6, c7, c8, by omega, F⟩)))))))))
  exact .inr (.inr (.inr (.inr (.inr (.inr (.inr (.inr (.inr (.inr (⟨c0, c1, c2, c3, c4, c5, c6, c7, c8, c9, T.2 (by omega)⟩))))))))))

/-- a stamp in a box at q -/
structure BoxS (w : World) (q : Nat) (g i l p n : Int) : Prop where
  c0 : w.cell? ⟨q, 0, none⟩ = some (.int .i64 g)
  c1 : w.cell? ⟨q, 1, none⟩ = some (.int .i64 i)
  c2 : w.cell? ⟨q, 2, none⟩ = some (.int .i64 l)
  c3 : w.cell? ⟨q, 3, none⟩ = some (.int .i64 p)
  c4 : w.cell? ⟨q, 4, none⟩ = some (.int .i64 n)
theorem BoxS.of_row {w : World} {q : Nat} {g i l p n : Int} {t : TypeId} (h : RowAt w q [.int .i64 g, .int .i64 i, .int .i64 l, .int .i64 p, .int .i64 n] t) : BoxS w q g i l p n := ⟨h.cell 0, h.cell 1, h.cell 2, h.cell 3, h.cell 4⟩

end Go.Proofs.Ytjhmgkelmllnjaa
