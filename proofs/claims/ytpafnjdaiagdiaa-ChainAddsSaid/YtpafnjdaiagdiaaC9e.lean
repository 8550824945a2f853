/- Versions and values compared. -/
import Derived.Test.YtpafnjdaiagdiaaC9m
import Derived.WalkKit
namespace Go.Proofs.Ytpafnjdaiagdiaa
open Go.RowKit

set_option maxRecDepth 100000 in
theorem eqIn_val (d : Nat) (w : World) (b b' : Bool) (s s' : ByteArray) (k k' : Int) :
    (Op.equalIn (d + 2) 27 (.agg #[.bool b, .string s, .int .u64 k]) (.agg #[.bool b', .string s', .int .u64 k'])).run Try.prog w = .ok ((b == b') && ((s.toList == s'.toList) && (k == k'))) w := by
  rw [run_equalIn_struct w (d + 1) 27 _ _ (by kernel_rfl) (by kernel_rfl)]
  simp [go_sem]
  by_cases h1 : b = b' <;> by_cases h2 : s.toList = s'.toList <;> by_cases h3 : k = k' <;> simp [h1, h2, h3]
set_option maxRecDepth 100000 in
theorem eqIn_ver (d : Nat) (w : World) (q q' : Int) (g g' b b' : Bool) (s s' : ByteArray) (k k' : Int) :
    (Op.equalIn (d + 3) 29 (.agg #[.int .i64 q, .bool g, .bool b, .string s, .int .u64 k]) (.agg #[.int .i64 q', .bool g', .bool b', .string s', .int .u64 k'])).run Try.prog w = .ok ((q == q') && ((g == g') && ((b == b') && ((s.toList == s'.toList) && (k == k'))))) w := by
  rw [run_equalIn_struct w (d + 2) 29 _ _ (by kernel_rfl) (by kernel_rfl)]
  have hv : ∀ w : World, (Op.equalIn (d + 2) 27 (.agg #[.bool b, .string s, .int .u64 k]) (.agg #[.bool b', .string s', .int .u64 k'])).run Try.prog w = .ok ((b == b') && ((s.toList == s'.toList) && (k == k'))) w := fun w => eqIn_val d w b b' s s' k k'
  generalize ((b == b') && ((s.toList == s'.toList) && (k == k'))) = r at hv ⊢
  simp [go_sem, hv]
  by_cases h1 : q = q' <;> by_cases h2 : g = g' <;> cases r <;> simp [h1, h2]
/-- x == y, x != y -/
theorem eql_ver (x y : Ver) (w : World) : (binOp .eql 29 x.v y.v).run Try.prog w = .ok (.bool (x.same y)) w := by
  unfold Ver.v
  rw [run_eql_struct, eqIn_ver 9997]; rfl
theorem neq_ver (x y : Ver) (w : World) : (binOp .neq 29 x.v y.v).run Try.prog w = .ok (.bool (!(x.same y))) w := by
  unfold Ver.v
  rw [run_neq_struct, eqIn_ver 9997]; rfl
theorem neq_zero (x : Val) (w : World) : (binOp .neq 27 x.v Val.V0.v).run Try.prog w = .ok (.bool (!x.isZ)) w := by
  unfold Val.v
  rw [run_neq_struct, eqIn_val 9998]
  show Result.ok (Value.bool (!((x.num == false) && ((x.txt.toList == (⟨#[]⟩ : ByteArray).toList) && ((x.bits : Int) == 0))))) w = _
  rw [show (⟨#[]⟩ : ByteArray).toList = [] by kernel_rfl]
  rfl

end Go.Proofs.Ytpafnjdaiagdiaa
