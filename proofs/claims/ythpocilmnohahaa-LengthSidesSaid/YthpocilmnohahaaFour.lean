/- Arrays of four integers, compared. -/
import Derived.Test.YthpocilmnohahaaFix
import Derived.Laws.StructEq
namespace Go.Proofs.Ythpocilmnohahaa.Fix
open Go.ChangeShapes Go.WideShapes Go.ChangeAt Go.RowKit
set_option linter.unusedVariables false

set_option maxHeartbeats 4000000 in
theorem equal_four (n : Nat) (a b c d a' b' c' d' : Int) (w : World) : (Op.equalIn (n + 1 + 1) 30 (.agg #[.int .i64 a, .int .i64 b, .int .i64 c, .int .i64 d]) (.agg #[.int .i64 a', .int .i64 b', .int .i64 c', .int .i64 d'])).run Try.prog w = .ok (decide (a = a') && decide (b = b') && decide (c = c') && decide (d = d')) w := by
  have hi := run_equalIn_int (P := Try.prog) w n 3 .i64 .i64
  have hr : List.range' 0 4 = [0, 1, 2, 3] := rfl
  have hs : Try.t3.size = 1 := by kernel_rfl
  have hu : Try.prog.underlying 3 = some (.int .i64) := Try.underlying3
  unfold Op.equalIn
  by_cases h1 : a = a' <;> by_cases h2 : b = b' <;> by_cases h3 : c = c' <;> by_cases h4 : d = d' <;> simp [run_underlying Try.underlying30, sizeOf, hr, hs, part, hi _ _ hu, h1, h2, h3, h4]

theorem run_eql_four (a b c d a' b' c' d' : Int) (w : World) : (binOp .eql 30 (.agg #[.int .i64 a, .int .i64 b, .int .i64 c, .int .i64 d]) (.agg #[.int .i64 a', .int .i64 b', .int .i64 c', .int .i64 d'])).run Try.prog w = .ok (.bool (decide (a = a') && decide (b = b') && decide (c = c') && decide (d = d'))) w := by
  rw [run_eql_struct, show (10000 : Nat) = 9998 + 1 + 1 from rfl, equal_four]
  rfl
end Go.Proofs.Ythpocilmnohahaa.Fix
