/- The contracts of the calls of the layer margin (and of the document's own answers for it) that make no row: Collapse, Pair, Auto. -/
import Derived.Test.YtbmidmpooooheaaLen
import Derived.Test.YtbmidmpooooheaaFixSum
import Derived.Test.YtbmidmpooooheaaMarMath
import Derived.Lib.MinMax
set_option maxRecDepth 100000
namespace Go.Proofs.Ytbmidmpooooheaa.Fix
open Go.ChangeShapes Go.WideShapes Go.ChangeAt Go.RowKit
set_option linter.unusedVariables false


theorem ints_two (w : World) (a b : Int) (T : TypeId) : Ints (w.alloc (.cells #[.int .i64 a, .int .i64 b] T)) (some ⟨w.heap.size, 0, none⟩) [a, b] := ints_new w [a, b] T (by simp)

theorem wrap_half (a b : Int) : wrap64 (Fx.sub a b - Fx.sub a b / 2) = Fx.sub a b - Fx.sub a b / 2 := by
  have h1 := Fx.sub_le a b
  have h2 := Fx.sub_ge a b
  exact IntWalk.wrap64_in _ (by omega)

end Go.Proofs.Ytbmidmpooooheaa.Fix
