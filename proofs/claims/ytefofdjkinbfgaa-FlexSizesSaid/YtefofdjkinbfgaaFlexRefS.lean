/- The contract of the document's own Sizes of the layer flex. Written by wip/tools/genflexrefs.py. -/
import Derived.Test.YtefofdjkinbfgaaFlexRefST
import Derived.Test.YtefofdjkinbfgaaFlexRefSF
namespace Go.Proofs.Ytefofdjkinbfgaa.Fix
open Go.ChangeShapes Go.WideShapes Go.ChangeAt Go.RowKit
set_option linter.unusedVariables false

theorem rsizes_any (A : Option Addr) (l : Nat → Fe.It) (n c : Nat) (x : Int) (w : World) (hI : Items w A l n) (hn : n ≤ 64) :
    Calls Try.prog 16 #[.slice A n c, .int .i64 x] w fun e w' => (∃ b, e = .returned (.slice (some ⟨b, 0, none⟩) n n) ∧ Ints w' (some ⟨b, 0, none⟩) (sizesOf l n x)) ∧ Below w.heap.size w w' := by
  cases h : Fe.gro l n (Fe.to x 67108864) with
  | true => exact rsizes_up A l n c x w hI hn h
  | false => exact rsizes_down A l n c x w hI hn h

end Go.Proofs.Ytefofdjkinbfgaa.Fix
