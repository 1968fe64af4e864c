/- The program's calls of paint keep what the walk of First asks of them. -/
import Derived.Test.YtbmidmpooooheaaPaFirst
import Derived.Test.YtbmidmpooooheaaPaCode
set_option maxRecDepth 100000
namespace Go.Proofs.Ytbmidmpooooheaa.Fix
end Go.Proofs.Ytbmidmpooooheaa.Fix
