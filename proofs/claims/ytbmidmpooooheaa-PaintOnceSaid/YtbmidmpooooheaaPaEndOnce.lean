/- The program's calls of paint keep what the walk of Once asks of them. -/
import Derived.Test.YtbmidmpooooheaaPaOnce
import Derived.Test.YtbmidmpooooheaaPaCode
set_option maxRecDepth 100000
namespace Go.Proofs.Ytbmidmpooooheaa.Fix
end Go.Proofs.Ytbmidmpooooheaa.Fix
