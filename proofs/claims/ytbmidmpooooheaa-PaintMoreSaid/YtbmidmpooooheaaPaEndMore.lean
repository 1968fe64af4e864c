/- The program's calls of paint keep what the walk of More asks of them. -/
import Derived.Test.YtbmidmpooooheaaPaMore
import Derived.Test.YtbmidmpooooheaaPaCode
set_option maxRecDepth 100000
namespace Go.Proofs.Ytbmidmpooooheaa.Fix
end Go.Proofs.Ytbmidmpooooheaa.Fix
