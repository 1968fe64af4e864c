/- The program's calls of paint keep what the walk of Orders asks of them. -/
import Derived.Test.YtbmidmpooooheaaPaOrders
import Derived.Test.YtbmidmpooooheaaPaCode
set_option maxRecDepth 100000
namespace Go.Proofs.Ytbmidmpooooheaa.Fix
end Go.Proofs.Ytbmidmpooooheaa.Fix
