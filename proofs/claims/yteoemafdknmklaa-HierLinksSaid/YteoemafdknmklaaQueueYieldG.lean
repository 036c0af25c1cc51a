/- What Yield of package runq does. Conditions: each number is one of its kind. -/
import Derived.Test.YteoemafdknmklaaQueueYield
namespace Go.Proofs.Yteoemafdknmklaa.Queue
open Go.ChangeShapes Go.WideShapes Go.ChangeAt Go.RowKit Tree
set_option linter.unusedVariables false
set_option linter.unusedSimpArgs false
set_option maxRecDepth 100000

end Go.Proofs.Yteoemafdknmklaa.Queue
