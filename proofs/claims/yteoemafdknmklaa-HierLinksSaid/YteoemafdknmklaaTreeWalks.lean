/- What Walk of package rbtree answers. Conditions: there are no more than a thousand keys. -/
import Derived.Test.YteoemafdknmklaaTreeWalk
namespace Go.Proofs.Yteoemafdknmklaa.Queue
open Go.ChangeShapes Go.WideShapes Go.ChangeAt Go.RowKit Tree
set_option linter.unusedVariables false
set_option linter.unusedSimpArgs false
set_option maxRecDepth 100000

end Go.Proofs.Yteoemafdknmklaa.Queue
