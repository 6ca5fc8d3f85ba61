import Derived.Test.YtkmnjiejlgoglaaEWe
namespace Go.K
open Go.Proofs Go.RowKit
set_option linter.unusedVariables false
set_option linter.unusedSimpArgs false
set_option maxRecDepth 100000
attribute [local irreducible] Seq cw CallV AnyE opX
end Go.K
