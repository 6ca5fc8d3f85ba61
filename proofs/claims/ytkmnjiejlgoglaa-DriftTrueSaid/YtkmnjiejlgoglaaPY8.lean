/- DriftLeast answers true: the sharing that is found is the best one, and walls are right. No condition. -/
import Derived.Test.YtkmnjiejlgoglaaPY7
namespace Go.K
open Go.RowKit
set_option linter.unusedVariables false
set_option linter.unusedSimpArgs false
def cmpG (a b : Gn) : Int := if mt b a then -1 else if mt a b then 1 else 0
end Go.K
