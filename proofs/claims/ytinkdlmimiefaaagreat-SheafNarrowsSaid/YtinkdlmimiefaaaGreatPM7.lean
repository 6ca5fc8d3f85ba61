/- Contracts of the laws' own comparisons. -/
import Derived.Test.YtinkdlmimiefaaaGreatProg
import Derived.Test.YtinkdlmimiefaaaGreatPM6
import Derived.Laws.StructEq
import Derived.Tactics2
namespace Go.K
open Go.Proofs Go.RowKit
set_option linter.unusedVariables false
set_option linter.unusedSimpArgs false
set_option maxRecDepth 100000
attribute [local irreducible] Seq Step CallV AnyE opX

section lists
variable {α : Type} [DecidableEq α] {a b : List α} {k : Nat} {s S : Bool}
end lists

end Go.K
