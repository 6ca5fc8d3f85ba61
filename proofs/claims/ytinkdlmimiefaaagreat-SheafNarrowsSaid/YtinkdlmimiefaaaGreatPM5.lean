/- Contracts of the reference's functions on plots. -/
import Derived.Test.YtinkdlmimiefaaaGreatProg
import Derived.Test.YtinkdlmimiefaaaGreatPM5a
namespace Go.K
open Go.Proofs Go.RowKit
set_option linter.unusedVariables false
set_option linter.unusedSimpArgs false
set_option maxRecDepth 100000
attribute [local irreducible] Seq Step CallV AnyE opX

def Q1 {α : Type} (f p : α → Int) (l : List α) (i : Nat) (y : α) : Prop := p y = 0 ∧ ∀ x, 0 < i → l[i - 1]? = some x → f x < f y
end Go.K
