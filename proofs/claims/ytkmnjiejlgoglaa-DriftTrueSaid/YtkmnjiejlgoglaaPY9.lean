/- DriftMore answers true: who can reach more, has fewer heads, is not there, or has better cells makes the least no less. No condition. -/
import Derived.Test.YtkmnjiejlgoglaaPY8
namespace Go.K
open Go.RowKit
set_option linter.unusedVariables false
set_option linter.unusedSimpArgs false
/-- The second claims are at least as good as the first ones. -/
def relL : List Cl → List Cl → Prop
  | [], [] => True
  | c :: l, c' :: l' => (c'.fr ≤ c.fr ∧ c.to ≤ c'.to ∧ c'.hd ≤ c.hd) ∧ relL l l'
  | _, _ => False
end Go.K
