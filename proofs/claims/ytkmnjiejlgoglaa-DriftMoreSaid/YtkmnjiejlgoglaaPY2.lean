/- Turn, and the equality of lists of claims, in closed forms; DriftChecks answers true. No condition. -/
import Derived.Test.YtkmnjiejlgoglaaPY1
namespace Go.K
open Go.RowKit
set_option linter.unusedVariables false
set_option linter.unusedSimpArgs false
def turned (l : List Cl) (d : Int) : List Cl := l.drop (d.tmod l.length).toNat ++ l.take (d.tmod l.length).toNat
theorem sane4 (n : Nat) : F11 (n + 60) = some true := by kernel_rfl
end Go.K
