/- Stage 1: facts, reckoned. No condition. -/
import Derived.Test.YtinkdlmimiefaaaGreatProg
import Derived.Test.YtinkdlmimiefaaaGreatPXG
namespace Go.K
open Go.Proofs Go.RowKit
set_option linter.unusedVariables false
set_option maxRecDepth 100000
def fMoved : Fact := ⟨55, [aP, i_ 11, i_ 2], rP, [(w_ [30, 35, 58], 3)], .t [.s 3 0 3 1, i_ 0]⟩
theorem fMoved_ok : FactOk Tryz.prog fMoved := fact_of mixed named (knownOf_ok exts_ok) 1000 60 (2 ^ 200) fMoved (by kernel_rfl)
end Go.K
