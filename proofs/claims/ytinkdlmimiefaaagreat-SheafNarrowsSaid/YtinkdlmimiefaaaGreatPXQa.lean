/- Stage 1: facts, reckoned. No condition. -/
import Derived.Test.YtinkdlmimiefaaaGreatProg
import Derived.Test.YtinkdlmimiefaaaGreatPX0
namespace Go.K
open Go.Proofs Go.RowKit
set_option linter.unusedVariables false
set_option maxRecDepth 100000
def fStood_by1 : Fact := ⟨102, [.a [i_ 100, i_ 120, .s 0 0 3 6, .s 1 0 2 6, .s 2 0 2 6, i_ 2, .s 3 0 3 6]], [(w_ [1, 30, 40, 50, 0, 0, 2, 35, 30, 40, 0, 0, 3, 58, 10, 60, 4, 0], 30), (w_ [11, 35, 20, 35, 2, 0, 14, 30, 80, 90, 9, 0], 31), (w_ [21, 1, 58, 60, 4, 0, 22, 2, 64, 70, 5, 0], 33), (w_ [1, 30, 0, 10000, 0, 0, 2, 35, 30, 40, 0, 0, 3, 58, 0, 10000, 4, 0], 30)], [], .t [.v (.slice none 0 0), .v (.bool false)]⟩
theorem fStood_by1_ok : FactOk Tryz.prog fStood_by1 := fact_of mixed named noExt_ok 1000 60 (2 ^ 200) fStood_by1 (by kernel_rfl)
end Go.K
