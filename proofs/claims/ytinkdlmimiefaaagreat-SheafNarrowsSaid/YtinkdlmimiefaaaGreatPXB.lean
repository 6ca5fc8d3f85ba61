/- Stage 1: facts, reckoned. No condition. -/
import Derived.Test.YtinkdlmimiefaaaGreatProg
import Derived.Test.YtinkdlmimiefaaaGreatPX0
namespace Go.K
open Go.Proofs Go.RowKit
set_option linter.unusedVariables false
set_option maxRecDepth 100000
def fStood_s2 : Fact := ⟨102, [.a [i_ 100, i_ 120, .s 0 0 2 6, .s 1 0 1 6, .s 2 0 0 6, i_ 2, .s 3 0 2 6]], [(w_ [1, 30, 40, 50, 0, 0, 2, 35, 30, 40, 0, 0], 30), (w_ [11, 35, 20, 35, 2, 0], 31), (w_ [], 33), (w_ [1, 30, 40, 50, 0, 0, 2, 35, 30, 40, 0, 0], 30)], [(w_ [100, 120, 50, 75, 20, 35], 23)], .t [.s 4 0 3 2, .v (.bool true)]⟩
theorem fStood_s2_ok : FactOk Tryz.prog fStood_s2 := fact_of mixed named noExt_ok 1000 60 (2 ^ 200) fStood_s2 (by kernel_rfl)
def fStood_w2 : Fact := ⟨102, [.a [i_ 100, i_ 120, .s 0 0 2 6, .s 1 0 0 6, .s 2 0 0 6, i_ 2, .s 3 0 2 6]], [(w_ [1, 30, 40, 50, 0, 0, 2, 35, 30, 40, 0, 0], 30), (w_ [], 31), (w_ [], 33), (w_ [1, 30, 40, 50, 0, 0, 2, 35, 30, 40, 0, 0], 30)], [(w_ [100, 120, 50, 80, 10, 50], 23)], .t [.s 4 0 3 2, .v (.bool true)]⟩
theorem fStood_w2_ok : FactOk Tryz.prog fStood_w2 := fact_of mixed named noExt_ok 1000 60 (2 ^ 200) fStood_w2 (by kernel_rfl)
def fStood_s4 : Fact := ⟨102, [.a [i_ 100, i_ 120, .s 0 0 3 6, .s 1 0 1 6, .s 2 0 1 6, i_ 2, .s 3 0 3 6]], [(w_ [1, 30, 40, 50, 0, 0, 2, 35, 30, 40, 0, 0, 3, 58, 10, 60, 4, 0], 30), (w_ [11, 35, 20, 35, 2, 0], 31), (w_ [21, 1, 58, 60, 4, 0], 33), (w_ [1, 30, 40, 50, 0, 0, 2, 35, 30, 40, 0, 0, 3, 58, 10, 60, 4, 0], 30)], [(w_ [100, 120, 50, 75, 20, 35, 0, 25], 23)], .t [.s 4 0 4 2, .v (.bool true)]⟩
theorem fStood_s4_ok : FactOk Tryz.prog fStood_s4 := fact_of mixed named noExt_ok 1000 60 (2 ^ 200) fStood_s4 (by kernel_rfl)
end Go.K
