/- Stage 1: facts, reckoned. No condition. -/
import Derived.Test.YtinkdlmimiefaaaGreatProg
import Derived.Test.YtinkdlmimiefaaaGreatPX0
namespace Go.K
open Go.Proofs Go.RowKit
set_option linter.unusedVariables false
set_option maxRecDepth 100000
def fStood_o105_0 : Fact := ⟨102, [.a [i_ 100, i_ 120, .s 0 0 3 6, .s 1 0 4 6, .s 2 0 2 6, i_ 2, .s 3 0 3 6]], [(w_ [1, 30, 40, 50, 0, 0, 2, 35, 30, 40, 0, 0, 3, 58, 10, 60, 4, 0], 30), (w_ [11, 35, 20, 35, 2, 0, 12, 58, 0, 5, 5, 0, 13, 58, 0, 0, 6, 0, 0, 105, 1, 10000, 0, 0], 31), (w_ [21, 1, 58, 60, 4, 0, 22, 2, 64, 70, 5, 0], 33), (w_ [1, 30, 40, 50, 0, 0, 2, 35, 30, 40, 0, 0, 3, 58, 10, 60, 4, 0], 30)], [], .t [.v (.slice none 0 0), .v (.bool false)]⟩
theorem fStood_o105_0_ok : FactOk Tryz.prog fStood_o105_0 := fact_of mixed named noExt_ok 1000 60 (2 ^ 200) fStood_o105_0 (by kernel_rfl)
def fStood_o105_1 : Fact := ⟨102, [.a [i_ 100, i_ 120, .s 0 0 3 6, .s 1 0 4 6, .s 2 0 2 6, i_ 2, .s 3 0 3 6]], [(w_ [1, 30, 40, 50, 0, 0, 2, 35, 30, 40, 0, 0, 3, 58, 10, 60, 4, 0], 30), (w_ [11, 35, 20, 35, 2, 0, 12, 58, 0, 5, 5, 0, 13, 58, 0, 0, 6, 0, 0, 57, 0, 0, 0, 0], 31), (w_ [21, 1, 58, 60, 4, 0, 22, 2, 64, 70, 5, 0], 33), (w_ [1, 30, 40, 50, 0, 0, 2, 35, 30, 40, 0, 0, 3, 58, 10, 60, 4, 0], 30)], [], .t [.v (.slice none 0 0), .v (.bool false)]⟩
theorem fStood_o105_1_ok : FactOk Tryz.prog fStood_o105_1 := fact_of mixed named noExt_ok 1000 60 (2 ^ 200) fStood_o105_1 (by kernel_rfl)
def fStood_o105_2 : Fact := ⟨102, [.a [i_ 100, i_ 120, .s 0 0 3 6, .s 1 0 5 6, .s 2 0 2 6, i_ 2, .s 3 0 3 6]], [(w_ [1, 30, 40, 50, 0, 0, 2, 35, 30, 40, 0, 0, 3, 58, 10, 60, 4, 0], 30), (w_ [11, 35, 20, 35, 2, 0, 12, 58, 0, 5, 5, 0, 13, 58, 0, 0, 6, 0, 0, 105, 0, 0, 0, 0, 0, 57, 1, 10000, 0, 0], 31), (w_ [21, 1, 58, 60, 4, 0, 22, 2, 64, 70, 5, 0], 33), (w_ [1, 30, 40, 50, 0, 0, 2, 35, 30, 40, 0, 0, 3, 58, 10, 60, 4, 0], 30)], [(w_ [100, 120, 50, 75, 20, 35, 0, 0], 23)], .t [.s 4 0 4 2, .v (.bool true)]⟩
theorem fStood_o105_2_ok : FactOk Tryz.prog fStood_o105_2 := fact_of mixed named noExt_ok 1000 60 (2 ^ 200) fStood_o105_2 (by kernel_rfl)
end Go.K
