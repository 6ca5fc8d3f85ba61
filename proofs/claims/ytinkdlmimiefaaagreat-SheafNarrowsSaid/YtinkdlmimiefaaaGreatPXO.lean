/- Stage 1: facts, reckoned. No condition. -/
import Derived.Test.YtinkdlmimiefaaaGreatProg
import Derived.Test.YtinkdlmimiefaaaGreatPX0
namespace Go.K
open Go.Proofs Go.RowKit
set_option linter.unusedVariables false
set_option maxRecDepth 100000
def fScene9 : Fact := ⟨86, [aP, i_ 9], rP, [(w_ [1, 30, 40, 50, 0, 0, 2, 35, 30, 40, 0, 0, 3, 58, 10, 60, 4, 0], 30), (w_ [11, 35, 20, 35, 2, 0, 12, 58, 0, 5, 5, 0, 13, 58, 0, 0, 6, 0, 14, 30, 80, 90, 9, 0], 31), (w_ [21, 1, 58, 60, 4, 0, 22, 2, 64, 70, 5, 0], 33), (w_ [1, 30, 40, 50, 0, 0, 2, 35, 30, 40, 0, 0, 3, 58, 10, 60, 4, 0], 30)], .a [i_ 100, i_ 120, .s 3 0 3 6, .s 4 0 4 6, .s 5 0 2 6, i_ 2, .s 6 0 3 6]⟩
theorem fScene9_ok : FactOk Tryz.prog fScene9 := fact_of mixed named noExt_ok 1000 60 (2 ^ 200) fScene9 (by kernel_rfl)
def fStood_s9 : Fact := ⟨102, [.a [i_ 100, i_ 120, .s 0 0 3 6, .s 1 0 4 6, .s 2 0 2 6, i_ 2, .s 3 0 3 6]], [(w_ [1, 30, 40, 50, 0, 0, 2, 35, 30, 40, 0, 0, 3, 58, 10, 60, 4, 0], 30), (w_ [11, 35, 20, 35, 2, 0, 12, 58, 0, 5, 5, 0, 13, 58, 0, 0, 6, 0, 14, 30, 80, 90, 9, 0], 31), (w_ [21, 1, 58, 60, 4, 0, 22, 2, 64, 70, 5, 0], 33), (w_ [1, 30, 40, 50, 0, 0, 2, 35, 30, 40, 0, 0, 3, 58, 10, 60, 4, 0], 30)], [], .t [.v (.slice none 0 0), .v (.bool false)]⟩
theorem fStood_s9_ok : FactOk Tryz.prog fStood_s9 := fact_of mixed named noExt_ok 1000 60 (2 ^ 200) fStood_s9 (by kernel_rfl)
def fStood_by13 : Fact := ⟨102, [.a [i_ 100, i_ 120, .s 0 0 3 6, .s 1 0 3 6, .s 2 0 2 6, i_ 2, .s 3 0 3 6]], [(w_ [1, 30, 40, 50, 0, 0, 2, 35, 30, 40, 0, 0, 3, 58, 10, 60, 4, 0], 30), (w_ [11, 35, 20, 35, 2, 0, 12, 58, 0, 5, 5, 0, 14, 30, 80, 90, 9, 0], 31), (w_ [21, 1, 58, 60, 4, 0, 22, 2, 64, 70, 5, 0], 33), (w_ [1, 30, 40, 50, 0, 0, 2, 35, 30, 40, 0, 0, 3, 58, 10, 60, 4, 0], 30)], [], .t [.v (.slice none 0 0), .v (.bool false)]⟩
theorem fStood_by13_ok : FactOk Tryz.prog fStood_by13 := fact_of mixed named noExt_ok 1000 60 (2 ^ 200) fStood_by13 (by kernel_rfl)
def fStood_by12 : Fact := ⟨102, [.a [i_ 100, i_ 120, .s 0 0 3 6, .s 1 0 2 6, .s 2 0 2 6, i_ 2, .s 3 0 3 6]], [(w_ [1, 30, 40, 50, 0, 0, 2, 35, 30, 40, 0, 0, 3, 58, 10, 60, 4, 0], 30), (w_ [11, 35, 20, 35, 2, 0, 14, 30, 80, 90, 9, 0], 31), (w_ [21, 1, 58, 60, 4, 0, 22, 2, 64, 70, 5, 0], 33), (w_ [1, 30, 40, 50, 0, 0, 2, 35, 30, 40, 0, 0, 3, 58, 10, 60, 4, 0], 30)], [], .t [.v (.slice none 0 0), .v (.bool false)]⟩
theorem fStood_by12_ok : FactOk Tryz.prog fStood_by12 := fact_of mixed named noExt_ok 1000 60 (2 ^ 200) fStood_by12 (by kernel_rfl)
end Go.K
