/- Stage 1: facts, reckoned. No condition. -/
import Derived.Test.YtinkdlmimiefaaaGreatProg
import Derived.Test.YtinkdlmimiefaaaGreatPX0
namespace Go.K
open Go.Proofs Go.RowKit
set_option linter.unusedVariables false
set_option maxRecDepth 100000
def fCheck : Fact := ⟨22, [aP], rP, [], i_ 0⟩
theorem fCheck_ok : FactOk Tryz.prog fCheck := fact_of mixed named noExt_ok 1000 60 (2 ^ 200) fCheck (by kernel_rfl)
def fScene2 : Fact := ⟨86, [aP, i_ 2], rP, [(w_ [1, 30, 40, 50, 0, 0, 2, 35, 30, 40, 0, 0], 30), (w_ [11, 35, 20, 35, 2, 0], 31), (w_ [], 33), (w_ [1, 30, 40, 50, 0, 0, 2, 35, 30, 40, 0, 0], 30)], .a [i_ 100, i_ 120, .s 3 0 2 6, .s 4 0 1 6, .s 5 0 0 6, i_ 2, .s 6 0 2 6]⟩
theorem fScene2_ok : FactOk Tryz.prog fScene2 := fact_of mixed named noExt_ok 1000 60 (2 ^ 200) fScene2 (by kernel_rfl)
def fScene4 : Fact := ⟨86, [aP, i_ 4], rP, [(w_ [1, 30, 40, 50, 0, 0, 2, 35, 30, 40, 0, 0, 3, 58, 10, 60, 4, 0], 30), (w_ [11, 35, 20, 35, 2, 0], 31), (w_ [21, 1, 58, 60, 4, 0], 33), (w_ [1, 30, 40, 50, 0, 0, 2, 35, 30, 40, 0, 0, 3, 58, 10, 60, 4, 0], 30)], .a [i_ 100, i_ 120, .s 3 0 3 6, .s 4 0 1 6, .s 5 0 1 6, i_ 2, .s 6 0 3 6]⟩
theorem fScene4_ok : FactOk Tryz.prog fScene4 := fact_of mixed named noExt_ok 1000 60 (2 ^ 200) fScene4 (by kernel_rfl)
def fScene5 : Fact := ⟨86, [aP, i_ 5], rP, [(w_ [1, 30, 40, 50, 0, 0, 2, 35, 30, 40, 0, 0, 3, 58, 10, 60, 4, 0], 30), (w_ [11, 35, 20, 35, 2, 0, 12, 58, 0, 5, 5, 0], 31), (w_ [21, 1, 58, 60, 4, 0, 22, 2, 64, 70, 5, 0], 33), (w_ [1, 30, 40, 50, 0, 0, 2, 35, 30, 40, 0, 0, 3, 58, 10, 60, 4, 0], 30)], .a [i_ 100, i_ 120, .s 3 0 3 6, .s 4 0 2 6, .s 5 0 2 6, i_ 2, .s 6 0 3 6]⟩
theorem fScene5_ok : FactOk Tryz.prog fScene5 := fact_of mixed named noExt_ok 1000 60 (2 ^ 200) fScene5 (by kernel_rfl)
def fScene6 : Fact := ⟨86, [aP, i_ 6], rP, [(w_ [1, 30, 40, 50, 0, 0, 2, 35, 30, 40, 0, 0, 3, 58, 10, 60, 4, 0], 30), (w_ [11, 35, 20, 35, 2, 0, 12, 58, 0, 5, 5, 0, 13, 58, 0, 0, 6, 0], 31), (w_ [21, 1, 58, 60, 4, 0, 22, 2, 64, 70, 5, 0], 33), (w_ [1, 30, 40, 50, 0, 0, 2, 35, 30, 40, 0, 0, 3, 58, 10, 60, 4, 0], 30)], .a [i_ 100, i_ 120, .s 3 0 3 6, .s 4 0 3 6, .s 5 0 2 6, i_ 2, .s 6 0 3 6]⟩
theorem fScene6_ok : FactOk Tryz.prog fScene6 := fact_of mixed named noExt_ok 1000 60 (2 ^ 200) fScene6 (by kernel_rfl)
end Go.K
