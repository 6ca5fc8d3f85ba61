/- XH, XI, XJ, XK, XL. -/
import Derived.Test.YtinkdlmimiefaaaGreatProg
import Derived.Test.YtinkdlmimiefaaaGreatPXG
set_option linter.unusedVariables false
set_option linter.unusedSimpArgs false
section
/- Stage 1: facts, reckoned. No condition. -/
namespace Go.K
open Go.Proofs Go.RowKit
set_option linter.unusedVariables false
set_option maxRecDepth 100000
def fStood : Fact := ⟨36, [aP, i_ 30, i_ 2], rP, [], .t [.a [i_ 50, i_ 75], i_ 0]⟩
theorem fStood_ok : FactOk Tryz.prog fStood := fact_of mixed named (knownOf_ok exts_ok) 1000 60 (2 ^ 200) fStood (by kernel_rfl)
def fCarted : Fact := ⟨38, [aP, i_ 3, i_ 5], rP, [], .t [.a [i_ 15, i_ 35], i_ 0]⟩
theorem fCarted_ok : FactOk Tryz.prog fCarted := fact_of mixed named (knownOf_ok exts_ok) 1000 60 (2 ^ 200) fCarted (by kernel_rfl)
def fClear : Fact := ⟨45, [aP, i_ 58, i_ 4], rP, [], .t [i_ 2, i_ 0]⟩
theorem fClear_ok : FactOk Tryz.prog fClear := fact_of mixed named (knownOf_ok exts_ok) 1000 60 (2 ^ 200) fClear (by kernel_rfl)
def fShut : Fact := ⟨49, [aP, i_ 61, i_ 6], rP, [], .t [.v (.bool false), i_ 0]⟩
theorem fShut_ok : FactOk Tryz.prog fShut := fact_of mixed named (knownOf_ok exts_ok) 1000 60 (2 ^ 200) fShut (by kernel_rfl)
end Go.K
end
section
/- Stage 1: facts, reckoned. No condition. -/
namespace Go.K
open Go.Proofs Go.RowKit
set_option linter.unusedVariables false
set_option maxRecDepth 100000
def fFirst : Fact := ⟨47, [aP, i_ 5], rP, [], .t [.a [i_ 58, i_ 100000], i_ 0]⟩
theorem fFirst_ok : FactOk Tryz.prog fFirst := fact_of mixed named (knownOf_ok exts_ok) 1000 60 (2 ^ 200) fFirst (by kernel_rfl)
end Go.K
end
section
/- Stage 1: facts, reckoned. No condition. -/
namespace Go.K
open Go.Proofs Go.RowKit
set_option linter.unusedVariables false
set_option maxRecDepth 100000
def fOpen1 : Fact := ⟨51, [aP, i_ 61, i_ 5], rP, [], .t [i_ 2, i_ 0]⟩
theorem fOpen1_ok : FactOk Tryz.prog fOpen1 := fact_of mixed named (knownOf_ok exts_ok) 1000 60 (2 ^ 200) fOpen1 (by kernel_rfl)
end Go.K
end
section
/- Stage 1: facts, reckoned. No condition. -/
namespace Go.K
open Go.Proofs Go.RowKit
set_option linter.unusedVariables false
set_option maxRecDepth 100000
def fOpen2 : Fact := ⟨51, [aP, i_ 105, i_ 6], rP, [], .t [i_ 1, i_ 0]⟩
theorem fOpen2_ok : FactOk Tryz.prog fOpen2 := fact_of mixed named (knownOf_ok exts_ok) 1000 60 (2 ^ 200) fOpen2 (by kernel_rfl)
end Go.K
end
section
/- Stage 1: facts, reckoned. No condition. -/
namespace Go.K
open Go.Proofs Go.RowKit
set_option linter.unusedVariables false
set_option maxRecDepth 100000
def fOpen3 : Fact := ⟨51, [aP, i_ 106, i_ 6], rP, [], .t [i_ 0, i_ 0]⟩
theorem fOpen3_ok : FactOk Tryz.prog fOpen3 := fact_of mixed named (knownOf_ok exts_ok) 1000 60 (2 ^ 200) fOpen3 (by kernel_rfl)
end Go.K
end
