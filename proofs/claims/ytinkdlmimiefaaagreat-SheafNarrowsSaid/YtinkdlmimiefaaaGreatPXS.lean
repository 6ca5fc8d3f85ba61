/- XR, XS. -/
import Derived.Test.YtinkdlmimiefaaaGreatPXQ
import Derived.Test.YtinkdlmimiefaaaGreatPXG
import Derived.Test.YtinkdlmimiefaaaGreatPXX
import Derived.Test.YtinkdlmimiefaaaGreatPXM
set_option linter.unusedVariables false
set_option linter.unusedSimpArgs false
section
/- Stage 1: Clash of the example. No condition. -/
namespace Go.K
open Go.Proofs Go.RowKit
set_option linter.unusedVariables false
set_option maxRecDepth 100000
def fClash : Fact := ⟨32, [aP, i_ 9], rP, [([.int .i64 2, .int .i64 11, .int .i64 14], 3)], .t [.s 3 0 3 1, i_ 0]⟩
theorem fClash_ok : FactOk Tryz.prog fClash := fact_of mixed named (orK_ok fallK_ok (knownOf_ok exts_ok)) 1000 60 (2 ^ 200) fClash (by kernel_rfl)
end Go.K
end
section
/- Stage 1: sane, reckoned. No condition. -/
namespace Go.K
open Go.Proofs Go.RowKit
set_option linter.unusedVariables false
set_option maxRecDepth 100000
def tops : List Fact := fStood :: fCarted :: fClear :: fFirst :: fShut :: fOpen1 :: fOpen2 :: fOpen3 :: fMoved :: fClash :: exts
theorem tops_ok : ∀ F ∈ tops, FactOk Tryz.prog F := facts_cons fStood_ok (facts_cons fCarted_ok (facts_cons fClear_ok (facts_cons fFirst_ok (facts_cons fShut_ok (facts_cons fOpen1_ok (facts_cons fOpen2_ok (facts_cons fOpen3_ok (facts_cons fMoved_ok (facts_cons fClash_ok exts_ok)))))))))
/-- sane() answers true, whatever the world, and leaves it as it was. -/
theorem sane_c (w : World) : Does Tryz.prog 13 [] w fun v w' => v = .bool true ∧ Below w.heap.size w w' := reckon mixed named (knownOf_ok tops_ok) 1000 60 (2 ^ 200) 13 [] (.bool true) (by kernel_rfl) w
end Go.K
end
