/- Stage 1: the example as data. No condition. -/
import Derived.Test.YtinkdlmimiefaaaGreatProg
import Derived.Test.YtinkdlmimiefaaaGreatPVV3
namespace Go.K
open Go.Proofs Go.RowKit
set_option linter.unusedVariables false
set_option maxRecDepth 100000
def w_ (l : List Nat) : List Value := l.map fun n => .int .i64 (.ofNat n)
def i_ (x : Nat) : V := .v (.int .i64 (.ofNat x))
theorem mixed : Tryz.prog.follows .mixedOrders = true := by kernel_rfl
theorem named : Tryz.prog.funcs.all (fun fn => !(fn.name == "runtime.NumGoroutine")) = true := by kernel_rfl
def rP : List (List Value × TypeId) := [(w_ [1, 30, 40, 50, 0, 0, 2, 35, 30, 40, 0, 0, 3, 58, 10, 60, 4, 0], 30), (w_ [11, 35, 20, 35, 2, 0, 12, 58, 0, 5, 5, 0, 13, 58, 0, 0, 6, 0, 14, 30, 80, 90, 9, 0], 31), (w_ [21, 1, 58, 60, 4, 0, 22, 2, 64, 70, 5, 0], 33)]
def aP : V := .a [i_ 100, i_ 120, .s 0 0 3 6, .s 1 0 4 6, .s 2 0 2 6, i_ 2]
end Go.K
