/- Demands and crowds, of the program and of the reference: MillCrowds. No condition. -/
import Derived.Test.YtofnbcfjdngakaaPYf
namespace Go.K
open Go.RowKit
set_option linter.unusedVariables false
set_option linter.unusedSimpArgs false
end Go.K
