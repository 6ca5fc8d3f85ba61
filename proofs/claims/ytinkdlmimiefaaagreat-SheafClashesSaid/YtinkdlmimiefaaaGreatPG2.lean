/- From an hour to a later one: Stood, Clear and First. -/
import Derived.Test.YtinkdlmimiefaaaGreatPG1
import Derived.Test.YtinkdlmimiefaaaGreatPM17
import Derived.Test.YtinkdlmimiefaaaGreatPSS
namespace Go.K
set_option linter.unusedVariables false
end Go.K
