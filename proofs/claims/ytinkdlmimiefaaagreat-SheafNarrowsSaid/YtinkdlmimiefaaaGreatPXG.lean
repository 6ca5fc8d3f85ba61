/- Stage 1: the facts together. No condition. -/
import Derived.Test.YtinkdlmimiefaaaGreatProg
import Derived.Test.YtinkdlmimiefaaaGreatPXA
import Derived.Test.YtinkdlmimiefaaaGreatPXN
import Derived.Test.YtinkdlmimiefaaaGreatPXO
import Derived.Test.YtinkdlmimiefaaaGreatPXB
import Derived.Test.YtinkdlmimiefaaaGreatPXC
import Derived.Test.YtinkdlmimiefaaaGreatPXD
import Derived.Test.YtinkdlmimiefaaaGreatPXE
import Derived.Test.YtinkdlmimiefaaaGreatPXF
import Derived.Test.YtinkdlmimiefaaaGreatPXP
import Derived.Test.YtinkdlmimiefaaaGreatPXQa
namespace Go.K
open Go.Proofs Go.RowKit
set_option linter.unusedVariables false
set_option maxRecDepth 100000
theorem facts_nil {P : Program} : ∀ F ∈ ([] : List Fact), FactOk P F := fun _ h => by cases h
theorem facts_cons {P : Program} {F : Fact} {Fs : List Fact} (h : FactOk P F) (t : ∀ G ∈ Fs, FactOk P G) : ∀ G ∈ F :: Fs, FactOk P G := fun G hG => by
  rcases List.mem_cons.1 hG with rfl | hG
  · exact h
  · exact t G hG
def exts : List Fact := [fCheck, fScene2, fScene4, fScene5, fScene6, fWith_o61_0, fWith_o61_1, fWith_o61_2, fWith_o61_3, fWith_o105_0, fWith_o105_1, fWith_o105_2, fWith_o105_3, fWith_o106_0, fWith_o106_1, fWith_o106_2, fWith_o106_3, fScene9, fStood_s9, fStood_by13, fStood_by12, fStood_s2, fStood_w2, fStood_s4, fStood_s5, fStood_s6, fStood_o61_0, fStood_o61_1, fStood_o105_0, fStood_o105_1, fStood_o105_2, fStood_o106_0, fStood_o106_1, fStood_o106_2, fStood_by11, fStood_by3, fStood_by2, fStood_by1]
theorem exts_ok : ∀ F ∈ exts, FactOk Tryz.prog F := facts_cons fCheck_ok (facts_cons fScene2_ok (facts_cons fScene4_ok (facts_cons fScene5_ok (facts_cons fScene6_ok (facts_cons fWith_o61_0_ok (facts_cons fWith_o61_1_ok (facts_cons fWith_o61_2_ok (facts_cons fWith_o61_3_ok (facts_cons fWith_o105_0_ok (facts_cons fWith_o105_1_ok (facts_cons fWith_o105_2_ok (facts_cons fWith_o105_3_ok (facts_cons fWith_o106_0_ok (facts_cons fWith_o106_1_ok (facts_cons fWith_o106_2_ok (facts_cons fWith_o106_3_ok (facts_cons fScene9_ok (facts_cons fStood_s9_ok (facts_cons fStood_by13_ok (facts_cons fStood_by12_ok (facts_cons fStood_s2_ok (facts_cons fStood_w2_ok (facts_cons fStood_s4_ok (facts_cons fStood_s5_ok (facts_cons fStood_s6_ok (facts_cons fStood_o61_0_ok (facts_cons fStood_o61_1_ok (facts_cons fStood_o105_0_ok (facts_cons fStood_o105_1_ok (facts_cons fStood_o105_2_ok (facts_cons fStood_o106_0_ok (facts_cons fStood_o106_1_ok (facts_cons fStood_o106_2_ok (facts_cons fStood_by11_ok (facts_cons fStood_by3_ok (facts_cons fStood_by2_ok (facts_cons fStood_by1_ok (facts_nil))))))))))))))))))))))))))))))))))))))
end Go.K
