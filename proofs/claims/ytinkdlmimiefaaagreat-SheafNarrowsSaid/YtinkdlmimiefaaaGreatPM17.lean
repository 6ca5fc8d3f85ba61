/- The hour from which a field is clear. -/
import Derived.Test.YtinkdlmimiefaaaGreatProg
import Derived.Test.YtinkdlmimiefaaaGreatPM16
namespace Go.K
open Go.Proofs Go.RowKit
set_option linter.unusedVariables false
set_option linter.unusedSimpArgs false
set_option maxRecDepth 100000
attribute [local irreducible] Seq Step CallV AnyE opX


def clearB (st : List Rg) (cs : List Ld) (f : Rg → Int) (h : Int) : Bool := decide (f (st.getD (cartF cs h) ⟨0, 0⟩) = 0)
def firstF (st : List Rg) (cs : List Ld) : Rg := ⟨((0 :: cs.map Ld.hr).find? (clearB st cs Rg.lo)).getD 100000, ((0 :: cs.map Ld.hr).find? (clearB st cs Rg.hi)).getD 100000⟩
def firstC (p : Pl) (dy : Int) : Rg × Int := if dayI p dy = 0 then if (stoodF (scnF p dy) (crtF p dy)).2 then (firstF (stoodF (scnF p dy) (crtF p dy)).1 (crtF p dy), 0) else (⟨0, 0⟩, 14) else (⟨0, 0⟩, dayI p dy)
end Go.K
