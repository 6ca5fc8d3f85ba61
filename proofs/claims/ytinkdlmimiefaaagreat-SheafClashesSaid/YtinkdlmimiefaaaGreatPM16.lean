/- What is told of plots. -/
import Derived.Test.YtinkdlmimiefaaaGreatProg
import Derived.Test.YtinkdlmimiefaaaGreatPM15
namespace Go.K
open Go.Proofs Go.RowKit
set_option linter.unusedVariables false
set_option linter.unusedSimpArgs false
set_option maxRecDepth 100000
attribute [local irreducible] Seq Step CallV AnyE opX

def stoodC (p:Pl) (h dy:Int):Rg × Int:=if hourI p h dy=0 then if (stoodAtF (scnF p dy) (crtF p dy) h).2 then ((stoodAtF (scnF p dy) (crtF p dy) h).1,0) else (⟨0,0⟩,14) else (⟨0,0⟩,hourI p h dy)
def cartedC (p:Pl) (s dy:Int):Rg × Int :=
  if dayI p dy=0 then
    if (placeF (crtF p dy) s).2 then
      if (stoodF (scnF p dy) (crtF p dy)).2 then
        let at_:=(placeF (crtF p dy) s).1.toNat
        let b:=(stoodF (scnF p dy) (crtF p dy)).1.getD at_ ⟨0,0⟩
        let a:=(stoodF (scnF p dy) (crtF p dy)).1.getD (at_+1) ⟨0,0⟩
        let x:=(crtF p dy).getD at_ ⟨0,0,0,0,0,0⟩
        (meetF ⟨x.lo,x.hi⟩ ⟨b.lo - a.hi,b.hi - a.lo⟩,0)
      else (⟨0,0⟩,14)
    else (⟨0,0⟩,17)
  else (⟨0,0⟩,dayI p dy)
def clearC (p:Pl) (h dy:Int):Int × Int:=if (stoodC p h dy).2=0 then (answerI (decide ((stoodC p h dy).1.lo=0)) (decide ((stoodC p h dy).1.hi=0)),0) else (0,(stoodC p h dy).2)
def shutC (p:Pl) (h dy:Int):Bool × Int:=if hourI p h dy=0 then (shutF (scnF p dy) h,0) else (false,hourI p h dy)
def openC (p:Pl) (h dy:Int):Int × Int :=
  if hourI p h dy=0 then
    if (stoodF (scnF p dy) (crtF p dy)).2 then
      if shutF (scnF p dy) h then (0,0) else
        if (geeseF (scnF p dy) h).2 then
          (answerI (stoodF (withF (withF (scnF p dy) h 0 0) (geeseF (scnF p dy) h).1 1 10000) (crtF p dy)).2 (!((stoodF (withF (scnF p dy) h 1 10000) (crtF p dy)).2 || (stoodF (withF (scnF p dy) (geeseF (scnF p dy) h).1 0 0) (crtF p dy)).2)),0)
        else (answerI (stoodF (withF (scnF p dy) h 0 0) (crtF p dy)).2 (!(stoodF (withF (scnF p dy) h 1 10000) (crtF p dy)).2),0)
    else (0,14)
  else (0,hourI p h dy)
end Go.K
