import Derived.Test.YtinkdlmimiefaaaGreatProg
import Derived.Test.YtinkdlmimiefaaaGreatPM15
namespace Go.K
open Go.Proofs Go.RowKit
set_option linter.unusedVariables false
set_option linter.unusedSimpArgs false
set_option maxRecDepth 100000
attribute [local irreducible] Seq cw cx fl opX

def kp (p:Pl) (h dy:Int):Rg × Int:=if ec p h dy=0 then if (ep (ae p dy) (ax p dy) h).2 then ((ep (ae p dy) (ax p dy) h).1,0) else (⟨0,0⟩,14) else (⟨0,0⟩,ec p h dy)
def cartedC (p:Pl) (s dy:Int):Rg × Int :=
  if fi p dy=0 then
    if (placeF (ax p dy) s).2 then
      if (ay (ae p dy) (ax p dy)).2 then
        let at_:=(placeF (ax p dy) s).1.toNat
        let b:=(ay (ae p dy) (ax p dy)).1.getD at_ ⟨0,0⟩
        let a:=(ay (ae p dy) (ax p dy)).1.getD (at_+1) ⟨0,0⟩
        let x:=(ax p dy).getD at_ ⟨0,0,0,0,0,0⟩
        (er ⟨x.lo,x.hi⟩ ⟨b.lo - a.hi,b.hi - a.lo⟩,0)
      else (⟨0,0⟩,14)
    else (⟨0,0⟩,17)
  else (⟨0,0⟩,fi p dy)
def clearC (p:Pl) (h dy:Int):Int × Int:=if (kp p h dy).2=0 then (kq (decide ((kp p h dy).1.lo=0)) (decide ((kp p h dy).1.hi=0)),0) else (0,(kp p h dy).2)
def shutC (p:Pl) (h dy:Int):Bool × Int:=if ec p h dy=0 then (shutF (ae p dy) h,0) else (false,ec p h dy)
def openC (p:Pl) (h dy:Int):Int × Int :=
  if ec p h dy=0 then
    if (ay (ae p dy) (ax p dy)).2 then
      if shutF (ae p dy) h then (0,0) else
        if (ki (ae p dy) h).2 then
          (kq (ay (kj (kj (ae p dy) h 0 0) (ki (ae p dy) h).1 1 10000) (ax p dy)).2 (!((ay (kj (ae p dy) h 1 10000) (ax p dy)).2 || (ay (kj (ae p dy) (ki (ae p dy) h).1 0 0) (ax p dy)).2)),0)
        else (kq (ay (kj (ae p dy) h 0 0) (ax p dy)).2 (!(ay (kj (ae p dy) h 1 10000) (ax p dy)).2),0)
    else (0,14)
  else (0,ec p h dy)
end Go.K
