import Derived.Test.YtinkdlmimiefaaaGreatProg
import Derived.Test.YtinkdlmimiefaaaGreatPM22
namespace Go.K
open Go.Proofs Go.RowKit
set_option linter.unusedVariables false
set_option linter.unusedSimpArgs false
set_option maxRecDepth 100000
attribute [local irreducible] Seq cw cx fl opX

def someB (q:Pl):Int→List Int→Bool
  | _,[]=>true
  | last,x :: l=>decide (last < x) && srcB q x && someB q x l
def sndB (q:Pl) (cs:List Ld) (S:Int→Bool):Bool:=(ay (byP q S) (byC cs S)).2
def lessS (l:List Int) (s j:Int):Bool:=if j=s then false else decide (j∈l)
def clashB (q:Pl) (cs:List Ld) (l:List Int):Bool:=someB q 0 l && !sndB q cs (fun j=>decide (j∈l)) && l.all fun s=>sndB q cs (lessS l s)
end Go.K
