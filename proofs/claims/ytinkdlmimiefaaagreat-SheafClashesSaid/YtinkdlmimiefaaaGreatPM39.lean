/- Numbers that attain an end; whether a plot is sound. -/
import Derived.Test.YtinkdlmimiefaaaGreatProg
import Derived.Test.YtinkdlmimiefaaaGreatPM36
import Derived.Test.YtinkdlmimiefaaaGreatPG10
namespace Go.K
open Go.Proofs Go.RowKit
set_option linter.unusedVariables false
set_option linter.unusedSimpArgs false
set_option maxRecDepth 100000
attribute [local irreducible] Seq Step CallV AnyE opX

/-- A carting in a block of the call's own making. -/
def GivesCart (e0:Int) (l:List Int) (w0:World) (v:Value) (w:World):Prop:=∃ g c cl,v=.agg #[.int .i64 e0,slv g l.length c]∧Inv []  w0 w [(g,blk cl 3)]∧Row 1 g l.length c cl (flat eInt l)
def NumOf (cs:List Ld) (ts:List Int) (N:Int→Int):Prop:=∀ (i:Nat) (x:Ld) (a b:Int),cs[i]?=some x→ts[i]?=some a→ts[i+1]?=some b→N x.src=a - b
def soundC (p:Pl) (dy:Int):Bool × Int:=if dayI p dy=0 then ((stoodF (scnF p dy) (crtF p dy)).2,0) else (false,dayI p dy)

end Go.K
