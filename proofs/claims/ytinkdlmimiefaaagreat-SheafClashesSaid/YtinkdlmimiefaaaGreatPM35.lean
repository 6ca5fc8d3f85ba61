/- What stood by true numbers, and whether numbers are true. -/
import Derived.Test.YtinkdlmimiefaaaGreatProg
import Derived.Test.YtinkdlmimiefaaaGreatPM16
namespace Go.K
open Go.Proofs Go.RowKit
set_option linter.unusedVariables false
set_option linter.unusedSimpArgs false
set_option maxRecDepth 100000
attribute [local irreducible] Seq Step CallV AnyE opX

/-- What is left of s when of each of l its number is taken. -/
def subF (N:Int→Int) (s:Int) (l:List Ld):Int:=l.foldl (fun a x=>a - N x.src) s
def leftF (cs:List Ld) (N:Int→Int) (s h:Int):Int:=subF N s (cs.take (cartF cs h))
section steps
variable {P:Program} {ρ:Env} {B:List Nat} {w w0:World} {L:List (Option Nat × Obj)} {R:Value→World→Prop} {d:Option Nat} {ty:TypeId} {pos:String} {af:Array Edge} {gd:Option (Nat × Bool)}
end steps

/-- The scene with its numbers. -/
def GivesTruth (sc:List Value) (s:Int) (l:List Ld) (N:Int→Int) (w0:World) (v:Value) (w:World):Prop :=
  ∃ (mb:Nat) (es:List En) (ck:Nat) (M:Int→Int),v=.tuple #[.agg (sc++[Value.int .i64 s,Value.map (some mb)]).toArray,.bool true]∧Inv []  w0 w [(some mb,mobj es ck)]∧(∀ j,(mget es j).getD (.int .i64 0)=.int .i64 (M j))∧∀ x∈l,M x.src=N x.src

end Go.K
