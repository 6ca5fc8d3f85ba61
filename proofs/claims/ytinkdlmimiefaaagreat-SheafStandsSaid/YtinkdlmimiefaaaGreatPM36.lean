import Derived.Test.YtinkdlmimiefaaaGreatProg
import Derived.Test.YtinkdlmimiefaaaGreatPM35
namespace Go.K
open Go.Proofs Go.RowKit
set_option linter.unusedVariables false
set_option linter.unusedSimpArgs false
set_option maxRecDepth 100000
attribute [local irreducible] Seq cw cx fl opX

structure TrueAt (q:Pl) (cs:List Ld) (s:Int) (ts:List Int) (N:Int→Int):Prop where
  len:ts.length=q.loads.length
  s0:0≤s∧s≤10000
  cin:∀ x∈cs,x∈q.loads
  nb:∀ x∈cs,0≤N x.src∧N x.src≤10000
  nt:∀ (i:Nat) (x:Ld) (t:Int),q.loads[i]?=some x→ts[i]?=some t→N x.src=t
  sown:inB s q.lo q.hi=true
  ld:∀ (i:Nat) (x:Ld) (t:Int),q.loads[i]?=some x→ts[i]?=some t→inB t x.lo x.hi=true
  st:∀ x∈q.stands,inB (fg cs N s x.hr) x.lo x.hi=true
  mx:0≤fg cs N s 99999
def trulyF (q:Pl) (cs:List Ld) (N:Int→Int) (s h:Int):Bool:=if shutF q h || decide (0 < fg cs N s h) then false else !(geeseF q h).2 || decide (0 < fg cs N s (geeseF q h).1)

end Go.K
