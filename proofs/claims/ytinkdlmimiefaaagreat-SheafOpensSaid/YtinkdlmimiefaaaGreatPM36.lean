import Derived.Test.YtinkdlmimiefaaaGreatProg
import Derived.Test.YtinkdlmimiefaaaGreatPM35
namespace Go.K
open Go.Proofs Go.RowKit
set_option linter.unusedVariables false
set_option linter.unusedSimpArgs false
set_option maxRecDepth 100000
attribute [local irreducible] Seq cw cx fl opX

structure TrueAt (q:Pl) (cs:List Ld) (s:Int) (ts:List Int) (N:Int→Int):Prop where
  len:ts.length=q.loads.length
  s0:0≤s∧s≤10000
  cin:∀ x∈cs,x∈q.loads
  nb:∀ x∈cs,0≤N x.src∧N x.src≤10000
  nt:∀ (i:Nat) (x:Ld) (t:Int),q.loads[i]?=some x→ts[i]?=some t→N x.src=t
  sown:inB s q.lo q.hi=true
  ld:∀ (i:Nat) (x:Ld) (t:Int),q.loads[i]?=some x→ts[i]?=some t→inB t x.lo x.hi=true
  st:∀ x∈q.stands,inB (fg cs N s x.hr) x.lo x.hi=true
  mx:0≤fg cs N s 99999
theorem s_callTruth {P:Program} {ρ:Env} {B:List Nat} {w w0:World} {L:List (Option Nat × Obj)} {R:Value→World→Prop} (hI:Inv B w0 w L) {o:Oper} (f:FuncId) (args:List Value) {sc:List Value} {s:Int} {l:List Ld} {N:Int→Int} (h:(execOp (ev ρ) o).run P w=.ok (.enter f args.toArray) w)
    (hc:bn P f args w fun v w'=>GivesTruth sc s l N w v w') (kk:∀ (mb:Nat) (es:List En) (ck:Nat) (M:Int→Int) w',Inv B w0 w' ((some mb,fp es ck) :: L)→(∀ j,(el es j).getD (.int .i64 0)=.int .i64 (M j))→(∀ x∈l,M x.src=N x.src)→R (.tuple #[.agg (sc++[Value.int .i64 s,Value.map (some mb)]).toArray,.bool true]) w'):cw P o ρ w R :=
  co f args h hc fun v w' ⟨mb,es,ck,M,hv,hN,h1,h2⟩=>by
    subst hv
    exact kk mb es ck M w' (hI.join hN) h1 h2
def trulyF (q:Pl) (cs:List Ld) (N:Int→Int) (s h:Int):Bool:=if shutF q h || decide (0 < fg cs N s h) then false else !(ki q h).2 || decide (0 < fg cs N s (ki q h).1)

end Go.K
