import Derived.Test.YtinkdlmimiefaaaGreatProg
import Derived.Test.YtinkdlmimiefaaaGreatPM36
import Derived.Test.YtinkdlmimiefaaaGreatPG10
namespace Go.K
open Go.Proofs Go.RowKit
set_option linter.unusedVariables false
set_option linter.unusedSimpArgs false
set_option maxRecDepth 100000
attribute [local irreducible] Seq cw cx fl opX

def GivesCart (e0:Int) (l:List Int) (w0:World) (v:Value) (w:World):Prop:=∃ g c cl,v=.agg #[.int .i64 e0,slv g l.length c]∧Inv []  w0 w [(g,blk cl 3)]∧Row 1 g l.length c cl (al dv l)
def NumOf (cs:List Ld) (ts:List Int) (N:Int→Int):Prop:=∀ (i:Nat) (x:Ld) (a b:Int),cs[i]?=some x→ts[i]?=some a→ts[i+1]?=some b→N x.src=a - b
theorem ends_bd {p:Pl} {cs:List Ld} (hok:ScOk p cs) (hs:(ay p cs).2=true) (most:Bool):∀ t∈endsF most (ay p cs).1,-10000≤t∧t≤10000:=fun t ht=>by
  obtain ⟨K,h⟩:=stood_shape hs
  rw [endsF,List.mem_map] at ht
  obtain ⟨s,hsm,rfl⟩:=ht
  obtain ⟨i,hi,e⟩:=List.getElem_of_mem hsm
  obtain ⟨k,hk,k1,k2⟩:=h.sk i s (by rw [List.getElem?_eq_getElem hi,e])
  obtain ⟨b,hb,b1,b2⟩:=h.kb i k hk
  have hB:=je hok b (bz hb)
  have:=h.ord s hsm
  have q1:=hB.a
  have q2:=hB.d
  split <;> omega
def soundC (p:Pl) (dy:Int):Bool × Int:=if fi p dy=0 then ((ay (ae p dy) (ax p dy)).2,0) else (false,fi p dy)

end Go.K
