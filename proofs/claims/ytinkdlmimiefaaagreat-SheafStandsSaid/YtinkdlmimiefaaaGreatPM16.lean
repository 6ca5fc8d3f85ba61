import Derived.Test.YtinkdlmimiefaaaGreatProg
import Derived.Test.YtinkdlmimiefaaaGreatPM15
namespace Go.K
open Go.Proofs Go.RowKit
set_option linter.unusedVariables false
set_option linter.unusedSimpArgs false
set_option maxRecDepth 100000
attribute [local irreducible] Seq cw cx fl opX

def ew (p:Pl) (h dy:Int):Rg × Int:=if ec p h dy=0 then if (ep (ae p dy) (ax p dy) h).2 then ((ep (ae p dy) (ax p dy) h).1,0) else (⟨0,0⟩,14) else (⟨0,0⟩,ec p h dy)
def cartedC (p:Pl) (s dy:Int):Rg × Int :=
  if fi p dy=0 then
    if (placeF (ax p dy) s).2 then
      if (ay (ae p dy) (ax p dy)).2 then
        let at_:=(placeF (ax p dy) s).1.toNat
        let b:=(ay (ae p dy) (ax p dy)).1.getD at_ ⟨0,0⟩
        let a:=(ay (ae p dy) (ax p dy)).1.getD (at_+1) ⟨0,0⟩
        let x:=(ax p dy).getD at_ ⟨0,0,0,0,0,0⟩
        (er ⟨x.lo,x.hi⟩ ⟨b.lo - a.hi,b.hi - a.lo⟩,0)
      else (⟨0,0⟩,14)
    else (⟨0,0⟩,17)
  else (⟨0,0⟩,fi p dy)
def clearC (p:Pl) (h dy:Int):Int × Int:=if (ew p h dy).2=0 then (answerI (decide ((ew p h dy).1.lo=0)) (decide ((ew p h dy).1.hi=0)),0) else (0,(ew p h dy).2)
def shutC (p:Pl) (h dy:Int):Bool × Int:=if ec p h dy=0 then (shutF (ae p dy) h,0) else (false,ec p h dy)
def openC (p:Pl) (h dy:Int):Int × Int :=
  if ec p h dy=0 then
    if (ay (ae p dy) (ax p dy)).2 then
      if shutF (ae p dy) h then (0,0) else
        if (geeseF (ae p dy) h).2 then
          (answerI (ay (withF (withF (ae p dy) h 0 0) (geeseF (ae p dy) h).1 1 10000) (ax p dy)).2 (!((ay (withF (ae p dy) h 1 10000) (ax p dy)).2 || (ay (withF (ae p dy) (geeseF (ae p dy) h).1 0 0) (ax p dy)).2)),0)
        else (answerI (ay (withF (ae p dy) h 0 0) (ax p dy)).2 (!(ay (withF (ae p dy) h 1 10000) (ax p dy)).2),0)
    else (0,14)
  else (0,ec p h dy)
theorem pass2_bd {bs:List Rg} {fs:List Pf} {M:Int} (hb:∀ r∈bs,Bd M r) (hf:∀ f∈fs,Fd f.x) (hl:bs.length≤fs.length+1) (hs:bs.length≤90):∀ r∈(dd bs fs).1,Bd (M+1000000) r:=by
  intro r hr
  unfold dd at hr
  split at hr
  · obtain ⟨q,hq,he⟩:=List.getElem_of_mem (show r∈cr bs fs from hr)
    have hlen:=pass_len hl
    exact (pass_bd hb hf hl q r (by rw [List.getElem?_eq_getElem hq,he])).mono (by omega)
  cases hr
theorem stoodF_bd {p:Pl} {cs:List Ld} (h:ScOk p cs) (hl:cs.length≤60):∀ r∈(ay p cs).1,Bd 10000000 r:=by
  have hb:=boundsF_len p cs
  intro r hr
  unfold ay at hr
  split at hr
  · rename_i h1
    have h2:=passF_len (by rw [List.length_reverse,List.length_reverse,List.length_map]; omega) h1
    rw [List.length_reverse] at h2
    refine (pass2_bd (M:=1000000) (fun r hr=>passF_bd (fun r hr=>je h r (List.mem_reverse.1 hr)) (fun f hf=>fd_map h.ld f (List.mem_reverse.1 hf)) (by simp; omega) (by simp; omega) r (List.mem_reverse.1 hr)) (fd_map h.ld) ?_ ?_ r hr).mono (by decide)
    · rw [List.length_reverse,List.length_map,h2]; omega
    rw [List.length_reverse,h2]; omega
  cases hr
end Go.K
