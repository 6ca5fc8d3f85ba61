import Derived.Test.YtinkdlmimiefaaaGreatProg
import Derived.Test.YtinkdlmimiefaaaGreatPM18
namespace Go.K
open Go.Proofs Go.RowKit
set_option linter.unusedVariables false
set_option linter.unusedSimpArgs false
set_option maxRecDepth 100000
attribute [local irreducible] Seq cw cx fl opX

section steps
variable {P:Program} {ρ:Env} {w:World} {R:Value→World→Prop} {d:Option Nat} {ty:TypeId} {pos:String} {af:Array Edge} {gd:Option (Nat × Bool)}
end steps
def daysL (l:List Nt):List Int:=l.flatMap fun y=>if y.u=0 then [y.k] else [y.k,y.u]
def datesC (p:Pl):List Int × Int:=if dw p then (ea (js (daysL (notesOf p))),0) else ([],13)
theorem refOk_keep {p:Pl} (h:RefOk p) (k:Nt→Bool):RefOk (cv k p):=by
  refine ⟨h.sown,h.g0,h.g1,Nat.le_trans (List.length_filter_le _ _) h.l1,Nat.le_trans (List.length_filter_le _ _) h.l2,Nat.le_trans (List.length_filter_le _ _) h.l3,
    fun x hx=>h.o1 x (List.mem_filter.1 hx).1,jb.2 ((jb.1 h.a1).sublist List.filter_sublist),fun x hx=>h.o2 x (List.mem_filter.1 hx).1,jb.2 ((jb.1 h.a2).sublist List.filter_sublist),
    fun x hx=>h.o3 x (List.mem_filter.1 hx).1,jb.2 ((jb.1 h.a3).sublist List.filter_sublist),?_⟩
  refine h.nd.sublist ?_
  unfold la
  exact List.Sublist.append (List.Sublist.append (List.filter_sublist.map _) (List.filter_sublist.map _)) (List.filter_sublist.map _)
theorem without_ok {p:Pl} {s:Int} (hp:dw p=true) (h:(ff p s).2=0):dw (ff p s).1=true:=by
  unfold ff at h ⊢
  rw [if_pos hp] at h ⊢
  split
  · exact (ek _).2 (refOk_keep ((ek p).1 hp) (fun y=>decide (y.s≠s)))
  rename_i h1; rw [if_neg h1] at h; cases h
def movedB (p q:Pl) (dy:Int) (x:Ld):Bool:=!((decide ((ep (ae p dy) (ax p dy) x.hr).1.lo=(ep (ae q dy) (ax q dy) x.hr).1.lo) && decide ((ep (ae p dy) (ax p dy) x.hr).1.hi=(ep (ae q dy) (ax q dy) x.hr).1.hi)) && ((ep (ae p dy) (ax p dy) x.hr).2 == (ep (ae q dy) (ax q dy) x.hr).2))
def movedC (p:Pl) (s dy:Int):List Int × Int :=
  if fi p dy=0 then if (ff p s).2=0 then (ea (js ((p.loads.filter (movedB p (ff p s).1 dy)).map Ld.hr)),0) else ([],(ff p s).2) else ([],fi p dy)
end Go.K
