import Derived.Test.YtinkdlmimiefaaaGreatPM39
import Derived.Test.YtinkdlmimiefaaaGreatPM41
import Derived.Test.YtinkdlmimiefaaaGreatPM19
import Derived.Test.YtinkdlmimiefaaaGreatPKK2
namespace Go.K
open Go.Proofs Go.RowKit
theorem sortM_eq (l:List Int):js l=sortI l:=mergeSort_eq l
def fallI (q:Pl):List Int:=(sortI (srcL q)).reverse
theorem fall_eq (q:Pl):fallF q=fallI q:=by unfold fallF fallI; rw [sortM_eq]
def clashI (p:Pl) (dy:Int):List Int × Int:=if fi p dy=0 then if (ay (ae p dy) (ax p dy)).2 then ([],15) else ((clashF (ae p dy) (ax p dy) (fallI (ae p dy))).2.reverse,0) else ([],fi p dy)
theorem clash_eq (p:Pl) (dy:Int):clashC p dy=clashI p dy:=by unfold clashC clashI; rw [fall_eq]
theorem sort_c {B:List Nat} {w0 w:World} {L:List (Option Nat × Obj)} (hI:Inv B w0 w L) (i:Nat) {g:Option Nat} {n c:Nat} {cl:List Value} {l:List Int} (hi:L[i]?=some (g,blk cl 3)) (hr:Row 1 g n c cl (al dv l)) (hmax:n≤1000000000) :
    bn Tryz.prog 69 [slv g n c] w fun v w'=>v=.tuple #[]∧∃ cl',Inv B w0 w' (L.set i (g,blk cl' 3))∧Row 1 g n c cl' (al dv (sortI l)):=by
  refine bn.mono (Sort_c w g n c cl l (hI.hasg i hi) hr hmax) ?_
  rintro v w' ⟨cl',hv,hN,hr'⟩
  rw [show js l=sortI l from mergeSort_eq l] at hr'
  exact ⟨hv,cl',hI.turned i hi hN.but (fun b hb=>by subst hb; exact (hN.has 0 b _ rfl).1),hr'⟩
theorem compact_c {B:List Nat} {w0 w:World} {L:List (Option Nat × Obj)} (hI:Inv B w0 w L) (i:Nat) {g:Option Nat} {n c:Nat} {cl:List Value} {l:List Int} (hi:L[i]?=some (g,blk cl 3)) (hr:Row 1 g n c cl (al dv l)) (hmax:n≤1000000000) :
    bn Tryz.prog 70 [slv g n c] w fun v w'=>v=slv g (ea l).length c∧∃ cl',Inv B w0 w' (L.set i (g,blk cl' 3))∧Row 1 g (ea l).length c cl' (al dv (ea l)):=by
  refine bn.mono (Compact_c w g n c cl l (hI.hasg i hi) hr hmax) ?_
  rintro v w' ⟨cl',hv,hN,hr'⟩
  exact ⟨hv,cl',hI.turned i hi hN.but (fun b hb=>by subst hb; exact (hN.has 0 b _ rfl).1),hr'⟩
def movedI (p:Pl) (s dy:Int):List Int × Int :=
  if fi p dy=0 then if (ff p s).2=0 then (ea (sortI ((p.loads.filter (movedB p (ff p s).1 dy)).map Ld.hr)),0) else ([],(ff p s).2) else ([],fi p dy)
def lenB (p:Pl) (cs:List Ld):Bool:=decide (p.loads.length≤100) && decide (p.stands.length≤100) && decide (p.spells.length≤100) && decide (cs.length≤60)
def rgB (lo hi:Int):Bool:=decide (-10000≤lo) && decide (lo≤10000) && decide (-10000≤hi) && decide (hi≤10000)
def fdB (x:Ld):Bool:=decide (0≤x.lo) && decide (x.lo≤10000) && decide (0≤x.hi) && decide (x.hi≤10000)
def scB (p:Pl) (cs:List Ld):Bool:=lenB p cs && rgB p.lo p.hi && p.stands.all (fun x=>rgB x.lo x.hi) && cs.all fdB
theorem rgB_bd {lo hi:Int} (h:rgB lo hi=true):Bd 10000 ⟨lo,hi⟩:=by
  simp only [rgB,Bool.and_eq_true,decide_eq_true_eq] at h
  exact ⟨h.1.1.1,h.1.1.2,h.1.2,h.2⟩
theorem scB_len {p:Pl} {cs:List Ld} (h:scB p cs=true):lenB p cs=true:=by
  simp only [scB,Bool.and_eq_true] at h
  exact h.1.1.1
theorem scB_ok {p:Pl} {cs:List Ld} (h:scB p cs=true):ScOk p cs:=by
  simp only [scB,Bool.and_eq_true,List.all_eq_true] at h
  refine ⟨rgB_bd h.1.1.2,fun x hx=>rgB_bd (h.1.2 x hx),fun x hx=>?_⟩
  have h1:=h.2 x hx
  simp only [fdB,Bool.and_eq_true,decide_eq_true_eq] at h1
  exact ⟨h1.1.1.1,h1.1.1.2,h1.1.2,h1.2⟩
theorem sc_in {w:World} {p:Pl} {cs:List Ld} {A1 A2 A3 A4:Option Addr} {c1 c2 c3 c4:Nat} (h:lenB p cs=true) (h1:bi w A1 (al eLd p.loads)) (h2:bi w A2 (al eLd p.stands)) (h3:bi w A3 (al eSp p.spells)) (h4:bi w A4 (al eLd cs)) (hk:cs.length≤c4) :
    ScIn w p A1 p.loads.length c1 A2 p.stands.length c2 A3 p.spells.length c3 cs A4 cs.length c4:=by
  simp only [lenB,Bool.and_eq_true,decide_eq_true_eq] at h
  exact ⟨⟨h1,rfl,h2,rfl,h3,rfl,by omega,by omega,by omega⟩,h4,rfl,hk,h.2,h.1.1.2,h.1.2,h.1.1.1⟩
end Go.K
