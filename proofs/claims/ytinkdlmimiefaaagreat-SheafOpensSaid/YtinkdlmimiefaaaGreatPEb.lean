import Derived.Test.YtinkdlmimiefaaaGreatPM35g
import Derived.Test.YtinkdlmimiefaaaGreatPM39f
import Derived.Test.YtinkdlmimiefaaaGreatPEa
namespace Go.K
open Go.Proofs Go.RowKit
set_option linter.unusedVariables false
set_option linter.unusedSimpArgs false
def kw (ls:List Ld) (ts:List Int) (j:Int):Int:=(((ls.zip ts).find? fun x=>x.1.src == j).map Prod.snd).getD 0
theorem numF_at:∀ {ls:List Ld} {ts:List Int},(ls.map Ld.src).Nodup→∀ (i:Nat) (x:Ld) (t:Int),ls[i]?=some x→ts[i]?=some t→kw ls ts x.src=t
  | [],_,_,i,x,t,hx,_=>by simp at hx
  | y :: ls,[],_,i,x,t,_,ht=>by simp at ht
  | y :: ls,u :: ts,hn,0,x,t,hx,ht=>by
    simp only [List.getElem?_cons_zero,Option.some.injEq] at hx ht
    subst hx ht
    simp [kw]
  | y :: ls,u :: ts,hn,i+1,x,t,hx,ht=>by
    simp only [List.getElem?_cons_succ] at hx ht
    rw [List.map_cons,List.nodup_cons] at hn
    have h1:¬ y.src=x.src:=fun e=>hn.1 (e ▸ List.mem_map_of_mem (bz hx))
    have:=numF_at hn.2 i x t hx ht
    unfold kw at this ⊢
    rw [List.zip_cons_cons,List.find?_cons_of_neg (by simpa using h1)]
    exact this
theorem nd_loads {p:Pl} (hv:dw p=true) (dy:Int):((ae p dy).loads.map Ld.src).Nodup:=by
  have h1:(p.loads.map Ld.src).Nodup:=pw_nodup (jb.1 ((ek p).1 hv).a1)
  exact List.Nodup.sublist (List.Sublist.map _ List.filter_sublist) h1
theorem crt_loads {p:Pl} {dy:Int} {x:Ld} (h:x∈ax p dy):x∈(ae p dy).loads:=sortF_mem.1 h
theorem load_bd {p:Pl} (hv:dw p=true) {dy:Int}:∀ x∈(ae p dy).loads,0≤x.lo∧x.hi≤10000:=fun x hx=>by
  obtain ⟨⟨a,b,c,d⟩,_⟩:=okL_sh (by decide) (((ek p).1 hv).o1 x (List.mem_filter.1 hx).1)
  omega
theorem sown_bd {p:Pl} (hv:dw p=true) {dy:Int}:0≤(ae p dy).lo∧(ae p dy).hi≤10000:=by
  have h1:cu (ae p dy).lo (ae p dy).hi=true:=((ek p).1 hv).sown
  simp only [cu,Bool.and_eq_true,decide_eq_true_eq] at h1
  omega
theorem askAt {p:Pl} (hv:dw p=true) (dy:Int) (ts:List Int):AskAt (ae p dy) (ax p dy) ts (kw (ae p dy).loads ts) :=
  ⟨sown_bd hv,load_bd hv,fun x hx=>crt_loads hx,numF_at (nd_loads hv dy)⟩
theorem trueAt {p:Pl} (hv:dw p=true) {dy s:Int} {ts:List Int} (hT:trueB (ae p dy) (ax p dy) s ts (kw (ae p dy).loads ts)=true):TrueAt (ae p dy) (ax p dy) s ts (kw (ae p dy).loads ts) :=
  have h:=askAt hv dy ts
  trueB_at h.pl h.fd h.cin h.nt hT
def tB (p:Pl) (dy s:Int) (ts:List Int):Bool:=trueB (ae p dy) (ax p dy) s ts (kw (ae p dy).loads ts)
def cartingI (p:Pl) (dy s:Int) (ts:List Int):Int:=if fi p dy=0 then if tB p dy s ts then 0 else 16 else fi p dy
def leftI (p:Pl) (s:Int) (ts:List Int) (h dy:Int):Int × Int:=if ec p h dy=0 then if tB p dy s ts then (fg (ax p dy) (kw (ae p dy).loads ts) s h,0) else (0,16) else (0,ec p h dy)
def trulyI (p:Pl) (s:Int) (ts:List Int) (h dy:Int):Bool × Int:=if ec p h dy=0 then if tB p dy s ts then (trulyF (ae p dy) (ax p dy) (kw (ae p dy).loads ts) s h,0) else (false,16) else (false,ec p h dy)
def difs:List Int→List Int
  | a :: b :: l=>(a - b) :: difs (b :: l)
  | _=>[]
def attN (p:Pl) (dy:Int) (most:Bool):Int→Int:=kw (ax p dy) (difs (endsF most (ay (ae p dy) (ax p dy)).1))
def attainI (p:Pl) (h dy:Int) (most:Bool):Int × List Int × Int :=
  if ec p h dy=0 then if (ay (ae p dy) (ax p dy)).2 then ((endsF most (ay (ae p dy) (ax p dy)).1).getD 0 0,(ae p dy).loads.map (fun x=>attN p dy most x.src),0) else (0,[],14) else (0,[],ec p h dy)
variable (w0:World) (pl:Pl) (pA1:Option Addr) (pn1 pc1:Nat) (pA2:Option Addr) (pn2 pc2:Nat) (pA3:Option Addr) (pn3 pc3:Nat) (hP:gz w0 pl pA1 pn1 pA2 pn2 pA3 pn3)
include hP
theorem Truly_i (s:Int) (tA:Option Addr) (tc:Nat) (ts:List Int) (hT:bi w0 tA (al dv ts)) (hx:ts.length≤9223372036854775807) (h dy:Int):bn Tryz.prog 53 [.agg (qn6 pl.lo pl.hi pA1 pn1 pc1 pA2 pn2 pc2 pA3 pn3 pc3 pl.geese).toArray,.agg #[.int .i64 s,.slice tA ts.length tc],.int .i64 h,.int .i64 dy] w0 fun v w=>v=.tuple #[.bool (trulyI pl s ts h dy).1,.int .i64 (trulyI pl s ts h dy).2]∧Below w0.heap.size w0 w:=by
  have hP:=hP
  unfold trulyI
  by_cases hd:ec pl h dy=0
  · cases hb:tB pl dy s ts
    · refine bn.mono (TrulyF_c w0 pl pA1 pn1 pc1 pA2 pn2 pc2 pA3 pn3 pc3 hP h dy s tA ts.length tc ts hT rfl hx _ fun h=>⟨askAt (ip h).1 dy ts,hb⟩) fun v w h=>?_
      simpa [hd] using h
    refine bn.mono (TrulyT_c w0 pl pA1 pn1 pc1 pA2 pn2 pc2 pA3 pn3 pc3 hP h dy hd s tA ts.length tc ts hT rfl hx _ (askAt (ip hd).1 dy ts) hb) fun v w h=>?_
    simpa [hd] using h
  refine bn.mono (TrulyF_c w0 pl pA1 pn1 pc1 pA2 pn2 pc2 pA3 pn3 pc3 hP h dy s tA ts.length tc ts hT rfl hx (fun _=>0) fun h=>absurd h hd) fun v w h=>?_
  simpa [hd] using h
end Go.K
