import Derived.Test.YtinkdlmimiefaaaGreatPM35g
import Derived.Test.YtinkdlmimiefaaaGreatPM39f
import Derived.Test.YtinkdlmimiefaaaGreatPEa
namespace Go.K
open Go.Proofs Go.RowKit
set_option linter.unusedVariables false
set_option linter.unusedSimpArgs false
def numF (ls:List Ld) (ts:List Int) (j:Int):Int:=(((ls.zip ts).find? fun x=>x.1.src == j).map Prod.snd).getD 0
theorem numF_at:∀ {ls:List Ld} {ts:List Int},(ls.map Ld.src).Nodup→∀ (i:Nat) (x:Ld) (t:Int),ls[i]?=some x→ts[i]?=some t→numF ls ts x.src=t
  | [],_,_,i,x,t,hx,_=>by simp at hx
  | y :: ls,[],_,i,x,t,_,ht=>by simp at ht
  | y :: ls,u :: ts,hn,0,x,t,hx,ht=>by
    simp only [List.getElem?_cons_zero,Option.some.injEq] at hx ht
    subst hx ht
    simp [numF]
  | y :: ls,u :: ts,hn,i+1,x,t,hx,ht=>by
    simp only [List.getElem?_cons_succ] at hx ht
    rw [List.map_cons,List.nodup_cons] at hn
    have h1:¬ y.src=x.src:=fun e=>hn.1 (e ▸ List.mem_map_of_mem (bz hx))
    have:=numF_at hn.2 i x t hx ht
    unfold numF at this ⊢
    rw [List.zip_cons_cons,List.find?_cons_of_neg (by simpa using h1)]
    exact this
theorem insR_permE (x:Ld) (acc:List Ld):(insR x acc).Perm (x :: acc):=by
  have h:=List.takeWhile_append_dropWhile (p:=fun y=>decide (x.hr < y.hr)) (l:=acc.reverse)
  have e:insR x acc=(acc.reverse.dropWhile fun y=>decide (x.hr < y.hr)).reverse++x :: (acc.reverse.takeWhile fun y=>decide (x.hr < y.hr)).reverse:=by
    unfold insR
    simp
  rw [e]
  refine List.perm_middle.trans (List.Perm.cons x ?_)
  rw [← List.reverse_append,h,List.reverse_reverse]
theorem sortL_permE:∀ (l acc:List Ld),(l.foldl (fun acc x=>insR x acc) acc).Perm (l++acc)
  | [],acc=>List.Perm.refl _
  | x :: l,acc=>by
    rw [List.foldl_cons]
    refine (sortL_permE l (insR x acc)).trans ?_
    refine ((insR_permE x acc).append_left l).trans ?_
    exact List.perm_middle
theorem sortF_permE (l:List Ld):(ed l).Perm l:=by
  have:=sortL_permE l []
  rwa [List.append_nil] at this
theorem nd_loads {p:Pl} (hv:dw p=true) (dy:Int):((ae p dy).loads.map Ld.src).Nodup:=by
  have h1:(p.loads.map Ld.src).Nodup:=pw_nodup (jb.1 ((ek p).1 hv).a1)
  exact List.Nodup.sublist (List.Sublist.map _ List.filter_sublist) h1
theorem nd_crt {p:Pl} (hv:dw p=true) (dy:Int):((ax p dy).map Ld.src).Nodup :=
  ((sortF_permE (ae p dy).loads).map Ld.src).nodup_iff.2 (nd_loads hv dy)
theorem crt_loads {p:Pl} {dy:Int} {x:Ld} (h:x∈ax p dy):x∈(ae p dy).loads:=iw.1 h
theorem load_bd {p:Pl} (hv:dw p=true) {dy:Int}:∀ x∈(ae p dy).loads,0≤x.lo∧x.hi≤10000:=fun x hx=>by
  obtain ⟨⟨a,b,c,d⟩,_⟩:=okL_sh (by decide) (((ek p).1 hv).o1 x (List.mem_filter.1 hx).1)
  omega
theorem sown_bd {p:Pl} (hv:dw p=true) {dy:Int}:0≤(ae p dy).lo∧(ae p dy).hi≤10000:=by
  have h1:cu (ae p dy).lo (ae p dy).hi=true:=((ek p).1 hv).sown
  simp only [cu,Bool.and_eq_true,decide_eq_true_eq] at h1
  omega
theorem askAt {p:Pl} (hv:dw p=true) (dy:Int) (ts:List Int):AskAt (ae p dy) (ax p dy) ts (numF (ae p dy).loads ts) :=
  ⟨sown_bd hv,load_bd hv,fun x hx=>crt_loads hx,numF_at (nd_loads hv dy)⟩
theorem trueAt {p:Pl} (hv:dw p=true) {dy s:Int} {ts:List Int} (hT:trueB (ae p dy) (ax p dy) s ts (numF (ae p dy).loads ts)=true):TrueAt (ae p dy) (ax p dy) s ts (numF (ae p dy).loads ts) :=
  have h:=askAt hv dy ts
  trueB_at h.pl h.fd h.cin h.nt hT
def tB (p:Pl) (dy s:Int) (ts:List Int):Bool:=trueB (ae p dy) (ax p dy) s ts (numF (ae p dy).loads ts)
def cartingI (p:Pl) (dy s:Int) (ts:List Int):Int:=if fi p dy=0 then if tB p dy s ts then 0 else 16 else fi p dy
def leftI (p:Pl) (s:Int) (ts:List Int) (h dy:Int):Int × Int:=if ec p h dy=0 then if tB p dy s ts then (fg (ax p dy) (numF (ae p dy).loads ts) s h,0) else (0,16) else (0,ec p h dy)
def trulyI (p:Pl) (s:Int) (ts:List Int) (h dy:Int):Bool × Int:=if ec p h dy=0 then if tB p dy s ts then (trulyF (ae p dy) (ax p dy) (numF (ae p dy).loads ts) s h,0) else (false,16) else (false,ec p h dy)
def difs:List Int→List Int
  | a :: b :: l=>(a - b) :: difs (b :: l)
  | _=>[]
theorem difs_at:∀ {l:List Int} {i:Nat} {a b:Int},l[i]?=some a→l[i+1]?=some b→(difs l)[i]?=some (a - b)
  | [],i,a,b,ha,_=>by simp at ha
  | [c],i,a,b,_,hb=>by simp at hb
  | c :: d :: l,0,a,b,ha,hb=>by
    simp only [List.getElem?_cons_zero,List.getElem?_cons_succ,Option.some.injEq] at ha hb
    subst ha hb
    simp [difs]
  | c :: d :: l,i+1,a,b,ha,hb=>by
    simp only [List.getElem?_cons_succ] at ha hb
    have:=difs_at (l:=d :: l) (i:=i) (by simpa using ha) (by simpa using hb)
    simpa [difs] using this
def attN (p:Pl) (dy:Int) (most:Bool):Int→Int:=numF (ax p dy) (difs (ez most (ay (ae p dy) (ax p dy)).1))
theorem attN_num {p:Pl} (hv:dw p=true) (dy:Int) (most:Bool):NumOf (ax p dy) (ez most (ay (ae p dy) (ax p dy)).1) (attN p dy most) :=
  fun i x a b hx ha hb=>numF_at (nd_crt hv dy) i x _ hx (difs_at ha hb)
def gn (p:Pl) (h dy:Int) (most:Bool):Int × List Int × Int :=
  if ec p h dy=0 then if (ay (ae p dy) (ax p dy)).2 then ((ez most (ay (ae p dy) (ax p dy)).1).getD 0 0,(ae p dy).loads.map (fun x=>attN p dy most x.src),0) else (0,[],14) else (0,[],ec p h dy)
variable (w0:World) (pl:Pl) (pA1:Option Addr) (pn1 pc1:Nat) (pA2:Option Addr) (pn2 pc2:Nat) (pA3:Option Addr) (pn3 pc3:Nat) (hP:gz w0 pl pA1 pn1 pA2 pn2 pA3 pn3)
include hP
theorem Carting_i (dy s:Int) (tA:Option Addr) (tc:Nat) (ts:List Int) (hT:bi w0 tA (al dv ts)) (hx:ts.length≤9223372036854775807):bn Tryz.prog 42 [.agg #[.int .i64 pl.lo,.int .i64 pl.hi,.slice pA1 pn1 pc1,.slice pA2 pn2 pc2,.slice pA3 pn3 pc3,.int .i64 pl.geese],.int .i64 dy,.agg #[.int .i64 s,.slice tA ts.length tc]] w0 fun v w=>v=.int .i64 (cartingI pl dy s ts)∧Below w0.heap.size w0 w:=by
  refine bn.mono (CheckCartingG_c w0 pl pA1 pn1 pc1 pA2 pn2 pc2 pA3 pn3 pc3 hP dy s tA ts.length tc ts hT rfl hx _ fun h=>askAt (ik h).1 dy ts) fun v w h=>?_
  exact h
theorem Left_i (s:Int) (tA:Option Addr) (tc:Nat) (ts:List Int) (hT:bi w0 tA (al dv ts)) (hx:ts.length≤9223372036854775807) (h dy:Int):bn Tryz.prog 40 [.agg #[.int .i64 pl.lo,.int .i64 pl.hi,.slice pA1 pn1 pc1,.slice pA2 pn2 pc2,.slice pA3 pn3 pc3,.int .i64 pl.geese],.agg #[.int .i64 s,.slice tA ts.length tc],.int .i64 h,.int .i64 dy] w0 fun v w=>v=.tuple #[.int .i64 (leftI pl s ts h dy).1,.int .i64 (leftI pl s ts h dy).2]∧Below w0.heap.size w0 w:=by
  refine bn.mono (LeftG_c w0 pl pA1 pn1 pc1 pA2 pn2 pc2 pA3 pn3 pc3 hP h dy s tA ts.length tc ts hT rfl hx _ fun h=>askAt (ip h).1 dy ts) fun v w h=>?_
  unfold leftI tB
  split <;> rename_i h0 <;> simp only [h0,if_true,if_false] at h ⊢
  · split <;> rename_i h1 <;> simp only [h1,if_true,if_false] at h ⊢ <;> exact h
  exact h
theorem Attain_i (h dy:Int) (most:Bool):bn Tryz.prog 44 [.agg #[.int .i64 pl.lo,.int .i64 pl.hi,.slice pA1 pn1 pc1,.slice pA2 pn2 pc2,.slice pA3 pn3 pc3,.int .i64 pl.geese],.int .i64 h,.int .i64 dy,.bool most] w0 fun v w=>∃ v1,v=.tuple #[v1,.int .i64 (gn pl h dy most).2.2]∧GivesCart (gn pl h dy most).1 (gn pl h dy most).2.1 w0 v1 w:=by
  have nil:∀ {s:Int} {w:World},Below w0.heap.size w0 w→GivesCart s [] w0 (.agg #[.int .i64 s,.slice none 0 0]) w:=fun {s w} hb =>
    ⟨none,0,[],rfl,(((Inv.start w0).call hb).nilRow 3),Row.nil_ 1⟩
  unfold gn
  by_cases hd:ec pl h dy=0
  · refine bn.mono (Attain_c w0 pl pA1 pn1 pc1 pA2 pn2 pc2 pA3 pn3 pc3 hP h dy most hd (attN pl dy most) fun _=>attN_num (ip hd).1 dy most) ?_
    rintro v w (⟨h1,v1,rfl,h2⟩ | ⟨h1,rfl,hb⟩)
    · simp only [hd,h1,if_true]
      exact ⟨v1,rfl,h2⟩
    simp only [hd,h1,if_true]
    exact ⟨_,rfl,nil hb⟩
  refine bn.mono (AttainE_c w0 pl pA1 pn1 pc1 pA2 pn2 pc2 pA3 pn3 pc3 hP h dy most hd) ?_
  rintro v w ⟨rfl,hb⟩
  simp only [if_neg hd]
  exact ⟨_,rfl,nil hb⟩
end Go.K
