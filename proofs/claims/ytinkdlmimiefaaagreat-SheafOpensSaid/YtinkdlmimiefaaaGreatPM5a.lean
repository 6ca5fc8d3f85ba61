import Derived.Test.YtinkdlmimiefaaaGreatProg
import Derived.Test.YtinkdlmimiefaaaGreatPM4
namespace Go.K
open Go.Proofs Go.RowKit
set_option linter.unusedVariables false
set_option linter.unusedSimpArgs false
set_option maxRecDepth 100000
attribute [local irreducible] Seq cw cx fl opX

def la (p:Pl):List Int:=p.loads.map Ld.src++p.stands.map Ld.src++p.spells.map Sp.src
theorem all_step {α:Type} {Q:Nat→α→Prop} {l:List α} {k:Nat} (h:∀ i y,i < k→l[i]?=some y→Q i y) {x:α} (hx:l[k]?=some x) (hq:Q k x):∀ i y,i < k+1→l[i]?=some y→Q i y:=fun i y hi hy=>by
  by_cases e:i=k
  · subst e; rw [hx] at hy; injection hy with hy; subst hy; exact hq
  exact h i y (by omega) hy
theorem okl_iff {α:Type} {p:α→Int} {q:α→Nt}:∀ (l:List α) (last:Int) (S:Int→Bool),okl p q last S l=true↔(∀ x∈l,p x=0∧S (q x).s=false∧last < (q x).s)∧l.Pairwise (fun x y=>(q x).s < (q y).s)
  | [],_,_=>by simp [okl]
  | a :: l,last,S=>by
    simp only [okl,List.pairwise_cons,List.mem_cons,forall_eq_or_imp]
    by_cases h:p a=0∧last < (q a).s∧S (q a).s=false
    · rw [if_pos h,okl_iff l]
      constructor
      · rintro ⟨h1,h2⟩
        refine ⟨⟨⟨h.1,h.2.2,h.2.1⟩,fun x hx=>?_⟩,fun x hx=>(h1 x hx).2.2,h2⟩
        have h3:=h1 x hx
        have hne:(q x).s≠(q a).s:=by have:=h3.2.2; omega
        have h4:=h3.2.1
        rw [if_neg hne] at h4
        exact ⟨h3.1,h4,by have:=h.2.1; have:=h3.2.2; omega⟩
      rintro ⟨⟨_,h1⟩,h2,h3⟩
      refine ⟨fun x hx=>?_,h3⟩
      have h4:=h1 x hx; have h5:=h2 x hx
      exact ⟨h4.1,by rw [if_neg (by omega)]; exact h4.2.1,h5⟩
    rw [if_neg h]
    constructor
    · intro h1; cases h1
    rintro ⟨⟨⟨h1,h2,h3⟩,_⟩,_⟩; exact absurd ⟨h1,h3,h2⟩ h
def Adj {α:Type} (f:α→Int) (l:List α):Prop:=∀ i x y,l[i]?=some x→l[i+1]?=some y→f x < f y
theorem jb {α:Type} {f:α→Int} {l:List α}:Adj f l↔l.Pairwise (fun x y=>f x < f y):=by
  constructor
  · intro h
    rw [List.pairwise_iff_getElem]
    have key:∀ d i j (hi:i < l.length) (hj:j < l.length),j=i+1+d→f l[i] < f l[j]:=by
      intro d
      induction d with
      | zero=>intro i j hi hj e; exact h i _ _ (List.getElem?_eq_getElem hi) (by subst e; exact List.getElem?_eq_getElem hj)
      | succ d ih =>
        intro i j hi hj e
        have h1:=ih i (j - 1) hi (by omega) (by omega)
        have h2:=h (j - 1) _ _ (List.getElem?_eq_getElem (by omega)) (by rw [show j - 1+1=j by omega]; exact List.getElem?_eq_getElem hj)
        omega
    intro i j hi hj hij
    exact key (j - i - 1) i j hi hj (by omega)
  intro h i x y hx hy
  rw [List.pairwise_iff_getElem] at h
  have h1:=bu hx; have h2:=bu hy
  rw [List.getElem?_eq_getElem h1] at hx; rw [List.getElem?_eq_getElem h2] at hy
  injection hx with hx; injection hy with hy
  rw [← hx,← hy]
  exact h i (i+1) h1 h2 (by omega)
structure RefOk (p:Pl):Prop where
  sown:cu p.lo p.hi=true
  g0:0≤p.geese
  g1:p.geese≤60
  l1:p.loads.length≤60
  l2:p.stands.length≤60
  l3:p.spells.length≤60
  o1:∀ x∈p.loads,okL 10 x=0
  a1:Adj Ld.src p.loads
  o2:∀ x∈p.stands,okL 11 x=0
  a2:Adj Ld.src p.stands
  o3:∀ x∈p.spells,okS x=0
  a3:Adj Sp.src p.spells
  nd:(la p).Nodup
theorem okL_pos {e:Int} {x:Ld} (he:e≠0) (h:okL e x=0):0 < x.src:=by
  have:=ia h he
  simp only [fk,df,Bool.and_eq_true,decide_eq_true_eq] at this
  omega
theorem okS_pos {x:Sp} (h:okS x=0):0 < x.src:=by
  have:=ia h (by decide)
  simp only [dq,df,Bool.and_eq_true,decide_eq_true_eq] at this
  omega
theorem ke {α:Type} {q:α→Nt} {S:Int→Bool} {l:List α} {j:Int}:gq q S l j=false↔S j=false∧∀ y∈l,j≠(q y).s:=by
  simp [gq,List.any_eq_false]
theorem pw_nodup {α:Type} {f:α→Int} {l:List α} (h:l.Pairwise (fun x y=>f x < f y)):(l.map f).Nodup:=by
  rw [List.Nodup,List.pairwise_map]
  exact h.imp fun h=>by omega
theorem ek (p:Pl):dw p=true↔RefOk p:=by
  simp only [dw,dl,Bool.and_eq_true,decide_eq_true_eq,okl_iff]
  constructor
  · rintro ⟨⟨⟨⟨⟨h1,h2⟩,h3⟩,h4,h5,h6⟩,h7,h8,h9⟩,j,d,g⟩
    refine ⟨h1,h2,h3,h4,h7,j,fun x hx=>(h5 x hx).1,jb.2 h6,fun x hx=>(h8 x hx).1,jb.2 h9,fun x hx=>(d x hx).1,jb.2 g,?_⟩
    unfold la
    rw [List.nodup_append,List.nodup_append]
    refine ⟨⟨pw_nodup h6,pw_nodup h9,?_⟩,pw_nodup g,?_⟩
    · intro a ha b hb
      obtain ⟨x,hx,rfl⟩:=List.mem_map.1 ha
      obtain ⟨y,hy,rfl⟩:=List.mem_map.1 hb
      have:=(ke.1 (h8 y hy).2.1).2 x hx
      exact fun e=>this e.symm
    intro a ha b hb
    obtain ⟨y,hy,rfl⟩:=List.mem_map.1 hb
    have i:=ke.1 (d y hy).2.1
    rcases List.mem_append.1 ha with ha | ha
    · obtain ⟨x,hx,rfl⟩:=List.mem_map.1 ha
      exact fun e=>(ke.1 i.1).2 x hx e.symm
    obtain ⟨x,hx,rfl⟩:=List.mem_map.1 ha
    exact fun e=>i.2 x hx e.symm
  intro h
  have hn:=h.nd
  unfold la at hn
  rw [List.nodup_append,List.nodup_append] at hn
  obtain ⟨⟨n1,n2,n3⟩,n4,n5⟩:=hn
  have m {α:Type} {f:α→Int} {l:List α} {x:α} (hx:x∈l):f x∈l.map f:=List.mem_map.2 ⟨x,hx,rfl⟩
  refine ⟨⟨⟨⟨⟨h.sown,h.g0⟩,h.g1⟩,h.l1,fun x hx=>⟨h.o1 x hx,by simp,okL_pos (by decide) (h.o1 x hx)⟩,jb.1 h.a1⟩,h.l2,fun x hx=>⟨h.o2 x hx,?_,okL_pos (by decide) (h.o2 x hx)⟩,jb.1 h.a2⟩,h.l3,fun x hx=>⟨h.o3 x hx,?_,okS_pos (h.o3 x hx)⟩,jb.1 h.a3⟩
  · exact ke.2 ⟨rfl,fun y hy e=>n3 y.src (m hy) x.src (m hx) e.symm⟩
  refine ke.2 ⟨ke.2 ⟨rfl,fun y hy e=>n5 y.src (List.mem_append_left _ (m hy)) x.src (m hx) e.symm⟩,fun y hy e=>n5 y.src (List.mem_append_right _ (m hy)) x.src (m hx) e.symm⟩
end Go.K
