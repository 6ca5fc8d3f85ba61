import Derived.Test.YtinkdlmimiefaaaGreatPKK2
import Derived.Deep.Slices
import Derived.ChangeArms
import Derived.WideKeyArgs
import Derived.OpenShut
import Derived.WalkKit
import Derived.ProofKit
open Go Go.RowKit Go.ChangeShapes Go.Deep Go.WideShapes
namespace Go.K
set_option linter.unusedVariables false
def W64 (a:Int):Prop:=-9223372036854775808≤a∧a≤9223372036854775807
theorem wf64 {a:Int} (h:(Lit.int .i64 a).wf=true):W64 a:=by
  have h1:IntKind.i64.min=-9223372036854775808:=rfl
  have h2:IntKind.i64.max=9223372036854775807:=rfl
  simp only [Lit.wf,Bool.and_eq_true,decide_eq_true_eq,h1,h2] at h
  exact h
section
variable {P:Program} {H:Type} {enc:TypeId × Value→H} {w:World} {base:Nat} {sp:Nat→Bool} {held:Bool}
theorem field_of {t:TypeId} {fs:Array Field} {n:Nat} {cs:List Value} {x:DataW H × List MemPlace} (ht:P.underlying t=some (.struct fs)) (h:DataW.trod enc P w base sp held n t cs=some x) :
    cs.length=P.cellsOf t∧∃ m,∀ (i:Nat) (f:Field),fs[i]?=some f→∀ (ty off k:Nat),f.type=ty→f.offset=off→P.cellsOf ty=k→∃ y,DataW.trod enc P w base sp held m ty ((cs.drop off).take k)=some y:=by
  obtain ⟨xs,m,_,_,hl,hn,hf⟩:=DataW.trod_struct ht h
  refine ⟨hl,m,fun i f hi ty off k e1 e2 e3=>?_⟩
  subst e1; subst e2; subst e3
  have hi':i < fs.size:=(Array.getElem?_eq_some_iff.1 hi).1
  exact ⟨_,(hf i f hi).trans (List.getElem?_eq_getElem (by omega))⟩
theorem ft {ti n:Nat} {c:Value} {x:DataW H × List MemPlace} (ht:P.underlying ti=some (.int .i64)) (h:DataW.trod enc P w base sp held n ti [c]=some x):∃ a,c=.int .i64 a∧W64 a:=by
  obtain ⟨a,e,_,hw⟩:=DataW.trod_int ht h
  refine ⟨a,by simpa using e,?_⟩
  exact wf64 hw
theorem list_of {α:Type} {p:Nat→α→Prop}:∀ (n:Nat),(∀ i,i < n→∃ x,p i x)→∃ l:List α,l.length=n∧∀ i x,l[i]?=some x→p i x
  | 0,_=>⟨[],rfl,fun i x h=>by simp at h⟩
  | n+1,h=>by
    obtain ⟨l,hl,hp⟩:=list_of n fun i hi=>h i (by omega)
    obtain ⟨y,hy⟩:=h n (by omega)
    refine ⟨l++[y],by simp [hl],fun i x hx=>?_⟩
    rcases Nat.lt_trichotomy i n with h1 | h1 | h1
    · rw [List.getElem?_append_left (by omega)] at hx
      exact hp i x hx
    · subst h1
      rw [List.getElem?_append_right (by omega),hl,Nat.sub_self] at hx
      simp at hx
      subst hx; exact hy
    rw [List.getElem?_eq_none (by simp; omega)] at hx; cases hx
theorem cell_lt {a:Addr} {v:Value} (h:w.cell? a=some v):a.spot=none∧a.block < w.heap.size:=by
  unfold World.cell? at h
  split at h
  · rename_i hb
    split at h
    · cases h
    rename_i hs
    exact ⟨by simpa using hs,(Array.getElem?_eq_some_iff.1 hb).1⟩
  cases h
theorem rowq_of {α:Type} {f:α→List Value} {q:α→Prop} {k:Nat} (hk:0 < k) (hlen:∀ x,(f x).length=k) {t e:TypeId} (ht:P.underlying t=some (.slice e)) (hc:P.cellsOf e=k) (he:∀ {n:Nat} {cs:List Value} {x:DataW H × List MemPlace},DataW.trod enc P w base sp held n e cs=some x→∃ l:α,cs=f l∧q l)
    {n:Nat} {c:Value} {x:DataW H × List MemPlace} (h:DataW.trod enc P w base sp held n t [c]=some x) :
    ∃ (A:Option Addr) (len cap:Nat) (l:List α),c=.slice A len cap∧len≤cap∧cap≤maxLen∧len=l.length∧bi w A (al f l)∧∀ x∈l,q x:=by
  rcases open_slice ht h with ⟨h1,_⟩ | ⟨a,len,cap,m,n',D,Pl,h1,_,h2,h3,h4,_,h5⟩
  · exact ⟨none,0,0,[],by simpa using h1,Nat.le_refl _,by decide,rfl,fun h=>by simp [al] at h,fun x hx=>by cases hx⟩
  have hm:len≤m:=by rw [h4]; split <;> omega
  obtain ⟨l,hl,hp⟩:=list_of (p:=fun i (x:α)=>w.cells? base (a.add (i * k)) k=some (f x)∧q x) len fun i hi=>by
    obtain ⟨cs',e1,e2⟩:=h5 i (by omega)
    rw [hc] at e1
    obtain ⟨x,rfl,hq⟩:=he e2
    exact ⟨x,e1,hq⟩
  refine ⟨some a,len,cap,l,by simpa using h1,h2,h3,hl.symm,fun hpos=>?_,fun x hx=>?_⟩
  · have at_:∀ i x j u,l[i]?=some x→(f x)[j]?=some u→w.cell? ((a.add (i * k)).add j)=some u:=fun i x j u hx hu=>by
      obtain ⟨_,e2,e3⟩:=World.cells?_some (hp i x hx).1
      have:=(List.getElem?_eq_some_iff.1 hu).1
      rw [e3 j (by rw [hlen] at this; exact this),hu]
    have hl0:0 < l.length:=by
      rw [dt hlen] at hpos
      rcases Nat.eq_zero_or_pos l.length with h0 | h0
      · rw [h0,Nat.zero_mul] at hpos; omega
      exact h0
    have hf0:0 < (f l[0]).length:=by rw [hlen]; omega
    have h00:=at_ 0 l[0] 0 _ (List.getElem?_eq_getElem hl0) (List.getElem?_eq_getElem hf0)
    obtain ⟨b,off,s⟩:=a
    have e0:((Addr.mk b off s).add (0 * k)).add 0=⟨b,off,s⟩:=by rw [Nat.zero_mul]; rfl
    rw [e0] at h00
    obtain ⟨rfl,hb⟩:=cell_lt h00
    refine ⟨b,off,rfl,hb,fun j u hj=>?_⟩
    have hj':j < l.length * k:=by rw [← dt hlen]; exact (List.getElem?_eq_some_iff.1 hj).1
    have hi:j / k < l.length:=Nat.div_lt_of_lt_mul (by rw [Nat.mul_comm]; exact hj')
    have hg:=flat_get hlen l (j / k) (j % k) l[j / k] (List.getElem?_eq_getElem hi) (Nat.mod_lt _ hk)
    have ej:j / k * k+j % k=j:=by rw [Nat.mul_comm]; exact Nat.div_add_mod j k
    rw [ej] at hg
    have:=at_ (j / k) l[j / k] (j % k) u (List.getElem?_eq_getElem hi) (hg ▸ hj)
    rw [jl,jl,Nat.add_assoc,ej] at this
    exact this
  obtain ⟨i,hi,e⟩:=List.getElem_of_mem hx
  exact (hp i x (by rw [List.getElem?_eq_getElem hi,e])).2
theorem row_of {α:Type} {f:α→List Value} {q:α→Prop} {k:Nat} (hk:0 < k) (hlen:∀ x,(f x).length=k) {t e:TypeId} (ht:P.underlying t=some (.slice e)) (hc:P.cellsOf e=k) (he:∀ {n:Nat} {cs:List Value} {x:DataW H × List MemPlace},DataW.trod enc P w base sp held n e cs=some x→∃ l:α,cs=f l∧q l)
    {n:Nat} {c:Value} {x:DataW H × List MemPlace} (h:DataW.trod enc P w base sp held n t [c]=some x) :
    ∃ (A:Option Addr) (cap:Nat) (l:List α),c=.slice A l.length cap∧bi w A (al f l)∧l.length≤9223372036854775807∧l.length≤cap∧∀ x∈l,q x:=by
  obtain ⟨A,len,cap,l,h1,h2,h3,h4,h5,h6⟩:=rowq_of hk hlen ht hc he h
  subst h4
  unfold maxLen at h3
  exact ⟨A,cap,l,h1,h5,by omega,h2,h6⟩
theorem intl_of {ti n:Nat} {cs:List Value} {x:DataW H × List MemPlace} (ht:P.underlying ti=some (.int .i64)) (h:DataW.trod enc P w base sp held n ti cs=some x):∃ a,cs=dv a∧W64 a:=by
  obtain ⟨a,e,_,hw⟩:=DataW.trod_int ht h
  exact ⟨a,e,wf64 hw⟩
end
theorem all_stays {P:Program} (laidOut_:laidOutB P=true) {H:Type} {enc:TypeId × Value→H} {W W':World} (hb:Below W.heap.size W W') {sp:Nat→Bool}:∀ {ts:List TypeId} {vs:List Value} {ds:List (DataW H)} {ps:List MemPlace},
    (∀ t∈ts,P.readableRec t=true∧t < P.types.size)→DataW.TrodAll enc P W 0 (fun _=>true) true ts vs ds ps→(∀ p∈ps,p.block < W.heap.size∧sp p.block=true)→DataW.TrodAll enc P W' 0 sp true ts vs ds ps
  | [],vs,ds,ps,_,h,_=>by
    obtain ⟨rfl,rfl,rfl⟩:=trodAll_nil h
    exact h
  | t :: ts,vs,ds,ps,ht,h,hp=>by
    obtain ⟨v,vs',d,ds',p,q,rfl,rfl,rfl,h1,h2⟩:=trodAll_cons h
    obtain ⟨r1,r2⟩:=ht t (by simp)
    exact ⟨p,q,WideElems.Trod_stays laidOut_ r1 r2 h1 (fun x hx=>hb.same (hp x (List.mem_append_left _ hx)).1) (fun x hx=>(hp x (List.mem_append_left _ hx)).2),
      all_stays laidOut_ hb (fun t ht'=>ht t (List.mem_cons_of_mem _ ht')) h2 (fun x hx=>hp x (List.mem_append_right _ hx)),rfl⟩
theorem post_kept {P:Program} (laidOut_:laidOutB P=true) {b4:TypeId} (hb4:P.underlying b4=some .bool) {H:Type} {enc:TypeId × Value→H} {f:Func} {s:ChangeSpec} {apart fresh handsOn:Bool} {W W':World} {args:Array Value} {ds:List (DataW H)} {before:List MemPlace}
    (hv:s.vars=[]) (hW:DataW.Whole enc P f.params.toList s.vars apart W args.toList ds [] before) (hr:f.resultTypes = #[b4]) (hfn:s.fn H ds={ results:=[.lit (.bool true)],args:=ds })
    (ht:∀ t∈f.params.toList,P.readableRec t=true∧t < P.types.size) (hb:Below W.heap.size W W'):s.post enc P f apart fresh handsOn false W args (.bool true) W':=by
  have hW':=hW
  obtain ⟨p,q,h1,h2,rfl,_,_⟩:=hW
  rw [hv] at h2
  obtain ⟨_,rfl⟩:=trodVars_none h2
  rw [List.append_nil] at hW'
  refine ⟨ds,[],p,[],p,[],hW',?_,?_,?_,hb.frame _,fun h=>by cases h⟩
  · rw [hr,List.append_nil,hfn]
    exact trodAll_cons_mk (shut_bool hb4 _) trodAll_mk0
  · rw [List.append_nil,hfn]
    exact all_stays laidOut_ hb ht h1 fun x hx=>⟨hW'.lt x hx,by simpa using hW'.lt x hx⟩
  rw [List.append_nil,hfn,hv]; rfl
end Go.K
