/- Kt, On. -/
import Derived.Test.YtkmnjiejlgoglaaEKK1
import Derived.Test.YtkmnjiejlgoglaaEKK2
import Derived.Deep.Slices
import Derived.ChangeArms
import Derived.WideKeyArgs
import Derived.OpenShut
import Derived.WalkKit
import Derived.ProofKit
set_option linter.unusedVariables false
set_option linter.unusedSimpArgs false
section
namespace Go.K
open Go.RowKit
abbrev Tk:=Option Nat × Obj
theorem Inv.perm {B:List Nat} {w0 w:World} {L L':List Tk} (h:Inv B w0 w L) (hp:L.Perm L'):Inv B w0 w L':=by
  have hs:L.Pairwise fun x y=>∀ b c,x.1=some b→y.1=some c→b≠c:=by
    rw [List.pairwise_iff_getElem]
    intro i j hi hj hij b c hb hc
    exact h.sep i j b c L[i].2 L[j].2 (by rw [List.getElem?_eq_getElem hi,← hb]) (by rw [List.getElem?_eq_getElem hj,← hc]) (by omega)
  have hs':=hp.pairwise hs (fun {x y} hxy b c hb hc e=>hxy c b hc hb e.symm)
  rw [List.pairwise_iff_getElem] at hs'
  refine ⟨h.but,fun i b o hi=>?_,fun i j b c o p hi hj hij=>?_⟩
  · obtain ⟨k,hk,e⟩:=List.getElem_of_mem (hp.mem_iff.2 (List.mem_of_getElem? hi))
    exact h.has k b o (by rw [List.getElem?_eq_getElem hk,e])
  obtain ⟨hi',e1⟩:=List.getElem?_eq_some_iff.1 hi
  obtain ⟨hj',e2⟩:=List.getElem?_eq_some_iff.1 hj
  rcases Nat.lt_or_gt_of_ne hij with h1 | h1
  · exact hs' i j hi' hj' h1 b c (by rw [e1]) (by rw [e2])
  exact fun e=>hs' j i hj' hi' h1 c b (by rw [e2]) (by rw [e1]) e.symm
structure Wit where
  b:Nat
  g:Nat→Option Nat
  c:Nat→Nat
  cl:Nat→List Value
  e:Nat→List En
def Wit.no:Wit:=⟨0,fun _=>none,fun _=>0,fun _=>[],fun _=>[]⟩
abbrev Wy:=Nat→Wit
structure Ent where
  v:Wy→Value
  t:Wy→List Tk
  p:Wy→Prop
  tk:List Nat
  rd:List Nat
def Ent.no:Ent:=⟨fun _=>undef,fun _=>[],fun _=>True,[],[]⟩
def upY (y:Wy) (i:Nat) (z:Wit):Wy:=fun k=>if k=i then z else y k
def mskY (A:List Nat) (y:Wy):Wy:=fun k=>if A.contains k then y k else Wit.no
theorem upY_self (y:Wy) (i:Nat):upY y i (y i)=y:=by
  funext k; unfold upY; split
  · rename_i h; rw [h]
  rfl
theorem msk_up {A:List Nat} {y:Wy} {i:Nat} {z:Wit} (h:i ∉ A):mskY A (upY y i z)=mskY A y:=by
  funext k; unfold mskY upY
  by_cases hk:A.contains k=true
  · rw [if_pos hk,if_pos hk,if_neg (fun e=>h (by subst e; simpa using hk))]
  rw [if_neg hk,if_neg hk]
def ic (ops:Array Oper) (i:Nat):List Nat:=markL ops i (onsL ops i)
section tok
variable (P:Program) (ops:Array Oper) (D:List Ent) (B:List Nat) (w0:World) (L0:List Tk)
def ent (i:Nat):Ent:=D.getD i Ent.no
def vE (y:Wy) (i:Nat):Value:=(ent D i).v (mskY (i :: ic ops i) y)
def tE (y:Wy) (i:Nat):List Tk:=(ent D i).t (mskY (i :: ic ops i) y)
def pE (y:Wy) (i:Nat):Prop:=(ent D i).p (mskY (i :: ic ops i) y)
def tkn (y:Wy) (k:Nat):List Tk:=if k < ops.size then tE ops D y k else (L0[k - ops.size]?).toList
def Spec1 (y:Wy) (o:Oper) (i:Nat) (ρ:Env):Prop:=(∀ k,k∈ic ops i→pE ops D y k) →
  match Region.wanted o (ei ops ρ) with
  | true=>∀ X w,Inv B w0 w (((ent D i).tk++(ent D i).rd).flatMap (tkn ops D L0 y)++X)→cw P o ρ w (fun v w'=>∃ z,v=vE ops D (upY y i z) i∧pE ops D (upY y i z) i∧Inv B w0 w' (tE ops D (upY y i z) i++(ent D i).rd.flatMap (tkn ops D L0 y)++X))
  | false=>vE ops D y i=undef∧tE ops D y i=[]∧pE ops D y i∧(ent D i).tk=[]
def gy (y:Wy):List Oper→Nat→Env→Prop
  | [],_,_=>True
  | o :: rest,i,ρ=>Spec1 P ops D B w0 L0 y o i ρ∧gy y rest (i+1) (ey ρ o.dst (vE ops D y i))
def envE (y:Wy):List Oper→Nat→Env→Env
  | [],_,ρ=>ρ
  | o :: rest,i,ρ=>envE y rest (i+1) (ey ρ o.dst (vE ops D y i))
def takenB (S:Nat→Bool) (k:Nat):Bool:=(List.range ops.size).any fun j=>S j && (ent D j).tk.contains k
def idsB (S:Nat→Bool):List Nat:=(List.range (ops.size+L0.length)).filter fun k=>(decide (ops.size≤k) || S k) && !takenB ops D S k
end tok
def tokLooks (ops:Array Oper) (i j:Nat):Bool :=
  match ops[i]?,(ops[j]?).bind (·.dst) with
  | some oi,some t=>!(oi.looksAt ops).contains t || decide (j < i) && (ic ops i).contains j || decide (i < j) && (ic ops j).contains i
  | _,_=>true
def tokOk (P:Program) (n m:Nat) (l:List Oper) (D:List Ent):Bool :=
  let ops:=l.toArray
  P.follows .mixedOrders && dstsOk n l && Region.noSelect ops &&
  (List.range l.length).all fun i =>
    (onsL ops i).all (fun x=>decide (x < i)) &&
    (List.range l.length).all (fun j=>decide (j≤i) || (match (ops[i]?).bind (·.dst),(ops[j]?).bind (·.dst) with | some a,some b=>!(a == b) | _,_=>true)) &&
    (List.range l.length).all (fun j=>tokLooks ops i j) &&
    (let q:=(ent D i).tk++(ent D i).rd; decide q.Nodup && q.all fun k=>decide (k < l.length+m) && (decide (l.length≤k) || (ic ops i).contains k) && (List.range l.length).all fun j=>(j == i) || !(ent D j).tk.contains k || (ic ops j).contains i)
section meta_
variable {P:Program} {ops:Array Oper} {D:List Ent} {B:List Nat} {w0:World} {L0:List Tk}
theorem looks_of {o:Oper} {t:Nat} (h:.tmp t∈o.op.operands):t∈o.looksAt ops :=
  List.mem_append_left _ (List.mem_filterMap.2 ⟨.tmp t,by simpa using h,rfl⟩)
theorem exec_agree {o:Oper} (hs:∀ cs b,o.op≠.select cs b) {ρ ρ':Env} (h:∀ t∈o.looksAt ops,ρ t=ρ' t):execOp (ev ρ) o=execOp (ev ρ') o :=
  execOp_congr o hs fun x hx=>by
    cases x with
    | tmp t=>exact h t (looks_of hx)
    | _=>rfl
theorem wanted_agree {o:Oper} {ρ ρ':Env} (h:∀ t∈o.looksAt ops,ρ t=ρ' t):Region.wanted o (ei ops ρ)=Region.wanted o (ei ops ρ'):=by
  unfold Region.wanted
  cases hg:o.guard with
  | none=>rfl
  | some gw =>
    obtain ⟨g,want⟩:=gw
    have hy:ei ops ρ g=ei ops ρ' g:=by
      unfold ei
      cases ht:(ops[g]?).bind (·.dst) with
      | none=>rfl
      | some t=>simp only [h t (by simp [Oper.looksAt,hg,ht])]
    simp only [hy]
theorem envE_out (y:Wy):∀ (r:List Oper) (j:Nat) (ρ:Env) (t:Nat),(∀ (k:Nat) (o:Oper),r[k]?=some o→o.dst≠some t)→envE ops D y r j ρ t=ρ t
  | [],_,_,_,_=>rfl
  | o :: r,j,ρ,t,h=>by
    unfold envE
    rw [envE_out y r (j+1) _ t fun k o' hk=>h (k+1) o' (by simpa using hk)]
    have:=h 0 o rfl
    cases hd:o.dst with
    | none=>rfl
    | some d=>exact upd_ne ρ _ (fun e=>this (by rw [hd,e]))
theorem envE_in (y:Wy):∀ (r:List Oper) (j k:Nat) (ρ:Env) (o:Oper) (d:Nat),r[k]?=some o→o.dst=some d→(∀ (k':Nat) (o':Oper),k < k'→r[k']?=some o'→o'.dst≠some d)→envE ops D y r j ρ d=vE ops D y (j+k)
  | [],_,_,_,_,_,h,_,_=>by simp at h
  | o' :: r,j,0,ρ,o,d,h,hd,hx=>by
    simp only [List.getElem?_cons_zero,Option.some.injEq] at h
    subst h
    unfold envE
    rw [envE_out y r (j+1) _ d fun k o'' hk=>hx (k+1) o'' (by omega) (by simpa using hk),hd]
    exact upd_same ρ d _
  | o' :: r,j,k+1,ρ,o,d,h,hd,hx=>by
    unfold envE
    rw [envE_in y r (j+1) k _ o d (by simpa using h) hd fun k' o'' hk h'=>hx (k'+1) o'' (by omega) (by simpa using h'),show j+1+k=j+(k+1) by omega]
theorem specs_at (y:Wy):∀ (r:List Oper) (j:Nat) (ρ:Env),gy P ops D B w0 L0 y r j ρ→∀ (k:Nat) (o:Oper),r[k]?=some o→Spec1 P ops D B w0 L0 y o (j+k) (envE ops D y (r.take k) j ρ)
  | [],_,_,_,_,_,h=>by simp at h
  | o' :: r,j,ρ,hs,0,o,h=>by
    simp only [List.getElem?_cons_zero,Option.some.injEq] at h
    subst h
    exact hs.1
  | o' :: r,j,ρ,hs,k+1,o,h=>by
    have:=specs_at y r (j+1) _ hs.2 k o (by simpa using h)
    rw [show j+(k+1)=j+1+k by omega]
    exact this
theorem anc_listed {listed:Array Bool} (hc:Closed_ ops listed) {i:Nat} (h:listed.getD i false=true) {o:Oper} (ho:ops[i]?=some o):∀ x∈ic ops i,listed.getD x false=true :=
  mark_in hc i _ fun x hx=>by
    unfold onsL at hx
    rw [ho] at hx
    simp only [List.mem_map,List.mem_filter] at hx
    obtain ⟨e,⟨he,hb⟩,rfl⟩:=hx
    exact hc i o ho h e (by simpa using he) hb
theorem mark_lt {N:Nat} (hb:∀ k,k < N→∀ x∈onsL ops k,x < k):∀ (k b:Nat) (m:List Nat),k≤N→(∀ x∈m,x < b)→k≤b→∀ x∈markL ops k m,x < b
  | 0,b,m,_,hm,_,x,hx=>hm x hx
  | k+1,b,m,hN,hm,hkb,x,hx=>by
    unfold markL at hx
    refine mark_lt hb k b _ (by omega) (fun y hy=>?_) (by omega) x hx
    split at hy
    · rcases List.mem_append.1 hy with hy | hy
      · exact hm y hy
      have:=hb k (by omega) y hy; omega
    exact hm y hy
theorem part_perm {A L:List Nat} (hA:A.Nodup) (hL:L.Nodup) (hs:∀ x∈A,x∈L):L.Perm (A++L.filter fun x=>!A.contains x):=by
  refine (List.perm_ext_iff_of_nodup hL ?_).2 fun x=>?_
  · refine List.nodup_append.2 ⟨hA,hL.filter _,fun a ha b hb e=>?_⟩
    subst e
    have:=(List.mem_filter.1 hb).2
    simp [ha] at this
  simp only [List.mem_append,List.mem_filter,Bool.not_eq_true',List.contains_eq_mem,decide_eq_false_iff_not]
  constructor
  · intro hx
    by_cases h:x∈A
    · exact .inl h
    exact .inr ⟨hx,h⟩
  rintro (h | h)
  · exact hs x h
  exact h.1
theorem fm_congr {α β:Type} {f g:α→List β}:∀ {l:List α},(∀ x∈l,f x=g x)→l.flatMap f=l.flatMap g
  | [],_=>rfl
  | a :: l,h=>by rw [List.flatMap_cons,List.flatMap_cons,h a List.mem_cons_self,fm_congr fun x hx=>h x (List.mem_cons_of_mem _ hx)]
theorem fm_perm {α β:Type} (f:α→List β) {l m:List α} (h:l.Perm m):(l.flatMap f).Perm (m.flatMap f):=by
  induction h with
  | nil=>exact .refl _
  | cons x _ ih=>rw [List.flatMap_cons,List.flatMap_cons]; exact List.Perm.append_left _ ih
  | swap x y l=>simp only [List.flatMap_cons,← List.append_assoc]; exact List.Perm.append_right _ List.perm_append_comm
  | trans _ _ ih1 ih2=>exact ih1.trans ih2
structure TokC (ops:Array Oper) (D:List Ent) (m:Nat):Prop where
  back:∀ i,i < ops.size→∀ x∈onsL ops i,x < i
  dif:∀ (i j:Nat) (a b:Oper) (d:Nat),ops[i]?=some a→ops[j]?=some b→i < j→a.dst=some d→b.dst≠some d
  look:∀ (i j:Nat) (a b:Oper) (t:Nat),ops[i]?=some a→ops[j]?=some b→b.dst=some t→t∈a.looksAt ops→(j < i∧j∈ic ops i)∨(i < j∧i∈ic ops j)
  nd:∀ i,i < ops.size→((ent D i).tk++(ent D i).rd).Nodup
  tok:∀ i,i < ops.size→∀ k∈(ent D i).tk++(ent D i).rd,k < ops.size+m∧(ops.size≤k∨k∈ic ops i)∧∀ j,j < ops.size→k∈(ent D j).tk→j=i∨i∈ic ops j
theorem TokC.anc_lt {m:Nat} (h:TokC ops D m) {i x:Nat} (hi:i < ops.size) (hx:x∈ic ops i):x < i :=
  mark_lt (N:=ops.size) h.back i i _ (by omega) (h.back i hi) (Nat.le_refl _) x hx
structure TokSt (P:Program) (l:List Oper) (D:List Ent) (B:List Nat) (w0:World) (L0:List Tk) (ρ0:Env) (listed:Array Bool) (y:Wy) (ρ:Env) (w:World):Prop where
  size:listed.size=l.toArray.size
  cl:Closed_ l.toArray listed
  e1:∀ (k:Nat) (o:Oper) (d:Nat),l.toArray[k]?=some o→o.dst=some d→listed.getD k false=true→ρ d=vE l.toArray D y k
  e2:∀ (t:Nat),(∀ (k:Nat) (o:Oper),l.toArray[k]?=some o→listed.getD k false=true→o.dst≠some t)→ρ t=ρ0 t
  ps:∀ k,k < l.toArray.size→listed.getD k false=true→pE l.toArray D y k
  inv:Inv B w0 w ((idsB l.toArray D L0 fun k=>listed.getD k false).flatMap (tkn l.toArray D L0 y))
theorem tok_step {l:List Oper} {ρ0:Env} (hC:TokC l.toArray D L0.length) (hsel:∀ (j:Nat) (o:Oper) cs b,l.toArray[j]?=some o→o.op≠.select cs b) (hS:∀ y,gy P l.toArray D B w0 L0 y l 0 ρ0)
    {listed:Array Bool} {y:Wy} {ρ:Env} {w:World} (st:TokSt P l D B w0 L0 ρ0 listed y ρ w) {i:Nat} (hr:i∈Region.ready .any l.toArray listed) :
    opX P l.toArray i ρ w fun ρ' w'=>∃ y',TokSt P l D B w0 L0 ρ0 (listed.setIfInBounds i true) y' ρ' w':=by
  obtain ⟨hun,o,ho,hall⟩:=mem_ready.1 hr
  have hi:i < l.toArray.size:=(Array.getElem?_eq_some_iff.1 ho).1
  have hif:listed.getD i false=false:=by
    have:i < listed.size:=by rw [st.size]; exact hi
    simp [this] at hun ⊢; exact hun
  have hanc:∀ x∈ic l.toArray i,listed.getD x false=true:=mark_in st.cl i _ (ready_ons hr)
  have hno:∀ k,listed.getD k false=true→k < l.toArray.size→i ∉ k :: ic l.toArray k:=fun k hk hks hm=>by
    rcases List.mem_cons.1 hm with rfl | hm
    · rw [hif] at hk; cases hk
    have:=anc_listed st.cl hk (Array.getElem?_eq_getElem hks) i hm
    rw [hif] at this; cases this
  have hl:l[i]?=some o:=by simpa using ho
  have hsp:=specs_at y l 0 ρ0 (hS y) i o hl
  rw [Nat.zero_add] at hsp
  have hdif:∀ (j k:Nat) (a b:Oper) (d:Nat),l.toArray[j]?=some a→l.toArray[k]?=some b→a.dst=some d→b.dst=some d→j=k:=fun j k a b d ha hb hd hd'=>by
    rcases Nat.lt_trichotomy j k with h | h | h
    · exact absurd hd' (hC.dif j k a b d ha hb h hd)
    · exact h
    exact absurd hd (hC.dif k j b a d hb ha h hd')
  have hag:∀ t∈o.looksAt l.toArray,ρ t=envE l.toArray D y (l.take i) 0 ρ0 t:=fun t ht=>by
    by_cases hd:∃ (j:Nat) (b:Oper),l.toArray[j]?=some b∧b.dst=some t
    · obtain ⟨j,b,hb,hbt⟩:=hd
      rcases hC.look i j o b t ho hb hbt ht with ⟨hji,hja⟩ | ⟨hij,hia⟩
      · rw [st.e1 j b t hb hbt (hanc j hja)]
        have:=envE_in (ops:=l.toArray) (D:=D) y (l.take i) 0 j ρ0 b t (by rw [List.getElem?_take_of_lt hji]; simpa using hb) hbt fun k' o' hk ho' e=>by
          have hk':l.toArray[k']?=some o':=by
            rcases Nat.lt_or_ge k' i with h | h
            · rw [List.getElem?_take_of_lt h] at ho'; simpa using ho'
            rw [List.getElem?_eq_none (by rw [List.length_take]; omega)] at ho'; cases ho'
          have:=hdif j k' b o' t hb hk' hbt e
          omega
        rw [Nat.zero_add] at this
        exact this.symm
      have hj:listed.getD j false=false:=by
        cases hq:listed.getD j false with
        | false=>rfl
        | true=>exact absurd (List.mem_cons_of_mem _ hia) (hno j hq (Array.getElem?_eq_some_iff.1 hb).1)
      rw [st.e2 t fun k o' hk hk2 e=>by
        have:=hdif k j o' b t hk hb e hbt
        subst this; rw [hj] at hk2; cases hk2]
      exact (envE_out y _ 0 ρ0 t fun k o' hk e=>by
        have hlt:k < i:=by
          rcases Nat.lt_or_ge k i with h | h
          · exact h
          rw [List.getElem?_eq_none (by rw [List.length_take]; omega)] at hk; cases hk
        rw [List.getElem?_take_of_lt hlt] at hk
        have:=hdif k j o' b t (by simpa using hk) hb e hbt
        omega).symm
    rw [st.e2 t fun k o' hk _ e=>hd ⟨k,o',hk,e⟩]
    exact (envE_out y _ 0 ρ0 t fun k o' hk e=>by
      rcases Nat.lt_or_ge k i with h | h
      · rw [List.getElem?_take_of_lt h] at hk; exact hd ⟨k,o',by simpa using hk,e⟩
      rw [List.getElem?_eq_none (by rw [List.length_take]; omega)] at hk; cases hk).symm
  -- the tokens
  have hids:∀ k,k∈idsB l.toArray D L0 (fun k=>listed.getD k false)↔k < l.toArray.size+L0.length∧(l.toArray.size≤k∨listed.getD k false=true)∧∀ j,j < l.toArray.size→listed.getD j false=true→k ∉ (ent D j).tk:=fun k=>by
    simp only [idsB,takenB,List.mem_filter,List.mem_range,Bool.and_eq_true,Bool.or_eq_true,decide_eq_true_eq,Bool.not_eq_true',List.any_eq_false,List.contains_eq_mem,not_and]
  have hnd:(idsB l.toArray D L0 fun k=>listed.getD k false).Nodup:=List.nodup_range.filter _
  have hA:∀ k∈(ent D i).tk++(ent D i).rd,k∈idsB l.toArray D L0 (fun k=>listed.getD k false):=fun k hk=>by
    obtain ⟨h1,h2,h3⟩:=hC.tok i hi k hk
    refine (hids k).2 ⟨h1,h2.imp_right (hanc k),fun j hj hjl hkj=>?_⟩
    rcases h3 j hj hkj with rfl | h
    · rw [hif] at hjl; cases hjl
    exact hno j hjl hj (List.mem_cons_of_mem _ h)
  have hpart:=part_perm (hC.nd i hi) hnd hA
  have hI:=st.inv.perm (fm_perm _ hpart)
  rw [List.flatMap_append] at hI
  generalize hR:(idsB l.toArray D L0 fun k=>listed.getD k false).filter (fun x=>!((ent D i).tk++(ent D i).rd).contains x)=R at hI hpart
  have hRm:∀ k∈R,k∈idsB l.toArray D L0 (fun k=>listed.getD k false)∧k ∉ (ent D i).tk++(ent D i).rd:=fun k hk=>by
    rw [← hR,List.mem_filter] at hk
    exact ⟨hk.1,by simpa using hk.2⟩
  have hset:∀ k,k < l.toArray.size→((listed.setIfInBounds i true).getD k false=true↔k=i∨listed.getD k false=true):=fun k hk=>by
    by_cases e:i=k
    · subst e
      have h5:i < listed.size:=by rw [st.size]; exact hi
      simp [h5]
    rw [getD_set_ne false e]; exact ⟨.inr,fun h=>h.resolve_left (Ne.symm e)⟩
  have fin:∀ (v:Value) (w':World) (z:Wit),v=vE l.toArray D (upY y i z) i→pE l.toArray D (upY y i z) i→Inv B w0 w' (tE l.toArray D (upY y i z) i++(ent D i).rd.flatMap (tkn l.toArray D L0 y)++R.flatMap (tkn l.toArray D L0 y)) →
      ∃ y',TokSt P l D B w0 L0 ρ0 (listed.setIfInBounds i true) y' (ey ρ o.dst v) w':=fun v w' z hv hp hI'=>by
    have hvE:∀ k,k < l.toArray.size→listed.getD k false=true→vE l.toArray D (upY y i z) k=vE l.toArray D y k∧tE l.toArray D (upY y i z) k=tE l.toArray D y k∧pE l.toArray D (upY y i z) k=pE l.toArray D y k:=fun k hks hk=>by
      unfold vE tE pE
      rw [msk_up (hno k hk hks)]; exact ⟨rfl,rfl,rfl⟩
    refine ⟨upY y i z,⟨by simp [st.size],closed_set st.cl hr,fun k o' d hk hd hkl=>?_,fun t ht=>?_,fun k hk hkl=>?_,?_⟩⟩
    · have hks:=(Array.getElem?_eq_some_iff.1 hk).1
      by_cases e:k=i
      · subst e
        rw [ho] at hk; injection hk with hk; subst hk
        rw [hd,← hv]; exact upd_same ρ d _
      have hkl':=((hset k hks).1 hkl).resolve_left e
      have hne:o.dst≠some d:=fun h=>e (hdif k i o' o d hk ho hd h)
      rw [(hvE k hks hkl').1,← st.e1 k o' d hk hd hkl']
      cases hod:o.dst with
      | none=>rfl
      | some d'=>exact upd_ne ρ _ (fun h=>hne (by rw [hod,h]))
    · have h1:o.dst≠some t:=ht i o ho ((hset i hi).2 (.inl rfl))
      have h2:=st.e2 t fun k o' hk hkl=>ht k o' hk ((hset k (Array.getElem?_eq_some_iff.1 hk).1).2 (.inr hkl))
      rw [← h2]
      cases hod:o.dst with
      | none=>rfl
      | some d'=>exact upd_ne ρ _ (fun h=>h1 (by rw [hod,h]))
    · by_cases e:k=i
      · subst e; exact hp
      have hkl':=((hset k hk).1 hkl).resolve_left e
      rw [(hvE k hk hkl').2.2]; exact st.ps k hk hkl'
    have hids':∀ k,k∈idsB l.toArray D L0 (fun k=>(listed.setIfInBounds i true).getD k false)↔k < l.toArray.size+L0.length∧(l.toArray.size≤k∨(listed.setIfInBounds i true).getD k false=true)∧∀ j,j < l.toArray.size→(listed.setIfInBounds i true).getD j false=true→k ∉ (ent D j).tk:=fun k=>by
      simp only [idsB,takenB,List.mem_filter,List.mem_range,Bool.and_eq_true,Bool.or_eq_true,decide_eq_true_eq,Bool.not_eq_true',List.any_eq_false,List.contains_eq_mem,not_and]
    have hnd':(idsB l.toArray D L0 fun k=>(listed.setIfInBounds i true).getD k false).Nodup:=List.nodup_range.filter _
    have hndA:=hC.nd i hi
    have hnn:i ∉ idsB l.toArray D L0 (fun k=>listed.getD k false):=fun h=>by
      have:=((hids i).1 h).2.1
      rcases this with h | h
      · omega
      rw [hif] at h; cases h
    have hperm:(i :: ((ent D i).rd++R)).Perm (idsB l.toArray D L0 fun k=>(listed.setIfInBounds i true).getD k false):=by
      refine (List.perm_ext_iff_of_nodup ?_ hnd').2 fun k=>?_
      · refine List.nodup_cons.2 ⟨fun h=>?_,List.nodup_append.2 ⟨(List.nodup_append.1 hndA).2.1,hR ▸ hnd.filter _,fun a ha b hb e=>?_⟩⟩
        · rcases List.mem_append.1 h with h | h
          · exact hnn (hA i (List.mem_append_right _ h))
          exact hnn (hRm i h).1
        subst e; exact (hRm a hb).2 (List.mem_append_right _ ha)
      rw [hids' k,List.mem_cons,List.mem_append]
      have old:k∈idsB l.toArray D L0 (fun k=>listed.getD k false)→k ∉ (ent D i).tk→k < l.toArray.size+L0.length∧(l.toArray.size≤k∨(listed.setIfInBounds i true).getD k false=true)∧∀ j,j < l.toArray.size→(listed.setIfInBounds i true).getD j false=true→k ∉ (ent D j).tk:=fun hk hkt=>by
        obtain ⟨h1,h2,h3⟩:=(hids k).1 hk
        refine ⟨h1,h2.imp_right (fun h=>getD_set_true h),fun j hj hjl=>?_⟩
        rcases (hset j hj).1 hjl with rfl | hjl
        · exact hkt
        exact h3 j hj hjl
      constructor
      · rintro (rfl | hk | hk)
        · refine ⟨by omega,.inr ((hset k hi).2 (.inl rfl)),fun j hj hjl hkj=>?_⟩
          have h2:=(hC.tok j hj k (List.mem_append_left _ hkj)).2.1
          rcases h2 with h2 | h2
          · omega
          rcases (hset j hj).1 hjl with rfl | hjl
          · have:=hC.anc_lt hj h2; omega
          exact hno j hjl hj (List.mem_cons_of_mem _ h2)
        · exact old (hA k (List.mem_append_right _ hk)) fun h=>(List.nodup_append.1 hndA).2.2 k h k hk rfl
        exact old (hRm k hk).1 fun h=>(hRm k hk).2 (List.mem_append_left _ h)
      rintro ⟨h1,h2,h3⟩
      by_cases e:k=i
      · exact .inl e
      right
      have hki:k∈idsB l.toArray D L0 (fun k=>listed.getD k false):=by
        refine (hids k).2 ⟨h1,?_,fun j hj hjl=>h3 j hj (getD_set_true hjl)⟩
        rcases h2 with h2 | h2
        · exact .inl h2
        right
        rcases Nat.lt_or_ge k l.toArray.size with h4 | h4
        · exact ((hset k h4).1 h2).resolve_left e
        rw [getD_set_ne false (Ne.symm e)] at h2; exact h2
      have hkt:k ∉ (ent D i).tk:=h3 i hi ((hset i hi).2 (.inl rfl))
      by_cases hkr:k∈(ent D i).rd
      · exact .inl hkr
      right
      rw [← hR,List.mem_filter]
      exact ⟨hki,by simp [hkt,hkr]⟩
    refine Inv.perm ?_ (fm_perm _ hperm)
    have same:∀ k,k∈idsB l.toArray D L0 (fun k=>listed.getD k false)→tkn l.toArray D L0 (upY y i z) k=tkn l.toArray D L0 y k:=fun k hk=>by
      unfold tkn
      split
      · rename_i hks
        have:=((hids k).1 hk).2.1
        rcases this with h | h
        · omega
        exact (hvE k hks h).2.1
      rfl
    have hti:tkn l.toArray D L0 (upY y i z) i=tE l.toArray D (upY y i z) i:=if_pos hi
    rw [List.flatMap_cons,List.flatMap_append,hti,fm_congr fun k hk=>same k (hA k (List.mem_append_right _ hk)),fm_congr (l:=R) fun k hk=>same k (hRm k hk).1,← List.append_assoc]
    exact hI'
  have hq:=hsp fun k hk=>st.ps k (by have:=hC.anc_lt hi hk; omega) (hanc k hk)
  unfold opX
  simp only [ho]
  rw [wanted_agree hag]
  split
  · rename_i hw
    simp only [hw] at hq
    have h1:=hq _ w hI
    unfold cw at h1 ⊢
    rw [exec_agree (hsel i o · · ho) hag]
    generalize (execOp (ev (envE l.toArray D y (l.take i) 0 ρ0)) o).run P w=r at h1 ⊢
    cases r with
    | ok x w' =>
      cases x with
      | value u=>obtain ⟨z,hv,hp,hI'⟩:=h1; exact fin u w' z hv hp hI'
      | skip=>obtain ⟨z,hv,hp,hI'⟩:=h1; exact fin undef w' z hv hp hI'
      | enter f args=>exact Calls.mono h1 fun e w'' ⟨u,he,z,hv,hp,hI'⟩=>⟨u,he,fin u w'' z hv hp hI'⟩
      | round l f tmps assign body=>exact RoundIn.mono h1 fun e w'' ⟨u,he,z,hv,hp,hI'⟩=>⟨u,he,fin u w'' z hv hp hI'⟩
      | _=>exact h1.elim
    | halt x w'=>exact h1.elim
  rename_i hw
  simp only [hw] at hq
  obtain ⟨hv,ht,hp,htk⟩:=hq
  refine fin undef w (y i) (by rw [upY_self]; exact hv.symm) (by rw [upY_self]; exact hp) ?_
  rw [upY_self,ht,List.nil_append]
  rw [htk,List.nil_append] at hI
  exact hI
def unl (n:Nat) (listed:Array Bool):Nat:=((List.range n).filter fun k=>!listed.getD k false).length
theorem unl_set {n i:Nat} {listed:Array Bool} (hs:listed.size=n) (hi:i < n) (hu:listed.getD i false=false):unl n (listed.setIfInBounds i true)+1=unl n listed:=by
  unfold unl
  have hp:((List.range n).filter fun k=>!listed.getD k false).Perm (i :: (List.range n).filter fun k=>!(listed.setIfInBounds i true).getD k false):=by
    refine (List.perm_ext_iff_of_nodup (List.nodup_range.filter _) (List.nodup_cons.2 ⟨fun h=>?_,List.nodup_range.filter _⟩)).2 fun k=>?_
    · have:=(List.mem_filter.1 h).2
      simp [hs,hi] at this
    rw [List.mem_cons,List.mem_filter,List.mem_filter,List.mem_range]
    by_cases e:i=k
    · subst e; simp [hi,hu]
    rw [getD_set_ne false e]
    exact ⟨fun h=>.inr h,fun h=>h.resolve_left (Ne.symm e)⟩
  rw [hp.length_eq,List.length_cons]
theorem unl_zero {n:Nat} {listed:Array Bool} (h:unl n listed=0) (k:Nat) (hk:k < n):listed.getD k false=true:=by
  have:=List.eq_nil_of_length_eq_zero h
  cases hq:listed.getD k false with
  | true=>rfl
  | false =>
    have hm:k∈(List.range n).filter fun k=>!listed.getD k false:=List.mem_filter.2 ⟨List.mem_range.2 hk,by simp [hq]⟩
    rw [this] at hm; cases hm
theorem least_ready {m:Nat} (hC:TokC ops D m) {listed:Array Bool} (hs:listed.size=ops.size):∀ (k:Nat),k < ops.size→listed.getD k false=false→∃ i,i∈Region.ready .any ops listed:=fun k=>by
  induction k using Nat.strongRecOn with
  | ind k ih =>
    intro hk hu
    by_cases h:∃ x∈onsL ops k,listed.getD x false=false
    · obtain ⟨x,hx,hxu⟩:=h
      have:=hC.back k hk x hx
      exact ih x this (by omega) hxu
    refine ⟨k,mem_ready.2 ⟨?_,ops[k],Array.getElem?_eq_getElem hk,fun e he hb=>?_⟩⟩
    · have h5:k < listed.size:=by rw [hs]; exact hk
      simp [h5] at hu ⊢; exact hu
    cases hq:listed.getD e.on false with
    | true=>rfl
    | false =>
      refine absurd ⟨e.on,?_,hq⟩ h
      unfold onsL
      rw [Array.getElem?_eq_getElem hk]
      exact List.mem_map.2 ⟨e,List.mem_filter.2 ⟨by simpa using he,hb⟩,rfl⟩
theorem tok_all {l:List Oper} {ρ0:Env} {Q:Env→World→Prop} (hC:TokC l.toArray D L0.length) (hsel:∀ (j:Nat) (o:Oper) cs b,l.toArray[j]?=some o→o.op≠.select cs b) (hS:∀ y,gy P l.toArray D B w0 L0 y l 0 ρ0)
    (hQ:∀ y,(∀ k,k < l.toArray.size→pE l.toArray D y k)→∀ w,Inv B w0 w ((idsB l.toArray D L0 fun _=>true).flatMap (tkn l.toArray D L0 y))→Q (envE l.toArray D y l 0 ρ0) w) :
    ∀ (fuel:Nat) (listed:Array Bool) (y:Wy) (ρ:Env) (w:World),TokSt P l D B w0 L0 ρ0 listed y ρ w→unl l.toArray.size listed=fuel→AnyW P l.toArray Q fuel listed ρ w:=by
  intro fuel
  induction fuel with
  | zero =>
    intro listed y ρ w st hf
    have hall:=unl_zero hf
    refine ⟨?_,?_⟩
    · cases hr:Region.ready .any l.toArray listed with
      | nil=>rfl
      | cons i r =>
        have hi:i∈Region.ready .any l.toArray listed:=by rw [hr]; exact List.mem_cons_self
        obtain ⟨hun,o,ho,_⟩:=mem_ready.1 hi
        have hlt:=(Array.getElem?_eq_some_iff.1 ho).1
        have h1:=hall i hlt
        have h5:i < listed.size:=by rw [st.size]; exact hlt
        simp [h5] at hun h1
        rw [hun] at h1; cases h1
    have he:ρ=envE l.toArray D y l 0 ρ0:=by
      funext t
      by_cases hd:∃ (j:Nat) (b:Oper),l.toArray[j]?=some b∧b.dst=some t
      · obtain ⟨j,b,hb,hbt⟩:=hd
        have hj:=(Array.getElem?_eq_some_iff.1 hb).1
        rw [st.e1 j b t hb hbt (hall j hj)]
        have:=envE_in (ops:=l.toArray) (D:=D) y l 0 j ρ0 b t (by simpa using hb) hbt fun k' o' hk ho' e=>hC.dif j k' b o' t hb (by simpa using ho') hk hbt e
        rw [Nat.zero_add] at this
        exact this.symm
      rw [st.e2 t fun k o' hk _ e=>hd ⟨k,o',hk,e⟩]
      exact (envE_out y _ 0 ρ0 t fun k o' hk e=>hd ⟨k,o',by simpa using hk,e⟩).symm
    rw [he]
    refine hQ y (fun k hk=>st.ps k hk (hall k hk)) w ?_
    have hids:(idsB l.toArray D L0 fun k=>listed.getD k false)=idsB l.toArray D L0 fun _=>true:=by
      unfold idsB takenB
      have h1:∀ k,((List.range l.toArray.size).any fun j=>listed.getD j false && (ent D j).tk.contains k)=(List.range l.toArray.size).any fun j=>true && (ent D j).tk.contains k:=fun k=>by
        rw [Bool.eq_iff_iff,List.any_eq_true,List.any_eq_true]
        constructor
        · rintro ⟨j,hj,h⟩; exact ⟨j,hj,by rw [Bool.true_and]; exact (Bool.and_eq_true_iff.1 h).2⟩
        rintro ⟨j,hj,h⟩; exact ⟨j,hj,by rw [hall j (List.mem_range.1 hj)]; exact h⟩
      refine List.filter_congr fun k hk=>?_
      rw [h1]
      congr 1
      show (decide (l.toArray.size≤k) || listed.getD k false)=(decide (l.toArray.size≤k) || true)
      by_cases hks:k < l.toArray.size
      · rw [hall k hks]
      rw [decide_eq_true (show l.toArray.size≤k by omega)]; rfl
    rw [← hids]
    exact st.inv
  | succ fuel ih =>
    intro listed y ρ w st hf
    refine ⟨fun h0=>?_,fun i hr=>?_⟩
    · exfalso
      have:(List.range l.toArray.size).filter (fun k=>!listed.getD k false)≠[]:=fun h=>by
        unfold unl at hf; rw [h] at hf; cases hf
      obtain ⟨k,hk⟩:=List.exists_mem_of_ne_nil _ this
      have hk2:=List.mem_filter.1 hk
      obtain ⟨i,hi⟩:=least_ready hC st.size k (List.mem_range.1 hk2.1) (by simpa using hk2.2)
      rw [h0] at hi; cases hi
    obtain ⟨hun,o,ho,_⟩:=mem_ready.1 hr
    have hlt:=(Array.getElem?_eq_some_iff.1 ho).1
    have hif:listed.getD i false=false:=by
      have h5:i < listed.size:=by rw [st.size]; exact hlt
      simp [h5] at hun ⊢; exact hun
    refine opX.mono (tok_step hC hsel hS st hr) fun ρ' w' ⟨y',st'⟩=>ih _ y' ρ' w' st' ?_
    have:=unl_set st.size hlt hif
    omega
theorem tokC_of {n m:Nat} {l:List Oper} (h:tokOk P n m l D=true):P.follows .mixedOrders=true∧dstsOk n l=true∧Region.noSelect l.toArray=true∧TokC l.toArray D m:=by
  simp only [tokOk,Bool.and_eq_true,List.all_eq_true,List.mem_range,decide_eq_true_eq,Bool.or_eq_true,beq_iff_eq] at h
  obtain ⟨⟨⟨hm,hd⟩,hn⟩,h⟩:=h
  refine ⟨hm,hd,hn,⟨fun i hi x hx=>(h i (by simpa using hi)).1.1.1 x hx,fun i j a b d ha hb hij had hbd=>?_,fun i j a b t ha hb hbt hat=>?_,fun i hi=>(h i (by simpa using hi)).2.1,fun i hi k hk=>?_⟩⟩
  · have hi:=(Array.getElem?_eq_some_iff.1 ha).1
    have hj:=(Array.getElem?_eq_some_iff.1 hb).1
    have:=(h i (by simpa using hi)).1.1.2 j (by simpa using hj)
    rcases this with h1 | h1
    · omega
    rw [ha,hb] at h1
    simp [had,hbd] at h1
  · have hi:=(Array.getElem?_eq_some_iff.1 ha).1
    have hj:=(Array.getElem?_eq_some_iff.1 hb).1
    have:=(h i (by simpa using hi)).1.2 j (by simpa using hj)
    unfold tokLooks at this
    rw [ha,hb] at this
    simp only [Option.bind_some,hbt,Bool.or_eq_true,Bool.not_eq_true',Bool.and_eq_true,decide_eq_true_eq,List.contains_eq_mem,decide_eq_false_iff_not] at this
    rcases this with (h1 | h1) | h1
    · exact absurd hat h1
    · exact .inl h1
    exact .inr h1
  have:=(h i (by simpa using hi)).2.2 k hk
  obtain ⟨⟨h1,h2⟩,h3⟩:=this
  refine ⟨by simpa using h1,?_,fun j hj hkj=>?_⟩
  · rcases h2 with h2 | h2
    · exact .inl (by simpa using h2)
    exact .inr (by simpa using h2)
  rcases h3 j (by simpa using hj) with (h4 | h4) | h4
  · exact .inl h4
  · simp [hkj] at h4
  exact .inr (by simpa using h4)
end meta_
theorem wp_tok {P:Program} {r:Option Nat} {ds:List Deferred} {n:Nat} {Q:List Deferred→Exit→Env→World→Prop} {ρ:Env} {B:List Nat} {w w0:World} {L:List (Option Nat × Obj)} {id:Nat} {l:List Oper} (D:List Ent) (hI:Inv B w0 w L)
    (hc:tokOk P n L.length l D=true) (hS:∀ y,gy P l.toArray D B w0 L y l 0 ρ)
    (hQ:∀ y,(∀ k,k < l.length→pE l.toArray D y k)→∀ w,Inv B w0 w ((idsB l.toArray D L fun _=>true).flatMap (tkn l.toArray D L y))→Q ds .normal (envE l.toArray D y l 0 ρ) w):WP r ds P n (.region id l.toArray true) Q ρ w:=by
  obtain ⟨hm,hd,hn,hC⟩:=tokC_of hc
  have st:∀ w,Inv B w0 w L→TokSt P l D B w0 L ρ (Array.replicate l.length false) (fun _=>Wit.no) ρ w:=fun w hI=>by
    have hf:∀ k,(Array.replicate l.length false).getD k false=false:=fun k=>by
      simp [Array.getElem?_replicate]; split <;> rfl
    refine ⟨by simp,fun a o _ hl=>(by rw [hf] at hl; cases hl),fun k o d _ _ hl=>(by rw [hf] at hl; cases hl),fun t _=>rfl,fun k _ hl=>(by rw [hf] at hl; cases hl),?_⟩
    have hids:(idsB l.toArray D L fun k=>(Array.replicate l.length false).getD k false)=(List.range L.length).map (· + l.toArray.size):=by
      unfold idsB takenB
      have h1:∀ k,((List.range l.toArray.size).any fun j=>(Array.replicate l.length false).getD j false && (ent D j).tk.contains k)=false:=fun k=>by
        rw [List.any_eq_false]; intro j _; rw [hf j]; simp
      rw [List.range_add,List.filter_append,List.filter_eq_nil_iff.2 (fun k hk=>by
        have:=List.mem_range.1 hk
        rw [h1]
        show ¬ ((decide (l.toArray.size≤k) || (Array.replicate l.length false).getD k false) && !false)=true
        rw [hf k,decide_eq_false (show ¬ l.toArray.size≤k by omega)]; decide),List.nil_append]
      rw [List.filter_eq_self.2 (fun k hk=>by
        obtain ⟨j,_,rfl⟩:=List.mem_map.1 hk
        rw [h1,decide_eq_true (show l.toArray.size≤l.toArray.size+j by omega)]; rfl)]
      exact List.map_congr_left fun k _=>Nat.add_comm _ _
    have htk:((List.range L.length).map (· + l.toArray.size)).flatMap (tkn l.toArray D L fun _=>Wit.no)=L:=by
      rw [List.flatMap_map]
      have:∀ k∈List.range L.length,tkn l.toArray D L (fun _=>Wit.no) (k+l.toArray.size)=(L[k]?).toList:=fun k _=>by
        unfold tkn
        rw [if_neg (by omega),Nat.add_sub_cancel]
      rw [fm_congr this]
      apply List.ext_getElem?
      intro i
      clear this
      have gen:∀ (M:List Tk) (s:Nat),(List.range' s M.length).flatMap (fun k=>((M[k - s]?).toList))=M:=by
        intro M
        induction M with
        | nil=>intro s; rfl
        | cons x M ih =>
          intro s
          rw [List.length_cons,List.range'_succ,List.flatMap_cons,Nat.sub_self]
          have:=ih (s+1)
          rw [fm_congr (g:=fun k=>((M[k - (s+1)]?).toList)) fun k hk=>by
            have:=(List.mem_range'_1.1 hk).1
            rw [show k - s=(k - (s+1))+1 by omega,List.getElem?_cons_succ],this]
          rfl
      have:=gen L 0
      rw [← List.range_eq_range'] at this
      rw [show (List.range L.length).flatMap (fun k=>(L[k]?).toList)=L from this]
    rw [hids,htk]
    exact hI
  exact ⟨fun a hs=>wpIn_region_any hm (by
    have hA:=tok_all (Q:=Q ds .normal) hC (Region.noSelect_spec hn) hS (fun y hp w hI=>hQ y (fun k hk=>hp k (by simpa using hk)) w hI) l.length (Array.replicate l.length false) _ ρ { w with drawn:=w.drawn+1 } (st _ hI.drew) (by
      unfold unl
      rw [List.filter_eq_self.2 (fun k _=>by
        have hf:(Array.replicate l.length false).getD k false=false:=by simp [Array.getElem?_replicate]; split <;> rfl
        rw [hf]; rfl),List.length_range]; simp)
    have:=jt (P:=P) (r:=r) (ds:=ds) (ops:=l.toArray) (Q:=Q ds .normal) (Q':=fun e a' w'=>∃ ds' ρ',Sat ds' n ρ' a'∧Q ds' e ρ' w') (fun i o ho=>by
      simp only [dstsOk,List.all_eq_true] at hd
      exact hd o (List.mem_of_getElem? (by simpa using ho))) (fun ρ a w hs hk=>⟨ds,ρ,hs,hk⟩) l.length (Array.replicate l.length false) ρ a { w with drawn:=w.drawn+1 } hs hA
    simpa using this)⟩
def tv (v:Wy→Value):Ent:=⟨v,fun _=>[],fun _=>True,[],[]⟩
def tr (v:Wy→Value) (rd:List Nat):Ent:=⟨v,fun _=>[],fun _=>True,[],rd⟩
def wit (b:Nat) (g:List (Option Nat)) (c:List Nat) (cl:List (List Value)) (e:List (List En)):Wit:=⟨b,fun i=>g.getD i none,fun i=>c.getD i 0,fun i=>cl.getD i [],fun i=>e.getD i []⟩
theorem Inv.castL {B:List Nat} {w0 w:World} {L L':List Tk} (h:Inv B w0 w L) (e:L=L'):Inv B w0 w L':=e ▸ h
section steps
variable {P:Program} {ops:Array Oper} {D:List Ent} {B:List Nat} {w0:World} {L0:List Tk} {y:Wy} {i:Nat} {ρ:Env} {rest:List Oper} {d:Option Nat} {op:Op} {ty:TypeId} {pos:String} {af:Array Edge} {V T p:Wy→_} {tk rd:List Nat}
theorem ent_of {e:Ent} (h:D[i]?=some e):ent D i=e:=by unfold ent; rw [List.getD_eq_getElem?_getD,h]; rfl
theorem pg {k:Nat} {q:Prop} (hp:∀ k,k∈ic ops i→pE ops D y k) (h:(ic ops i).contains k=true∧pE ops D y k=q):q:=h.2 ▸ hp k (by simpa using h.1)
theorem pgl {n k:Nat} {q:Prop} (hp:∀ k,k < n→pE ops D y k) (h:k < n) (e:pE ops D y k=q):q:=e ▸ hp k h
theorem spec_light {o:Oper} {V:Wy→Value} {rd:List Nat} {v:Value} (he:D[i]?=some (tr V rd)) (hV:V (mskY (i :: ic ops i) y)=v) (hw:Region.wanted o (ei ops ρ)=true)
    (hs:(∀ k,k∈ic ops i→pE ops D y k)→∀ X w,Inv B w0 w (rd.flatMap (tkn ops D L0 y)++X)→cw P o ρ w (fun v' w'=>v'=v∧Below w.heap.size w w'))
    (k:gy P ops D B w0 L0 y rest (i+1) (ey ρ o.dst v)):gy P ops D B w0 L0 y (o :: rest) i ρ:=by
  have hE:=ent_of he
  have hv:vE ops D y i=v:=by unfold vE; rw [hE]; exact hV
  refine ⟨fun hp=>?_,by rw [hv]; exact k⟩
  simp only [hw]
  intro X w hI
  rw [hE] at hI ⊢
  refine (hs hp X w hI).mono fun v' w' h=>⟨y i,?_,?_,?_⟩
  · rw [upY_self,hv]; exact h.1
  · unfold pE; rw [hE]; trivial
  unfold tE; rw [hE]; exact hI.call h.2
theorem tpv {V:Wy→Value} (v:Value) (he:D[i]?=some (tv V)) (h:V (mskY (i :: ic ops i) y)=v∧∀ w,(execOp (ev ρ) ⟨d,op,ty,pos,af,none⟩).run P w=.ok (.value v) w) (k:gy P ops D B w0 L0 y rest (i+1) (ey ρ d v)):gy P ops D B w0 L0 y (⟨d,op,ty,pos,af,none⟩ :: rest) i ρ :=
  spec_light (rd:=[]) he h.1 rfl (fun _ X w _=>kl v (h.2 w) br) k
theorem tl {V:Wy→Value} (v:Value) (nd:List Tk) (he:D[i]?=some (tr V rd)) (h:V (mskY (i :: ic ops i) y)=v∧rd.flatMap (tkn ops D L0 y)=nd)
    (hs:(∀ k,k∈ic ops i→pE ops D y k)→∀ X w,Inv B w0 w (nd++X)→cw P ⟨d,op,ty,pos,af,none⟩ ρ w (fun v' w'=>v'=v∧Below w.heap.size w w')) (k:gy P ops D B w0 L0 y rest (i+1) (ey ρ d v)):gy P ops D B w0 L0 y (⟨d,op,ty,pos,af,none⟩ :: rest) i ρ :=
  spec_light he h.1 rfl (fun hp X w hI=>hs hp X w (h.2 ▸ hI)) k
theorem spec_heavy {o:Oper} {V:Wy→Value} {T:Wy→List Tk} {p:Wy→Prop} {v:Value} (nd nr:List Tk) (he:D[i]?=some ⟨V,T,p,tk,rd⟩) (h:V (mskY (i :: ic ops i) y)=v∧(tk++rd).flatMap (tkn ops D L0 y)=nd∧rd.flatMap (tkn ops D L0 y)=nr) (hw:Region.wanted o (ei ops ρ)=true)
    (hs:(∀ k,k∈ic ops i→pE ops D y k)→∀ X w,Inv B w0 w (nd++X)→cw P o ρ w (fun v' w'=>∃ z,v'=V (mskY (i :: ic ops i) (upY y i z))∧p (mskY (i :: ic ops i) (upY y i z))∧Inv B w0 w' (T (mskY (i :: ic ops i) (upY y i z))++nr++X)))
    (k:gy P ops D B w0 L0 y rest (i+1) (ey ρ o.dst v)):gy P ops D B w0 L0 y (o :: rest) i ρ:=by
  have hE:=ent_of he
  have hv:vE ops D y i=v:=by unfold vE; rw [hE]; exact h.1
  refine ⟨fun hp=>?_,by rw [hv]; exact k⟩
  simp only [hw]
  intro X w hI
  unfold vE pE tE
  rw [hE] at hI ⊢
  have h3:=h.2.2
  have h2:=h.2.1
  simp only at hI ⊢
  rw [h2] at hI
  rw [h3]
  exact hs hp X w hI
theorem tg {V:Wy→Value} {T:Wy→List Tk} {p:Wy→Prop} (v:Value) (nd nr:List Tk) (he:D[i]?=some ⟨V,T,p,tk,rd⟩) (h:V (mskY (i :: ic ops i) y)=v∧(tk++rd).flatMap (tkn ops D L0 y)=nd∧rd.flatMap (tkn ops D L0 y)=nr)
    (hs:(∀ k,k∈ic ops i→pE ops D y k)→∀ X w,Inv B w0 w (nd++X)→cw P ⟨d,op,ty,pos,af,none⟩ ρ w (fun v' w'=>∃ z,v'=V (mskY (i :: ic ops i) (upY y i z))∧p (mskY (i :: ic ops i) (upY y i z))∧Inv B w0 w' (T (mskY (i :: ic ops i) (upY y i z))++nr++X)))
    (k:gy P ops D B w0 L0 y rest (i+1) (ey ρ d v)):gy P ops D B w0 L0 y (⟨d,op,ty,pos,af,none⟩ :: rest) i ρ :=
  spec_heavy nd nr he h rfl hs k
theorem tp {V:Wy→Value} (he:D[i]?=some (tv V)) (h:∀ w,(execOp (ev ρ) ⟨d,op,ty,pos,af,none⟩).run P w=.ok (.value (V (mskY (i :: ic ops i) y))) w) (k:gy P ops D B w0 L0 y rest (i+1) (ey ρ d (V (mskY (i :: ic ops i) y)))):gy P ops D B w0 L0 y (⟨d,op,ty,pos,af,none⟩ :: rest) i ρ:=tpv _ he ⟨rfl,h⟩ k
theorem tl0 {V:Wy→Value} (he:D[i]?=some (tr V [])) (hs:∀ X w,Inv B w0 w X→cw P ⟨d,op,ty,pos,af,none⟩ ρ w (fun v' w'=>v'=V (mskY (i :: ic ops i) y)∧Below w.heap.size w w')) (k:gy P ops D B w0 L0 y rest (i+1) (ey ρ d (V (mskY (i :: ic ops i) y)))):gy P ops D B w0 L0 y (⟨d,op,ty,pos,af,none⟩ :: rest) i ρ :=
  spec_light he rfl rfl (fun _ X w hI=>hs X w hI) k
theorem tl1 {V:Wy→Value} (nd:List Tk) (he:D[i]?=some (tr V rd)) (h:rd.flatMap (tkn ops D L0 y)=nd) (hs:∀ X w,Inv B w0 w (nd++X)→cw P ⟨d,op,ty,pos,af,none⟩ ρ w (fun v' w'=>v'=V (mskY (i :: ic ops i) y)∧Below w.heap.size w w')) (k:gy P ops D B w0 L0 y rest (i+1) (ey ρ d (V (mskY (i :: ic ops i) y)))):gy P ops D B w0 L0 y (⟨d,op,ty,pos,af,none⟩ :: rest) i ρ :=
  spec_light he rfl rfl (fun _ X w hI=>hs X w (h ▸ hI)) k
def tal (i:Nat) (cl:List Value) (E:TypeId):Ent:=⟨fun y=>.pointer (some ⟨(y i).b,0,none⟩),fun y=>[(some (y i).b,blk cl E)],fun _=>True,[],[]⟩
theorem msk_self (A:List Nat) (y:Wy) (i:Nat):mskY (i :: A) y i=y i:=by unfold mskY; simp
theorem up_self (y:Wy) (i:Nat) (z:Wit):upY y i z i=z:=if_pos rfl
theorem tA {cl:List Value} {E:TypeId} {z:Value} (he:D[i]?=some (tal i cl E)) (hz:∀ w,(zeroValue E).run P w=.ok z w) (hcl:z.cells=cl.toArray) (k:gy P ops D B w0 L0 y rest (i+1) (ey ρ d (.pointer (some ⟨(y i).b,0,none⟩)))):gy P ops D B w0 L0 y (⟨d,.alloc E,ty,pos,af,none⟩ :: rest) i ρ :=
  spec_heavy [] [] he ⟨by rw [msk_self],rfl,rfl⟩ rfl (fun _ X w hI=>bh hI cl hz hcl fun b w' hI'=>⟨wit b [] [] [] [],by rw [msk_self,up_self]; rfl,trivial,by rw [msk_self,up_self]; exact hI'⟩) k
def tst (f:Wy→List Tk) (q:Nat):Ent:=⟨fun _=>undef,f,fun _=>True,[q],[]⟩
theorem tS {f:Wy→List Tk} {q:Nat} (nd:List Tk) (he:D[i]?=some (tst f q)) (h:[q].flatMap (tkn ops D L0 y)=nd∧f (mskY (i :: ic ops i) y)=f y) (hs:∀ X w,Inv B w0 w (nd++X)→cw P ⟨d,op,ty,pos,af,none⟩ ρ w (fun v' w'=>v'=undef∧Inv B w0 w' (f y++X))) (k:gy P ops D B w0 L0 y rest (i+1) (ey ρ d undef)):gy P ops D B w0 L0 y (⟨d,op,ty,pos,af,none⟩ :: rest) i ρ :=
  spec_heavy nd [] he ⟨rfl,h.1,rfl⟩ rfl (fun _ X w hI=>(hs X w hI).mono fun v' w' h'=>⟨y i,h'.1,trivial,by rw [upY_self,h.2,List.append_nil]; exact h'.2⟩) k
theorem tn:gy P ops D B w0 L0 y [] i ρ:=trivial
theorem agree_of {ρ:Env}:∀ {s:List (Nat × Value)},s.map (fun p=>ρ p.1)=s.map (·.2)→cd ρ s
  | [],_=>trivial
  | (t,v) :: s,h=>by
    simp only [List.map_cons,List.cons.injEq] at h
    exact ⟨h.1,agree_of h.2⟩
end steps
theorem wp_toks {P:Program} {r:Option Nat} {ds:List Deferred} {n:Nat} {Q:List Deferred→Exit→Env→World→Prop} {ρ:Env} {B:List Nat} {w w0:World} {L:List (Option Nat × Obj)} {id:Nat} {l:List Oper} (D:List Ent) (slots:Wy→List (Nat × Value)) (fin:Wy→List Tk) (hI:Inv B w0 w L)
    (hc:tokOk P n L.length l D=true) (hf:∀ y,(slots y).map (fun p=>envE l.toArray D y l 0 ρ p.1)=(slots y).map (·.2)∧(idsB l.toArray D L fun _=>true).flatMap (tkn l.toArray D L y)=fin y)
    (hS:∀ y,gy P l.toArray D B w0 L y l 0 ρ)
    (hQ:∀ y,(∀ k,k < l.length→pE l.toArray D y k)→∀ ρ w,cd ρ (slots y)→Inv B w0 w (fin y)→Q ds .normal ρ w):WP r ds P n (.region id l.toArray true) Q ρ w :=
  wp_tok D hI hc hS fun y hp w hI=>hQ y hp _ w (agree_of (hf y).1) ((hf y).2 ▸ hI)
attribute [irreducible] gy
end Go.K
end
section
open Go Go.RowKit Go.ChangeShapes Go.Deep Go.WideShapes
namespace Go.K
def W64 (a:Int):Prop:=-9223372036854775808≤a∧a≤9223372036854775807
theorem wf64 {a:Int} (h:(Lit.int .i64 a).wf=true):W64 a:=by
  have h1:IntKind.i64.min=-9223372036854775808:=rfl
  have h2:IntKind.i64.max=9223372036854775807:=rfl
  simp only [Lit.wf,Bool.and_eq_true,decide_eq_true_eq,h1,h2] at h
  exact h
section
variable {P:Program} {H:Type} {enc:TypeId × Value→H} {w:World} {base:Nat} {sp:Nat→Bool} {held:Bool}
theorem pc {t:TypeId} {fs:Array Field} {n:Nat} {cs:List Value} {x:DataW H × List MemPlace} (ht:P.underlying t=some (.struct fs)) (h:DataW.trod enc P w base sp held n t cs=some x) :
    cs.length=P.cellsOf t∧∃ m,∀ (i:Nat) (f:Field),fs[i]?=some f→∀ (ty off k:Nat),f.type=ty→f.offset=off→P.cellsOf ty=k→∃ y,DataW.trod enc P w base sp held m ty ((cs.drop off).take k)=some y:=by
  obtain ⟨xs,m,_,_,hl,hn,hf⟩:=DataW.trod_struct ht h
  refine ⟨hl,m,fun i f hi ty off k e1 e2 e3=>?_⟩
  subst e1; subst e2; subst e3
  have hi':i < fs.size:=(Array.getElem?_eq_some_iff.1 hi).1
  exact ⟨_,(hf i f hi).trans (List.getElem?_eq_getElem (by omega))⟩
theorem ft {ti n:Nat} {c:Value} {x:DataW H × List MemPlace} (ht:P.underlying ti=some (.int .i64)) (h:DataW.trod enc P w base sp held n ti [c]=some x):∃ a,c=.int .i64 a∧W64 a:=by
  obtain ⟨a,e,_,hw⟩:=DataW.trod_int ht h
  refine ⟨a,by simpa using e,?_⟩
  exact wf64 hw
theorem list_of {α:Type} {p:Nat→α→Prop}:∀ (n:Nat),(∀ i,i < n→∃ x,p i x)→∃ l:List α,l.length=n∧∀ i x,l[i]?=some x→p i x
  | 0,_=>⟨[],rfl,fun i x h=>by simp at h⟩
  | n+1,h=>by
    obtain ⟨l,hl,hp⟩:=list_of n fun i hi=>h i (by omega)
    obtain ⟨y,hy⟩:=h n (by omega)
    refine ⟨l++[y],by simp [hl],fun i x hx=>?_⟩
    rcases Nat.lt_trichotomy i n with h1 | h1 | h1
    · rw [List.getElem?_append_left (by omega)] at hx
      exact hp i x hx
    · subst h1
      rw [List.getElem?_append_right (by omega),hl,Nat.sub_self] at hx
      simp at hx
      subst hx; exact hy
    rw [List.getElem?_eq_none (by simp; omega)] at hx; cases hx
theorem cell_lt {a:Addr} {v:Value} (h:w.cell? a=some v):a.spot=none∧a.block < w.heap.size:=by
  unfold World.cell? at h
  split at h
  · rename_i hb
    split at h
    · cases h
    rename_i hs
    exact ⟨by simpa using hs,(Array.getElem?_eq_some_iff.1 hb).1⟩
  cases h
theorem rowq_of {α:Type} {f:α→List Value} {q:α→Prop} {k:Nat} (hk:0 < k) (hlen:∀ x,(f x).length=k) {t e:TypeId} (ht:P.underlying t=some (.slice e)) (hc:P.cellsOf e=k) (he:∀ {n:Nat} {cs:List Value} {x:DataW H × List MemPlace},DataW.trod enc P w base sp held n e cs=some x→∃ l:α,cs=f l∧q l)
    {n:Nat} {c:Value} {x:DataW H × List MemPlace} (h:DataW.trod enc P w base sp held n t [c]=some x) :
    ∃ (A:Option Addr) (len cap:Nat) (l:List α),c=.slice A len cap∧len≤cap∧cap≤maxLen∧len=l.length∧bi w A (al f l)∧∀ x∈l,q x:=by
  rcases open_slice ht h with ⟨h1,_⟩ | ⟨a,len,cap,m,n',D,Pl,h1,_,h2,h3,h4,_,h5⟩
  · exact ⟨none,0,0,[],by simpa using h1,Nat.le_refl _,by decide,rfl,fun h=>by simp [al] at h,fun x hx=>by cases hx⟩
  have hm:len≤m:=by rw [h4]; split <;> omega
  obtain ⟨l,hl,hp⟩:=list_of (p:=fun i (x:α)=>w.cells? base (a.add (i * k)) k=some (f x)∧q x) len fun i hi=>by
    obtain ⟨cs',e1,e2⟩:=h5 i (by omega)
    rw [hc] at e1
    obtain ⟨x,rfl,hq⟩:=he e2
    exact ⟨x,e1,hq⟩
  refine ⟨some a,len,cap,l,by simpa using h1,h2,h3,hl.symm,fun hpos=>?_,fun x hx=>?_⟩
  · have at_:∀ i x j u,l[i]?=some x→(f x)[j]?=some u→w.cell? ((a.add (i * k)).add j)=some u:=fun i x j u hx hu=>by
      obtain ⟨_,e2,e3⟩:=World.cells?_some (hp i x hx).1
      have:=(List.getElem?_eq_some_iff.1 hu).1
      rw [e3 j (by rw [hlen] at this; exact this),hu]
    have hl0:0 < l.length:=by
      rw [dt hlen] at hpos
      rcases Nat.eq_zero_or_pos l.length with h0 | h0
      · rw [h0,Nat.zero_mul] at hpos; omega
      exact h0
    have hf0:0 < (f l[0]).length:=by rw [hlen]; omega
    have h00:=at_ 0 l[0] 0 _ (List.getElem?_eq_getElem hl0) (List.getElem?_eq_getElem hf0)
    obtain ⟨b,off,s⟩:=a
    have e0:((Addr.mk b off s).add (0 * k)).add 0=⟨b,off,s⟩:=by rw [Nat.zero_mul]; rfl
    rw [e0] at h00
    obtain ⟨rfl,hb⟩:=cell_lt h00
    refine ⟨b,off,rfl,hb,fun j u hj=>?_⟩
    have hj':j < l.length * k:=by rw [← dt hlen]; exact (List.getElem?_eq_some_iff.1 hj).1
    have hi:j / k < l.length:=Nat.div_lt_of_lt_mul (by rw [Nat.mul_comm]; exact hj')
    have hg:=flat_get hlen l (j / k) (j % k) l[j / k] (List.getElem?_eq_getElem hi) (Nat.mod_lt _ hk)
    have ej:j / k * k+j % k=j:=by rw [Nat.mul_comm]; exact Nat.div_add_mod j k
    rw [ej] at hg
    have:=at_ (j / k) l[j / k] (j % k) u (List.getElem?_eq_getElem hi) (hg ▸ hj)
    rw [jl,jl,Nat.add_assoc,ej] at this
    exact this
  obtain ⟨i,hi,e⟩:=List.getElem_of_mem hx
  exact (hp i x (by rw [List.getElem?_eq_getElem hi,e])).2
theorem row_of {α:Type} {f:α→List Value} {q:α→Prop} {k:Nat} (hk:0 < k) (hlen:∀ x,(f x).length=k) {t e:TypeId} (ht:P.underlying t=some (.slice e)) (hc:P.cellsOf e=k) (he:∀ {n:Nat} {cs:List Value} {x:DataW H × List MemPlace},DataW.trod enc P w base sp held n e cs=some x→∃ l:α,cs=f l∧q l)
    {n:Nat} {c:Value} {x:DataW H × List MemPlace} (h:DataW.trod enc P w base sp held n t [c]=some x) :
    ∃ (A:Option Addr) (cap:Nat) (l:List α),c=.slice A l.length cap∧bi w A (al f l)∧l.length≤9223372036854775807∧l.length≤cap∧∀ x∈l,q x:=by
  obtain ⟨A,len,cap,l,h1,h2,h3,h4,h5,h6⟩:=rowq_of hk hlen ht hc he h
  subst h4
  unfold maxLen at h3
  exact ⟨A,cap,l,h1,h5,by omega,h2,h6⟩
theorem intl_of {ti n:Nat} {cs:List Value} {x:DataW H × List MemPlace} (ht:P.underlying ti=some (.int .i64)) (h:DataW.trod enc P w base sp held n ti cs=some x):∃ a,cs=dv a∧W64 a:=by
  obtain ⟨a,e,_,hw⟩:=DataW.trod_int ht h
  exact ⟨a,e,wf64 hw⟩
end
theorem all_stays {P:Program} (laidOut_:laidOutB P=true) {H:Type} {enc:TypeId × Value→H} {W W':World} (hb:RowKit.Below W.heap.size W W') {sp:Nat→Bool}:∀ {ts:List TypeId} {vs:List Value} {ds:List (DataW H)} {ps:List MemPlace},
    (∀ t∈ts,P.readableRec t=true∧t < P.types.size)→DataW.TrodAll enc P W 0 (fun _=>true) true ts vs ds ps→(∀ p∈ps,p.block < W.heap.size∧sp p.block=true)→DataW.TrodAll enc P W' 0 sp true ts vs ds ps
  | [],vs,ds,ps,_,h,_=>by
    obtain ⟨rfl,rfl,rfl⟩:=trodAll_nil h
    exact h
  | t :: ts,vs,ds,ps,ht,h,hp=>by
    obtain ⟨v,vs',d,ds',p,q,rfl,rfl,rfl,h1,h2⟩:=trodAll_cons h
    obtain ⟨r1,r2⟩:=ht t (by simp)
    exact ⟨p,q,WideElems.Trod_stays laidOut_ r1 r2 h1 (fun x hx=>hb.same (hp x (List.mem_append_left _ hx)).1) (fun x hx=>(hp x (List.mem_append_left _ hx)).2),
      all_stays laidOut_ hb (fun t ht'=>ht t (List.mem_cons_of_mem _ ht')) h2 (fun x hx=>hp x (List.mem_append_right _ hx)),rfl⟩
theorem post_kept {P:Program} (laidOut_:laidOutB P=true) {b4:TypeId} (hb4:P.underlying b4=some .bool) {H:Type} {enc:TypeId × Value→H} {f:Func} {s:ChangeSpec} {apart fresh handsOn:Bool} {W W':World} {args:Array Value} {ds:List (DataW H)} {before:List MemPlace}
    (hv:s.vars=[]) (hW:DataW.Whole enc P f.params.toList s.vars apart W args.toList ds [] before) (hr:f.resultTypes = #[b4]) (hfn:s.fn H ds={ results:=[.lit (.bool true)],args:=ds })
    (ht:∀ t∈f.params.toList,P.readableRec t=true∧t < P.types.size) (hb:RowKit.Below W.heap.size W W'):s.post enc P f apart fresh handsOn false W args (.bool true) W':=by
  have hW':=hW
  obtain ⟨p,q,h1,h2,rfl,_,_⟩:=hW
  rw [hv] at h2
  obtain ⟨_,rfl⟩:=trodVars_none h2
  rw [List.append_nil] at hW'
  refine ⟨ds,[],p,[],p,[],hW',?_,?_,?_,hb.frame _,fun h=>by cases h⟩
  · rw [hr,List.append_nil,hfn]
    exact trodAll_cons_mk (shut_bool hb4 _) trodAll_mk0
  · rw [List.append_nil,hfn]
    exact all_stays laidOut_ hb ht h1 fun x hx=>⟨hW'.lt x hx,by simpa using hW'.lt x hx⟩
  rw [List.append_nil,hfn,hv]; rfl
end Go.K
end
