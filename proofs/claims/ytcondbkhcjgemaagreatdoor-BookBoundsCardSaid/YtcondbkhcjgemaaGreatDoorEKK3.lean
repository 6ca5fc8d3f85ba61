/- Kt, Ls, Kp, Lb, Lk, Lv, On. -/
import Derived.Test.YtcondbkhcjgemaaGreatDoorEKK1
import Derived.Test.YtcondbkhcjgemaaGreatDoorEKK2
import Derived.Laws.Strings
import Derived.Laws.StructEq
import Derived.Laws.BytesString
import Derived.Lib.ConvBytes
import Derived.LoopNIn
import Derived.Deep.Slices
import Derived.ChangeArms
import Derived.WideKeyArgs
import Derived.OpenShut
import Derived.WalkKit
import Derived.ProofKit
set_option linter.unusedVariables false
set_option linter.unusedSimpArgs false
section
namespace Go.K
open Go.RowKit
abbrev Tk:=Option Nat × Obj
theorem Inv.perm {B:List Nat} {w0 w:World} {L L':List Tk} (h:Inv B w0 w L) (hp:L.Perm L'):Inv B w0 w L':=by
  have hs:L.Pairwise fun x y=>∀ b c,x.1=some b→y.1=some c→b≠c:=by
    rw [List.pairwise_iff_getElem]
    intro i j hi hj hij b c hb hc
    exact h.sep i j b c L[i].2 L[j].2 (by rw [List.getElem?_eq_getElem hi,← hb]) (by rw [List.getElem?_eq_getElem hj,← hc]) (by omega)
  have hs':=hp.pairwise hs (fun {x y} hxy b c hb hc e=>hxy c b hc hb e.symm)
  rw [List.pairwise_iff_getElem] at hs'
  refine ⟨h.but,fun i b o hi=>?_,fun i j b c o p hi hj hij=>?_⟩
  · obtain ⟨k,hk,e⟩:=List.getElem_of_mem (hp.mem_iff.2 (List.mem_of_getElem? hi))
    exact h.has k b o (by rw [List.getElem?_eq_getElem hk,e])
  obtain ⟨hi',e1⟩:=List.getElem?_eq_some_iff.1 hi
  obtain ⟨hj',e2⟩:=List.getElem?_eq_some_iff.1 hj
  rcases Nat.lt_or_gt_of_ne hij with h1 | h1
  · exact hs' i j hi' hj' h1 b c (by rw [e1]) (by rw [e2])
  exact fun e=>hs' j i hj' hi' h1 c b (by rw [e2]) (by rw [e1]) e.symm
structure Wit where
  b:Nat
  g:Nat→Option Nat
  c:Nat→Nat
  cl:Nat→List Value
  e:Nat→List En
def Wit.no:Wit:=⟨0,fun _=>none,fun _=>0,fun _=>[],fun _=>[]⟩
abbrev Wy:=Nat→Wit
structure Ent where
  v:Wy→Value
  t:Wy→List Tk
  p:Wy→Prop
  tk:List Nat
  rd:List Nat
def Ent.no:Ent:=⟨fun _=>undef,fun _=>[],fun _=>True,[],[]⟩
def upY (y:Wy) (i:Nat) (z:Wit):Wy:=fun k=>if k=i then z else y k
def pb (A:List Nat) (y:Wy):Wy:=fun k=>if A.contains k then y k else Wit.no
theorem upY_self (y:Wy) (i:Nat):upY y i (y i)=y:=by
  funext k; unfold upY; split
  · rename_i h; rw [h]
  rfl
theorem msk_up {A:List Nat} {y:Wy} {i:Nat} {z:Wit} (h:i ∉ A):pb A (upY y i z)=pb A y:=by
  funext k; unfold pb upY
  by_cases hk:A.contains k=true
  · rw [if_pos hk,if_pos hk,if_neg (fun e=>h (by subst e; simpa using hk))]
  rw [if_neg hk,if_neg hk]
def ic (ops:Array Oper) (i:Nat):List Nat:=markL ops i (onsL ops i)
section tok
variable (P:Program) (ops:Array Oper) (D:List Ent) (B:List Nat) (w0:World) (L0:List Tk)
def ent (i:Nat):Ent:=D.getD i Ent.no
def vE (y:Wy) (i:Nat):Value:=(ent D i).v (pb (i :: ic ops i) y)
def tE (y:Wy) (i:Nat):List Tk:=(ent D i).t (pb (i :: ic ops i) y)
def pE (y:Wy) (i:Nat):Prop:=(ent D i).p (pb (i :: ic ops i) y)
def tkn (y:Wy) (k:Nat):List Tk:=if k < ops.size then tE ops D y k else (L0[k - ops.size]?).toList
def Spec1 (y:Wy) (o:Oper) (i:Nat) (ρ:Env):Prop:=(∀ k,k∈ic ops i→pE ops D y k) →
  match Region.wanted o (ei ops ρ) with
  | true=>∀ X w,Inv B w0 w (((ent D i).tk++(ent D i).rd).flatMap (tkn ops D L0 y)++X)→cw P o ρ w (fun v w'=>∃ z,v=vE ops D (upY y i z) i∧pE ops D (upY y i z) i∧Inv B w0 w' (tE ops D (upY y i z) i++(ent D i).rd.flatMap (tkn ops D L0 y)++X))
  | false=>vE ops D y i=undef∧tE ops D y i=[]∧pE ops D y i∧(ent D i).tk=[]
def gy (y:Wy):List Oper→Nat→Env→Prop
  | [],_,_=>True
  | o :: rest,i,ρ=>Spec1 P ops D B w0 L0 y o i ρ∧gy y rest (i+1) (ey ρ o.dst (vE ops D y i))
def envE (y:Wy):List Oper→Nat→Env→Env
  | [],_,ρ=>ρ
  | o :: rest,i,ρ=>envE y rest (i+1) (ey ρ o.dst (vE ops D y i))
def takenB (S:Nat→Bool) (k:Nat):Bool:=(List.range ops.size).any fun j=>S j && (ent D j).tk.contains k
def idsB (S:Nat→Bool):List Nat:=(List.range (ops.size+L0.length)).filter fun k=>(decide (ops.size≤k) || S k) && !takenB ops D S k
end tok
def tokLooks (ops:Array Oper) (i j:Nat):Bool :=
  match ops[i]?,(ops[j]?).bind (·.dst) with
  | some oi,some t=>!(oi.looksAt ops).contains t || decide (j < i) && (ic ops i).contains j || decide (i < j) && (ic ops j).contains i
  | _,_=>true
def tokOk (P:Program) (n m:Nat) (l:List Oper) (D:List Ent):Bool :=
  let ops:=l.toArray
  P.follows .mixedOrders && fo n l && Region.noSelect ops &&
  (List.range l.length).all fun i =>
    (onsL ops i).all (fun x=>decide (x < i)) &&
    (List.range l.length).all (fun j=>decide (j≤i) || (match (ops[i]?).bind (·.dst),(ops[j]?).bind (·.dst) with | some a,some b=>!(a == b) | _,_=>true)) &&
    (List.range l.length).all (fun j=>tokLooks ops i j) &&
    (let q:=(ent D i).tk++(ent D i).rd; decide q.Nodup && q.all fun k=>decide (k < l.length+m) && (decide (l.length≤k) || (ic ops i).contains k) && (List.range l.length).all fun j=>(j == i) || !(ent D j).tk.contains k || (ic ops j).contains i)
section meta_
variable {P:Program} {ops:Array Oper} {D:List Ent} {B:List Nat} {w0:World} {L0:List Tk}
theorem looks_of {o:Oper} {t:Nat} (h:.tmp t∈o.op.operands):t∈o.looksAt ops :=
  List.mem_append_left _ (List.mem_filterMap.2 ⟨.tmp t,by simpa using h,rfl⟩)
theorem exec_agree {o:Oper} (hs:∀ cs b,o.op≠.select cs b) {ρ ρ':Env} (h:∀ t∈o.looksAt ops,ρ t=ρ' t):execOp (ev ρ) o=execOp (ev ρ') o :=
  execOp_congr o hs fun x hx=>by
    cases x with
    | tmp t=>exact h t (looks_of hx)
    | _=>rfl
theorem wanted_agree {o:Oper} {ρ ρ':Env} (h:∀ t∈o.looksAt ops,ρ t=ρ' t):Region.wanted o (ei ops ρ)=Region.wanted o (ei ops ρ'):=by
  unfold Region.wanted
  cases hg:o.guard with
  | none=>rfl
  | some gw =>
    obtain ⟨g,want⟩:=gw
    have hy:ei ops ρ g=ei ops ρ' g:=by
      unfold ei
      cases ht:(ops[g]?).bind (·.dst) with
      | none=>rfl
      | some t=>simp only [h t (by simp [Oper.looksAt,hg,ht])]
    simp only [hy]
theorem envE_out (y:Wy):∀ (r:List Oper) (j:Nat) (ρ:Env) (t:Nat),(∀ (k:Nat) (o:Oper),r[k]?=some o→o.dst≠some t)→envE ops D y r j ρ t=ρ t
  | [],_,_,_,_=>rfl
  | o :: r,j,ρ,t,h=>by
    unfold envE
    rw [envE_out y r (j+1) _ t fun k o' hk=>h (k+1) o' (by simpa using hk)]
    have:=h 0 o rfl
    cases hd:o.dst with
    | none=>rfl
    | some d=>exact upd_ne ρ _ (fun e=>this (by rw [hd,e]))
theorem envE_in (y:Wy):∀ (r:List Oper) (j k:Nat) (ρ:Env) (o:Oper) (d:Nat),r[k]?=some o→o.dst=some d→(∀ (k':Nat) (o':Oper),k < k'→r[k']?=some o'→o'.dst≠some d)→envE ops D y r j ρ d=vE ops D y (j+k)
  | [],_,_,_,_,_,h,_,_=>by simp at h
  | o' :: r,j,0,ρ,o,d,h,hd,hx=>by
    simp only [List.getElem?_cons_zero,Option.some.injEq] at h
    subst h
    unfold envE
    rw [envE_out y r (j+1) _ d fun k o'' hk=>hx (k+1) o'' (by omega) (by simpa using hk),hd]
    exact upd_same ρ d _
  | o' :: r,j,k+1,ρ,o,d,h,hd,hx=>by
    unfold envE
    rw [envE_in y r (j+1) k _ o d (by simpa using h) hd fun k' o'' hk h'=>hx (k'+1) o'' (by omega) (by simpa using h'),show j+1+k=j+(k+1) by omega]
theorem specs_at (y:Wy):∀ (r:List Oper) (j:Nat) (ρ:Env),gy P ops D B w0 L0 y r j ρ→∀ (k:Nat) (o:Oper),r[k]?=some o→Spec1 P ops D B w0 L0 y o (j+k) (envE ops D y (r.take k) j ρ)
  | [],_,_,_,_,_,h=>by simp at h
  | o' :: r,j,ρ,hs,0,o,h=>by
    simp only [List.getElem?_cons_zero,Option.some.injEq] at h
    subst h
    exact hs.1
  | o' :: r,j,ρ,hs,k+1,o,h=>by
    have:=specs_at y r (j+1) _ hs.2 k o (by simpa using h)
    rw [show j+(k+1)=j+1+k by omega]
    exact this
theorem anc_listed {listed:Array Bool} (hc:Closed_ ops listed) {i:Nat} (h:listed.getD i false=true) {o:Oper} (ho:ops[i]?=some o):∀ x∈ic ops i,listed.getD x false=true :=
  mark_in hc i _ fun x hx=>by
    unfold onsL at hx
    rw [ho] at hx
    simp only [List.mem_map,List.mem_filter] at hx
    obtain ⟨e,⟨he,hb⟩,rfl⟩:=hx
    exact hc i o ho h e (by simpa using he) hb
theorem mark_lt {N:Nat} (hb:∀ k,k < N→∀ x∈onsL ops k,x < k):∀ (k b:Nat) (m:List Nat),k≤N→(∀ x∈m,x < b)→k≤b→∀ x∈markL ops k m,x < b
  | 0,b,m,_,hm,_,x,hx=>hm x hx
  | k+1,b,m,hN,hm,hkb,x,hx=>by
    unfold markL at hx
    refine mark_lt hb k b _ (by omega) (fun y hy=>?_) (by omega) x hx
    split at hy
    · rcases List.mem_append.1 hy with hy | hy
      · exact hm y hy
      have:=hb k (by omega) y hy; omega
    exact hm y hy
theorem part_perm {A L:List Nat} (hA:A.Nodup) (hL:L.Nodup) (hs:∀ x∈A,x∈L):L.Perm (A++L.filter fun x=>!A.contains x):=by
  refine (List.perm_ext_iff_of_nodup hL ?_).2 fun x=>?_
  · refine List.nodup_append.2 ⟨hA,hL.filter _,fun a ha b hb e=>?_⟩
    subst e
    have:=(List.mem_filter.1 hb).2
    simp [ha] at this
  simp only [List.mem_append,List.mem_filter,Bool.not_eq_true',List.contains_eq_mem,decide_eq_false_iff_not]
  constructor
  · intro hx
    by_cases h:x∈A
    · exact .inl h
    exact .inr ⟨hx,h⟩
  rintro (h | h)
  · exact hs x h
  exact h.1
theorem fm_congr {α β:Type} {f g:α→List β}:∀ {l:List α},(∀ x∈l,f x=g x)→l.flatMap f=l.flatMap g
  | [],_=>rfl
  | a :: l,h=>by rw [List.flatMap_cons,List.flatMap_cons,h a List.mem_cons_self,fm_congr fun x hx=>h x (List.mem_cons_of_mem _ hx)]
theorem fm_perm {α β:Type} (f:α→List β) {l m:List α} (h:l.Perm m):(l.flatMap f).Perm (m.flatMap f):=by
  induction h with
  | nil=>exact .refl _
  | cons x _ ih=>rw [List.flatMap_cons,List.flatMap_cons]; exact List.Perm.append_left _ ih
  | swap x y l=>simp only [List.flatMap_cons,← List.append_assoc]; exact List.Perm.append_right _ List.perm_append_comm
  | trans _ _ ih1 ih2=>exact ih1.trans ih2
structure TokC (ops:Array Oper) (D:List Ent) (m:Nat):Prop where
  back:∀ i,i < ops.size→∀ x∈onsL ops i,x < i
  dif:∀ (i j:Nat) (a b:Oper) (d:Nat),ops[i]?=some a→ops[j]?=some b→i < j→a.dst=some d→b.dst≠some d
  look:∀ (i j:Nat) (a b:Oper) (t:Nat),ops[i]?=some a→ops[j]?=some b→b.dst=some t→t∈a.looksAt ops→(j < i∧j∈ic ops i)∨(i < j∧i∈ic ops j)
  nd:∀ i,i < ops.size→((ent D i).tk++(ent D i).rd).Nodup
  tok:∀ i,i < ops.size→∀ k∈(ent D i).tk++(ent D i).rd,k < ops.size+m∧(ops.size≤k∨k∈ic ops i)∧∀ j,j < ops.size→k∈(ent D j).tk→j=i∨i∈ic ops j
theorem TokC.anc_lt {m:Nat} (h:TokC ops D m) {i x:Nat} (hi:i < ops.size) (hx:x∈ic ops i):x < i :=
  mark_lt (N:=ops.size) h.back i i _ (by omega) (h.back i hi) (Nat.le_refl _) x hx
structure TokSt (P:Program) (l:List Oper) (D:List Ent) (B:List Nat) (w0:World) (L0:List Tk) (ρ0:Env) (listed:Array Bool) (y:Wy) (ρ:Env) (w:World):Prop where
  size:listed.size=l.toArray.size
  cl:Closed_ l.toArray listed
  e1:∀ (k:Nat) (o:Oper) (d:Nat),l.toArray[k]?=some o→o.dst=some d→listed.getD k false=true→ρ d=vE l.toArray D y k
  e2:∀ (t:Nat),(∀ (k:Nat) (o:Oper),l.toArray[k]?=some o→listed.getD k false=true→o.dst≠some t)→ρ t=ρ0 t
  ps:∀ k,k < l.toArray.size→listed.getD k false=true→pE l.toArray D y k
  inv:Inv B w0 w ((idsB l.toArray D L0 fun k=>listed.getD k false).flatMap (tkn l.toArray D L0 y))
theorem tok_step {l:List Oper} {ρ0:Env} (hC:TokC l.toArray D L0.length) (hsel:∀ (j:Nat) (o:Oper) cs b,l.toArray[j]?=some o→o.op≠.select cs b) (hS:∀ y,gy P l.toArray D B w0 L0 y l 0 ρ0)
    {listed:Array Bool} {y:Wy} {ρ:Env} {w:World} (st:TokSt P l D B w0 L0 ρ0 listed y ρ w) {i:Nat} (hr:i∈Region.ready .any l.toArray listed) :
    opX P l.toArray i ρ w fun ρ' w'=>∃ y',TokSt P l D B w0 L0 ρ0 (listed.setIfInBounds i true) y' ρ' w':=by
  obtain ⟨hun,o,ho,hall⟩:=mem_ready.1 hr
  have hi:i < l.toArray.size:=(Array.getElem?_eq_some_iff.1 ho).1
  have hif:listed.getD i false=false:=by
    have:i < listed.size:=by rw [st.size]; exact hi
    simp [this] at hun ⊢; exact hun
  have hanc:∀ x∈ic l.toArray i,listed.getD x false=true:=mark_in st.cl i _ (ready_ons hr)
  have hno:∀ k,listed.getD k false=true→k < l.toArray.size→i ∉ k :: ic l.toArray k:=fun k hk hks hm=>by
    rcases List.mem_cons.1 hm with rfl | hm
    · rw [hif] at hk; cases hk
    have:=anc_listed st.cl hk (Array.getElem?_eq_getElem hks) i hm
    rw [hif] at this; cases this
  have hl:l[i]?=some o:=by simpa using ho
  have hsp:=specs_at y l 0 ρ0 (hS y) i o hl
  rw [Nat.zero_add] at hsp
  have hdif:∀ (j k:Nat) (a b:Oper) (d:Nat),l.toArray[j]?=some a→l.toArray[k]?=some b→a.dst=some d→b.dst=some d→j=k:=fun j k a b d ha hb hd hd'=>by
    rcases Nat.lt_trichotomy j k with h | h | h
    · exact absurd hd' (hC.dif j k a b d ha hb h hd)
    · exact h
    exact absurd hd (hC.dif k j b a d hb ha h hd')
  have hag:∀ t∈o.looksAt l.toArray,ρ t=envE l.toArray D y (l.take i) 0 ρ0 t:=fun t ht=>by
    by_cases hd:∃ (j:Nat) (b:Oper),l.toArray[j]?=some b∧b.dst=some t
    · obtain ⟨j,b,hb,hbt⟩:=hd
      rcases hC.look i j o b t ho hb hbt ht with ⟨hji,hja⟩ | ⟨hij,hia⟩
      · rw [st.e1 j b t hb hbt (hanc j hja)]
        have:=envE_in (ops:=l.toArray) (D:=D) y (l.take i) 0 j ρ0 b t (by rw [List.getElem?_take_of_lt hji]; simpa using hb) hbt fun k' o' hk ho' e=>by
          have hk':l.toArray[k']?=some o':=by
            rcases Nat.lt_or_ge k' i with h | h
            · rw [List.getElem?_take_of_lt h] at ho'; simpa using ho'
            rw [List.getElem?_eq_none (by rw [List.length_take]; omega)] at ho'; cases ho'
          have:=hdif j k' b o' t hb hk' hbt e
          omega
        rw [Nat.zero_add] at this
        exact this.symm
      have hj:listed.getD j false=false:=by
        cases hq:listed.getD j false with
        | false=>rfl
        | true=>exact absurd (List.mem_cons_of_mem _ hia) (hno j hq (Array.getElem?_eq_some_iff.1 hb).1)
      rw [st.e2 t fun k o' hk hk2 e=>by
        have:=hdif k j o' b t hk hb e hbt
        subst this; rw [hj] at hk2; cases hk2]
      exact (envE_out y _ 0 ρ0 t fun k o' hk e=>by
        have hlt:k < i:=by
          rcases Nat.lt_or_ge k i with h | h
          · exact h
          rw [List.getElem?_eq_none (by rw [List.length_take]; omega)] at hk; cases hk
        rw [List.getElem?_take_of_lt hlt] at hk
        have:=hdif k j o' b t (by simpa using hk) hb e hbt
        omega).symm
    rw [st.e2 t fun k o' hk _ e=>hd ⟨k,o',hk,e⟩]
    exact (envE_out y _ 0 ρ0 t fun k o' hk e=>by
      rcases Nat.lt_or_ge k i with h | h
      · rw [List.getElem?_take_of_lt h] at hk; exact hd ⟨k,o',by simpa using hk,e⟩
      rw [List.getElem?_eq_none (by rw [List.length_take]; omega)] at hk; cases hk).symm
  -- the tokens
  have hids:∀ k,k∈idsB l.toArray D L0 (fun k=>listed.getD k false)↔k < l.toArray.size+L0.length∧(l.toArray.size≤k∨listed.getD k false=true)∧∀ j,j < l.toArray.size→listed.getD j false=true→k ∉ (ent D j).tk:=fun k=>by
    simp only [idsB,takenB,List.mem_filter,List.mem_range,Bool.and_eq_true,Bool.or_eq_true,decide_eq_true_eq,Bool.not_eq_true',List.any_eq_false,List.contains_eq_mem,not_and]
  have hnd:(idsB l.toArray D L0 fun k=>listed.getD k false).Nodup:=List.nodup_range.filter _
  have hA:∀ k∈(ent D i).tk++(ent D i).rd,k∈idsB l.toArray D L0 (fun k=>listed.getD k false):=fun k hk=>by
    obtain ⟨h1,h2,h3⟩:=hC.tok i hi k hk
    refine (hids k).2 ⟨h1,h2.imp_right (hanc k),fun j hj hjl hkj=>?_⟩
    rcases h3 j hj hkj with rfl | h
    · rw [hif] at hjl; cases hjl
    exact hno j hjl hj (List.mem_cons_of_mem _ h)
  have hpart:=part_perm (hC.nd i hi) hnd hA
  have hI:=st.inv.perm (fm_perm _ hpart)
  rw [List.flatMap_append] at hI
  generalize hR:(idsB l.toArray D L0 fun k=>listed.getD k false).filter (fun x=>!((ent D i).tk++(ent D i).rd).contains x)=R at hI hpart
  have hRm:∀ k∈R,k∈idsB l.toArray D L0 (fun k=>listed.getD k false)∧k ∉ (ent D i).tk++(ent D i).rd:=fun k hk=>by
    rw [← hR,List.mem_filter] at hk
    exact ⟨hk.1,by simpa using hk.2⟩
  have hset:∀ k,k < l.toArray.size→((listed.setIfInBounds i true).getD k false=true↔k=i∨listed.getD k false=true):=fun k hk=>by
    by_cases e:i=k
    · subst e
      have h5:i < listed.size:=by rw [st.size]; exact hi
      simp [h5]
    rw [getD_set_ne false e]; exact ⟨.inr,fun h=>h.resolve_left (Ne.symm e)⟩
  have fin:∀ (v:Value) (w':World) (z:Wit),v=vE l.toArray D (upY y i z) i→pE l.toArray D (upY y i z) i→Inv B w0 w' (tE l.toArray D (upY y i z) i++(ent D i).rd.flatMap (tkn l.toArray D L0 y)++R.flatMap (tkn l.toArray D L0 y)) →
      ∃ y',TokSt P l D B w0 L0 ρ0 (listed.setIfInBounds i true) y' (ey ρ o.dst v) w':=fun v w' z hv hp hI'=>by
    have hvE:∀ k,k < l.toArray.size→listed.getD k false=true→vE l.toArray D (upY y i z) k=vE l.toArray D y k∧tE l.toArray D (upY y i z) k=tE l.toArray D y k∧pE l.toArray D (upY y i z) k=pE l.toArray D y k:=fun k hks hk=>by
      unfold vE tE pE
      rw [msk_up (hno k hk hks)]; exact ⟨rfl,rfl,rfl⟩
    refine ⟨upY y i z,⟨by simp [st.size],closed_set st.cl hr,fun k o' d hk hd hkl=>?_,fun t ht=>?_,fun k hk hkl=>?_,?_⟩⟩
    · have hks:=(Array.getElem?_eq_some_iff.1 hk).1
      by_cases e:k=i
      · subst e
        rw [ho] at hk; injection hk with hk; subst hk
        rw [hd,← hv]; exact upd_same ρ d _
      have hkl':=((hset k hks).1 hkl).resolve_left e
      have hne:o.dst≠some d:=fun h=>e (hdif k i o' o d hk ho hd h)
      rw [(hvE k hks hkl').1,← st.e1 k o' d hk hd hkl']
      cases hod:o.dst with
      | none=>rfl
      | some d'=>exact upd_ne ρ _ (fun h=>hne (by rw [hod,h]))
    · have h1:o.dst≠some t:=ht i o ho ((hset i hi).2 (.inl rfl))
      have h2:=st.e2 t fun k o' hk hkl=>ht k o' hk ((hset k (Array.getElem?_eq_some_iff.1 hk).1).2 (.inr hkl))
      rw [← h2]
      cases hod:o.dst with
      | none=>rfl
      | some d'=>exact upd_ne ρ _ (fun h=>h1 (by rw [hod,h]))
    · by_cases e:k=i
      · subst e; exact hp
      have hkl':=((hset k hk).1 hkl).resolve_left e
      rw [(hvE k hk hkl').2.2]; exact st.ps k hk hkl'
    have hids':∀ k,k∈idsB l.toArray D L0 (fun k=>(listed.setIfInBounds i true).getD k false)↔k < l.toArray.size+L0.length∧(l.toArray.size≤k∨(listed.setIfInBounds i true).getD k false=true)∧∀ j,j < l.toArray.size→(listed.setIfInBounds i true).getD j false=true→k ∉ (ent D j).tk:=fun k=>by
      simp only [idsB,takenB,List.mem_filter,List.mem_range,Bool.and_eq_true,Bool.or_eq_true,decide_eq_true_eq,Bool.not_eq_true',List.any_eq_false,List.contains_eq_mem,not_and]
    have hnd':(idsB l.toArray D L0 fun k=>(listed.setIfInBounds i true).getD k false).Nodup:=List.nodup_range.filter _
    have hndA:=hC.nd i hi
    have hnn:i ∉ idsB l.toArray D L0 (fun k=>listed.getD k false):=fun h=>by
      have:=((hids i).1 h).2.1
      rcases this with h | h
      · omega
      rw [hif] at h; cases h
    have hperm:(i :: ((ent D i).rd++R)).Perm (idsB l.toArray D L0 fun k=>(listed.setIfInBounds i true).getD k false):=by
      refine (List.perm_ext_iff_of_nodup ?_ hnd').2 fun k=>?_
      · refine List.nodup_cons.2 ⟨fun h=>?_,List.nodup_append.2 ⟨(List.nodup_append.1 hndA).2.1,hR ▸ hnd.filter _,fun a ha b hb e=>?_⟩⟩
        · rcases List.mem_append.1 h with h | h
          · exact hnn (hA i (List.mem_append_right _ h))
          exact hnn (hRm i h).1
        subst e; exact (hRm a hb).2 (List.mem_append_right _ ha)
      rw [hids' k,List.mem_cons,List.mem_append]
      have old:k∈idsB l.toArray D L0 (fun k=>listed.getD k false)→k ∉ (ent D i).tk→k < l.toArray.size+L0.length∧(l.toArray.size≤k∨(listed.setIfInBounds i true).getD k false=true)∧∀ j,j < l.toArray.size→(listed.setIfInBounds i true).getD j false=true→k ∉ (ent D j).tk:=fun hk hkt=>by
        obtain ⟨h1,h2,h3⟩:=(hids k).1 hk
        refine ⟨h1,h2.imp_right (fun h=>getD_set_true h),fun j hj hjl=>?_⟩
        rcases (hset j hj).1 hjl with rfl | hjl
        · exact hkt
        exact h3 j hj hjl
      constructor
      · rintro (rfl | hk | hk)
        · refine ⟨by omega,.inr ((hset k hi).2 (.inl rfl)),fun j hj hjl hkj=>?_⟩
          have h2:=(hC.tok j hj k (List.mem_append_left _ hkj)).2.1
          rcases h2 with h2 | h2
          · omega
          rcases (hset j hj).1 hjl with rfl | hjl
          · have:=hC.anc_lt hj h2; omega
          exact hno j hjl hj (List.mem_cons_of_mem _ h2)
        · exact old (hA k (List.mem_append_right _ hk)) fun h=>(List.nodup_append.1 hndA).2.2 k h k hk rfl
        exact old (hRm k hk).1 fun h=>(hRm k hk).2 (List.mem_append_left _ h)
      rintro ⟨h1,h2,h3⟩
      by_cases e:k=i
      · exact .inl e
      right
      have hki:k∈idsB l.toArray D L0 (fun k=>listed.getD k false):=by
        refine (hids k).2 ⟨h1,?_,fun j hj hjl=>h3 j hj (getD_set_true hjl)⟩
        rcases h2 with h2 | h2
        · exact .inl h2
        right
        rcases Nat.lt_or_ge k l.toArray.size with h4 | h4
        · exact ((hset k h4).1 h2).resolve_left e
        rw [getD_set_ne false (Ne.symm e)] at h2; exact h2
      have hkt:k ∉ (ent D i).tk:=h3 i hi ((hset i hi).2 (.inl rfl))
      by_cases hkr:k∈(ent D i).rd
      · exact .inl hkr
      right
      rw [← hR,List.mem_filter]
      exact ⟨hki,by simp [hkt,hkr]⟩
    refine Inv.perm ?_ (fm_perm _ hperm)
    have same:∀ k,k∈idsB l.toArray D L0 (fun k=>listed.getD k false)→tkn l.toArray D L0 (upY y i z) k=tkn l.toArray D L0 y k:=fun k hk=>by
      unfold tkn
      split
      · rename_i hks
        have:=((hids k).1 hk).2.1
        rcases this with h | h
        · omega
        exact (hvE k hks h).2.1
      rfl
    have hti:tkn l.toArray D L0 (upY y i z) i=tE l.toArray D (upY y i z) i:=if_pos hi
    rw [List.flatMap_cons,List.flatMap_append,hti,fm_congr fun k hk=>same k (hA k (List.mem_append_right _ hk)),fm_congr (l:=R) fun k hk=>same k (hRm k hk).1,← List.append_assoc]
    exact hI'
  have hq:=hsp fun k hk=>st.ps k (by have:=hC.anc_lt hi hk; omega) (hanc k hk)
  unfold opX
  simp only [ho]
  rw [wanted_agree hag]
  split
  · rename_i hw
    simp only [hw] at hq
    have h1:=hq _ w hI
    unfold cw at h1 ⊢
    rw [exec_agree (hsel i o · · ho) hag]
    generalize (execOp (ev (envE l.toArray D y (l.take i) 0 ρ0)) o).run P w=r at h1 ⊢
    cases r with
    | ok x w' =>
      cases x with
      | value u=>obtain ⟨z,hv,hp,hI'⟩:=h1; exact fin u w' z hv hp hI'
      | skip=>obtain ⟨z,hv,hp,hI'⟩:=h1; exact fin undef w' z hv hp hI'
      | enter f args=>exact Calls.mono h1 fun e w'' ⟨u,he,z,hv,hp,hI'⟩=>⟨u,he,fin u w'' z hv hp hI'⟩
      | round l f tmps assign body=>exact RoundIn.mono h1 fun e w'' ⟨u,he,z,hv,hp,hI'⟩=>⟨u,he,fin u w'' z hv hp hI'⟩
      | _=>exact h1.elim
    | halt x w'=>exact h1.elim
  rename_i hw
  simp only [hw] at hq
  obtain ⟨hv,ht,hp,htk⟩:=hq
  refine fin undef w (y i) (by rw [upY_self]; exact hv.symm) (by rw [upY_self]; exact hp) ?_
  rw [upY_self,ht,List.nil_append]
  rw [htk,List.nil_append] at hI
  exact hI
def unl (n:Nat) (listed:Array Bool):Nat:=((List.range n).filter fun k=>!listed.getD k false).length
theorem unl_set {n i:Nat} {listed:Array Bool} (hs:listed.size=n) (hi:i < n) (hu:listed.getD i false=false):unl n (listed.setIfInBounds i true)+1=unl n listed:=by
  unfold unl
  have hp:((List.range n).filter fun k=>!listed.getD k false).Perm (i :: (List.range n).filter fun k=>!(listed.setIfInBounds i true).getD k false):=by
    refine (List.perm_ext_iff_of_nodup (List.nodup_range.filter _) (List.nodup_cons.2 ⟨fun h=>?_,List.nodup_range.filter _⟩)).2 fun k=>?_
    · have:=(List.mem_filter.1 h).2
      simp [hs,hi] at this
    rw [List.mem_cons,List.mem_filter,List.mem_filter,List.mem_range]
    by_cases e:i=k
    · subst e; simp [hi,hu]
    rw [getD_set_ne false e]
    exact ⟨fun h=>.inr h,fun h=>h.resolve_left (Ne.symm e)⟩
  rw [hp.length_eq,List.length_cons]
theorem unl_zero {n:Nat} {listed:Array Bool} (h:unl n listed=0) (k:Nat) (hk:k < n):listed.getD k false=true:=by
  have:=List.eq_nil_of_length_eq_zero h
  cases hq:listed.getD k false with
  | true=>rfl
  | false =>
    have hm:k∈(List.range n).filter fun k=>!listed.getD k false:=List.mem_filter.2 ⟨List.mem_range.2 hk,by simp [hq]⟩
    rw [this] at hm; cases hm
theorem least_ready {m:Nat} (hC:TokC ops D m) {listed:Array Bool} (hs:listed.size=ops.size):∀ (k:Nat),k < ops.size→listed.getD k false=false→∃ i,i∈Region.ready .any ops listed:=fun k=>by
  induction k using Nat.strongRecOn with
  | ind k ih =>
    intro hk hu
    by_cases h:∃ x∈onsL ops k,listed.getD x false=false
    · obtain ⟨x,hx,hxu⟩:=h
      have:=hC.back k hk x hx
      exact ih x this (by omega) hxu
    refine ⟨k,mem_ready.2 ⟨?_,ops[k],Array.getElem?_eq_getElem hk,fun e he hb=>?_⟩⟩
    · have h5:k < listed.size:=by rw [hs]; exact hk
      simp [h5] at hu ⊢; exact hu
    cases hq:listed.getD e.on false with
    | true=>rfl
    | false =>
      refine absurd ⟨e.on,?_,hq⟩ h
      unfold onsL
      rw [Array.getElem?_eq_getElem hk]
      exact List.mem_map.2 ⟨e,List.mem_filter.2 ⟨by simpa using he,hb⟩,rfl⟩
theorem tok_all {l:List Oper} {ρ0:Env} {Q:Env→World→Prop} (hC:TokC l.toArray D L0.length) (hsel:∀ (j:Nat) (o:Oper) cs b,l.toArray[j]?=some o→o.op≠.select cs b) (hS:∀ y,gy P l.toArray D B w0 L0 y l 0 ρ0)
    (hQ:∀ y,(∀ k,k < l.toArray.size→pE l.toArray D y k)→∀ w,Inv B w0 w ((idsB l.toArray D L0 fun _=>true).flatMap (tkn l.toArray D L0 y))→Q (envE l.toArray D y l 0 ρ0) w) :
    ∀ (fuel:Nat) (listed:Array Bool) (y:Wy) (ρ:Env) (w:World),TokSt P l D B w0 L0 ρ0 listed y ρ w→unl l.toArray.size listed=fuel→AnyW P l.toArray Q fuel listed ρ w:=by
  intro fuel
  induction fuel with
  | zero =>
    intro listed y ρ w st hf
    have hall:=unl_zero hf
    refine ⟨?_,?_⟩
    · cases hr:Region.ready .any l.toArray listed with
      | nil=>rfl
      | cons i r =>
        have hi:i∈Region.ready .any l.toArray listed:=by rw [hr]; exact List.mem_cons_self
        obtain ⟨hun,o,ho,_⟩:=mem_ready.1 hi
        have hlt:=(Array.getElem?_eq_some_iff.1 ho).1
        have h1:=hall i hlt
        have h5:i < listed.size:=by rw [st.size]; exact hlt
        simp [h5] at hun h1
        rw [hun] at h1; cases h1
    have he:ρ=envE l.toArray D y l 0 ρ0:=by
      funext t
      by_cases hd:∃ (j:Nat) (b:Oper),l.toArray[j]?=some b∧b.dst=some t
      · obtain ⟨j,b,hb,hbt⟩:=hd
        have hj:=(Array.getElem?_eq_some_iff.1 hb).1
        rw [st.e1 j b t hb hbt (hall j hj)]
        have:=envE_in (ops:=l.toArray) (D:=D) y l 0 j ρ0 b t (by simpa using hb) hbt fun k' o' hk ho' e=>hC.dif j k' b o' t hb (by simpa using ho') hk hbt e
        rw [Nat.zero_add] at this
        exact this.symm
      rw [st.e2 t fun k o' hk _ e=>hd ⟨k,o',hk,e⟩]
      exact (envE_out y _ 0 ρ0 t fun k o' hk e=>hd ⟨k,o',by simpa using hk,e⟩).symm
    rw [he]
    refine hQ y (fun k hk=>st.ps k hk (hall k hk)) w ?_
    have hids:(idsB l.toArray D L0 fun k=>listed.getD k false)=idsB l.toArray D L0 fun _=>true:=by
      unfold idsB takenB
      have h1:∀ k,((List.range l.toArray.size).any fun j=>listed.getD j false && (ent D j).tk.contains k)=(List.range l.toArray.size).any fun j=>true && (ent D j).tk.contains k:=fun k=>by
        rw [Bool.eq_iff_iff,List.any_eq_true,List.any_eq_true]
        constructor
        · rintro ⟨j,hj,h⟩; exact ⟨j,hj,by rw [Bool.true_and]; exact (Bool.and_eq_true_iff.1 h).2⟩
        rintro ⟨j,hj,h⟩; exact ⟨j,hj,by rw [hall j (List.mem_range.1 hj)]; exact h⟩
      refine List.filter_congr fun k hk=>?_
      rw [h1]
      congr 1
      show (decide (l.toArray.size≤k) || listed.getD k false)=(decide (l.toArray.size≤k) || true)
      by_cases hks:k < l.toArray.size
      · rw [hall k hks]
      rw [decide_eq_true (show l.toArray.size≤k by omega)]; rfl
    rw [← hids]
    exact st.inv
  | succ fuel ih =>
    intro listed y ρ w st hf
    refine ⟨fun h0=>?_,fun i hr=>?_⟩
    · exfalso
      have:(List.range l.toArray.size).filter (fun k=>!listed.getD k false)≠[]:=fun h=>by
        unfold unl at hf; rw [h] at hf; cases hf
      obtain ⟨k,hk⟩:=List.exists_mem_of_ne_nil _ this
      have hk2:=List.mem_filter.1 hk
      obtain ⟨i,hi⟩:=least_ready hC st.size k (List.mem_range.1 hk2.1) (by simpa using hk2.2)
      rw [h0] at hi; cases hi
    obtain ⟨hun,o,ho,_⟩:=mem_ready.1 hr
    have hlt:=(Array.getElem?_eq_some_iff.1 ho).1
    have hif:listed.getD i false=false:=by
      have h5:i < listed.size:=by rw [st.size]; exact hlt
      simp [h5] at hun ⊢; exact hun
    refine opX.mono (tok_step hC hsel hS st hr) fun ρ' w' ⟨y',st'⟩=>ih _ y' ρ' w' st' ?_
    have:=unl_set st.size hlt hif
    omega
theorem tokC_of {n m:Nat} {l:List Oper} (h:tokOk P n m l D=true):P.follows .mixedOrders=true∧fo n l=true∧Region.noSelect l.toArray=true∧TokC l.toArray D m:=by
  simp only [tokOk,Bool.and_eq_true,List.all_eq_true,List.mem_range,decide_eq_true_eq,Bool.or_eq_true,beq_iff_eq] at h
  obtain ⟨⟨⟨hm,hd⟩,hn⟩,h⟩:=h
  refine ⟨hm,hd,hn,⟨fun i hi x hx=>(h i (by simpa using hi)).1.1.1 x hx,fun i j a b d ha hb hij had hbd=>?_,fun i j a b t ha hb hbt hat=>?_,fun i hi=>(h i (by simpa using hi)).2.1,fun i hi k hk=>?_⟩⟩
  · have hi:=(Array.getElem?_eq_some_iff.1 ha).1
    have hj:=(Array.getElem?_eq_some_iff.1 hb).1
    have:=(h i (by simpa using hi)).1.1.2 j (by simpa using hj)
    rcases this with h1 | h1
    · omega
    rw [ha,hb] at h1
    simp [had,hbd] at h1
  · have hi:=(Array.getElem?_eq_some_iff.1 ha).1
    have hj:=(Array.getElem?_eq_some_iff.1 hb).1
    have:=(h i (by simpa using hi)).1.2 j (by simpa using hj)
    unfold tokLooks at this
    rw [ha,hb] at this
    simp only [Option.bind_some,hbt,Bool.or_eq_true,Bool.not_eq_true',Bool.and_eq_true,decide_eq_true_eq,List.contains_eq_mem,decide_eq_false_iff_not] at this
    rcases this with (h1 | h1) | h1
    · exact absurd hat h1
    · exact .inl h1
    exact .inr h1
  have:=(h i (by simpa using hi)).2.2 k hk
  obtain ⟨⟨h1,h2⟩,h3⟩:=this
  refine ⟨by simpa using h1,?_,fun j hj hkj=>?_⟩
  · rcases h2 with h2 | h2
    · exact .inl (by simpa using h2)
    exact .inr (by simpa using h2)
  rcases h3 j (by simpa using hj) with (h4 | h4) | h4
  · exact .inl h4
  · simp [hkj] at h4
  exact .inr (by simpa using h4)
end meta_
theorem wp_tok {P:Program} {r:Option Nat} {ds:List Deferred} {n:Nat} {Q:List Deferred→Exit→Env→World→Prop} {ρ:Env} {B:List Nat} {w w0:World} {L:List (Option Nat × Obj)} {id:Nat} {l:List Oper} (D:List Ent) (hI:Inv B w0 w L)
    (hc:tokOk P n L.length l D=true) (hS:∀ y,gy P l.toArray D B w0 L y l 0 ρ)
    (hQ:∀ y,(∀ k,k < l.length→pE l.toArray D y k)→∀ w,Inv B w0 w ((idsB l.toArray D L fun _=>true).flatMap (tkn l.toArray D L y))→Q ds .normal (envE l.toArray D y l 0 ρ) w):WP r ds P n (.region id l.toArray true) Q ρ w:=by
  obtain ⟨hm,hd,hn,hC⟩:=tokC_of hc
  have st:∀ w,Inv B w0 w L→TokSt P l D B w0 L ρ (Array.replicate l.length false) (fun _=>Wit.no) ρ w:=fun w hI=>by
    have hf:∀ k,(Array.replicate l.length false).getD k false=false:=fun k=>by
      simp [Array.getElem?_replicate]; split <;> rfl
    refine ⟨by simp,fun a o _ hl=>(by rw [hf] at hl; cases hl),fun k o d _ _ hl=>(by rw [hf] at hl; cases hl),fun t _=>rfl,fun k _ hl=>(by rw [hf] at hl; cases hl),?_⟩
    have hids:(idsB l.toArray D L fun k=>(Array.replicate l.length false).getD k false)=(List.range L.length).map (· + l.toArray.size):=by
      unfold idsB takenB
      have h1:∀ k,((List.range l.toArray.size).any fun j=>(Array.replicate l.length false).getD j false && (ent D j).tk.contains k)=false:=fun k=>by
        rw [List.any_eq_false]; intro j _; rw [hf j]; simp
      rw [List.range_add,List.filter_append,List.filter_eq_nil_iff.2 (fun k hk=>by
        have:=List.mem_range.1 hk
        rw [h1]
        show ¬ ((decide (l.toArray.size≤k) || (Array.replicate l.length false).getD k false) && !false)=true
        rw [hf k,decide_eq_false (show ¬ l.toArray.size≤k by omega)]; decide),List.nil_append]
      rw [List.filter_eq_self.2 (fun k hk=>by
        obtain ⟨j,_,rfl⟩:=List.mem_map.1 hk
        rw [h1,decide_eq_true (show l.toArray.size≤l.toArray.size+j by omega)]; rfl)]
      exact List.map_congr_left fun k _=>Nat.add_comm _ _
    have htk:((List.range L.length).map (· + l.toArray.size)).flatMap (tkn l.toArray D L fun _=>Wit.no)=L:=by
      rw [List.flatMap_map]
      have:∀ k∈List.range L.length,tkn l.toArray D L (fun _=>Wit.no) (k+l.toArray.size)=(L[k]?).toList:=fun k _=>by
        unfold tkn
        rw [if_neg (by omega),Nat.add_sub_cancel]
      rw [fm_congr this]
      apply List.ext_getElem?
      intro i
      clear this
      have gen:∀ (M:List Tk) (s:Nat),(List.range' s M.length).flatMap (fun k=>((M[k - s]?).toList))=M:=by
        intro M
        induction M with
        | nil=>intro s; rfl
        | cons x M ih =>
          intro s
          rw [List.length_cons,List.range'_succ,List.flatMap_cons,Nat.sub_self]
          have:=ih (s+1)
          rw [fm_congr (g:=fun k=>((M[k - (s+1)]?).toList)) fun k hk=>by
            have:=(List.mem_range'_1.1 hk).1
            rw [show k - s=(k - (s+1))+1 by omega,List.getElem?_cons_succ],this]
          rfl
      have:=gen L 0
      rw [← List.range_eq_range'] at this
      rw [show (List.range L.length).flatMap (fun k=>(L[k]?).toList)=L from this]
    rw [hids,htk]
    exact hI
  exact ⟨fun a hs=>wpIn_region_any hm (by
    have hA:=tok_all (Q:=Q ds .normal) hC (Region.noSelect_spec hn) hS (fun y hp w hI=>hQ y (fun k hk=>hp k (by simpa using hk)) w hI) l.length (Array.replicate l.length false) _ ρ { w with drawn:=w.drawn+1 } (st _ hI.drew) (by
      unfold unl
      rw [List.filter_eq_self.2 (fun k _=>by
        have hf:(Array.replicate l.length false).getD k false=false:=by simp [Array.getElem?_replicate]; split <;> rfl
        rw [hf]; rfl),List.length_range]; simp)
    have:=jt (P:=P) (r:=r) (ds:=ds) (ops:=l.toArray) (Q:=Q ds .normal) (Q':=fun e a' w'=>∃ ds' ρ',Sat ds' n ρ' a'∧Q ds' e ρ' w') (fun i o ho=>by
      simp only [fo,List.all_eq_true] at hd
      exact hd o (List.mem_of_getElem? (by simpa using ho))) (fun ρ a w hs hk=>⟨ds,ρ,hs,hk⟩) l.length (Array.replicate l.length false) ρ a { w with drawn:=w.drawn+1 } hs hA
    simpa using this)⟩
def tv (v:Wy→Value):Ent:=⟨v,fun _=>[],fun _=>True,[],[]⟩
def tr (v:Wy→Value) (rd:List Nat):Ent:=⟨v,fun _=>[],fun _=>True,[],rd⟩
def wit (b:Nat) (g:List (Option Nat)) (c:List Nat) (cl:List (List Value)) (e:List (List En)):Wit:=⟨b,fun i=>g.getD i none,fun i=>c.getD i 0,fun i=>cl.getD i [],fun i=>e.getD i []⟩
theorem Inv.castL {B:List Nat} {w0 w:World} {L L':List Tk} (h:Inv B w0 w L) (e:L=L'):Inv B w0 w L':=e ▸ h
section steps
variable {P:Program} {ops:Array Oper} {D:List Ent} {B:List Nat} {w0:World} {L0:List Tk} {y:Wy} {i:Nat} {ρ:Env} {rest:List Oper} {d:Option Nat} {op:Op} {ty:TypeId} {pos:String} {af:Array Edge} {V T p:Wy→_} {tk rd:List Nat}
theorem ent_of {e:Ent} (h:D[i]?=some e):ent D i=e:=by unfold ent; rw [List.getD_eq_getElem?_getD,h]; rfl
theorem pg {k:Nat} {q:Prop} (hp:∀ k,k∈ic ops i→pE ops D y k) (h:(ic ops i).contains k=true∧pE ops D y k=q):q:=h.2 ▸ hp k (by simpa using h.1)
theorem pgl {n k:Nat} {q:Prop} (hp:∀ k,k < n→pE ops D y k) (h:k < n) (e:pE ops D y k=q):q:=e ▸ hp k h
theorem spec_light {o:Oper} {V:Wy→Value} {rd:List Nat} {v:Value} (he:D[i]?=some (tr V rd)) (hV:V (pb (i :: ic ops i) y)=v) (hw:Region.wanted o (ei ops ρ)=true)
    (hs:(∀ k,k∈ic ops i→pE ops D y k)→∀ X w,Inv B w0 w (rd.flatMap (tkn ops D L0 y)++X)→cw P o ρ w (fun v' w'=>v'=v∧Below w.heap.size w w'))
    (k:gy P ops D B w0 L0 y rest (i+1) (ey ρ o.dst v)):gy P ops D B w0 L0 y (o :: rest) i ρ:=by
  have hE:=ent_of he
  have hv:vE ops D y i=v:=by unfold vE; rw [hE]; exact hV
  refine ⟨fun hp=>?_,by rw [hv]; exact k⟩
  simp only [hw]
  intro X w hI
  rw [hE] at hI ⊢
  refine (hs hp X w hI).mono fun v' w' h=>⟨y i,?_,?_,?_⟩
  · rw [upY_self,hv]; exact h.1
  · unfold pE; rw [hE]; trivial
  unfold tE; rw [hE]; exact hI.call h.2
theorem tpv {V:Wy→Value} (v:Value) (he:D[i]?=some (tv V)) (h:V (pb (i :: ic ops i) y)=v∧∀ w,(execOp (ev ρ) ⟨d,op,ty,pos,af,none⟩).run P w=.ok (.value v) w) (k:gy P ops D B w0 L0 y rest (i+1) (ey ρ d v)):gy P ops D B w0 L0 y (⟨d,op,ty,pos,af,none⟩ :: rest) i ρ :=
  spec_light (rd:=[]) he h.1 rfl (fun _ X w _=>kl v (h.2 w) br) k
theorem tqv {V:Wy→Value} (v:Value) {j:Nat} {b:Bool} (he:D[i]?=some (tv V)) (hy:ei ops ρ j=some b) (h:V (pb (i :: ic ops i) y)=v∧∀ w,(execOp (ev ρ) ⟨d,op,ty,pos,af,some (j,b)⟩).run P w=.ok (.value v) w) (k:gy P ops D B w0 L0 y rest (i+1) (ey ρ d v)):gy P ops D B w0 L0 y (⟨d,op,ty,pos,af,some (j,b)⟩ :: rest) i ρ :=
  spec_light (rd:=[]) he h.1 (by simp [Region.wanted,hy]) (fun _ X w _=>kl v (h.2 w) br) k
theorem to_ {V:Wy→Value} (v:Value) (nd:List Tk) {j:Nat} {b:Bool} (he:D[i]?=some (tr V rd)) (hy:ei ops ρ j=some b) (h:V (pb (i :: ic ops i) y)=v∧rd.flatMap (tkn ops D L0 y)=nd)
    (hs:(∀ k,k∈ic ops i→pE ops D y k)→∀ X w,Inv B w0 w (nd++X)→cw P ⟨d,op,ty,pos,af,some (j,b)⟩ ρ w (fun v' w'=>v'=v∧Below w.heap.size w w')) (k:gy P ops D B w0 L0 y rest (i+1) (ey ρ d v)):gy P ops D B w0 L0 y (⟨d,op,ty,pos,af,some (j,b)⟩ :: rest) i ρ :=
  spec_light he h.1 (by simp [Region.wanted,hy]) (fun hp X w hI=>hs hp X w (h.2 ▸ hI)) k
theorem spec_heavy {o:Oper} {V:Wy→Value} {T:Wy→List Tk} {p:Wy→Prop} {v:Value} (nd nr:List Tk) (he:D[i]?=some ⟨V,T,p,tk,rd⟩) (h:V (pb (i :: ic ops i) y)=v∧(tk++rd).flatMap (tkn ops D L0 y)=nd∧rd.flatMap (tkn ops D L0 y)=nr) (hw:Region.wanted o (ei ops ρ)=true)
    (hs:(∀ k,k∈ic ops i→pE ops D y k)→∀ X w,Inv B w0 w (nd++X)→cw P o ρ w (fun v' w'=>∃ z,v'=V (pb (i :: ic ops i) (upY y i z))∧p (pb (i :: ic ops i) (upY y i z))∧Inv B w0 w' (T (pb (i :: ic ops i) (upY y i z))++nr++X)))
    (k:gy P ops D B w0 L0 y rest (i+1) (ey ρ o.dst v)):gy P ops D B w0 L0 y (o :: rest) i ρ:=by
  have hE:=ent_of he
  have hv:vE ops D y i=v:=by unfold vE; rw [hE]; exact h.1
  refine ⟨fun hp=>?_,by rw [hv]; exact k⟩
  simp only [hw]
  intro X w hI
  unfold vE pE tE
  rw [hE] at hI ⊢
  have h3:=h.2.2
  have h2:=h.2.1
  simp only at hI ⊢
  rw [h2] at hI
  rw [h3]
  exact hs hp X w hI
theorem tg {V:Wy→Value} {T:Wy→List Tk} {p:Wy→Prop} (v:Value) (nd nr:List Tk) (he:D[i]?=some ⟨V,T,p,tk,rd⟩) (h:V (pb (i :: ic ops i) y)=v∧(tk++rd).flatMap (tkn ops D L0 y)=nd∧rd.flatMap (tkn ops D L0 y)=nr)
    (hs:(∀ k,k∈ic ops i→pE ops D y k)→∀ X w,Inv B w0 w (nd++X)→cw P ⟨d,op,ty,pos,af,none⟩ ρ w (fun v' w'=>∃ z,v'=V (pb (i :: ic ops i) (upY y i z))∧p (pb (i :: ic ops i) (upY y i z))∧Inv B w0 w' (T (pb (i :: ic ops i) (upY y i z))++nr++X)))
    (k:gy P ops D B w0 L0 y rest (i+1) (ey ρ d v)):gy P ops D B w0 L0 y (⟨d,op,ty,pos,af,none⟩ :: rest) i ρ :=
  spec_heavy nd nr he h rfl hs k
theorem tgo {V:Wy→Value} {T:Wy→List Tk} {p:Wy→Prop} (v:Value) (nd nr:List Tk) {j:Nat} {b:Bool} (he:D[i]?=some ⟨V,T,p,tk,rd⟩) (hy:ei ops ρ j=some b) (h:V (pb (i :: ic ops i) y)=v∧(tk++rd).flatMap (tkn ops D L0 y)=nd∧rd.flatMap (tkn ops D L0 y)=nr)
    (hs:(∀ k,k∈ic ops i→pE ops D y k)→∀ X w,Inv B w0 w (nd++X)→cw P ⟨d,op,ty,pos,af,some (j,b)⟩ ρ w (fun v' w'=>∃ z,v'=V (pb (i :: ic ops i) (upY y i z))∧p (pb (i :: ic ops i) (upY y i z))∧Inv B w0 w' (T (pb (i :: ic ops i) (upY y i z))++nr++X)))
    (k:gy P ops D B w0 L0 y rest (i+1) (ey ρ d v)):gy P ops D B w0 L0 y (⟨d,op,ty,pos,af,some (j,b)⟩ :: rest) i ρ :=
  spec_heavy nd nr he h (by simp [Region.wanted,hy]) hs k
theorem tp {V:Wy→Value} (he:D[i]?=some (tv V)) (h:∀ w,(execOp (ev ρ) ⟨d,op,ty,pos,af,none⟩).run P w=.ok (.value (V (pb (i :: ic ops i) y))) w) (k:gy P ops D B w0 L0 y rest (i+1) (ey ρ d (V (pb (i :: ic ops i) y)))):gy P ops D B w0 L0 y (⟨d,op,ty,pos,af,none⟩ :: rest) i ρ:=tpv _ he ⟨rfl,h⟩ k
theorem tq {V:Wy→Value} {j:Nat} {b:Bool} (he:D[i]?=some (tv V)) (hy:ei ops ρ j=some b) (h:∀ w,(execOp (ev ρ) ⟨d,op,ty,pos,af,some (j,b)⟩).run P w=.ok (.value (V (pb (i :: ic ops i) y))) w) (k:gy P ops D B w0 L0 y rest (i+1) (ey ρ d (V (pb (i :: ic ops i) y)))):gy P ops D B w0 L0 y (⟨d,op,ty,pos,af,some (j,b)⟩ :: rest) i ρ:=tqv _ he hy ⟨rfl,h⟩ k
theorem tt {V:Wy→Value} (he:D[i]?=some (tv V)) (h:(fun w=>(execOp (ev ρ) ⟨d,op,ty,pos,af,none⟩).run P w)=fun w=>.ok (.value (V (pb (i :: ic ops i) y))) w) (k:gy P ops D B w0 L0 y rest (i+1) (ey ρ d (V (pb (i :: ic ops i) y)))):gy P ops D B w0 L0 y (⟨d,op,ty,pos,af,none⟩ :: rest) i ρ:=tp he (congrFun h) k
theorem tu {V:Wy→Value} {j:Nat} {b:Bool} (he:D[i]?=some (tv V)) (hy:ei ops ρ j=some b) (h:(fun w=>(execOp (ev ρ) ⟨d,op,ty,pos,af,some (j,b)⟩).run P w)=fun w=>.ok (.value (V (pb (i :: ic ops i) y))) w) (k:gy P ops D B w0 L0 y rest (i+1) (ey ρ d (V (pb (i :: ic ops i) y)))):gy P ops D B w0 L0 y (⟨d,op,ty,pos,af,some (j,b)⟩ :: rest) i ρ:=tq he hy (congrFun h) k
theorem tl0 {V:Wy→Value} (he:D[i]?=some (tr V [])) (hs:∀ X w,Inv B w0 w X→cw P ⟨d,op,ty,pos,af,none⟩ ρ w (fun v' w'=>v'=V (pb (i :: ic ops i) y)∧Below w.heap.size w w')) (k:gy P ops D B w0 L0 y rest (i+1) (ey ρ d (V (pb (i :: ic ops i) y)))):gy P ops D B w0 L0 y (⟨d,op,ty,pos,af,none⟩ :: rest) i ρ :=
  spec_light he rfl rfl (fun _ X w hI=>hs X w hI) k
theorem tl1 {V:Wy→Value} (nd:List Tk) (he:D[i]?=some (tr V rd)) (h:rd.flatMap (tkn ops D L0 y)=nd) (hs:∀ X w,Inv B w0 w (nd++X)→cw P ⟨d,op,ty,pos,af,none⟩ ρ w (fun v' w'=>v'=V (pb (i :: ic ops i) y)∧Below w.heap.size w w')) (k:gy P ops D B w0 L0 y rest (i+1) (ey ρ d (V (pb (i :: ic ops i) y)))):gy P ops D B w0 L0 y (⟨d,op,ty,pos,af,none⟩ :: rest) i ρ :=
  spec_light he rfl rfl (fun _ X w hI=>hs X w (h ▸ hI)) k
def tal (i:Nat) (cl:List Value) (E:TypeId):Ent:=⟨fun y=>.pointer (some ⟨(y i).b,0,none⟩),fun y=>[(some (y i).b,blk cl E)],fun _=>True,[],[]⟩
theorem msk_self (A:List Nat) (y:Wy) (i:Nat):pb (i :: A) y i=y i:=by unfold pb; simp
theorem up_self (y:Wy) (i:Nat) (z:Wit):upY y i z i=z:=if_pos rfl
theorem tA {cl:List Value} {E:TypeId} {z:Value} (he:D[i]?=some (tal i cl E)) (hz:∀ w,(zeroValue E).run P w=.ok z w) (hcl:z.cells=cl.toArray) (k:gy P ops D B w0 L0 y rest (i+1) (ey ρ d (.pointer (some ⟨(y i).b,0,none⟩)))):gy P ops D B w0 L0 y (⟨d,.alloc E,ty,pos,af,none⟩ :: rest) i ρ :=
  spec_heavy [] [] he ⟨by rw [msk_self],rfl,rfl⟩ rfl (fun _ X w hI=>bh hI cl hz hcl fun b w' hI'=>⟨wit b [] [] [] [],by rw [msk_self,up_self]; rfl,trivial,by rw [msk_self,up_self]; exact hI'⟩) k
def tst (f:Wy→List Tk) (q:Nat):Ent:=⟨fun _=>undef,f,fun _=>True,[q],[]⟩
theorem tS {f:Wy→List Tk} {q:Nat} (nd:List Tk) (he:D[i]?=some (tst f q)) (h:[q].flatMap (tkn ops D L0 y)=nd∧f (pb (i :: ic ops i) y)=f y) (hs:∀ X w,Inv B w0 w (nd++X)→cw P ⟨d,op,ty,pos,af,none⟩ ρ w (fun v' w'=>v'=undef∧Inv B w0 w' (f y++X))) (k:gy P ops D B w0 L0 y rest (i+1) (ey ρ d undef)):gy P ops D B w0 L0 y (⟨d,op,ty,pos,af,none⟩ :: rest) i ρ :=
  spec_heavy nd [] he ⟨rfl,h.1,rfl⟩ rfl (fun _ X w hI=>(hs X w hI).mono fun v' w' h'=>⟨y i,h'.1,trivial,by rw [upY_self,h.2,List.append_nil]; exact h'.2⟩) k
theorem tn:gy P ops D B w0 L0 y [] i ρ:=trivial
theorem agree_of {ρ:Env}:∀ {s:List (Nat × Value)},s.map (fun p=>ρ p.1)=s.map (·.2)→cd ρ s
  | [],_=>trivial
  | (t,v) :: s,h=>by
    simp only [List.map_cons,List.cons.injEq] at h
    exact ⟨h.1,agree_of h.2⟩
end steps
theorem kx {P:Program} {r:Option Nat} {ds:List Deferred} {n:Nat} {Q:List Deferred→Exit→Env→World→Prop} {ρ:Env} {B:List Nat} {w w0:World} {L:List (Option Nat × Obj)} {id:Nat} {l:List Oper} (D:List Ent) (slots:Wy→List (Nat × Value)) (fin:Wy→List Tk) (hI:Inv B w0 w L)
    (hc:tokOk P n L.length l D=true) (hf:∀ y,(slots y).map (fun p=>envE l.toArray D y l 0 ρ p.1)=(slots y).map (·.2)∧(idsB l.toArray D L fun _=>true).flatMap (tkn l.toArray D L y)=fin y)
    (hS:∀ y,gy P l.toArray D B w0 L y l 0 ρ)
    (hQ:∀ y,(∀ k,k < l.length→pE l.toArray D y k)→∀ ρ w,cd ρ (slots y)→Inv B w0 w (fin y)→Q ds .normal ρ w):WP r ds P n (.region id l.toArray true) Q ρ w :=
  wp_tok D hI hc hS fun y hp w hI=>hQ y hp _ w (agree_of (hf y).1) ((hf y).2 ▸ hI)
attribute [irreducible] gy
end Go.K
end
section
namespace Go.K
open Go.RowKit
abbrev Str:=List UInt8
def bts (l:Str):ByteArray:=⟨⟨l⟩⟩
theorem bts_size (l:Str):(bts l).size=l.length:=rfl
theorem bts_get (l:Str) (i:Nat):(bts l)[i]?=l[i]?:=by
  rw [getElem?_def,getElem?_def]
  rfl
theorem bts_app (a b:Str):bts a++bts b=bts (a++b):=by
  apply ByteArray.ext
  rw [ByteArray.data_append]
  simp [bts]
theorem bts_ext (l:Str) (i j:Nat):(bts l).extract i j=bts ((l.drop i).take (j - i)):=by
  apply ByteArray.ext
  rw [ByteArray.data_extract]
  simp [bts]
theorem bts_list (l:Str):(bts l).toList=l:=by rw [ByteArray.toList_eq]; rfl
theorem bts_eqL (a b:Str):((bts a).toList == (bts b).toList)=decide (a=b):=by
  rw [bts_list,bts_list]
  by_cases h:a=b
  · subst h; simp
  rw [decide_eq_false h]; exact beq_eq_false_iff_ne.2 h
theorem isN_t {α:Type} {A:Option α} {z:Bool} (h:A.isNone=z) (hz:z=true):A=none:=by subst h; cases A <;> simp_all
theorem isN_f {α:Type} {A:Option α} {z:Bool} (h:A.isNone=z) (hz:¬ z=true):¬ A=none:=by subst h; cases A <;> simp_all
def ub (n:Int):UInt8:=UInt8.ofNat n.toNat
def nb (u:UInt8):Int:=(u.toNat:Int)
def bl (l:List Int):Str:=l.map ub
def bytesOf (s:Str):List Int:=s.map nb
def eB (x:Int):List Value:=[.int .u8 x]
theorem ew (x:Int):(eB x).length=1:=rfl
theorem eB_cell (x:Int):∀ u∈eB x,u.oneCell'=true:=by simp [eB,Value.oneCell']
def w8 (n:Int):Int:=n % 256
theorem wrap_w8 (n:Int):IntKind.u8.wrap n=w8 n:=by rw [IntKind.wrap_u8]; rfl
section steps
variable {P:Program} {ρ:Env} {B:List Nat} {w w0:World} {L:List (Option Nat × Obj)} {R:Value→World→Prop} {d:Option Nat} {ty:TypeId} {pos:String} {af:Array Edge} {gd:Option (Nat × Bool)}
theorem fb {T:TypeId} {x y:Operand} {l:Str} {k:IntKind} (m:Nat) {u:UInt8} {n:Int} (hT:P.underlying T=some .string) (hx:ev ρ x=.string (bts l)) (hy:ev ρ y=.int k n) (hm:n=(m:Int)) (hl:l[m]?=some u) (kk:R (.int .u8 (nb u)) w) :
    cw P ⟨d,.index T x y,ty,pos,af,gd⟩ ρ w R:=by
  refine kl _ ?_ kk
  have:execOp (ev ρ) ⟨d,.index T x y,ty,pos,af,gd⟩=(do pure (.value (← Instr.index T (ev ρ x) (ev ρ y)))):=rfl
  rw [this,hx,hy,Sem.run_bind]
  have h:(Instr.index T (.string (bts l)) (.int k n)).run P w=.ok (.int .u8 (nb u)) w:=by
    subst hm
    simp [Instr.index,asIntOf,run_underlying hT,bts_get,hl,nb]
  rw [h]; rfl
theorem run_sliceStr {T:TypeId} {l:Str} {lo hi:Option Value} {a b:Nat} (hT:P.underlying T=some .string) (ha:lo=some (.int .i64 (a:Int))∨lo=none∧a=0) (hb:hi=some (.int .i64 (b:Int))∨hi=none∧b=l.length) (h:a≤b∧b≤l.length) (w:World) :
    (Instr.slice T (.string (bts l)) lo hi none).run P w=.ok (.string (bts ((l.drop a).take (b - a)))) w:=by
  have h1:(0:Int)≤(a:Int)∧(a:Int)≤(b:Int):=by omega
  have h2:(0:Int)≤(b:Int)∧(b:Int)≤(l.length:Int):=by omega
  have hs:(Instr.sliceBounds false l.length l.length lo hi none).run P w=.ok (a,b,l.length) w:=by
    rcases ha with rfl | ⟨rfl,rfl⟩ <;> rcases hb with rfl | ⟨rfl,rfl⟩ <;> simp [Instr.sliceBounds,Instr.sliceBound,asIntOf,h1,h2,h.1,h.2]
  simp [Instr.slice,run_underlying hT,bts_size,hs,bts_ext]
theorem nq {T:TypeId} {x:Operand} {lo hi:Option Operand} {l m:Str} {a b:Nat} (hT:P.underlying T=some .string) (hx:ev ρ x=.string (bts l)) (ha:lo.map (ev ρ)=some (.int .i64 (a:Int))∨lo=none∧a=0) (hb:hi.map (ev ρ)=some (.int .i64 (b:Int))∨hi=none∧b=l.length)
    (h:a≤b∧b≤l.length) (hm:(l.drop a).take (b - a)=m) (kk:R (.string (bts m)) w):cw P ⟨d,.slice T x lo hi none,ty,pos,af,gd⟩ ρ w R:=by
  subst hm
  refine kl _ ?_ kk
  have:execOp (ev ρ) ⟨d,.slice T x lo hi none,ty,pos,af,gd⟩=(do pure (.value (← Instr.sliceAt T (ev ρ x) (lo.map (ev ρ)) (hi.map (ev ρ)) none))):=rfl
  rw [this,hx,Sem.run_bind]
  have h0:(Instr.sliceAt T (.string (bts l)) (lo.map (ev ρ)) (hi.map (ev ρ)) none).run P w=.ok (.string (bts ((l.drop a).take (b - a)))) w:=by
    have e:=run_sliceStr hT (ha.imp (fun h=>h) fun h=>⟨by rw [h.1]; rfl,h.2⟩) (hb.imp (fun h=>h) fun h=>⟨by rw [h.1]; rfl,h.2⟩) h w
    unfold Instr.sliceAt
    simp only [Sem.run_bind,run_underlying hT,Result.andThen_ok]
    exact e
  rw [h0]; rfl
theorem kv {T Ty:TypeId} {x y:Operand} {a b:Str} (ha:ev ρ x=.string (bts a)) (hb:ev ρ y=.string (bts b)) (h:a.length+b.length≤1000000000) (kk:R (.string (bts (a++b))) w) :
    cw P ⟨d,.binOp .add T x y Ty,ty,pos,af,gd⟩ ρ w R:=by
  refine kl _ ?_ kk
  have:execOp (ev ρ) ⟨d,.binOp .add T x y Ty,ty,pos,af,gd⟩=(do pure (.value (← (do eqGuard .add T x y (ev ρ x) (ev ρ y); binOp .add T (ev ρ x) (ev ρ y))))):=rfl
  rw [this,ha,hb]
  have e1:eqGuard .add T x y (.string (bts a)) (.string (bts b))=pure ():=rfl
  have e2:IntKind.i64.max=9223372036854775807:=rfl
  have h3:¬ (((bts a).size+(bts b).size:Nat):Int) > IntKind.i64.max:=by rw [bts_size,bts_size,e2]; omega
  rw [e1,binOp_string_add]
  simp only [Op.stringOp,if_neg h3,bts_app]
  rfl
theorem s_strEq {T Ty:TypeId} {x y:Operand} {a b:Str} (ha:ev ρ x=.string (bts a)) (hb:ev ρ y=.string (bts b)) (k1:a=b→R (.bool true) w) (k2:¬ a=b→R (.bool false) w) :
    cw P ⟨d,.binOp .eql T x y Ty,ty,pos,af,gd⟩ ρ w R:=by
  refine kl (.bool (decide (a=b))) ?_ ?_
  · have:execOp (ev ρ) ⟨d,.binOp .eql T x y Ty,ty,pos,af,gd⟩=(do pure (.value (← (do eqGuard .eql T x y (ev ρ x) (ev ρ y); binOp .eql T (ev ρ x) (ev ρ y))))):=rfl
    have e1:eqGuard .eql T x y (.string (bts a)) (.string (bts b))=pure ():=rfl
    rw [this,ha,hb,e1,binOp_string_eql,bts_eqL]; rfl
  by_cases h:a=b
  · rw [decide_eq_true h]; exact k1 h
  rw [decide_eq_false h]; exact k2 h
theorem s_strNe {T Ty:TypeId} {x y:Operand} {a b:Str} (ha:ev ρ x=.string (bts a)) (hb:ev ρ y=.string (bts b)) (k1:¬ a=b→R (.bool true) w) (k2:a=b→R (.bool false) w) :
    cw P ⟨d,.binOp .neq T x y Ty,ty,pos,af,gd⟩ ρ w R:=by
  refine kl (.bool (!decide (a=b))) ?_ ?_
  · have:execOp (ev ρ) ⟨d,.binOp .neq T x y Ty,ty,pos,af,gd⟩=(do pure (.value (← (do eqGuard .neq T x y (ev ρ x) (ev ρ y); binOp .neq T (ev ρ x) (ev ρ y))))):=rfl
    have e1:eqGuard .neq T x y (.string (bts a)) (.string (bts b))=pure ():=rfl
    rw [this,ha,hb,e1,binOp_string_neq,bts_eqL]; rfl
  by_cases h:a=b
  · rw [decide_eq_true h]; exact k2 h
  rw [decide_eq_false h]; exact k1 h
theorem s_lss8 {T Ty:TypeId} {x y:Operand} {a b:Int} (ha:ev ρ x=.int .u8 a) (hb:ev ρ y=.int .u8 b) (k1:a < b→R (.bool true) w) (k2:¬ a < b→R (.bool false) w) :
    cw P ⟨d,.binOp .lss T x y Ty,ty,pos,af,gd⟩ ρ w R:=by
  refine kl (.bool (decide (a < b))) ?_ ?_
  · have:execOp (ev ρ) ⟨d,.binOp .lss T x y Ty,ty,pos,af,gd⟩=(do pure (.value (← (do eqGuard .lss T x y (ev ρ x) (ev ρ y); binOp .lss T (ev ρ x) (ev ρ y))))):=rfl
    rw [this,ha,hb]; rfl
  by_cases h:a < b
  · rw [decide_eq_true h]; exact k1 h
  rw [decide_eq_false h]; exact k2 h
theorem s_gtr8 {T Ty:TypeId} {x y:Operand} {a b:Int} (ha:ev ρ x=.int .u8 a) (hb:ev ρ y=.int .u8 b) (k1:b < a→R (.bool true) w) (k2:¬ b < a→R (.bool false) w) :
    cw P ⟨d,.binOp .gtr T x y Ty,ty,pos,af,gd⟩ ρ w R:=by
  refine kl (.bool (decide (b < a))) ?_ ?_
  · have:execOp (ev ρ) ⟨d,.binOp .gtr T x y Ty,ty,pos,af,gd⟩=(do pure (.value (← (do eqGuard .gtr T x y (ev ρ x) (ev ρ y); binOp .gtr T (ev ρ x) (ev ρ y))))):=rfl
    rw [this,ha,hb]; rfl
  by_cases h:b < a
  · rw [decide_eq_true h]; exact k1 h
  rw [decide_eq_false h]; exact k2 h
theorem s_eql8 {T Ty:TypeId} {x y:Operand} {a b:Int} (ha:ev ρ x=.int .u8 a) (hb:ev ρ y=.int .u8 b) (k1:a=b→R (.bool true) w) (k2:¬ a=b→R (.bool false) w) :
    cw P ⟨d,.binOp .eql T x y Ty,ty,pos,af,gd⟩ ρ w R:=by
  refine kl (.bool (a == b)) ?_ ?_
  · have:execOp (ev ρ) ⟨d,.binOp .eql T x y Ty,ty,pos,af,gd⟩=(do pure (.value (← (do eqGuard .eql T x y (ev ρ x) (ev ρ y); binOp .eql T (ev ρ x) (ev ρ y))))):=rfl
    rw [this,ha,hb]; rfl
  by_cases h:a=b
  · rw [beq_iff_eq.2 h]; exact k1 h
  rw [beq_eq_false_iff_ne.2 h]; exact k2 h
theorem s_add8 {T Ty:TypeId} {x y:Operand} {a b:Int} (ha:ev ρ x=.int .u8 a) (hb:ev ρ y=.int .u8 b) (k:R (.int .u8 (w8 (a+b))) w):cw P ⟨d,.binOp .add T x y Ty,ty,pos,af,gd⟩ ρ w R:=by
  refine kl _ ?_ k
  have:execOp (ev ρ) ⟨d,.binOp .add T x y Ty,ty,pos,af,gd⟩=(do pure (.value (← (do eqGuard .add T x y (ev ρ x) (ev ρ y); binOp .add T (ev ρ x) (ev ρ y))))):=rfl
  rw [this,ha,hb,← wrap_w8]; rfl
theorem s_sub8 {T Ty:TypeId} {x y:Operand} {a b:Int} (ha:ev ρ x=.int .u8 a) (hb:ev ρ y=.int .u8 b) (k:R (.int .u8 (w8 (a - b))) w):cw P ⟨d,.binOp .sub T x y Ty,ty,pos,af,gd⟩ ρ w R:=by
  refine kl _ ?_ k
  have:execOp (ev ρ) ⟨d,.binOp .sub T x y Ty,ty,pos,af,gd⟩=(do pure (.value (← (do eqGuard .sub T x y (ev ρ x) (ev ρ y); binOp .sub T (ev ρ x) (ev ρ y))))):=rfl
  rw [this,ha,hb,← wrap_w8]; rfl
theorem s_rem8 {T Ty:TypeId} {x y:Operand} {a b:Int} (ha:ev ρ x=.int .u8 a) (hb:ev ρ y=.int .u8 b) (h:0 < b) (k:R (.int .u8 (a.tmod b)) w) :
    cw P ⟨d,.binOp .rem T x y Ty,ty,pos,af,gd⟩ ρ w R:=by
  refine kl (.int .u8 (a.tmod b)) ?_ k
  have:execOp (ev ρ) ⟨d,.binOp .rem T x y Ty,ty,pos,af,gd⟩=(do pure (.value (← (do eqGuard .rem T x y (ev ρ x) (ev ρ y); binOp .rem T (ev ρ x) (ev ρ y))))):=rfl
  rw [this,ha,hb]
  have e:binOp .rem T (.int .u8 a) (.int .u8 b)=Go.Op.intDiv .rem .u8 a b:=rfl
  have hb0:¬ b=0:=by omega
  rw [e]
  unfold Go.Op.intDiv
  rw [if_neg hb0]
  rfl
theorem run_cellsLoad {xs:List Value} {b off:Nat} (h:∀ j u,xs[j]?=some u→w.cell? ⟨b,off+j,none⟩=some u):(loadCells ⟨b,off,none⟩ xs.length).run P w=.ok xs.toArray w:=by
  have:=run_loadCells (P:=P) (w:=w) ⟨b,off,none⟩ xs 0 #[] (fun j v hj=>by rw [Nat.zero_add,jl]; exact h j v hj)
  simpa [loadCells] using this
theorem foldl_ub:∀ (l:List Int) (r:ByteArray),l.foldl (fun r n=>r.push (UInt8.ofNat n.toNat)) r=r++bts (bl l)
  | [],r=>by
    apply ByteArray.ext
    simp [bl,bts]
  | x :: l,r=>by
    rw [List.foldl_cons,foldl_ub l]
    apply ByteArray.ext
    rw [ByteArray.data_append,ByteArray.data_append]
    simp [bl,bts,ub,ByteArray.push]
theorem flat_eB (l:List Int):al eB l=l.map (fun n=>Value.int .u8 n):=by
  induction l with
  | nil=>rfl
  | cons x l ih=>simp only [al,List.flatMap_cons] at ih ⊢; rw [ih]; rfl
theorem fx {src dst e:TypeId} {x:Operand} {A:Option Addr} {n c:Nat} {l:List Int} (hs:P.underlying src=some (.slice e)) (he:P.underlying e=some (.int .u8)) (hd:P.underlying dst=some .string) (hx:ev ρ x=.slice A n c) (hn:n=l.length) (hC:bi w A (al eB l)) (kk:R (.string (bts (bl l))) w) :
    cw P ⟨d,.convert src dst x,ty,pos,af,gd⟩ ρ w R:=by
  refine kl _ ?_ kk
  have e0:execOp (ev ρ) ⟨d,.convert src dst x,ty,pos,af,gd⟩=(do pure (.value (← convert src dst (ev ρ x)))):=rfl
  rw [e0,hx,Sem.run_bind]
  have h:(convert src dst (.slice A n c)).run P w=.ok (.string (bts (bl l))) w:=by
    subst hn
    have h1:(convert src dst (.slice A l.length c)).run P w=(Conv.bytesToString (.slice A l.length c)).run P w:=by
      unfold convert
      simp only [Sem.run_bind,run_underlying hs,run_underlying hd,run_underlying he,Result.andThen_ok]
    rw [h1]
    cases l with
    | nil =>
      cases A with
      | none=>rfl
      | some a=>simp [Conv.bytesToString,loadCells,loadCellsFrom,bl,bts]; rfl
    | cons y l =>
      obtain ⟨b,off,rfl,hb,hc⟩:=hC (by rw [dt ew]; simp)
      have hl:=run_cellsLoad (P:=P) hc
      rw [flat_eB] at hl
      have h2:=run_bytesToString (P:=P) w ⟨b,off,none⟩ (y :: l).length c (y :: l) (by simpa using hl)
      rw [h2,foldl_ub]
      simp
  rw [h]; rfl
theorem s_conv8 {src dst:TypeId} {x:Operand} {k:IntKind} {n:Int} (hd:P.underlying dst=some (.int .i64)) {s:TypeDesc} (hs:P.underlying src=some s) (hx:ev ρ x=.int k n) (h:InR n) (kk:R (.int .i64 n) w) :
    cw P ⟨d,.convert src dst x,ty,pos,af,gd⟩ ρ w R:=by
  refine kl _ ?_ kk
  have e0:execOp (ev ρ) ⟨d,.convert src dst x,ty,pos,af,gd⟩=(do pure (.value (← convert src dst (ev ρ x)))):=rfl
  rw [e0,hx,Sem.run_bind]
  unfold convert
  simp only [Sem.run_bind,run_underlying hs,run_underlying hd,Result.andThen_ok,Conv.intToInt,wrap_in h.1 h.2,Sem.run_pure]
theorem s_convTo8 {src dst:TypeId} {x:Operand} {k:IntKind} {n:Int} (hd:P.underlying dst=some (.int .u8)) {s:TypeDesc} (hs:P.underlying src=some s) (hx:ev ρ x=.int k n) (kk:R (.int .u8 (w8 n)) w) :
    cw P ⟨d,.convert src dst x,ty,pos,af,gd⟩ ρ w R:=by
  refine kl _ ?_ kk
  have e0:execOp (ev ρ) ⟨d,.convert src dst x,ty,pos,af,gd⟩=(do pure (.value (← convert src dst (ev ρ x)))):=rfl
  rw [e0,hx,Sem.run_bind]
  unfold convert
  simp only [Sem.run_bind,run_underlying hs,run_underlying hd,Result.andThen_ok,Conv.intToInt,wrap_w8,Sem.run_pure]
theorem s_convSB (hI:Inv B w0 w L) {src dst e:TypeId} {x:Operand} {l:Str} {s:TypeDesc} (hs:P.underlying src=some s) (hd:P.underlying dst=some (.slice e)) (he:P.underlying e=some (.int .u8)) (hx:ev ρ x=.string (bts l))
    (kk:∀ (b c:Nat) (cl:List Value) (fr:Nat × Nat) (w':World),Inv B w0 w' ((some b,.cells cl.toArray e fr) :: L)→(∀ (j:Nat) (u:UInt8),l[j]?=some u→cl[j]?=some (.int .u8 (nb u)))→R (.slice (some ⟨b,0,none⟩) l.length c) w') :
    cw P ⟨d,.convert src dst x,ty,pos,af,gd⟩ ρ w R:=by
  have e0:execOp (ev ρ) ⟨d,.convert src dst x,ty,pos,af,gd⟩=(do pure (.value (← convert src dst (ev ρ x)))):=rfl
  have h1:(execOp (ev ρ) ⟨d,.convert src dst x,ty,pos,af,gd⟩).run P w=.ok (.value (.slice (some ⟨w.heap.size,0,none⟩) l.length (grownCap w l.length 0 e))) (Lib.bytesWorld w e (bts l)):=by
    rw [e0,hx,Sem.run_bind,Lib.run_convert_string_bytes w src dst e (bts l) hs hd he]; rfl
  unfold cw
  rw [h1]
  refine kk w.heap.size _ (Lib.bytesCells w e (bts l)).toList ((Lib.bytesCells w e (bts l)).size,(Lib.bytesCells w e (bts l)).size+1) _ ?_ ?_
  · have hsz:=Lib.bytesWorld_size w e (bts l)
    have hb:Below w.heap.size w (Lib.bytesWorld w e (bts l)):=⟨rfl,rfl,⟨rfl,DLe.of (Nat.le_succ _)⟩,by rw [hsz]; omega,fun k hk=>Lib.bytesWorld_at_old w e (bts l) k hk⟩
    refine hI.more hb fun b hb=>?_
    · injection hb with hb
      subst hb
      exact ⟨Nat.le_refl _,by rw [Lib.bytesWorld_at_new]⟩
  intro j u hj
  simp only [Lib.bytesCells,Array.toList_append,Array.toList_map]
  rw [List.getElem?_append_left (by simpa [bts] using lt_of_get hj)]
  simp [bts,hj,nb]
theorem s_loadF (hI:Inv B w0 w L) {T:TypeId} {x:Operand} (i:Nat) {b off:Nat} {cl:List Value} {T':TypeId} {fr:Nat × Nat} (v:Value) (hA:∀ w,(isAgg T).run P w=.ok false w)
    (ha:ev ρ x=.pointer (some ⟨b,off,none⟩)) (hi:L[i]?=some (some b,.cells cl.toArray T' fr)) (hc:cl[off]?=some v) (k:R v w):cw P ⟨d,.load T x,ty,pos,af,gd⟩ ρ w R :=
  s_load ha (bv (hI.cell hi (by simpa using hc)) hA) k
theorem str_drop (l:Str) (a:Nat):(l.drop a).take (l.length - a)=l.drop a:=List.take_of_length_le (by rw [List.length_drop]; exact Nat.le_refl _)
theorem s_indexF {T E:TypeId} {x y:Operand} {b n c:Nat} (m:Nat) (hT:P.underlying T=some (.slice E)) (hS:∀ w,(Go.sizeOf E).run P w=.ok 1 w) (hx:ev ρ x=.slice (some ⟨b,0,none⟩) n c) {q:Int} (hy:ev ρ y=.int .i64 q) (hm:q=(m:Int)) (hlt:m < n)
    (kk:R (.pointer (some ⟨b,m,none⟩)) w):cw P ⟨d,.indexAddr T x y,ty,pos,af,gd⟩ ρ w R:=s_index (off:=0) hT hS hx hy hm hlt (by rw [Nat.zero_add,Nat.mul_one]; exact kk)
theorem s_copyStr (hI:Inv B w0 w L) {t e ts:TypeId} (ht:P.underlying t=some (.slice e)) (hS:∀ w,(Go.sizeOf e).run P w=.ok 1 w) {x y:Operand} (ix:Nat) {b n c:Nat} {cl xs:List Value} {E:TypeId} {s:Str} (hx:ev ρ x=slv (some b) n c) (hL:L[ix]?=some (some b,blk cl E)) (hr:Row 1 (some b) n c cl xs) (hy:ev ρ y=.string (bts s)) (hn:s.length=n)
    (kk:∀ cl' w',Inv B w0 w' (L.set ix (some b,blk cl' E))→Row 1 (some b) n c cl' (al eB (bytesOf s))→R (.int .i64 (n:Int)) w') :
    cw P ⟨d,.call ⟨.builtin .copy,#[x,y],#[t,ts]⟩,ty,pos,af,gd⟩ ρ w R:=by
  have hb:=(hI.has ix b _ hL).1
  have hcells:List.take n (List.map (fun b:UInt8=>Value.int .u8 b.toNat) (bts s).data.toList)=al eB (bytesOf s):=by
    rw [flat_eB,← hn]
    show List.take s.length (List.map (fun b:UInt8=>Value.int .u8 b.toNat) s)=(s.map nb).map _
    rw [List.take_of_length_le (by simp),List.map_map]
    rfl
  have hlen:(al eB (bytesOf s)).length=n:=by rw [dt ew]; simp [bytesOf,hn]
  have hs:=hr.size
  have hc:=hr.cap
  obtain ⟨w',hrun,e1,e2,e3,e4,e5,e6⟩:=lm (P:=P) (al eB (bytesOf s)) 0 0 w cl hb (by rw [hlen]; omega) (nz eB_cell _)
  have hm:Nat.min s.length n=n:=by rw [hn]; exact Nat.min_self n
  have hcp:(Builtin.copy_ #[t,ts] ty #[slv (some b) n c,.string (bts s)]).run P w=.ok (.int .i64 (n:Int)) w':=by
    simp only [Builtin.copy_,slv,Option.map_some]
    simp [run_underlying ht,Builtin.lenOf,bts_size,hm,hS,Builtin.firstCells,hcells,hrun,goInt]
  have h:(execOp (ev ρ) ⟨d,.call ⟨.builtin .copy,#[x,y],#[t,ts]⟩,ty,pos,af,gd⟩).run P w=.ok (.value (.int .i64 (n:Int))) w':=by
    simp [execOp,resolve,invoke,builtin,hx,hy,hcp]
  unfold cw; rw [h]
  refine kk _ w' (hI.turn hL e1 e2 e3 (by omega) (fun k hk hg=>e5 k fun he=>hg (by rw [he])) (fun b' hb'=>by injection hb' with hb'; subst hb'; exact e6)) ⟨by rw [hlen,Nat.mul_one],hr.cap,hr.capmax,by rw [put_len,hr.size],?_,fun h=>by cases h⟩
  have:=put_take cl (al eB (bytesOf s)) 0 (by rw [hlen]; omega)
  rw [hlen,Nat.zero_add,List.take_zero,List.nil_append] at this
  rw [Nat.mul_one]; exact this
end steps
section rounds
variable {P:Program} {r:Option Nat} {ds:List Deferred} {n:Nat} {Q:List Deferred→Exit→Env→World→Prop}
def RW (r:Option Nat) (ds:List Deferred) (P:Program) (n:Nat) (c:Code) (Q:List Deferred→Exit→Env→World→Prop):Nat→Env→World→Prop
  | 0,_,_=>False
  | m+1,ρ,w=>WP r ds P n c (thenE (fun ds' ρ w=>ds'=ds∧RW r ds P n c Q m ρ w) Q) ρ w
theorem lh {c:Code} {m:Nat} {ρ:Env} {w:World} (h:WP r ds P n c (thenE (fun ds' ρ w=>ds'=ds∧RW r ds P n c Q m ρ w) Q) ρ w):RW r ds P n c Q (m+1) ρ w:=h
theorem rwRounds {c:Code}:∀ (m:Nat) (ρ:Env) (a:Act) (w:World),Sat ds n ρ a→RW r ds P n c Q m ρ w→Code.roundsIn (fen r) 0 P c (fun e a' w'=>∃ ds' ρ',Sat ds' n ρ' a'∧Q ds' e ρ' w') m a w
  | 0,_,_,_,_,h=>h
  | m+1,ρ,a,w,hs,h=>by
    have h:WP r ds P n c (thenE (fun ds' ρ w=>ds'=ds∧RW r ds P n c Q m ρ w) Q) ρ w:=h
    rw [roundsIn_succ]
    refine wpIn_mono (h.go a hs) fun e a' w' ⟨ds',ρ',hs',hq⟩=>?_
    cases e with
    | normal =>
      obtain ⟨hd,hq⟩:=hq
      rw [hd] at hs'
      exact rwRounds m ρ' a' w' hs' hq
    | _=>exact ⟨ds',ρ',hs',hq⟩
theorem jx {c:Code} {ρ:Env} {w:World} (m:Nat) (h:RW r ds P n c Q m ρ w):WP r ds P n (.loop c) Q ρ w :=
  ⟨fun a hs=>wpIn_loop_rounds m (rwRounds m ρ a w hs h)⟩
end rounds
section arrays
variable {P:Program}
theorem part_int {e:TypeId} (hA:∀ w,(isAgg e).run P w=.ok false w) {xs:List Int} {i:Nat} {a:Int} (h:xs[i]?=some a) (w:World):(part e (xs.map (Value.int .i64)).toArray (i * 1)).run P w=.ok (.int .i64 a) w:=by
  simp [part,hA,h]
def eqEl (d:Nat) (e:TypeId) (n:Nat) (xs ys:Array Value):List Nat→Sem Bool
  | []=>pure true
  | i :: l=>do
    let a ← part e xs (i * n)
    let b ← part e ys (i * n)
    let r ← Op.equalIn d e a b
    if (!r)=true then pure false else eqEl d e n xs ys l
theorem run_equalIn_arr (d:Nat) (t e n len:Nat) (xs ys:Array Value) (ht:P.underlying t=some (.array len e)) (hS:∀ w,(Go.sizeOf e).run P w=.ok n w) (w:World) :
    (Op.equalIn (d+1) t (.agg xs) (.agg ys)).run P w=(eqEl d e n xs ys (List.range' 0 len)).run P w:=by
  simp only [Op.equalIn,Sem.run_bind,run_underlying ht,Result.andThen_ok,hS]
  rw [Std.Legacy.Range.forIn_eq_forIn_range']
  simp only [Std.Legacy.Range.size,Nat.sub_zero,Nat.add_sub_cancel,Nat.div_one]
  generalize List.range' 0 len=fs
  induction fs generalizing w with
  | nil=>simp [eqEl]
  | cons f fs ih =>
    simp only [List.forIn_cons,eqEl,Sem.run_bind,Sem.run_ite]
    generalize (part e xs (f * n)).run P w=r1
    cases r1 with
    | ok a w1 =>
      simp only [Result.andThen_ok]
      generalize (part e ys (f * n)).run P w1=r2
      cases r2 with
      | ok b w2 =>
        simp only [Result.andThen_ok]
        generalize (Op.equalIn d e a b).run P w2=r3
        cases r3 with
        | ok r w3 =>
          cases r
          · simp only [Result.andThen_ok,Bool.not_false,if_true,Sem.run_pure]
          simp only [Result.andThen_ok,Bool.not_true,Bool.false_eq_true,if_false,Sem.run_pure]
          exact ih w3
        | halt x w3=>simp [Result.andThen]
      | halt x w2=>simp [Result.andThen]
    | halt x w1=>simp [Result.andThen]
theorem eqEl_ints {d e:Nat} (he:P.underlying e=some (.int .i64)) (hA:∀ w,(isAgg e).run P w=.ok false w) {xs ys:List Int} (w:World):∀ (m i:Nat),i+m=xs.length→i+m=ys.length→(eqEl (d+1) e 1 (xs.map (Value.int .i64)).toArray (ys.map (Value.int .i64)).toArray (List.range' i m)).run P w=.ok (decide (xs.drop i=ys.drop i)) w
  | 0,i,hx,hy=>by
    rw [List.drop_of_length_le (by omega),List.drop_of_length_le (by omega)]
    simp [eqEl]
  | m+1,i,hx,hy=>by
    obtain ⟨a,h1⟩:∃ a,xs[i]?=some a:=⟨xs[i]'(by omega),List.getElem?_eq_getElem _⟩
    obtain ⟨b,h2⟩:∃ b,ys[i]?=some b:=⟨ys[i]'(by omega),List.getElem?_eq_getElem _⟩
    have e1:xs.drop i=a :: xs.drop (i+1):=by rw [List.drop_eq_getElem_cons (List.getElem?_eq_some_iff.1 h1).1,(List.getElem?_eq_some_iff.1 h1).2]
    have e2:ys.drop i=b :: ys.drop (i+1):=by rw [List.drop_eq_getElem_cons (List.getElem?_eq_some_iff.1 h2).1,(List.getElem?_eq_some_iff.1 h2).2]
    rw [List.range'_succ]
    simp only [eqEl,Sem.run_bind,part_int hA h1,part_int hA h2,Result.andThen_ok,run_equalIn_int w _ e .i64 .i64 _ _ he]
    rw [e1,e2]
    by_cases hq:a=b
    · subst hq
      simp only [beq_self_eq_true,Bool.not_true,Bool.false_eq_true,if_false]
      rw [eqEl_ints he hA w m (i+1) (by omega) (by omega)]
      simp
    simp [hq]
theorem run_eqInts {d t e:Nat} {xs ys:List Int} {len:Nat} (ht:P.underlying t=some (.array len e)) (hS:∀ w,(Go.sizeOf e).run P w=.ok 1 w) (he:P.underlying e=some (.int .i64)) (hA:∀ w,(isAgg e).run P w=.ok false w) (hx:xs.length=len) (hy:ys.length=len) (w:World) :
    (Op.equalIn (d+2) t (.agg (xs.map (Value.int .i64)).toArray) (.agg (ys.map (Value.int .i64)).toArray)).run P w=.ok (decide (xs=ys)) w:=by
  rw [run_equalIn_arr (d+1) t e 1 len _ _ ht hS,eqEl_ints he hA w len 0 (by omega) (by omega)]
  rfl
end arrays

section ixarr
variable {P:Program} {ρ:Env} {w:World} {d:Option Nat} {ty:TypeId} {pos:String} {af:Array Edge} {gd:Option (Nat × Bool)} {R:Value→World→Prop}
end ixarr
theorem Inv.cellsAt {B:List Nat} {w0 w:World} {L:List (Option Nat × Obj)} (hI:Inv B w0 w L) (i:Nat) {b:Nat} {cl:List Value} {T:TypeId} (hi:L[i]?=some (some b,blk cl T)):∀ (j:Nat) (v:Value),cl[j]?=some v→w.cell? ⟨b,j,none⟩=some v:=fun j v h=>hI.cell hi (by simpa using h)
theorem Inv.ptrUp {w0 w:World} {L:List (Option Nat × Obj)} (hI:Inv [] w0 w L) {b:Nat} {xs:List Value} (hb:b < w0.heap.size) (h:∀ (j:Nat) (v:Value),xs[j]?=some v→w0.cell? ⟨b,j,none⟩=some v):∀ (j:Nat) (v:Value),xs[j]?=some v→w.cell? ⟨b,j,none⟩=some v:=fun j v hj=>by
  rw [← h j v hj]; simp [World.cell?,hI.but.block b hb (by simp)]
section rets3
variable {P:Program} {fn:Func} {ρ:Env} {w:World}
theorem Ret.ctt {a T s r:Nat} {ad:Addr} {v u x:Value} (h:fn.results = #[.cell a T,.tmp s,.tmp r]) (h1:ρ a=.pointer (some ad)) (h2:(loadVar T ad).run P w=.ok v w) (h3:ρ s=u) (h4:ρ r=x):Ret P fn ρ w (.tuple #[v,u,x]):=fun tmps hs=>by
  rw [← hs a] at h1
  rw [← h3,← h4,← hs s,← hs r,results_eq]
  revert h2; generalize loadVar=lv; intro h2
  simp [gp,h,go_sem,asAddr] at h1 ⊢
  simp [h1,go_sem,h2]
theorem Ret.cct {a T b S r:Nat} {ad bd:Addr} {v u x:Value} (h:fn.results = #[.cell a T,.cell b S,.tmp r]) (h1:ρ a=.pointer (some ad)) (h2:(loadVar T ad).run P w=.ok v w)
    (h3:ρ b=.pointer (some bd)) (h4:(loadVar S bd).run P w=.ok u w) (h5:ρ r=x):Ret P fn ρ w (.tuple #[v,u,x]):=fun tmps hs=>by
  rw [← hs a] at h1
  rw [← hs b] at h3
  rw [← h5,← hs r,results_eq]
  revert h2 h4; generalize loadVar=lv; intro h2 h4
  simp [gp,h,go_sem,asAddr] at h1 h3 ⊢
  simp [h1,h3,go_sem,h2,h4]
end rets3
end Go.K
end
section
namespace Go.K
open Go.RowKit
section
variable {P:Program} {r:Option Nat} {ds:List Deferred} {n:Nat} {Q:List Deferred→Exit→Env→World→Prop} {ρ:Env} {w:World}
def Dies (P:Program) (o:Oper) (ρ:Env) (w:World) (D:List PanicEntry→World→Prop):Prop :=
  match (execOp (ev ρ) o).run P w with
  | .ok (.enter f args) w'=>Calls P f args w' (fun e w''=>∃ ch,e=.panicked ch∧D ch w'')
  | .halt (.panic v) w'=>D [{ v,recovered:=false }] w'
  | _=>False
theorem Dies.toWp {o:Oper} {a:Act} {K:Act→World→Prop} {Q:Exit→Act→World→Prop} {D:List PanicEntry→World→Prop}
    (hs:Sat ds n ρ a) (hd:∀ c,o.op≠.defer c) (h:Dies P o ρ w D) (hk:∀ ch w',D ch w'→Q (.panic ch) a w'):o.wpIn (fen r) 0 P a w K Q:=by
  refine ⟨fun _ _=>trivial,?_⟩
  rw [Oper.semAt_eq _ _ _ hd,hs.eval]
  unfold Dies at h
  generalize (execOp (ev ρ) o).run P w=x at *
  cases x with
  | ok x w' =>
    cases x with
    | enter f args =>
      refine ⟨fun h=>(by simp [fen,Fence.wide] at h),?_⟩
      refine callsIn_wide.2 (Calls.mono h fun e w'' ⟨ch,he,hv⟩=>?_)
      subst he
      exact hk _ _ hv
    | _=>exact h.elim
  | halt x w' =>
    cases x with
    | panic v=>exact hk _ _ h
    | _=>exact h.elim
def SeqD (P:Program) (ops:Array Oper) (D:List PanicEntry→Env→World→Prop):List Oper→Env→World→Prop
  | [],_,_=>False
  | o :: rest,ρ,w =>
    match Region.wanted o (ei ops ρ) with
    | true=>((∀ c,o.op≠.defer c)∧Dies P o ρ w fun ch w'=>D ch ρ w')∨cw P o ρ w (fun v w'=>SeqD P ops D rest (ey ρ o.dst v) w')
    | false=>SeqD P ops D rest (ey ρ o.dst undef) w
theorem wpOps_of_SeqD {ops:Array Oper} {D:List PanicEntry→Env→World→Prop} {Q:Exit→Act→World→Prop} (hQ:∀ ρ a ch w,Sat ds n ρ a→D ch ρ w→Q (.panic ch) a w) :
    ∀ (l:List Oper) (k:Nat) (ρ:Env) (a:Act) (w:World),(∀ j,l[j]?=ops[k+j]?)→fo n l=true→Sat ds n ρ a→SeqD P ops D l ρ w →
      wpOpsIn (fen r) 0 P ops Q (List.range' k l.length) a w
  | [],k,ρ,a,w,_,_,hs,h=>h.elim
  | o :: l,k,ρ,a,w,hl,hd,hs,h=>by
    have h0:ops[k]?=some o:=by simpa using (hl 0).symm
    simp only [fo,List.all_cons,Bool.and_eq_true] at hd
    have ih:=fun ρ a w=>wpOps_of_SeqD hQ l (k+1) ρ a w (fun j=>by have:=hl (j+1); simpa [Nat.add_assoc,Nat.add_comm 1 j] using this) hd.2
    simp only [List.length_cons,List.range'_succ,wpOpsIn,h0]
    rw [hs.yielded]
    unfold SeqD at h
    cases hw:Region.wanted o (ei ops ρ) with
    | true =>
      simp only [hw] at h
      simp only [if_true]
      rcases h with ⟨hnd,h⟩ | h
      · exact h.toWp hs hnd fun ch w' hv=>hQ _ _ _ _ hs hv
      exact h.toWp hs fun v w' hv=>ih _ _ _ (hs.put hd.1 v) hv
    | false =>
      simp only [hw] at h
      simp only [Bool.false_eq_true,if_false]
      exact ⟨fun _ _=>trivial,ih _ _ _ (hs.put hd.1 undef) h⟩
theorem lp {id:Nat} {l:List Oper} (D:List PanicEntry→Env→World→Prop) (hd:fo n l=true) (h:SeqD P l.toArray D l ρ w) (hq:∀ ch ρ' w',D ch ρ' w'→Q ds (.panic ch) ρ' w'):WP r ds P n (.region id l.toArray false) Q ρ w :=
  ⟨fun a hs=>wpIn_region (by
    have:=wpOps_of_SeqD (P:=P) (r:=r) (ds:=ds) (n:=n) (ops:=l.toArray) (D:=D) (Q:=fun e a' w'=>∃ ds' ρ',Sat ds' n ρ' a'∧Q ds' e ρ' w') (fun ρ a ch w hs hk=>⟨ds,ρ,hs,hq _ _ _ hk⟩) l 0 ρ a w (fun j=>by simp) hd hs h
    rw [List.range_eq_range']; simpa using this)⟩
theorem sd_c {ops:Array Oper} {D:List PanicEntry→Env→World→Prop} {rest:List Oper} {op:Op} {d:Option Nat} {ty pos af} (h:cw P ⟨d,op,ty,pos,af,none⟩ ρ w (fun v w'=>SeqD P ops D rest (ey ρ d v) w')):SeqD P ops D (⟨d,op,ty,pos,af,none⟩ :: rest) ρ w:=.inr h
theorem sd_d {ops:Array Oper} {D:List PanicEntry→Env→World→Prop} {rest:List Oper} {op:Op} {d:Option Nat} {ty pos af} (hnd:∀ c,op≠.defer c) (h:Dies P ⟨d,op,ty,pos,af,none⟩ ρ w fun ch w'=>D ch ρ w'):SeqD P ops D (⟨d,op,ty,pos,af,none⟩ :: rest) ρ w:=.inl ⟨hnd,h⟩
theorem dies_call {o:Oper} (f:FuncId) (args:List Value) {D:List PanicEntry→World→Prop} (h:(execOp (ev ρ) o).run P w=.ok (.enter f args.toArray) w) (hc:Calls P f args.toArray w (fun e w''=>∃ ch,e=.panicked ch∧D ch w'')):Dies P o ρ w D:=by
  unfold Dies; rw [h]; exact hc
theorem dies_panic {o:Oper} {v:Value} {D:List PanicEntry→World→Prop} (h:(execOp (ev ρ) o).run P w=.halt (.panic v) w) (hc:D [{ v,recovered:=false }] w):Dies P o ρ w D:=by
  unfold Dies; rw [h]; exact hc
def DoesP (P:Program) (f:FuncId) (args:List Value) (w:World) (R:Value→World→Prop) (D:List PanicEntry→World→Prop):Prop :=
  Calls P f args.toArray w (fun e w'=>(∃ v,e=.returned v∧R v w')∨∃ ch,e=.panicked ch∧D ch w')
def IsP (ch:List PanicEntry):Prop:=∃ t v,ch=[{ v:=.iface t v,recovered:=false }]
theorem DoesP.ok {f:FuncId} {args:List Value} {R:Value→World→Prop} (h:DoesP P f args w R fun _ _=>False):bn P f args w R :=
  Calls.mono h fun e w' hh=>hh.elim id fun ⟨_,_,h⟩=>h.elim
theorem DoesP.dies {f:FuncId} {args:List Value} {D:List PanicEntry→World→Prop} (h:DoesP P f args w (fun _ _=>False) D):Calls P f args.toArray w (fun e w'=>∃ ch,e=.panicked ch∧D ch w') :=
  Calls.mono h fun e w' hh=>hh.elim (fun ⟨_,_,h⟩=>h.elim) id
theorem DoesP.diesI {f:FuncId} {args:List Value} {B:List Nat} {w0:World} {L:List (Option Nat × Obj)} (h:DoesP P f args w (fun _ _=>False) fun ch w'=>IsP ch∧Below w.heap.size w w') (hI:Inv B w0 w L):Calls P f args.toArray w (fun e w'=>∃ ch,e=.panicked ch∧IsP ch∧Inv B w0 w' L) :=
  Calls.mono h.dies fun e w' ⟨ch,he,hp,hb⟩=>⟨ch,he,hp,hI.call hb⟩
def bodyP (P:Program) (fn:Func) (R:Value→World→Prop) (D:List PanicEntry→World→Prop):List Deferred→Exit→Env→World→Prop
  | ds,.normal,ρ,w | ds,.ret,ρ,w=>cf P fn R ds ρ w
  | ds,.panic ch,ρ,w=>ds=[]∧D ch w
  | _,_,_,_=>False
theorem cf.leavesP {fn:Func} {R:Value→World→Prop} {D:List PanicEntry→World→Prop} {tmps:Array Value} (ht:∀ t,tmps.getD t undef=ρ t):∀ (ds:List Deferred) (w:World),cf P fn R ds ρ w →
    LeavesInM (fen none) 0 P fn tmps (fun e w'=>(∃ v,e=.returned v∧R v w')∨∃ ch,e=.panicked ch∧D ch w') ds .returning w
  | [],w,⟨v,hr,hR⟩=>⟨v,hr _ ht,.inl ⟨v,rfl,hR⟩⟩
  | d :: ds,w,⟨D,w',h1,h2,h3⟩=>⟨(by simp),.inl ⟨D,w',h1,h2,cf.leavesP ht ds w' h3⟩⟩
theorem calls_ofP {f:FuncId} {fn:Func} {c:Code} {n:Nat} {args:List Value} {R:Value→World→Prop} {D:List PanicEntry→World→Prop} (hf:P.funcs[f]?=some fn) (hb:fn.body=some c) (hn:fn.ntmps=n) (hl:Nat.ble args.length n=true)
    (h:WP none [] P n c (bodyP P fn R D) (enterE args) w):DoesP P f args w R D:=by
  subst hn
  refine (callsIn_wide (n:=0)).1 (callsIn_of_wp_marks (F:=fen none) hf hb trivial (wpIn_mono (h.go _ (enter_sat args fn.ntmps (Nat.le_of_ble_eq_true hl))) ?_) rfl)
  intro e a w' ⟨ds,ρ,hs,hq⟩
  cases e with
  | normal=>show LeavesInM _ _ _ _ _ _ _ _ _; rw [hs.defers]; exact hq.leavesP hs.at_ ds w'
  | ret=>show LeavesInM _ _ _ _ _ _ _ _ _; rw [hs.defers]; exact hq.leavesP hs.at_ ds w'
  | panic ch =>
    obtain ⟨rfl,hD⟩:=hq
    show LeavesInM _ _ _ _ _ _ _ _ _
    rw [hs.defers]
    exact .inr ⟨ch,rfl,hD⟩
  | _=>exact hq.elim
def SeqF (P:Program) (ops:Array Oper) (K:Deferred→Env→World→Prop):List Oper→Env→World→Prop
  | [],_,_=>False
  | o :: rest,ρ,w =>
    Region.wanted o (ei ops ρ)=true∧((rest=[]∧∃ c d,o.op=.defer c∧(resolve (ev ρ) c o.type).run P w=.ok d w∧K d (ey ρ o.dst undef) w)∨cw P o ρ w (fun v w'=>SeqF P ops K rest (ey ρ o.dst v) w'))
theorem sf_c {ops:Array Oper} {K:Deferred→Env→World→Prop} {rest:List Oper} {op:Op} {d:Option Nat} {ty pos af} (h:cw P ⟨d,op,ty,pos,af,none⟩ ρ w (fun v w'=>SeqF P ops K rest (ey ρ d v) w')):SeqF P ops K (⟨d,op,ty,pos,af,none⟩ :: rest) ρ w:=⟨rfl,.inr h⟩
theorem sf_d {ops:Array Oper} {K:Deferred→Env→World→Prop} {c:Call} {d:Option Nat} {ty pos af} (D:Deferred) (hr:(resolve (ev ρ) c ty).run P w=.ok D w) (hk:K D (ey ρ d undef) w):SeqF P ops K [⟨d,.defer c,ty,pos,af,none⟩] ρ w:=⟨rfl,.inl ⟨rfl,c,D,rfl,hr,hk⟩⟩
theorem wpOps_of_SeqF {ops:Array Oper} {K:Deferred→Env→World→Prop} {Q:Exit→Act→World→Prop} (hQ:∀ d ρ a w,Sat (d :: ds) n ρ a→K d ρ w→Q .normal a w) :
    ∀ (l:List Oper) (k:Nat) (ρ:Env) (a:Act) (w:World),(∀ j,l[j]?=ops[k+j]?)→fo n l=true→Sat ds n ρ a→SeqF P ops K l ρ w →
      wpOpsIn (fen none) 0 P ops Q (List.range' k l.length) a w
  | [],k,ρ,a,w,_,_,hs,h=>h.elim
  | o :: l,k,ρ,a,w,hl,hd,hs,h=>by
    have h0:ops[k]?=some o:=by simpa using (hl 0).symm
    simp only [fo,List.all_cons,Bool.and_eq_true] at hd
    have ih:=fun ρ a w=>wpOps_of_SeqF hQ l (k+1) ρ a w (fun j=>by have:=hl (j+1); simpa [Nat.add_assoc,Nat.add_comm 1 j] using this) hd.2
    simp only [List.length_cons,List.range'_succ,wpOpsIn,h0]
    rw [hs.yielded]
    obtain ⟨hw,h⟩:=h
    simp only [hw,if_true]
    rcases h with ⟨rfl,c,d,hop,hres,hk⟩ | h
    · refine ⟨fun _ _=>trivial,?_⟩
      have e:execOp (ev ρ) o=(do pure (.defer (← resolve (ev ρ) c o.type))):=by unfold execOp; rw [hop]
      show o.uponIn (fen none) 0 P a _ Q ((Oper.semAt none a.eval o).run P w)
      rw [Oper.semAt_none,hs.eval,e,Sem.run_bind,hres]
      have hs':Sat (d :: ds) n ρ { a with defers:=d :: a.defers }:=⟨hs.size,by rw [hs.defers],hs.at_⟩
      exact hQ _ _ _ _ (hs'.put hd.1 undef) hk
    exact h.toWp hs fun v w' hv=>ih _ _ _ (hs.put hd.1 v) hv
theorem wp_region_defer {id:Nat} {l:List Oper} (hd:fo n l=true) (h:SeqF P l.toArray (fun D ρ w=>Q (D :: ds) .normal ρ w) l ρ w):WP none ds P n (.region id l.toArray false) Q ρ w :=
  ⟨fun a hs=>wpIn_region (by
    have:=wpOps_of_SeqF (P:=P) (ds:=ds) (n:=n) (ops:=l.toArray) (K:=fun D ρ w=>Q (D :: ds) .normal ρ w) (Q:=fun e a' w'=>∃ ds' ρ',Sat ds' n ρ' a'∧Q ds' e ρ' w') (fun d ρ a w hs hk=>⟨d :: ds,ρ,hs,hk⟩) l 0 ρ a w (fun j=>by simp) hd hs h
    rw [List.range_eq_range']; simpa using this)⟩
def bodyM (P:Program) (fn:Func) (R:Ending→World→Prop):List Deferred→Exit→Env→World→Prop
  | ds,.normal,ρ,w | ds,.ret,ρ,w=>∀ tmps:Array Value,(∀ t,tmps.getD t undef=ρ t)→LeavesInM (fen none) 0 P fn tmps R ds .returning w
  | ds,.panic ch,ρ,w=>∀ tmps:Array Value,(∀ t,tmps.getD t undef=ρ t)→LeavesInM (fen none) 0 P fn tmps R ds (.panicking ch) w
  | _,_,_,_=>False
theorem calls_ofM {f:FuncId} {fn:Func} {c:Code} {n:Nat} {args:List Value} {R:Ending→World→Prop} (hf:P.funcs[f]?=some fn) (hb:fn.body=some c) (hn:fn.ntmps=n) (hl:Nat.ble args.length n=true)
    (h:WP none [] P n c (bodyM P fn R) (enterE args) w):Calls P f args.toArray w R:=by
  subst hn
  refine (callsIn_wide (n:=0)).1 (callsIn_of_wp_marks (F:=fen none) hf hb trivial (wpIn_mono (h.go _ (enter_sat args fn.ntmps (Nat.le_of_ble_eq_true hl))) ?_) rfl)
  intro e a w' ⟨ds,ρ,hs,hq⟩
  cases e with
  | normal=>show LeavesInM _ _ _ _ _ _ _ _ _; rw [hs.defers]; exact hq _ hs.at_
  | ret=>show LeavesInM _ _ _ _ _ _ _ _ _; rw [hs.defers]; exact hq _ hs.at_
  | panic ch=>show LeavesInM _ _ _ _ _ _ _ _ _; rw [hs.defers]; exact hq _ hs.at_
  | _=>exact hq.elim
theorem leaves_one {fn:Func} {tmps:Array Value} {R:Ending→World→Prop} {d:Deferred} {fv:Fn} {cap:Array Value} {f:FuncId} {args:Array Value} {u:FrameMode} (ht:d.target=.fn fv cap) (hu:u≠.run)
    (hi:(invoke d.target d.args).run P w=.ok (.enter f args) w) (h:CallsDIn (fen none) 0 P f args u w fun e u' w'=>(∃ v,e=.returned v)∧LeavesIn (fen none) 0 P fn tmps R [] (settle u') w'):LeavesInM (fen none) 0 P fn tmps R [d] u w :=
  ⟨hu,.inr ⟨fun h=>(by simp [fen,Fence.wide] at h),fv,cap,f,args,ht,hi,fun _ _=>trivial,h.mono fun e u' w' hh=>by obtain ⟨⟨v,rfl⟩,hh⟩:=hh; exact hh⟩⟩
theorem Inv.setCell0 {B:List Nat} {w0:World} {L:List (Option Nat × Obj)} (hI:Inv B w0 w L) (i:Nat) {b:Nat} {x v:Value} {T:TypeId} (hi:L[i]?=some (some b,blk [x] T)):Inv B w0 (w.setCell ⟨b,0,none⟩ v) (L.set i (some b,blk [v] T)):=by
  refine hI.turn hi rfl rfl ⟨rfl,DLe.of (Nat.le_refl _)⟩ (by simp [World.setCell]) (fun k hk hg=>?_) (fun b' hb'=>?_)
  · exact RowKit.Below.heap_setCell _ _ _ _ (fun h=>hg (by rw [h]))
  injection hb' with hb'; subst hb'
  simp [World.setCell,Array.getElem?_modify,(hI.has i b _ hi).1]
end
end Go.K
end
section
namespace Go.K
open Go.RowKit
section
variable {α:Type} {enc:α→List Value} {k:Nat}
theorem big_len (hk:∀ x,(enc x).length=k) {l:List α} {n m:Nat} (h:l.length=n) (hm:n * k=m):(al enc l).length=m:=by rw [dt hk,h,hm]
theorem big_take (hk:∀ x,(enc x).length=k) {l:List α} {n m:Nat} (h:l.length=n) (hm:n * k=m):((al enc l).drop 0).take m=al enc l:=by
  rw [List.drop_zero]; exact List.take_of_length_le (by rw [big_len hk h hm]; exact Nat.le_refl _)
theorem big_lt {l:List α} {m:Nat} {x:α} (hx:l[m]?=some x):m < l.length:=by
  rcases Nat.lt_or_ge m l.length with h | h
  · exact h
  rw [List.getElem?_eq_none h] at hx; cases hx
theorem big_room (hk:∀ x,(enc x).length=k) {l:List α} {m:Nat} {x:α} (hx:l[m]?=some x):m * k+k≤(al enc l).length:=by
  rw [dt hk]
  have:=Nat.mul_le_mul_right k (show m+1≤l.length from big_lt hx)
  rwa [Nat.add_mul,Nat.one_mul] at this
theorem big_at (hk:∀ x,(enc x).length=k) {l:List α} {m:Nat} {x:α} (hx:l[m]?=some x):∀ (j:Nat) (v:Value),(enc x)[j]?=some v→(al enc l)[m * k+j]?=some v:=fun j v hj=>by
  have hjk:j < k:=by
    rcases Nat.lt_or_ge j k with h | h
    · exact h
    rw [List.getElem?_eq_none (by rw [hk]; exact h)] at hj; cases hj
  rw [flat_get hk l m j x hx hjk]; exact hj
theorem big_put (hk:∀ x,(enc x).length=k) {l:List α} {m:Nat} {x:α} (hx:l[m]?=some x) (y:α):putCells (al enc l) (m * k) (enc y)=al enc (l.set m y):=flat_set hk l m y (big_lt hx)
theorem big_over (hk:∀ x,(enc x).length=k) {l l0:List α} {n:Nat} (h:l.length=n) (h0:l0.length=n):putCells (al enc l0) 0 (al enc l)=al enc l:=put_all _ _ (by rw [dt hk,dt hk,h,h0])
theorem big_sub3 (hk:∀ x,(enc x).length=k) {l:List α} {m sz:Nat} {x y z:α} (h0:l[m * 3+0]?=some x) (h1:l[m * 3+1]?=some y) (h2:l[m * 3+2]?=some z) (hsz:sz=3 * k):((al enc l).drop (m * sz)).take sz=enc x++(enc y++enc z):=by
  subst hsz
  have hm:=big_lt h2
  have e:l=l.take (m * 3)++(x :: y :: z :: l.drop (m * 3+3)):=by
    conv=>lhs; rw [← List.take_append_drop (m * 3) l]
    congr 1
    rw [List.drop_eq_getElem_cons (show m * 3 < l.length by omega),List.drop_eq_getElem_cons (show m * 3+1 < l.length by omega),List.drop_eq_getElem_cons (show m * 3+1+1 < l.length by omega)]
    rw [List.getElem?_eq_getElem (show m * 3+0 < l.length by omega)] at h0
    rw [List.getElem?_eq_getElem (show m * 3+1 < l.length by omega)] at h1
    rw [List.getElem?_eq_getElem (show m * 3+2 < l.length by omega)] at h2
    injection h0 with h0; injection h1 with h1; injection h2 with h2
    rw [← h0,← h1,← h2]
    rfl
  rw [e,gc,fd,fd,fd]
  have hl:(al enc (l.take (m * 3))).length=m * (3 * k):=by rw [dt hk,List.length_take,Nat.min_eq_left (by omega),Nat.mul_assoc]
  rw [List.drop_append_of_le_length (by rw [hl]; exact Nat.le_refl _),List.drop_of_length_le (by rw [hl]; exact Nat.le_refl _),List.nil_append,← List.append_assoc,← List.append_assoc,List.take_append_of_le_length (by simp [hk]; omega),List.take_of_length_le (by simp [hk]; omega),List.append_assoc]
theorem big_all (hc:∀ x,∀ u∈enc x,u.oneCell'=true) (l:List α):(al enc l).all Value.oneCell'=true:=List.all_eq_true.2 fun u hu=>nz hc l u hu
end
section
variable {P:Program} {ρ:Env} {w:World} {d:Option Nat} {ty:TypeId} {pos:String} {af:Array Edge} {gd:Option (Nat × Bool)} {R:Value→World→Prop}
theorem s_ixBig {T E:TypeId} {x y:Operand} {cs vs:List Value} {len sz m:Nat} {i:Int} (hT:P.underlying T=some (.array len E)) (hS:∀ w,(Go.sizeOf E).run P w=.ok sz w) (hA:∀ w,(isAgg E).run P w=.ok true w) (hx:ev ρ x=.agg cs.toArray) (hy:ev ρ y=.int .i64 i) (hi:i=(m:Int)) (hm:m < len)
    (hv:(cs.drop (m * sz)).take sz=vs) (kk:R (.agg vs.toArray) w):cw P ⟨d,.index T x y,ty,pos,af,gd⟩ ρ w R:=by
  refine kl (.agg vs.toArray) ?_ kk
  have:execOp (ev ρ) ⟨d,.index T x y,ty,pos,af,gd⟩=(do pure (.value (← Instr.index T (ev ρ x) (ev ρ y)))):=rfl
  rw [this,hx,hy]
  subst hi; subst hv
  simp [Instr.index,asIntOf,run_underlying hT,hS,hm,part,hA]
theorem lj {T E:TypeId} {x y:Operand} {b n c k:Nat} (m o:Nat) (hT:P.underlying T=some (.slice E)) (hS:∀ w,(Go.sizeOf E).run P w=.ok k w) (hx:ev ρ x=.slice (some ⟨b,0,none⟩) n c) (hy:ev ρ y=.int .i64 (m:Int)) (hm:m < n) (ho:m * k=o)
    (kk:R (.pointer (some ⟨b,o,none⟩)) w):cw P ⟨d,.indexAddr T x y,ty,pos,af,gd⟩ ρ w R:=s_index (off:=0) hT hS hx hy rfl hm (by rw [Nat.zero_add,ho]; exact kk)
end
end Go.K
end
section
namespace Go.K
open Go.RowKit
section app
variable {P:Program} {B:List Nat} {w0 w:World} {L:List (Option Nat × Obj)}
theorem Inv.same {x:Option Nat × Obj} (h:Inv B w0 w L) {i:Nat} (hi:L[i]?=some x):Inv B w0 w (L.set i x):=by
  have:L.set i x=L:=by
    apply List.ext_getElem?
    intro j
    rw [List.getElem?_set]
    split
    · rename_i hj; subst hj
      split
      · exact hi.symm
      rename_i hge; rw [List.getElem?_eq_none (by omega)]
    rfl
  rw [this]; exact h
theorem run_appKeep (hI:Inv B w0 w L) {t ty e:TypeId} {i:TypeInfo} {z:Value} {k bytes:Nat} (ht:P.underlying t=some (.slice e)) (hi:P.info? e=some i) (hz:i.zero=some z) (hk:i.size=k) (hby:i.bytes=bytes) (hzs:z.cells.size=k) (hk0:0 < k)
    (ix:Nat) {g:Option Nat} {n c:Nat} {cl xs:List Value} (hL:L[ix]?=some (g,blk cl e)) (hr:Row k g n c cl xs)
    {A:Option Addr} {m c2:Nat} {news:List Value} (hl:news.length=m * k) (hc:bi w A news) (h1:∀ u∈news,u.oneCell'=true) (hmax:n+m≤maxLen) (hbytes:(n+m) * bytes≤140737488355328) :
    ∃ A2 c' cl1 h cl2 w',(Builtin.append_ #[t,t] ty #[slv g n c,.slice A m c2]).run P w=.ok (.slice A2 (n+m) c') w'∧Row k g n c cl1 xs∧bi w' A2 (xs++news)∧n+m≤c'∧c'≤maxLen∧Inv B w0 w' ((h,blk cl2 e) :: L.set ix (g,blk cl1 e)):=by
  subst hk
  subst hby
  have hlen:(xs++news).length=(n+m) * i.size:=by rw [List.length_append,hr.len,hl,Nat.add_mul]
  have hf:=fun w' hw=>run_first (P:=P) (c:=c2) hc hl w' hw
  by_cases hroom:n+m≤c
  · cases g with
    | none =>
      have hc0:=hr.nil rfl
      have hn0:n=0:=by omega
      have hm0:m=0:=by omega
      subst hc0; subst hn0; subst hm0
      have hx0:xs=[]:=List.eq_nil_of_length_eq_zero (by simpa using hr.len)
      have hn0:news=[]:=List.eq_nil_of_length_eq_zero (by simpa using hl)
      subst hx0; subst hn0
      refine ⟨none,0,cl,none,[],w,?_,hr,fun h=>by simp at h,by simp,by simp [maxLen],(hI.same hL).nilRow e⟩
      have:=hf w rfl
      simp [Builtin.append_,run_underlying ht,sizeOf,typeInfo,hi,Builtin.lenOf,this]
    | some b =>
      have hb:=(hI.has ix b _ hL).1
      have hs:n * i.size+news.length≤cl.length:=by rw [hl,hr.size,← Nat.add_mul]; exact Nat.mul_le_mul_right _ hroom
      obtain ⟨w',hrun,e1,e2,e3,e4,e5,e6⟩:=lm (P:=P) news (n * i.size) 0 w cl hb (by simpa using hs) h1
      have hI':Inv B w0 w' (L.set ix (some b,blk (putCells cl (n * i.size) news) e)):=hI.turn hL e1 e2 e3 (by omega) (fun k hk hg=>e5 k fun he=>hg (by rw [he])) (fun b' hb'=>by injection hb' with hb'; subst hb'; simpa using e6)
      have ht2:=put_take cl news (n * i.size) hs
      have hrow:Row i.size (some b) (n+m) c (putCells cl (n * i.size) news) (xs++news):=⟨hlen,hroom,hr.capmax,by rw [put_len,hr.size],by rw [Nat.add_mul,← hl,ht2,hr.head],fun h=>by cases h⟩
      have hix:ix < L.length:=by
        rcases Nat.lt_or_ge ix L.length with h | h
        · exact h
        rw [List.getElem?_eq_none h] at hL; cases hL
      refine ⟨some ⟨b,0,none⟩,c,putCells cl (n * i.size) news,none,[],w',?_,⟨hr.len,hr.cap,hr.capmax,by rw [put_len,hr.size],?_,hr.nil⟩,?_,hroom,hr.capmax,hI'.nilRow e⟩
      · have:=hf w rfl
        simp [Builtin.append_,run_underlying ht,sizeOf,typeInfo,hi,Builtin.lenOf,this,hroom,jl,hrun]
      · have:=congrArg (List.take (n * i.size)) ht2
        rw [List.take_take,Nat.min_eq_left (by omega),List.take_append_of_le_length (by simp; omega),List.take_take,Nat.min_self,hr.head] at this
        exact this
      exact hI'.rowCells ix (g:=some b) (by rw [List.getElem?_set_self hix]) hrow
  have hn:¬ (n+m≤c):=hroom
  have h63':¬ (9223372036854775807 < ((n:Int)+(m:Int))):=by simp only [maxLen] at hmax; omega
  have hfit:=growslice_fits (need:=n+m) (old:=c) (bytes:=i.bytes) (by omega) hbytes
  have h48':¬ (281474976710656 < Builtin.nextslicecap (n+m) c * i.bytes):=by omega
  have hnew:=hf w.drew rfl
  have hold:=run_first (P:=P) (c:=c) (hI.rowCells ix hL hr) hr.len w.drew rfl
  have hge:=grownCap_ge w (n+m) c e
  have hcm:grownCap w (n+m) c e≤maxLen:=grownCap_le_maxLen w (n+m) c e hmax
  have hI':=(hI.drew.alloc (.cells (xs++news++(Builtin.zeroCells z.cells (grownCap w (n+m) c e - (n+m))).toList).toArray e))
  have hrow:Row i.size (some w.heap.size) (n+m) (grownCap w (n+m) c e) (xs++news++(Builtin.zeroCells z.cells (grownCap w (n+m) c e - (n+m))).toList) (xs++news):=by
    refine ⟨hlen,hge,hcm,?_,?_,fun h=>by cases h⟩
    · rw [List.length_append,hlen,zero_len,hzs,← Nat.add_mul]; congr 1; omega
    rw [← hlen]; exact List.take_left
  refine ⟨some ⟨w.heap.size,0,none⟩,grownCap w (n+m) c e,cl,some w.heap.size,xs++news++(Builtin.zeroCells z.cells (grownCap w (n+m) c e - (n+m))).toList,w.drew.alloc (.cells (xs++news++(Builtin.zeroCells z.cells (grownCap w (n+m) c e - (n+m))).toList).toArray e),?_,hr,hI'.rowCells 0 (g:=some w.heap.size) rfl hrow,hge,hcm,?_⟩
  · simp [Builtin.append_,run_underlying ht,sizeOf,typeInfo,zeroValue,hi,hz,Builtin.lenOf,hn,h63',h48',Question.forced,hnew,hold,newRow,grownCap]
    congr 2
    apply Array.ext'
    simp
  exact hI'.same (i:=ix+1) (by simpa using hL)
end app
theorem s_appKeep {P:Program} {ρ:Env} {B:List Nat} {w w0:World} {L:List (Option Nat × Obj)} {R:Value→World→Prop} {d:Option Nat} {ty:TypeId} {pos:String} {af:Array Edge} {gd:Option (Nat × Bool)} (hI:Inv B w0 w L) {t e:TypeId} {z:Value} {k bytes:Nat} (ht:P.underlying t=some (.slice e)) (hinfo:(P.info? e).map (fun i=>(i.zero,i.size,i.bytes))=some (some z,k,bytes)) (hzs:z.cells.size=k) (hk0:Nat.blt 0 k=true)
    {x y:Operand} (ix:Nat) {g:Option Nat} {n c:Nat} {cl xs:List Value} (hx:ev ρ x=slv g n c) (hL:L[ix]?=some (g,blk cl e)) (hr:Row k g n c cl xs)
    {A:Option Addr} {m c2:Nat} (news:List Value) (hy:ev ρ y=.slice A m c2) (hl:news.length=m * k) (hc:bi w A news) (h1:∀ u∈news,u.oneCell'=true) (hmax:n+m≤9223372036854775807) (hbytes:(n+m) * bytes≤140737488355328) {n2:Nat} (hn:n+m=n2)
    (kk:∀ A2 c' cl1 h cl2 w',Inv B w0 w' ((h,blk cl2 e) :: L.set ix (g,blk cl1 e))→Row k g n c cl1 xs→bi w' A2 (xs++news)→n2≤9223372036854775807→n2≤c'→R (.slice A2 n2 c') w') :
    cw P ⟨d,.call ⟨.builtin .append,#[x,y],#[t,t]⟩,ty,pos,af,gd⟩ ρ w R:=by
  subst hn
  cases hq:P.info? e with
  | none=>rw [hq] at hinfo; cases hinfo
  | some i =>
    rw [hq] at hinfo
    simp only [Option.map_some,Option.some.injEq,Prod.mk.injEq] at hinfo
    obtain ⟨A2,c',cl1,h,cl2,w',hrun,hrow,hcells,hge,hcm,hinv⟩:=run_appKeep (c2:=c2) hI (ty:=ty) ht hq hinfo.1 hinfo.2.1 hinfo.2.2 hzs (by simpa [Nat.blt_eq] using hk0) ix hL hr hl hc h1 (by simpa [maxLen] using hmax) hbytes
    have h':(execOp (ev ρ) ⟨d,.call ⟨.builtin .append,#[x,y],#[t,t]⟩,ty,pos,af,gd⟩).run P w=.ok (.value (.slice A2 (n+m) c')) w':=by
      simp [execOp,resolve,invoke,builtin,hx,hy,hrun]
    unfold cw; rw [h']; exact kk A2 c' cl1 h cl2 w' hinv hrow hcells hmax hge
theorem bi.snoc {α:Type} {enc:α→List Value} {w:World} {A:Option Addr} {X:List α} {vs:List Value} (h:bi w A (al enc X++vs)) (y:α) (he:enc y=vs):bi w A (al enc (X++[y])):=by
  rw [gc,flat_one,he]; exact h
end Go.K
end
section
namespace Go.K
open Go.RowKit
abbrev V36:=Nat→Int
def vz:V36:=fun _=>0
def vset (e:V36) (p:Nat) (x:Int):V36:=fun j=>if j=p then x else e j
abbrev KN (e:V36):List Value:=[iv (e 0),iv (e 1),iv (e 2),iv (e 3),iv (e 4),iv (e 5),iv (e 6),iv (e 7),iv (e 8),iv (e 9),iv (e 10),iv (e 11),iv (e 12),iv (e 13),iv (e 14),iv (e 15),iv (e 16),iv (e 17),iv (e 18),iv (e 19),iv (e 20),iv (e 21),iv (e 22),iv (e 23),iv (e 24),iv (e 25),iv (e 26),iv (e 27),iv (e 28),iv (e 29),iv (e 30),iv (e 31),iv (e 32),iv (e 33),iv (e 34),iv (e 35)]
theorem kn_map (e:V36):KN e=(List.range 36).map fun p=>iv (e p):=rfl
theorem kn_get (e:V36) {p:Nat} (h:p < 36):(KN e)[p]?=some (iv (e p)):=by
  rw [kn_map,List.getElem?_map,List.getElem?_range h]; rfl
theorem kn_set (e:V36) {p:Nat} (h:p < 36) (x:Int):(KN e).set p (iv x)=KN (vset e p x):=by
  rw [kn_map,kn_map]
  apply List.ext_getElem?
  intro j
  rw [List.getElem?_set]
  by_cases hj:p=j
  · subst hj
    rw [if_pos rfl,if_pos (by simpa using h),List.getElem?_map,List.getElem?_range h]; simp [vset]
  rw [if_neg hj,List.getElem?_map,List.getElem?_map]
  by_cases h2:j < 36
  · rw [List.getElem?_range h2]; simp [vset,show ¬ j=p from fun h=>hj h.symm]
  rw [List.getElem?_eq_none (by simpa using h2)]; rfl
theorem kn_put (e:V36) {p n:Nat} (h:p < 36) (x:Int) (pre:List Value) (hp:pre.length=n):putCells (pre++KN e) (n+p) [iv x]=pre++KN (vset e p x):=by
  rw [put_append _ _ _ _ (by omega),hp,Nat.add_sub_cancel_left]
  exact congrArg (pre++·) (kn_set e h x)
theorem kn_at (e:V36) {p n:Nat} (h:p < 36) (pre:List Value) (hp:pre.length=n):(pre++KN e)[n+p]?=some (iv (e p)):=by
  rw [List.getElem?_append_right (by omega),hp,Nat.add_sub_cancel_left,kn_get e h]
theorem kn_sub6 (e:V36) {m:Nat} (h:m < 6):((KN e).drop (m * 6)).take 6=[iv (e (m * 6+0)),iv (e (m * 6+1)),iv (e (m * 6+2)),iv (e (m * 6+3)),iv (e (m * 6+4)),iv (e (m * 6+5))]:=by
  match m,h with
  | 0,_=>rfl
  | 1,_=>rfl
  | 2,_=>rfl
  | 3,_=>rfl
  | 4,_=>rfl
  | 5,_=>rfl
theorem row36 {m j:Nat} (h:m < 6) (h2:j < 6):m * 6+j < 36:=by omega
section
variable {P:Program} {ρ:Env} {B:List Nat} {w w0:World} {L:List (Option Nat × Obj)} {R:Value→World→Prop} {d:Option Nat} {ty:TypeId} {pos:String} {af:Array Edge} {gd:Option (Nat × Bool)}
theorem s_ixSix {T E:TypeId} {x y:Operand} (m j:Nat) (e:V36) {i:Int} (hT:P.underlying T=some (.array 6 E)) (hS:∀ w,(Go.sizeOf E).run P w=.ok 1 w) (hA:∀ w,(isAgg E).run P w=.ok false w) (hx:ev ρ x=.agg #[iv (e (m * 6+0)),iv (e (m * 6+1)),iv (e (m * 6+2)),iv (e (m * 6+3)),iv (e (m * 6+4)),iv (e (m * 6+5))]) (hy:ev ρ y=.int .i64 i) (hi:i=(j:Int)) (hj:j < 6)
    (kk:R (iv (e (m * 6+j))) w):cw P ⟨d,.index T x y,ty,pos,af,gd⟩ ρ w R:=by
  refine kl (iv (e (m * 6+j))) ?_ kk
  have:execOp (ev ρ) ⟨d,.index T x y,ty,pos,af,gd⟩=(do pure (.value (← Instr.index T (ev ρ x) (ev ρ y)))):=rfl
  rw [this,hx,hy]
  subst hi
  match j,hj with
  | 0,_=>simp [Instr.index,asIntOf,run_underlying hT,hS,part,hA]
  | 1,_=>simp [Instr.index,asIntOf,run_underlying hT,hS,part,hA]
  | 2,_=>simp [Instr.index,asIntOf,run_underlying hT,hS,part,hA]
  | 3,_=>simp [Instr.index,asIntOf,run_underlying hT,hS,part,hA]
  | 4,_=>simp [Instr.index,asIntOf,run_underlying hT,hS,part,hA]
  | 5,_=>simp [Instr.index,asIntOf,run_underlying hT,hS,part,hA]
end
end Go.K
end
section
open Go Go.RowKit Go.ChangeShapes Go.Deep Go.WideShapes
namespace Go.K
def W64 (a:Int):Prop:=-9223372036854775808≤a∧a≤9223372036854775807
theorem wf64 {a:Int} (h:(Lit.int .i64 a).wf=true):W64 a:=by
  have h1:IntKind.i64.min=-9223372036854775808:=rfl
  have h2:IntKind.i64.max=9223372036854775807:=rfl
  simp only [Lit.wf,Bool.and_eq_true,decide_eq_true_eq,h1,h2] at h
  exact h
section
variable {P:Program} {H:Type} {enc:TypeId × Value→H} {w:World} {base:Nat} {sp:Nat→Bool} {held:Bool}
theorem intb_of {ti n:Nat} {c:Value} {x:DataW H × List MemPlace} (ht:P.underlying ti=some (.int .i64)) (h:DataW.trod enc P w base sp held n ti [c]=some x):∃ a,c=.int .i64 a∧W64 a:=by
  obtain ⟨a,e,_,hw⟩:=DataW.trod_int ht h
  refine ⟨a,by simpa using e,?_⟩
  exact wf64 hw
theorem list_of {α:Type} {p:Nat→α→Prop}:∀ (n:Nat),(∀ i,i < n→∃ x,p i x)→∃ l:List α,l.length=n∧∀ i x,l[i]?=some x→p i x
  | 0,_=>⟨[],rfl,fun i x h=>by simp at h⟩
  | n+1,h=>by
    obtain ⟨l,hl,hp⟩:=list_of n fun i hi=>h i (by omega)
    obtain ⟨y,hy⟩:=h n (by omega)
    refine ⟨l++[y],by simp [hl],fun i x hx=>?_⟩
    rcases Nat.lt_trichotomy i n with h1 | h1 | h1
    · rw [List.getElem?_append_left (by omega)] at hx
      exact hp i x hx
    · subst h1
      rw [List.getElem?_append_right (by omega),hl,Nat.sub_self] at hx
      simp at hx
      subst hx; exact hy
    rw [List.getElem?_eq_none (by simp; omega)] at hx; cases hx
theorem cell_lt {a:Addr} {v:Value} (h:w.cell? a=some v):a.spot=none∧a.block < w.heap.size:=by
  unfold World.cell? at h
  split at h
  · rename_i hb
    split at h
    · cases h
    rename_i hs
    exact ⟨by simpa using hs,(Array.getElem?_eq_some_iff.1 hb).1⟩
  cases h
theorem intl_of {ti n:Nat} {cs:List Value} {x:DataW H × List MemPlace} (ht:P.underlying ti=some (.int .i64)) (h:DataW.trod enc P w base sp held n ti cs=some x):∃ a,cs=eInt a∧W64 a:=by
  obtain ⟨a,e,_,hw⟩:=DataW.trod_int ht h
  exact ⟨a,e,wf64 hw⟩
end
theorem all_stays {P:Program} (laidOut_:laidOutB P=true) {H:Type} {enc:TypeId × Value→H} {W W':World} (hb:RowKit.Below W.heap.size W W') {sp:Nat→Bool}:∀ {ts:List TypeId} {vs:List Value} {ds:List (DataW H)} {ps:List MemPlace},
    (∀ t∈ts,P.readableRec t=true∧t < P.types.size)→DataW.TrodAll enc P W 0 (fun _=>true) true ts vs ds ps→(∀ p∈ps,p.block < W.heap.size∧sp p.block=true)→DataW.TrodAll enc P W' 0 sp true ts vs ds ps
  | [],vs,ds,ps,_,h,_=>by
    obtain ⟨rfl,rfl,rfl⟩:=trodAll_nil h
    exact h
  | t :: ts,vs,ds,ps,ht,h,hp=>by
    obtain ⟨v,vs',d,ds',p,q,rfl,rfl,rfl,h1,h2⟩:=trodAll_cons h
    obtain ⟨r1,r2⟩:=ht t (by simp)
    exact ⟨p,q,WideElems.Trod_stays laidOut_ r1 r2 h1 (fun x hx=>hb.same (hp x (List.mem_append_left _ hx)).1) (fun x hx=>(hp x (List.mem_append_left _ hx)).2),
      all_stays laidOut_ hb (fun t ht'=>ht t (List.mem_cons_of_mem _ ht')) h2 (fun x hx=>hp x (List.mem_append_right _ hx)),rfl⟩
theorem post_kept {P:Program} (laidOut_:laidOutB P=true) {b4:TypeId} (hb4:P.underlying b4=some .bool) {H:Type} {enc:TypeId × Value→H} {f:Func} {s:ChangeSpec} {apart fresh handsOn:Bool} {W W':World} {args:Array Value} {ds:List (DataW H)} {before:List MemPlace}
    (hv:s.vars=[]) (hW:DataW.Whole enc P f.params.toList s.vars apart W args.toList ds [] before) (hr:f.resultTypes = #[b4]) (hfn:s.fn H ds={ results:=[.lit (.bool true)],args:=ds })
    (ht:∀ t∈f.params.toList,P.readableRec t=true∧t < P.types.size) (hb:RowKit.Below W.heap.size W W'):s.post enc P f apart fresh handsOn false W args (.bool true) W':=by
  have hW':=hW
  obtain ⟨p,q,h1,h2,rfl,_,_⟩:=hW
  rw [hv] at h2
  obtain ⟨_,rfl⟩:=trodVars_none h2
  rw [List.append_nil] at hW'
  refine ⟨ds,[],p,[],p,[],hW',?_,?_,?_,hb.frame _,fun h=>by cases h⟩
  · rw [hr,List.append_nil,hfn]
    exact trodAll_cons_mk (shut_bool hb4 _) trodAll_mk0
  · rw [List.append_nil,hfn]
    exact all_stays laidOut_ hb ht h1 fun x hx=>⟨hW'.lt x hx,by simpa using hW'.lt x hx⟩
  rw [List.append_nil,hfn,hv]; rfl
section
variable {P:Program} {ρ:Env} {B:List Nat} {w w0:World} {L:List (Option Nat × Obj)} {d:Option Nat} {ty:TypeId} {pos:String} {af:Array Edge} {gd:Option (Nat × Bool)} {ops:Array Oper} {K:Env→World→Prop} {rest:List Oper} {R:Value→World→Prop} {T Ty E:TypeId} {x y:Operand}
theorem xg (hI:Inv B w0 w L) (i:Nat) {b off:Nat} {cl:List Value} {T':TypeId} (v:Value) (hA:∀ w,(isAgg T).run P w=.ok false w) (h:(ev ρ x,L[i]?,cl[off]?)=(.pointer (some ⟨b,off,none⟩),some (some b,blk cl T'),some v)) (k:Seq P ops K rest (ey ρ d v) w):Seq P ops K (⟨d,.load T x,ty,pos,af,none⟩ :: rest) ρ w:=ph (ag hI i v hA (congrArg (·.1) h) (congrArg (·.2.1) h) (congrArg (·.2.2) h) k)
theorem xm (hI:Inv B w0 w L) (i:Nat) {n b:Nat} {cl:List Value} {T':TypeId} (hA:∀ w,(isAgg T).run P w=.ok true w) (hS:∀ w,(Go.sizeOf T).run P w=.ok n w) (h:(ev ρ x,L[i]?,cl.length)=(.pointer (some ⟨b,0,none⟩),some (some b,blk cl T'),n)) (k:Seq P ops K rest (ey ρ d (.agg cl.toArray)) w):Seq P ops K (⟨d,.load T x,ty,pos,af,none⟩ :: rest) ρ w:=ph (ma hI i hA hS (congrArg (·.1) h) (congrArg (·.2.1) h) (congrArg (·.2.2) h) k)
theorem xi (hI:Inv B w0 w L) (i:Nat) {n b:Nat} {cl:List Value} {T':TypeId} (vs:List Value) (hS:∀ w,(Go.sizeOf T).run P w=.ok n w) (h:(ev ρ x,(ev ρ y).cells,vs.length,vs.all Value.oneCell',L[i]?,cl.length)=(.pointer (some ⟨b,0,none⟩),vs.toArray,n,true,some (some b,blk cl T'),n)) (k:∀ w',Inv B w0 w' (L.set i (some b,blk vs T'))→Seq P ops K rest (ey ρ d undef) w'):Seq P ops K (⟨d,.store T x y,ty,pos,af,none⟩ :: rest) ρ w:=ph (mb hI i vs hS (congrArg (·.1) h) (congrArg (·.2.1) h) (congrArg (·.2.2.1) h) (congrArg (·.2.2.2.1) h) (congrArg (·.2.2.2.2.1) h) (congrArg (·.2.2.2.2.2) h) k)
theorem xq (hI:Inv B w0 w L) (i n:Nat) {b off:Nat} {cl:List Value} {T':TypeId} (vs:List Value) (hS:∀ w,(Go.sizeOf T).run P w=.ok n w) (h:(ev ρ x,(ev ρ y).cells,vs.length,vs.all Value.oneCell',L[i]?)=(.pointer (some ⟨b,off,none⟩),vs.toArray,n,true,some (some b,blk cl T'))) (hs:off+n≤cl.length) (k:∀ w',Inv B w0 w' (L.set i (some b,blk (putCells cl off vs) T'))→Seq P ops K rest (ey ρ d undef) w'):Seq P ops K (⟨d,.store T x y,ty,pos,af,none⟩ :: rest) ρ w:=ph (aq hI i n vs hS (congrArg (·.1) h) (congrArg (·.2.1) h) (congrArg (·.2.2.1) h) (congrArg (·.2.2.2.1) h) (congrArg (·.2.2.2.2) h) hs k)
theorem xr (hI:Inv B w0 w L) (i n:Nat) {b off:Nat} {cl:List Value} {T':TypeId} (vs:List Value) (hA:∀ w,(isAgg T).run P w=.ok true w) (hS:∀ w,(Go.sizeOf T).run P w=.ok n w) (h:(ev ρ x,L[i]?,(cl.drop off).take n,vs.length)=(.pointer (some ⟨b,off,none⟩),some (some b,blk cl T'),vs,n)) (k:Seq P ops K rest (ey ρ d (.agg vs.toArray)) w):Seq P ops K (⟨d,.load T x,ty,pos,af,none⟩ :: rest) ρ w:=ph (ar hI i n vs hA hS (congrArg (·.1) h) (congrArg (·.2.1) h) (congrArg (·.2.2.1) h) (congrArg (·.2.2.2) h) k)
theorem xc (hI:Inv B w0 w L) (i:Nat) {n b off:Nat} {cl:List Value} {T':TypeId} (vs:List Value) (hA:∀ w,(isAgg T).run P w=.ok true w) (hS:∀ w,(Go.sizeOf T).run P w=.ok n w) (h:(ev ρ x,L[i]?,vs.length)=(.pointer (some ⟨b,off,none⟩),some (some b,blk cl T'),n)) (hc:∀ j v,vs[j]?=some v→cl[off+j]?=some v) (k:Seq P ops K rest (ey ρ d (.agg vs.toArray)) w):Seq P ops K (⟨d,.load T x,ty,pos,af,none⟩ :: rest) ρ w:=ph (cq hI i vs hA hS (congrArg (·.1) h) (congrArg (·.2.1) h) (congrArg (·.2.2) h) hc k)
theorem xv {n sz b off:Nat} {i:Int} (j:Nat) (hT:P.underlying T=some (.array n E)) (hS:∀ w,(Go.sizeOf E).run P w=.ok sz w) (h:(ev ρ x,ev ρ y)=(.pointer (some ⟨b,off,none⟩),.int .i64 i)) (hi:i=(j:Int)) (hj:j < n) (o:Nat) (ho:off+j * sz=o) (k:Seq P ops K rest (ey ρ d (.pointer (some ⟨b,o,none⟩))) w):Seq P ops K (⟨d,.indexAddr T x y,ty,pos,af,none⟩ :: rest) ρ w:=ph (av j hT hS (congrArg (·.1) h) (congrArg (·.2) h) hi hj o ho k)
theorem xl {a b:Int} (h:(ev ρ x,ev ρ y)=(.int .i64 a,.int .i64 b)) (k1:a < b→Seq P ops K rest (ey ρ d (.bool true)) w) (k2:¬ a < b→Seq P ops K rest (ey ρ d (.bool false)) w):Seq P ops K (⟨d,.binOp .lss T x y Ty,ty,pos,af,none⟩ :: rest) ρ w:=ph (cm (congrArg (·.1) h) (congrArg (·.2) h) k1 k2)
theorem xn {a b:Int} (h:(ev ρ x,ev ρ y)=(.int .i64 a,.int .i64 b)) (k1:¬ a=b→Seq P ops K rest (ey ρ d (.bool true)) w) (k2:a=b→Seq P ops K rest (ey ρ d (.bool false)) w):Seq P ops K (⟨d,.binOp .neq T x y Ty,ty,pos,af,none⟩ :: rest) ρ w:=ph (de (congrArg (·.1) h) (congrArg (·.2) h) k1 k2)
theorem xe {a b:Int} (h:(ev ρ x,ev ρ y)=(.int .i64 a,.int .i64 b)) (k1:a=b→Seq P ops K rest (ey ρ d (.bool true)) w) (k2:¬ a=b→Seq P ops K rest (ey ρ d (.bool false)) w):Seq P ops K (⟨d,.binOp .eql T x y Ty,ty,pos,af,none⟩ :: rest) ρ w:=ph (di (congrArg (·.1) h) (congrArg (·.2) h) k1 k2)
theorem xa {a b:Int} (h:(ev ρ x,ev ρ y)=(.int .i64 a,.int .i64 b)) (hr:-9223372036854775808≤a+b∧a+b≤9223372036854775807) (k:Seq P ops K rest (ey ρ d (.int .i64 (a+b))) w):Seq P ops K (⟨d,.binOp .add T x y Ty,ty,pos,af,none⟩ :: rest) ρ w:=ph (cj (congrArg (·.1) h) (congrArg (·.2) h) hr k)
def xj (P:Program) (t e:TypeId) (z:Value) (k s:Nat):Prop:=P.underlying t=some (.slice e)∧(P.info? e).map (fun i=>(i.zero,i.size,i.bytes))=some (some z,k,s)∧z.cells.size=k∧Nat.blt 0 k=true∧Nat.blt 0 s=true
theorem xk (hI:Inv B w0 w L) {t e:TypeId} {z:Value} {k s:Nat} (hT:xj P t e z k s) (ix:Nat) {g:Option Nat} {α:Type} {enc:α→List Value} {l:List α} {c:Nat} {cl:List Value} (hr:Row k g l.length c cl (al enc l)) (v:α) (ib:Nat) {a c2:Nat} {T':TypeId} (h:(ev ρ x,L[ix]?,ev ρ y,L[ib]?,(enc v).length,(enc v).all Value.oneCell')=(slv g l.length c,some (g,blk cl e),.slice (some ⟨a,0,none⟩) 1 c2,some (some a,blk (enc v) T'),k,true)) (hb:(l.length+1) * s≤140737488355328) (kk:∀ g' c' cl' w',Inv B w0 w' (L.set ix (g',blk cl' e))→Row k g' (l++[v]).length c' cl' (al enc (l++[v]))→R (slv g' (l++[v]).length c') w'):cw P ⟨d,.call ⟨.builtin .append,#[x,y],#[t,t]⟩,ty,pos,af,gd⟩ ρ w R:=by
  obtain ⟨h1,h2,h3,h4,h5⟩:=hT
  injection h with e1 h
  injection h with e2 h
  injection h with e3 h
  injection h with e4 h
  injection h with e5 e6
  have h6:0 < s:=by simpa [Nat.blt_eq] using h5
  have h7:=Nat.le_mul_of_pos_right (l.length+1) h6
  exact ks hI h1 h2 h3 h4 ix e1 e2 hr (enc v) e3 (by omega) (hI.cells ib (off:=0) e4 fun j u h=>by rwa [Nat.zero_add]) (List.all_eq_true.1 e6) (by omega) hb (n2:=(l++[v]).length) (by simp) fun g c cl w I R=>kk g c cl w I (R.snoc v rfl)
end
end Go.K
end
