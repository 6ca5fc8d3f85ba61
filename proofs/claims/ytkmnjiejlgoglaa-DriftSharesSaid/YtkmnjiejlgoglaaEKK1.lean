/- Ka, Kb, Kc, Kd, Ke, Kf, Kg, Km, Kn. -/
import Derived.WalkKit
import Derived.Deep.Quiet
import Derived.Deep.LoopGhost
import Derived.RangeFuncRecord
import Derived.OrdersIn
import Derived.Deep.Draws
import Derived.Lib.SliceRun
import Derived.KernelRfl
set_option linter.unusedVariables false
set_option linter.unusedSimpArgs false
section
namespace Go.K
open Go.RowKit

abbrev Env:=Nat→Value

def upd (ρ:Env) (t:Nat) (v:Value):Env:=fun s=>bif Nat.beq s t then v else ρ s
def ey (ρ:Env):Option Nat→Value→Env
  | some t,v=>upd ρ t v
  | none,_=>ρ
def ev (ρ:Env):Operand→Value
  | .tmp t=>ρ t
  | .const v=>v
  | .global g=>.pointer (some ⟨g,0,none⟩)
  | .func f=>.func (.func f) #[] #[]

abbrev fen (r:Option Nat):Fence:={ Fence.wide with round:=r }

structure Sat (ds:List Deferred) (n:Nat) (ρ:Env) (a:Act):Prop where
  size:a.tmps.size=n
  defers:a.defers=ds
  at_:∀ t,a.tmps.getD t undef=ρ t

theorem Sat.eval {ds:List Deferred} {n:Nat} {ρ:Env} {a:Act} (h:Sat ds n ρ a):a.eval=ev ρ:=by
  funext x
  cases x with
  | tmp t=>exact h.at_ t
  | _=>rfl

theorem upd_same (ρ:Env) (t:Nat) (v:Value):upd ρ t v t=v:=by simp [upd]
theorem upd_ne (ρ:Env) {t s:Nat} (v:Value) (h:s≠t):upd ρ t v s=ρ s:=by
  have:Nat.beq s t=false:=by
    cases hb:Nat.beq s t with
    | false=>rfl
    | true=>exact absurd (Nat.eq_of_beq_eq_true hb) h
  simp [upd,this]

def dstOk (n:Nat):Option Nat→Bool
  | some d=>Nat.blt d n
  | none=>true

theorem Sat.put {ds:List Deferred} {n:Nat} {ρ:Env} {a:Act} (h:Sat ds n ρ a) {d:Option Nat} (hd:dstOk n d=true) (v:Value):Sat ds n (ey ρ d v) (a.put d v):=by
  cases d with
  | none=>exact h
  | some d =>
    have hlt:d < n:=by simpa [dstOk,Nat.blt_eq] using hd
    refine ⟨by simpa [Act.put] using h.size,h.defers,fun t=>?_⟩
    have ht:=h.at_ t
    have hs:=h.size
    by_cases e:t=d
    · subst e
      simp [Act.put,ey,upd_same,Array.getD_eq_getD_getElem?,hs,hlt]
    have e':d≠t:=fun h=>e h.symm
    rw [show ey ρ (some d) v t=ρ t from upd_ne ρ v e,← ht]
    simp [Act.put,Array.getD_eq_getD_getElem?,Array.getElem?_setIfInBounds,e']

def ei (ops:Array Oper) (ρ:Env) (j:Nat):Option Bool :=
  match (ops[j]?).bind (·.dst) with
  | some d=>match ρ d with
    | .bool b=>some b
    | _=>none
  | none=>none

theorem Sat.yielded {ds:List Deferred} {n:Nat} {ρ:Env} {a:Act} (h:Sat ds n ρ a) (ops:Array Oper):Go.yielded ops a.tmps=ei ops ρ:=by
  funext j
  unfold Go.yielded ei
  cases hd:(ops[j]?).bind (·.dst) with
  | none=>rfl
  | some d =>
    have ht:=h.at_ d
    simp only [Option.bind_some]
    rw [Array.getD_eq_getD_getElem?] at ht
    cases hv:a.tmps[d]? with
    | none =>
      rw [hv] at ht
      simp only [Option.getD_none] at ht
      rw [← ht]; rfl
    | some v =>
      rw [hv] at ht
      simp only [Option.getD_some] at ht
      rw [← ht]
      cases v <;> rfl

def cw (P:Program) (o:Oper) (ρ:Env) (w:World) (R:Value→World→Prop):Prop :=
  match (execOp (ev ρ) o).run P w with
  | .ok (.value v) w'=>R v w'
  | .ok .skip w'=>R undef w'
  | .ok (.enter f args) w'=>Calls P f args w' (fun e w''=>∃ v,e=.returned v∧R v w'')
  | .ok (.round l f tmps assign body) w'=>RoundIn Fence.wide 0 P l f tmps assign body w' (fun e w''=>∃ v,e=.returned v∧R v w'')
  | _=>False

theorem cw.mono {P:Program} {o:Oper} {ρ:Env} {w:World} {R R':Value→World→Prop} (h:cw P o ρ w R) (hr:∀ v w',R v w'→R' v w'):cw P o ρ w R':=by
  unfold cw at *
  generalize (execOp (ev ρ) o).run P w=r at *
  cases r with
  | ok x w' =>
    cases x with
    | value v=>exact hr _ _ h
    | skip=>exact hr _ _ h
    | enter f args=>exact Calls.mono h fun e w'' ⟨v,he,hv⟩=>⟨v,he,hr _ _ hv⟩
    | round l f tmps assign body=>exact RoundIn.mono h fun e w'' ⟨v,he,hv⟩=>⟨v,he,hr _ _ hv⟩
    | _=>exact h
  | halt x w'=>exact h

theorem cw.noDefer {P:Program} {o:Oper} {ρ:Env} {w:World} {R:Value→World→Prop} (h:cw P o ρ w R):∀ c,o.op≠.defer c:=by
  intro c hc
  unfold cw at h
  have e:execOp (ev ρ) o=(do pure (.defer (← resolve (ev ρ) c o.type))):=by unfold execOp; rw [hc]
  rw [e,Sem.run_bind] at h
  cases hr:(resolve (ev ρ) c o.type).run P w with
  | ok d w'=>rw [hr] at h; exact h
  | halt x w'=>rw [hr] at h; exact h

theorem cw.toWp {P:Program} {o:Oper} {ρ:Env} {w:World} {r:Option Nat} {ds:List Deferred} {n:Nat} {a:Act} {K:Act→World→Prop} {Q:Exit→Act→World→Prop} {R:Value→World→Prop}
    (hs:Sat ds n ρ a) (h:cw P o ρ w R) (hk:∀ v w',R v w'→K (a.put o.dst v) w'):o.wpIn (fen r) 0 P a w K Q:=by
  refine ⟨fun _ _=>trivial,?_⟩
  rw [Oper.semAt_eq _ _ _ h.noDefer,hs.eval]
  unfold cw at h
  generalize (execOp (ev ρ) o).run P w=x at *
  cases x with
  | ok x w' =>
    cases x with
    | value v=>exact hk _ _ h
    | skip=>exact hk _ _ h
    | enter f args =>
      refine ⟨fun h=>(by simp [fen,Fence.wide] at h),?_⟩
      refine callsIn_wide.2 (Calls.mono h fun e w'' ⟨v,he,hv⟩=>?_)
      subst he
      exact hk _ _ hv
    | round l f tmps assign body =>
      refine ⟨fun h=>(by simp [fen,Fence.wide] at h),?_⟩
      refine RoundIn.mono (F:=Fence.wide) h fun e w'' ⟨v,he,hv⟩=>?_
      subst he
      exact hk _ _ hv
    | _=>exact h.elim
  | halt x w'=>exact h.elim

def Seq (P:Program) (ops:Array Oper) (K:Env→World→Prop):List Oper→Env→World→Prop
  | [],ρ,w=>K ρ w
  | o :: rest,ρ,w =>
    match Region.wanted o (ei ops ρ) with
    | true=>cw P o ρ w (fun v w'=>Seq P ops K rest (ey ρ o.dst v) w')
    | false=>Seq P ops K rest (ey ρ o.dst undef) w

def dstsOk (n:Nat) (l:List Oper):Bool:=l.all fun o=>dstOk n o.dst

structure WP (r:Option Nat) (ds:List Deferred) (P:Program) (n:Nat) (c:Code) (Q:List Deferred→Exit→Env→World→Prop) (ρ:Env) (w:World):Prop where
  go:∀ a,Sat ds n ρ a→c.wpIn (fen r) 0 P (fun e a' w'=>∃ ds' ρ',Sat ds' n ρ' a'∧Q ds' e ρ' w') a w

theorem wpOps_of_Seq {P:Program} {r:Option Nat} {ds:List Deferred} {n:Nat} {ops:Array Oper} {K:Env→World→Prop} {Q:Exit→Act→World→Prop} (hQ:∀ ρ a w,Sat ds n ρ a→K ρ w→Q .normal a w) :
    ∀ (l:List Oper) (k:Nat) (ρ:Env) (a:Act) (w:World),(∀ j,l[j]?=ops[k+j]?)→dstsOk n l=true→Sat ds n ρ a→Seq P ops K l ρ w →
      wpOpsIn (fen r) 0 P ops Q (List.range' k l.length) a w
  | [],k,ρ,a,w,_,_,hs,h=>hQ _ _ _ hs h
  | o :: l,k,ρ,a,w,hl,hd,hs,h=>by
    have h0:ops[k]?=some o:=by simpa using (hl 0).symm
    simp only [dstsOk,List.all_cons,Bool.and_eq_true] at hd
    have ih:=fun ρ a w=>wpOps_of_Seq (P:=P) (r:=r) hQ l (k+1) ρ a w (fun j=>by have:=hl (j+1); simpa [Nat.add_assoc,Nat.add_comm 1 j] using this) hd.2
    simp only [List.length_cons,List.range'_succ,wpOpsIn,h0]
    rw [hs.yielded]
    unfold Seq at h
    cases hw:Region.wanted o (ei ops ρ) with
    | true =>
      simp only [hw] at h
      simp only [if_true]
      exact h.toWp hs fun v w' hv=>ih _ _ _ (hs.put hd.1 v) hv
    | false =>
      simp only [hw] at h
      simp only [Bool.false_eq_true,if_false]
      exact ⟨fun _ _=>trivial,ih _ _ _ (hs.put hd.1 undef) h⟩

section rules
variable {P:Program} {r:Option Nat} {ds:List Deferred} {n:Nat} {Q:List Deferred→Exit→Env→World→Prop} {ρ:Env} {w:World}

def thenE (K:List Deferred→Env→World→Prop) (Q:List Deferred→Exit→Env→World→Prop):List Deferred→Exit→Env→World→Prop
  | ds,.normal=>K ds
  | ds,e=>Q ds e

theorem WP.mono {c:Code} {Q':List Deferred→Exit→Env→World→Prop} (h:WP r ds P n c Q ρ w) (hq:∀ ds e ρ w,Q ds e ρ w→Q' ds e ρ w):WP r ds P n c Q' ρ w :=
  ⟨fun a hs=>wpIn_mono (h.go a hs) fun e a w ⟨ds',ρ',hs',h'⟩=>⟨ds',ρ',hs',hq _ _ _ _ h'⟩⟩

theorem wp_region {id:Nat} {l:List Oper} (hd:dstsOk n l=true) (h:Seq P l.toArray (Q ds .normal) l ρ w):WP r ds P n (.region id l.toArray false) Q ρ w :=
  ⟨fun a hs=>wpIn_region (by
    have:=wpOps_of_Seq (P:=P) (r:=r) (ds:=ds) (ops:=l.toArray) (K:=Q ds .normal) (Q:=fun e a' w'=>∃ ds' ρ',Sat ds' n ρ' a'∧Q ds' e ρ' w') (fun ρ a w hs hk=>⟨ds,ρ,hs,hk⟩) l 0 ρ a w (fun j=>by simp) hd hs h
    rw [List.range_eq_range']; simpa using this)⟩

theorem ab {x y:Code} (h:WP r ds P n x (thenE (fun ds=>WP r ds P n y Q) Q) ρ w):WP r ds P n (.seq x y) Q ρ w :=
  ⟨fun a hs=>wpIn_seq (wpIn_mono (h.go a hs) fun e a w ⟨ds',ρ',hs',h'⟩=>by
    cases e with
    | normal=>exact h'.go a hs'
    | _=>exact ⟨ds',ρ',hs',h'⟩)⟩

theorem ak (h:Q ds .normal ρ w):WP r ds P n .skip Q ρ w:=⟨fun a hs=>wpIn_skip ⟨ds,ρ,hs,h⟩⟩
theorem aj (h:Q ds .ret ρ w):WP r ds P n .ret Q ρ w:=⟨fun a hs=>wpIn_ret ⟨ds,ρ,hs,h⟩⟩
theorem bw {id:Nat} (h:Q ds (.exit id) ρ w):WP r ds P n (.exit id) Q ρ w:=⟨fun a hs=>wpIn_exit ⟨ds,ρ,hs,h⟩⟩
theorem wp_cond {c:Operand} {x y:Code} {t:Bool} (hc:ev ρ c=.bool t) (h1:t=true→WP r ds P n x Q ρ w) (h2:t=false→WP r ds P n y Q ρ w):WP r ds P n (.cond c x y) Q ρ w:=by
  refine ⟨fun a hs=>?_⟩
  have he:a.eval c=.bool t:=by rw [hs.eval]; exact hc
  cases t with
  | true=>exact wpIn_cond_true he ((h1 rfl).go a hs)
  | false=>exact wpIn_cond_false he ((h2 rfl).go a hs)

def blockE (id:Nat) (Q:List Deferred→Exit→Env→World→Prop):List Deferred→Exit→Env→World→Prop
  | ds,.exit id'=>bif Nat.beq id' id then Q ds .normal else Q ds (.exit id')
  | ds,e=>Q ds e

theorem au {id:Nat} {c:Code} (h:WP r ds P n c (blockE id Q) ρ w):WP r ds P n (.block id c) Q ρ w :=
  ⟨fun a hs=>wpIn_block (wpIn_mono (h.go a hs) fun e a w ⟨ds',ρ',hs',h'⟩=>by
    cases e with
    | exit id' =>
      simp only [Exit.inBlock]
      by_cases e:id'=id
      · subst e
        simp only [blockE,show Nat.beq id' id'=true from Nat.beq_refl id',cond_true] at h'
        simp only [if_true]
        exact ⟨ds',ρ',hs',h'⟩
      have hb:Nat.beq id' id=false:=by
        cases hb:Nat.beq id' id with
        | false=>rfl
        | true=>exact absurd (Nat.eq_of_beq_eq_true hb) e
      simp only [blockE,hb,cond_false] at h'
      simp only [e,if_false]
      exact ⟨ds',ρ',hs',h'⟩
    | _=>exact ⟨ds',ρ',hs',h'⟩)⟩

theorem cb {c:Code} (I:Nat→Env→World→Prop) {m:Nat} (h0:I m ρ w)
    (round:∀ m ρ w,I m ρ w→WP r ds P n c (thenE (fun ds' ρ w=>ds'=ds∧∃ m',m' < m∧I m' ρ w) Q) ρ w):WP r ds P n (.loop c) Q ρ w :=
  ⟨fun a hs=>by
    refine wpIn_loop (fun a w=>∃ m,∃ ρ,Sat ds n ρ a∧I m ρ w) (fun a w=>leastOf fun m=>∃ ρ,Sat ds n ρ a∧I m ρ w) ⟨m,ρ,hs,h0⟩ ?_
    intro a w hI
    obtain ⟨⟨ρ,hs,hm⟩,hmin⟩:=leastOf_spec hI
    refine wpIn_mono ((round _ ρ w hm).go a hs) fun e a w ⟨ds',ρ',hs',hq⟩=>?_
    cases e with
    | normal =>
      obtain ⟨rfl,m',hlt,hI'⟩:=hq
      exact ⟨⟨m',ρ',hs',hI'⟩,Nat.lt_of_le_of_lt ((leastOf_spec (p:=fun m=>∃ ρ,Sat ds' n ρ a∧I m ρ w) ⟨m',ρ',hs',hI'⟩).2 m' ⟨ρ',hs',hI'⟩) hlt⟩
    | _=>exact ⟨ds',ρ',hs',hq⟩⟩

def enterE (args:List Value):Env:=fun t=>args.getD t undef

theorem enter_sat (args:List Value) (n:Nat) (h:args.length≤n):Sat [] n (enterE args) { tmps:=args.toArray++Array.replicate (n - args.toArray.size) undef,defers:=[] }:=by
  refine ⟨by simp; omega,rfl,fun t=>?_⟩
  unfold enterE
  rw [Array.getD_eq_getD_getElem?,List.getD_eq_getElem?_getD]
  by_cases h1:t < args.length
  · rw [Array.getElem?_append_left (by simpa using h1)]
    simp
  rw [Array.getElem?_append_right (by simpa using h1),List.getElem?_eq_none (by omega),Array.getElem?_replicate]
  split <;> rfl

def gp (lv:TypeId→Addr→Sem Value) (fn:Func) (tmps:Array Value):Sem Value:=do
  let vs ← fn.results.mapM fun
    | .tmp t=>pure (tmps.getD t undef)
    | .cell a t=>do lv t (← asAddr (tmps.getD a undef))
  pure (if h:vs.size=1 then vs[0] else .tuple vs)
section rets
variable {lv:TypeId→Addr→Sem Value} {fn:Func} {tmps:Array Value} {ρ:Env} {w:World}
theorem rets0 (h:fn.results = #[]):(gp lv fn tmps).run P w=.ok (.tuple #[]) w:=by
  simp [gp,h,go_sem]
theorem rets1 (hs:∀ t,tmps.getD t undef=ρ t) {t:Nat} (h:fn.results = #[.tmp t]):(gp lv fn tmps).run P w=.ok (ρ t) w:=by
  rw [← hs t]; simp [gp,h,go_sem]
theorem rets2 (hs:∀ t,tmps.getD t undef=ρ t) {t s:Nat} (h:fn.results = #[.tmp t,.tmp s]):(gp lv fn tmps).run P w=.ok (.tuple #[ρ t,ρ s]) w:=by
  rw [← hs t,← hs s]; simp [gp,h,go_sem]
theorem rets3 (hs:∀ t,tmps.getD t undef=ρ t) {t s r:Nat} (h:fn.results = #[.tmp t,.tmp s,.tmp r]):(gp lv fn tmps).run P w=.ok (.tuple #[ρ t,ρ s,ρ r]) w:=by
  rw [← hs t,← hs s,← hs r]; simp [gp,h,go_sem]
theorem retsC (hs:∀ t,tmps.getD t undef=ρ t) {a T:Nat} {ad:Addr} {v:Value} (h:fn.results = #[.cell a T]) (h1:ρ a=.pointer (some ad)) (h2:(lv T ad).run P w=.ok v w) :
    (gp lv fn tmps).run P w=.ok v w:=by
  rw [← hs a] at h1
  simp [gp,h,go_sem,asAddr] at h1 ⊢
  simp [h1,go_sem,h2]
theorem retsCT (hs:∀ t,tmps.getD t undef=ρ t) {a T s:Nat} {ad:Addr} {v:Value} (h:fn.results = #[.cell a T,.tmp s]) (h1:ρ a=.pointer (some ad)) (h2:(lv T ad).run P w=.ok v w) :
    (gp lv fn tmps).run P w=.ok (.tuple #[v,ρ s]) w:=by
  rw [← hs a] at h1
  rw [← hs s]
  simp [gp,h,go_sem,asAddr] at h1 ⊢
  simp [h1,go_sem,h2]
end rets

def Ret (P:Program) (fn:Func) (ρ:Env) (w:World) (v:Value):Prop:=∀ tmps:Array Value,(∀ t,tmps.getD t undef=ρ t)→(results fn tmps).run P w=.ok v w

theorem Ret.r0 {fn:Func} (h:fn.results = #[]):Ret P fn ρ w (.tuple #[]):=fun _ _=>rets0 h
theorem Ret.r1 {fn:Func} {t:Nat} {v:Value} (h:fn.results = #[.tmp t]) (h1:ρ t=v):Ret P fn ρ w v:=fun _ hs=>h1 ▸ rets1 hs h
theorem Ret.r2 {fn:Func} {t s:Nat} {v u:Value} (h:fn.results = #[.tmp t,.tmp s]) (h1:ρ t=v) (h2:ρ s=u):Ret P fn ρ w (.tuple #[v,u]):=fun _ hs=>h1 ▸ h2 ▸ rets2 hs h
theorem Ret.r3 {fn:Func} {t s r:Nat} {v u x:Value} (h:fn.results = #[.tmp t,.tmp s,.tmp r]) (h1:ρ t=v) (h2:ρ s=u) (h3:ρ r=x):Ret P fn ρ w (.tuple #[v,u,x]):=fun _ hs=>h1 ▸ h2 ▸ h3 ▸ rets3 hs h
theorem Ret.c {fn:Func} {a T:Nat} {ad:Addr} {v:Value} (h:fn.results = #[.cell a T]) (h1:ρ a=.pointer (some ad)) (h2:(loadVar T ad).run P w=.ok v w):Ret P fn ρ w v:=fun _ hs=>retsC hs h h1 h2
theorem Ret.ct {fn:Func} {a T s:Nat} {ad:Addr} {v u:Value} (h:fn.results = #[.cell a T,.tmp s]) (h1:ρ a=.pointer (some ad)) (h2:(loadVar T ad).run P w=.ok v w) (h3:ρ s=u):Ret P fn ρ w (.tuple #[v,u]):=fun _ hs=>h3 ▸ retsCT hs h h1 h2
def LeaveE (P:Program) (fn:Func) (R:Value→World→Prop):List Deferred→Env→World→Prop
  | [],ρ,w=>∃ v,Ret P fn ρ w v∧R v w
  | d :: ds,ρ,w=>∃ D w',d.target=.collected D∧(Instr.takeDeferred D).run P w=.ok [] w'∧LeaveE P fn R ds ρ w'
def bodyE (P:Program) (fn:Func) (R:Value→World→Prop):List Deferred→Exit→Env→World→Prop
  | ds,.normal,ρ,w | ds,.ret,ρ,w=>LeaveE P fn R ds ρ w
  | _,_,_,_=>False

theorem LeaveE.leaves {fn:Func} {R:Value→World→Prop} {tmps:Array Value} (ht:∀ t,tmps.getD t undef=ρ t):∀ (ds:List Deferred) (w:World),LeaveE P fn R ds ρ w →
    LeavesInM (fen none) 0 P fn tmps (fun e w'=>∃ v,e=.returned v∧R v w') ds .returning w
  | [],w,⟨v,hr,hR⟩=>⟨v,hr _ ht,v,rfl,hR⟩
  | d :: ds,w,⟨D,w',h1,h2,h3⟩=>⟨(by simp),.inl ⟨D,w',h1,h2,LeaveE.leaves ht ds w' h3⟩⟩

theorem az {f:FuncId} {fn:Func} {c:Code} {n:Nat} {args:List Value} {R:Value→World→Prop} (hf:P.funcs[f]?=some fn) (hb:fn.body=some c) (hn:fn.ntmps=n) (hl:Nat.ble args.length n=true)
    (h:WP none [] P n c (bodyE P fn R) (enterE args) w):Calls P f args.toArray w (fun e w'=>∃ v,e=.returned v∧R v w'):=by
  subst hn
  refine (callsIn_wide (n:=0)).1 (callsIn_of_wp_marks (F:=fen none) hf hb trivial (wpIn_mono (h.go _ (enter_sat args fn.ntmps (Nat.le_of_ble_eq_true hl))) ?_) rfl)
  intro e a w' ⟨ds,ρ,hs,hq⟩
  cases e with
  | normal=>show LeavesInM _ _ _ _ _ _ _ _ _; rw [hs.defers]; exact hq.leaves hs.at_ ds w'
  | ret=>show LeavesInM _ _ _ _ _ _ _ _ _; rw [hs.defers]; exact hq.leaves hs.at_ ds w'
  | _=>exact hq.elim
end rules
end Go.K
end
section
namespace Go.K
open Go.RowKit

def DLe (w w':World):Prop:=True
theorem DLe.of {w w':World} (h:w.drawn≤w'.drawn):DLe w w':=trivial
theorem DLe.trans {a b c:World} (h:DLe a b) (k:DLe b c):DLe a c:=trivial
structure eg (w w':World):Prop where
  eq:w'.output=w.output
  drawn:DLe w w'
theorem eg.rfl {w:World}:eg w w:=⟨Eq.refl _,DLe.of (Nat.le_refl _)⟩
theorem eg.trans {a b c:World} (k:eg b c) (h:eg a b):eg a c:=⟨k.eq.trans h.eq,DLe.trans h.drawn k.drawn⟩
structure Below (B:Nat) (w w':World):Prop where
  os:w'.os=w.os
  tape:w'.tape=w.tape
  output:eg w w'
  size:w.heap.size≤w'.heap.size
  block:∀ k,k < B→w'.heap[k]?=w.heap[k]?
theorem Below.refl (B:Nat) (w:World):Below B w w:=⟨rfl,rfl,.rfl,Nat.le_refl _,fun _ _=>rfl⟩
theorem Below.kit {B:Nat} {w w':World} (h:Below B w w'):RowKit.Below B w w':=⟨h.os,h.tape,h.output.eq,h.size,h.block⟩
theorem Below.of_kit {B:Nat} {w w':World} (h:RowKit.Below B w w') (hd:DLe w w'):Below B w w':=⟨h.os,h.tape,⟨h.output,hd⟩,h.size,h.block⟩
theorem Below.alloc {B:Nat} {a w:World} (h:Below B a w) (hb:B≤w.heap.size) (o:Obj):Below B a (w.alloc o):=.of_kit (h.kit.alloc hb o) h.output.drawn
structure But (B:List Nat) (w w':World):Prop where
  os:w'.os=w.os
  tape:w'.tape=w.tape
  output:eg w w'
  size:w.heap.size≤w'.heap.size
  block:∀ k,k < w.heap.size→k ∉ B→w'.heap[k]?=w.heap[k]?

theorem But.refl (B:List Nat) (w:World):But B w w:=⟨rfl,rfl,.rfl,Nat.le_refl _,fun _ _ _=>rfl⟩
theorem But.of_below {B:List Nat} {w w':World} (h:Below w.heap.size w w'):But B w w':=⟨h.os,h.tape,h.output,h.size,fun k hk _=>h.block k hk⟩
theorem But.below {w w':World} (h:But [] w w'):Below w.heap.size w w':=⟨h.os,h.tape,h.output,h.size,fun k hk=>h.block k hk (by simp)⟩
theorem But.trans {B:List Nat} {a b c:World} (h:But B a b) (k:But B b c):But B a c :=
  ⟨k.os.trans h.os,k.tape.trans h.tape,k.output.trans h.output,Nat.le_trans h.size k.size,fun i hi hB=>(k.block i (Nat.lt_of_lt_of_le hi h.size) hB).trans (h.block i hi hB)⟩
theorem But.thenBelow {B:List Nat} {a b c:World} (h:But B a b) (k:Below b.heap.size b c):But B a c:=h.trans (.of_below k)

structure Inv (B:List Nat) (w0 w:World) (L:List (Option Nat × Obj)):Prop where
  but:But B w0 w
  has:∀ (i b:Nat) (o:Obj),L[i]?=some (some b,o)→w.heap[b]?=some o∧(w0.heap.size≤b∨b∈B)
  sep:∀ (i j b c:Nat) (o p:Obj),L[i]?=some (some b,o)→L[j]?=some (some c,p)→i≠j→b≠c

section inv
variable {B:List Nat} {w0 w:World} {L:List (Option Nat × Obj)}

theorem Inv.start (w:World):Inv [] w w []:=⟨But.refl _ _,fun i b o h=>(by simp at h),fun i j b c o p h=>(by simp at h)⟩
theorem Inv.lent (w:World) (g:Option Nat) (o:Obj) (h:∀ b,g=some b→w.heap[b]?=some o):Inv g.toList w w [(g,o)]:=by
  refine ⟨But.refl _ _,fun i b p hi=>?_,fun i j b c p q hi hj hij=>?_⟩
  · cases i with
    | zero =>
      simp only [List.getElem?_cons_zero,Option.some.injEq,Prod.mk.injEq] at hi
      obtain ⟨rfl,rfl⟩:=hi
      exact ⟨h b rfl,.inr (by simp)⟩
    | succ i=>simp at hi
  cases i with
  | zero =>
    cases j with
    | zero=>exact absurd rfl hij
    | succ j=>simp at hj
  | succ i=>simp at hi

theorem Inv.below (h:Inv [] w0 w L):Below w0.heap.size w0 w:=h.but.below

theorem Inv.lt (h:Inv B w0 w L) {i b:Nat} {o:Obj} (hi:L[i]?=some (some b,o)):b < w.heap.size:=by
  have:=(h.has i b o hi).1
  rcases Nat.lt_or_ge b w.heap.size with hlt | hge
  · exact hlt
  rw [Array.getElem?_eq_none hge] at this; cases this

theorem Inv.more (h:Inv B w0 w L) {w':World} (hb:Below w.heap.size w w') {g:Option Nat} {o:Obj} (hg:∀ b,g=some b→w.heap.size≤b∧w'.heap[b]?=some o):Inv B w0 w' ((g,o) :: L):=by
  refine ⟨h.but.thenBelow hb,fun i b p hi=>?_,fun i j b c p q hi hj hij=>?_⟩
  · cases i with
    | zero =>
      simp only [List.getElem?_cons_zero,Option.some.injEq,Prod.mk.injEq] at hi
      obtain ⟨rfl,rfl⟩:=hi
      exact ⟨(hg b rfl).2,.inl (Nat.le_trans h.but.size (hg b rfl).1)⟩
    | succ i =>
      simp only [List.getElem?_cons_succ] at hi
      exact ⟨(hb.block b (h.lt hi)).trans (h.has i b p hi).1,(h.has i b p hi).2⟩
  cases i with
  | zero =>
    simp only [List.getElem?_cons_zero,Option.some.injEq,Prod.mk.injEq] at hi
    obtain ⟨rfl,rfl⟩:=hi
    cases j with
    | zero=>exact absurd rfl hij
    | succ j =>
      simp only [List.getElem?_cons_succ] at hj
      have h1:=(hg b rfl).1
      have h2:=h.lt hj
      omega
  | succ i =>
    simp only [List.getElem?_cons_succ] at hi
    cases j with
    | zero =>
      simp only [List.getElem?_cons_zero,Option.some.injEq,Prod.mk.injEq] at hj
      obtain ⟨rfl,rfl⟩:=hj
      have h1:=(hg c rfl).1
      have h2:=h.lt hi
      omega
    | succ j =>
      simp only [List.getElem?_cons_succ] at hj
      exact h.sep i j b c p q hi hj (by omega)

theorem Inv.call (h:Inv B w0 w L) {w':World} (hb:Below w.heap.size w w'):Inv B w0 w' L :=
  ⟨h.but.thenBelow hb,fun i b o hi=>⟨(hb.block b (h.lt hi)).trans (h.has i b o hi).1,(h.has i b o hi).2⟩,h.sep⟩

theorem Inv.alloc (h:Inv B w0 w L) (o:Obj):Inv B w0 (w.alloc o) ((some w.heap.size,o) :: L) :=
  h.more ((Below.refl _ w).alloc (Nat.le_refl _) o) fun b hb=>by
    injection hb with hb
    subst hb
    exact ⟨Nat.le_refl _,by rw [heap_alloc_new]⟩

theorem Inv.drew (h:Inv B w0 w L):Inv B w0 w.drew L:=⟨⟨h.but.os,h.but.tape,(⟨rfl,DLe.of (Nat.le_succ _)⟩:eg w w.drew).trans h.but.output,h.but.size,h.but.block⟩,h.has,h.sep⟩

theorem Inv.turn (h:Inv B w0 w L) {w':World} {i:Nat} {g:Option Nat} {o:Obj} (hi:L[i]?=some (g,o)) {o':Obj}
    (hos:w'.os=w.os) (htape:w'.tape=w.tape) (hout:eg w w') (hsize:w.heap.size≤w'.heap.size)
    (hkeep:∀ k,k < w.heap.size→g≠some k→w'.heap[k]?=w.heap[k]?) (hnew:∀ b,g=some b→w'.heap[b]?=some o'):Inv B w0 w' (L.set i (g,o')):=by
  have hlen:i < L.length:=by
    rcases Nat.lt_or_ge i L.length with hlt | hge
    · exact hlt
    rw [List.getElem?_eq_none hge] at hi; cases hi
  refine ⟨⟨hos.trans h.but.os,htape.trans h.but.tape,hout.trans h.but.output,Nat.le_trans h.but.size hsize,fun k hk hB=>?_⟩,fun j b p hj=>?_,fun j k b c p q hj hk hjk=>?_⟩
  · rw [hkeep k (Nat.lt_of_lt_of_le hk h.but.size) ?_,h.but.block k hk hB]
    intro hg
    subst hg
    rcases (h.has i k o hi).2 with h1 | h1
    · omega
    exact hB h1
  · rw [List.getElem?_set] at hj
    by_cases hji:i=j
    · subst hji
      simp only [if_true,hlen,Option.some.injEq,Prod.mk.injEq] at hj
      obtain ⟨rfl,rfl⟩:=hj
      exact ⟨hnew b rfl,(h.has i b o hi).2⟩
    rw [if_neg hji] at hj
    refine ⟨(hkeep b (h.lt hj) ?_).trans (h.has j b p hj).1,(h.has j b p hj).2⟩
    intro hg
    subst hg
    exact h.sep i j b b o p hi hj hji rfl
  have old:∀ (j b:Nat) (p:Obj),(L.set i (g,o'))[j]?=some (some b,p)→∃ q,L[j]?=some (some b,q):=by
    intro j b p hj
    rw [List.getElem?_set] at hj
    by_cases hji:i=j
    · subst hji
      simp only [if_true,hlen,Option.some.injEq,Prod.mk.injEq] at hj
      obtain ⟨rfl,rfl⟩:=hj
      exact ⟨o,hi⟩
    rw [if_neg hji] at hj; exact ⟨p,hj⟩
  obtain ⟨p',hj'⟩:=old j b p hj
  obtain ⟨q',hk'⟩:=old k c q hk
  exact h.sep j k b c p' q' hj' hk' hjk

theorem Inv.turned (h:Inv B w0 w L) {w':World} (i:Nat) {g:Option Nat} {o o':Obj} (hi:L[i]?=some (g,o)) (hb:But g.toList w w') (hnew:∀ b,g=some b→w'.heap[b]?=some o'):Inv B w0 w' (L.set i (g,o')) :=
  h.turn hi hb.os hb.tape hb.output hb.size (fun k hk hg=>hb.block k hk (fun h=>hg (by simpa using h))) hnew

theorem Inv.pick (h:Inv B w0 w L) (l:List Nat) (hn:l.Nodup) {L':List (Option Nat × Obj)} (hL:∀ (i:Nat) x,L'[i]?=some x→∃ j,l[i]?=some j∧L[j]?=some x):Inv B w0 w L' :=
  ⟨h.but,fun i b o hi=>(by obtain ⟨j,_,hj⟩:=hL i _ hi; exact h.has j b o hj),fun i j b c o p hi hj hij=>(by
    obtain ⟨i',hi1,hi2⟩:=hL i _ hi
    obtain ⟨j',hj1,hj2⟩:=hL j _ hj
    refine h.sep i' j' b c o p hi2 hj2 ?_
    intro he
    subst he
    have h1:i < l.length:=by
      rcases Nat.lt_or_ge i l.length with hlt | hge
      · exact hlt
      rw [List.getElem?_eq_none hge] at hi1; cases hi1
    have h2:j < l.length:=by
      rcases Nat.lt_or_ge j l.length with hlt | hge
      · exact hlt
      rw [List.getElem?_eq_none hge] at hj1; cases hj1
    rw [List.getElem?_eq_getElem h1] at hi1
    rw [List.getElem?_eq_getElem h2] at hj1
    injection hi1 with hi1
    injection hj1 with hj1
    exact hij ((List.getElem_inj hn).1 (hi1.trans hj1.symm)))⟩

theorem Inv.tail {x:Option Nat × Obj} (h:Inv B w0 w (x :: L)):Inv B w0 w L :=
  ⟨h.but,fun i b o hi=>h.has (i+1) b o hi,fun i j b c o p hi hj hij=>h.sep (i+1) (j+1) b c o p hi hj (by omega)⟩
end inv

abbrev blk (cl:List Value) (T:TypeId):Obj:=.cells cl.toArray T (0,0)

section steps
variable {P:Program} {ρ:Env} {B:List Nat} {w w0:World} {L:List (Option Nat × Obj)} {R:Value→World→Prop} {d:Option Nat} {ty:TypeId} {pos:String} {af:Array Edge} {gd:Option (Nat × Bool)}

theorem kl {o:Oper} (v:Value) (h:(execOp (ev ρ) o).run P w=.ok (.value v) w) (k:R v w):cw P o ρ w R:=by
  unfold cw; rw [h]; exact k

theorem s_box {T:TypeId} {x:Operand} (k:R (.pointer (some ⟨w.heap.size,0,none⟩)) (w.alloc (.cells (ev ρ x).cells T))):cw P ⟨d,.box T x,ty,pos,af,gd⟩ ρ w R:=k

theorem ca (hI:Inv B w0 w L) {T:TypeId} {x:Operand} (cl:List Value) (hc:(ev ρ x).cells=cl.toArray) (k:∀ (b:Nat) (w':World),Inv B w0 w' ((some b,blk cl T) :: L)→R (.pointer (some ⟨b,0,none⟩)) w') :
    cw P ⟨d,.box T x,ty,pos,af,gd⟩ ρ w R:=s_box (k _ _ (hc ▸ hI.alloc _))

theorem bh (hI:Inv B w0 w L) {T:TypeId} {z:Value} (cl:List Value) (hz:∀ w,(zeroValue T).run P w=.ok z w) (hc:z.cells=cl.toArray) (k:∀ (b:Nat) (w':World),Inv B w0 w' ((some b,blk cl T) :: L)→R (.pointer (some ⟨b,0,none⟩)) w') :
    cw P ⟨d,.alloc T,ty,pos,af,gd⟩ ρ w R:=by
  have h:(execOp (ev ρ) ⟨d,.alloc T,ty,pos,af,gd⟩).run P w=.ok (.value (.pointer (some ⟨w.heap.size,0,none⟩))) (w.alloc (.cells z.cells T)):=by
    simp [execOp,Instr.alloc,go_sem,hz]
  unfold cw; rw [h]; exact k _ _ (hc ▸ hI.alloc _)

theorem bv {a:Addr} {v:Value} (h:w.cell? a=some v) {T:TypeId} (hA:∀ w,(isAgg T).run P w=.ok false w):(loadVar T a).run P w=.ok v w:=by
  simp [loadVar,go_sem,hA,h]

theorem run_loadCells (a:Addr):∀ (vs:List Value) (i:Nat) (acc:Array Value),(∀ j v,vs[j]?=some v→w.cell? (a.add (i+j))=some v) →
    (loadCellsFrom a i vs.length acc).run P w=.ok (acc++vs.toArray) w
  | [],i,acc,_=>by simp [loadCellsFrom,go_sem]
  | v :: vs,i,acc,h=>by
    have h0:w.cell? (a.add i)=some v:=h 0 v rfl
    have ih:=run_loadCells a vs (i+1) (acc.push v) (fun j u hj=>by have:=h (j+1) u hj; rwa [show i+(j+1)=i+1+j by omega] at this)
    show (load (a.add i) >>= fun u=>loadCellsFrom a (i+1) vs.length (acc.push u)).run P w=_
    rw [Sem.run_bind,run_load,h0]
    show (loadCellsFrom a (i+1) vs.length (acc.push v)).run P w=_
    rw [ih]
    simp

theorem run_load_agg {a:Addr} {vs:List Value} {k:Nat} {T:TypeId} (hA:∀ w,(isAgg T).run P w=.ok true w) (hS:∀ w,(Go.sizeOf T).run P w=.ok k w) (hk:vs.length=k)
    (h:∀ j v,vs[j]?=some v→w.cell? (a.add j)=some v):(loadVar T a).run P w=.ok (.agg vs.toArray) w:=by
  subst hk
  have:=run_loadCells (P:=P) (w:=w) a vs 0 #[] (fun j v hj=>by rw [Nat.zero_add]; exact h j v hj)
  simp [loadVar,go_sem,hA,hS,loadCells,this]

theorem s_load {T:TypeId} {x:Operand} {a:Addr} {v:Value} (ha:ev ρ x=.pointer (some a)) (hl:(loadVar T a).run P w=.ok v w) (k:R v w):cw P ⟨d,.load T x,ty,pos,af,gd⟩ ρ w R:=by
  have h:(execOp (ev ρ) ⟨d,.load T x,ty,pos,af,gd⟩).run P w=.ok (.value v) w:=by
    have:execOp (ev ρ) ⟨d,.load T x,ty,pos,af,gd⟩=(do pure (.value (← Instr.loadAt T (ev ρ x)))):=rfl
    rw [this,ha]
    show ((loadVar T a >>= fun v=>pure (Next.value v)).run P w)=_
    rw [Sem.run_bind,hl]
    rfl
  exact kl v h k

theorem Inv.cell (hI:Inv B w0 w L) {i b off:Nat} {cs:Array Value} {T:TypeId} {fr:Nat × Nat} {v:Value} (hi:L[i]?=some (some b,.cells cs T fr)) (hc:cs[off]?=some v):w.cell? ⟨b,off,none⟩=some v:=by
  have:=(hI.has i b _ hi).1
  simp [World.cell?,this,hc]

theorem jl (b off n:Nat):(Addr.mk b off none).add n=⟨b,off+n,none⟩:=by
  unfold Addr.add; split <;> simp_all

theorem ag (hI:Inv B w0 w L) {T:TypeId} {x:Operand} (i:Nat) {b off:Nat} {cl:List Value} {T':TypeId} (v:Value) (hA:∀ w,(isAgg T).run P w=.ok false w)
    (ha:ev ρ x=.pointer (some ⟨b,off,none⟩)) (hi:L[i]?=some (some b,blk cl T')) (hc:cl[off]?=some v) (k:R v w):cw P ⟨d,.load T x,ty,pos,af,gd⟩ ρ w R :=
  s_load ha (bv (hI.cell hi (by simpa using hc)) hA) k

theorem ce (hI:Inv B w0 w L) {T:TypeId} (i n:Nat) {b off:Nat} {cl:List Value} {T':TypeId} (vs:List Value) (hA:∀ w,(isAgg T).run P w=.ok true w) (hS:∀ w,(Go.sizeOf T).run P w=.ok n w)
    (hi:L[i]?=some (some b,blk cl T')) (hc:(cl.drop off).take n=vs) (hn:vs.length=n):(loadVar T ⟨b,off,none⟩).run P w=.ok (.agg vs.toArray) w :=
  run_load_agg hA hS hn fun j v hj=>by
    rw [jl]
    refine hI.cell hi ?_
    subst hc
    have hl:j < n:=by
      rcases Nat.lt_or_ge j n with hlt | hge
      · exact hlt
      rw [List.getElem?_eq_none (by rw [hn]; exact hge)] at hj; cases hj
    rw [List.getElem?_take,if_pos hl,List.getElem?_drop] at hj
    simpa using hj

theorem ar (hI:Inv B w0 w L) {T:TypeId} {x:Operand} (i n:Nat) {b off:Nat} {cl:List Value} {T':TypeId} (vs:List Value) (hA:∀ w,(isAgg T).run P w=.ok true w) (hS:∀ w,(Go.sizeOf T).run P w=.ok n w)
    (ha:ev ρ x=.pointer (some ⟨b,off,none⟩)) (hi:L[i]?=some (some b,blk cl T')) (hc:(cl.drop off).take n=vs) (hn:vs.length=n) (k:R (.agg vs.toArray) w):cw P ⟨d,.load T x,ty,pos,af,gd⟩ ρ w R :=
  s_load ha (ce hI i n vs hA hS hi hc hn) k

def le (cl:List Value) (off:Nat):List Value→List Value
  | []=>cl
  | v :: vs=>le (cl.set off v) (off+1) vs

theorem lm {b:Nat} {T:TypeId}:∀ (vs:List Value) (ao i:Nat) (w:World) (cl:List Value),w.heap[b]?=some (blk cl T)→ao+i+vs.length≤cl.length→(∀ v∈vs,v.oneCell'=true) →
    ∃ w',(storeCells ⟨b,ao,none⟩ vs i).run P w=.ok () w'∧w'.os=w.os∧w'.tape=w.tape∧eg w w'∧w'.heap.size=w.heap.size∧(∀ k,k≠b→w'.heap[k]?=w.heap[k]?)∧w'.heap[b]?=some (blk (le cl (ao+i) vs) T)
  | [],ao,i,w,cl,hb,_,_=>⟨w,by simp [storeCells],rfl,rfl,.rfl,rfl,fun _ _=>rfl,hb⟩
  | v :: vs,ao,i,w,cl,hb,hs,h1=>by
    simp only [List.length_cons] at hs
    have hcell:∃ u,w.cell? ⟨b,ao+i,none⟩=some u:=by
      simp only [World.cell?,hb]
      exact ⟨cl[ao+i]'(by omega),by simp [List.getElem?_eq_getElem (show ao+i < cl.length by omega)]⟩
    obtain ⟨u,hu⟩:=hcell
    have hfr:w.frozen? ⟨b,ao+i,none⟩=false:=by simp [World.frozen?,hb]
    have hv:=h1 v (by simp)
    have hb':(w.setCell ⟨b,ao+i,none⟩ v).heap[b]?=some (blk (cl.set (ao+i) v) T):=by
      simp [World.setCell,Array.getElem?_modify,hb]
    obtain ⟨w',hrun,e1,e2,e3,e4,e5,e6⟩:=lm vs ao (i+1) (w.setCell ⟨b,ao+i,none⟩ v) (cl.set (ao+i) v) hb' (by simp; omega) (fun v' hv'=>h1 v' (by simp [hv']))
    refine ⟨w',?_,e1,e2,⟨e3.eq,e3.drawn⟩,by rw [e4]; simp [World.setCell],fun k hk=>?_,?_⟩
    · have hst:(store (Addr.mk b (ao+i) none) v).run P w=.ok () (w.setCell ⟨b,ao+i,none⟩ v):=by
        rw [run_store P w _ v _ hv,hu]
        simp only [hfr,Bool.false_eq_true,if_false]
      show (store ((Addr.mk b ao none).add i) v >>= fun _=>storeCells ⟨b,ao,none⟩ vs (i+1)).run P w=_
      rw [jl,Sem.run_bind,hst]
      exact hrun
    · rw [e5 k hk]; exact RowKit.Below.heap_setCell _ _ _ _ hk
    rw [e6]; rfl

theorem run_storeVar {T:TypeId} {b off:Nat} {v:Value} {n:Nat} {T':TypeId} {vs cl:List Value} (hS:∀ w,(Go.sizeOf T).run P w=.ok n w) (hv:v.cells=vs.toArray) (hn:vs.length=n) (h1:vs.all Value.oneCell'=true)
    (hb:w.heap[b]?=some (blk cl T')) (hs:off+n≤cl.length) :
    ∃ w',(storeVar T ⟨b,off,none⟩ v).run P w=.ok () w'∧w'.os=w.os∧w'.tape=w.tape∧eg w w'∧w'.heap.size=w.heap.size∧(∀ k,k≠b→w'.heap[k]?=w.heap[k]?)∧w'.heap[b]?=some (blk (le cl off vs) T'):=by
  subst hn
  obtain ⟨w',hrun,e1,e2,e3,e4,e5,e6⟩:=lm (P:=P) vs off 0 w cl hb (by simpa using hs) (fun v hv'=>by simpa using (List.all_eq_true.1 h1) v hv')
  refine ⟨w',?_,e1,e2,e3,e4,e5,by simpa using e6⟩
  unfold storeVar
  rw [Sem.run_bind,hS]
  simp only [Result.andThen_ok,hv,List.size_toArray,ne_eq,not_true_eq_false,if_false]
  exact hrun

theorem aq (hI:Inv B w0 w L) {T:TypeId} {x y:Operand} (i n:Nat) {b off:Nat} {cl:List Value} {T':TypeId} (vs:List Value) (hS:∀ w,(Go.sizeOf T).run P w=.ok n w)
    (ha:ev ρ x=.pointer (some ⟨b,off,none⟩)) (hv:(ev ρ y).cells=vs.toArray) (hn:vs.length=n) (h1:vs.all Value.oneCell'=true) (hi:L[i]?=some (some b,blk cl T')) (hs:off+n≤cl.length)
    (k:∀ w',Inv B w0 w' (L.set i (some b,blk (le cl off vs) T'))→R undef w'):cw P ⟨d,.store T x y,ty,pos,af,gd⟩ ρ w R:=by
  obtain ⟨w',hrun,e1,e2,e3,e4,e5,e6⟩:=run_storeVar (P:=P) hS hv hn h1 (hI.has i b _ hi).1 hs
  have h:(execOp (ev ρ) ⟨d,.store T x y,ty,pos,af,gd⟩).run P w=.ok .skip w':=by
    have:execOp (ev ρ) ⟨d,.store T x y,ty,pos,af,gd⟩=(do Instr.storeAt T (ev ρ x) (ev ρ y); pure .skip):=rfl
    rw [this,ha]
    show ((storeVar T ⟨b,off,none⟩ (ev ρ y) >>= fun _=>pure Next.skip).run P w)=_
    rw [Sem.run_bind,hrun]
    rfl
  unfold cw; rw [h]
  exact k w' (hI.turn hi e1 e2 e3 (by omega) (fun k hk hg=>e5 k fun he=>hg (by rw [he])) (fun b' hb'=>by injection hb' with hb'; subst hb'; exact e6))

theorem wrap_in {n:Int} (h1:-9223372036854775808≤n) (h2:n≤9223372036854775807):IntKind.i64.wrap n=n:=IntWalk.i64_in n ⟨h1,h2⟩

theorem cj {T Ty:TypeId} {x y:Operand} {a b:Int} (ha:ev ρ x=.int .i64 a) (hb:ev ρ y=.int .i64 b) (h:-9223372036854775808≤a+b∧a+b≤9223372036854775807) (k:R (.int .i64 (a+b)) w) :
    cw P ⟨d,.binOp .add T x y Ty,ty,pos,af,gd⟩ ρ w R:=by
  refine kl (.int .i64 (a+b)) ?_ k
  have:execOp (ev ρ) ⟨d,.binOp .add T x y Ty,ty,pos,af,gd⟩=(do pure (.value (← (do eqGuard .add T x y (ev ρ x) (ev ρ y); binOp .add T (ev ρ x) (ev ρ y))))):=rfl
  rw [this,ha,hb,← wrap_in h.1 h.2]
  rfl
theorem dm {T Ty:TypeId} {x y:Operand} {a b:Int} (ha:ev ρ x=.int .i64 a) (hb:ev ρ y=.int .i64 b) (h:-9223372036854775808≤a - b∧a - b≤9223372036854775807) (k:R (.int .i64 (a - b)) w) :
    cw P ⟨d,.binOp .sub T x y Ty,ty,pos,af,gd⟩ ρ w R:=by
  refine kl (.int .i64 (a - b)) ?_ k
  have:execOp (ev ρ) ⟨d,.binOp .sub T x y Ty,ty,pos,af,gd⟩=(do pure (.value (← (do eqGuard .sub T x y (ev ρ x) (ev ρ y); binOp .sub T (ev ρ x) (ev ρ y))))):=rfl
  rw [this,ha,hb,← wrap_in h.1 h.2]
  rfl
theorem s_mul {T Ty:TypeId} {x y:Operand} {a b:Int} (ha:ev ρ x=.int .i64 a) (hb:ev ρ y=.int .i64 b) (h:-9223372036854775808≤a * b∧a * b≤9223372036854775807) (k:R (.int .i64 (a * b)) w) :
    cw P ⟨d,.binOp .mul T x y Ty,ty,pos,af,gd⟩ ρ w R:=by
  refine kl (.int .i64 (a * b)) ?_ k
  have:execOp (ev ρ) ⟨d,.binOp .mul T x y Ty,ty,pos,af,gd⟩=(do pure (.value (← (do eqGuard .mul T x y (ev ρ x) (ev ρ y); binOp .mul T (ev ρ x) (ev ρ y))))):=rfl
  rw [this,ha,hb,← wrap_in h.1 h.2]
  rfl

def cc (P:Program) (f:FuncId) (args:List Value) (w:World) (R:Value→World→Prop):Prop:=Calls P f args.toArray w (fun e w'=>∃ v,e=.returned v∧R v w')

theorem cc.mono {f:FuncId} {args:List Value} {R':Value→World→Prop} (h:cc P f args w R) (hr:∀ v w',R v w'→R' v w'):cc P f args w R' :=
  Calls.mono h fun _ _ ⟨v,he,hv⟩=>⟨v,he,hr _ _ hv⟩

theorem co {o:Oper} (f:FuncId) (args:List Value) {R':Value→World→Prop} (h:(execOp (ev ρ) o).run P w=.ok (.enter f args.toArray) w) (hc:cc P f args w R') (k:∀ v w',R' v w'→R v w'):cw P o ρ w R:=by
  unfold cw; rw [h]; exact hc.mono k

theorem ac (hI:Inv B w0 w L) {o:Oper} (f:FuncId) (args:List Value) (v:Value) (h:(execOp (ev ρ) o).run P w=.ok (.enter f args.toArray) w) (hc:cc P f args w fun v' w'=>v'=v∧Below w.heap.size w w')
    (k:∀ w',Inv B w0 w' L→R v w'):cw P o ρ w R :=
  co f args h hc fun v' w' ⟨hv,hb⟩=>by subst hv; exact k w' (hI.call hb)

def CallV (P:Program) (fv:Value) (args:List Value) (w:World) (R:Value→World→Prop):Prop :=
  match ((do let d ← Deferred.ofValue fv args.toArray; invoke d.target d.args:Sem Next)).run P w with
  | .ok (.value v) w'=>R v w'
  | .ok .skip w'=>R undef w'
  | .ok (.enter f args) w'=>Calls P f args w' (fun e w''=>∃ v,e=.returned v∧R v w'')
  | .ok (.round l f tmps assign body) w'=>RoundIn Fence.wide 0 P l f tmps assign body w' (fun e w''=>∃ v,e=.returned v∧R v w'')
  | _=>False

theorem CallV.mono {fv:Value} {args:List Value} {R':Value→World→Prop} (h:CallV P fv args w R) (hr:∀ v w',R v w'→R' v w'):CallV P fv args w R':=by
  unfold CallV at *
  generalize Sem.run P _ w=r at *
  cases r with
  | ok x w' =>
    cases x with
    | value v=>exact hr _ _ h
    | skip=>exact hr _ _ h
    | enter f args=>exact Calls.mono h fun e w'' ⟨v,he,hv⟩=>⟨v,he,hr _ _ hv⟩
    | round l f tmps assign body=>exact RoundIn.mono h fun e w'' ⟨v,he,hv⟩=>⟨v,he,hr _ _ hv⟩
    | _=>exact h
  | halt x w'=>exact h

theorem CallV.of {fv:Value} {args args':List Value} {f:FuncId} (h:((do let d ← Deferred.ofValue fv args.toArray; invoke d.target d.args:Sem Next)).run P w=.ok (.enter f args'.toArray) w) (hc:cc P f args' w R):CallV P fv args w R:=by
  unfold CallV; rw [h]; exact hc

theorem s_callV {x:Operand} {as:Array Operand} {ats:Array TypeId} (args:List Value) {fv:Value} {R':Value→World→Prop} (hf:ev ρ x=fv) (ha:as.map (ev ρ)=args.toArray) (hc:CallV P fv args w R') (k:∀ v w',R' v w'→R v w') :
    cw P ⟨d,.call ⟨.value x,as,ats⟩,ty,pos,af,gd⟩ ρ w R:=by
  have h:=hc.mono k
  unfold CallV at h
  unfold cw
  have:execOp (ev ρ) ⟨d,.call ⟨.value x,as,ats⟩,ty,pos,af,gd⟩=(do let d ← Deferred.ofValue (ev ρ x) (as.map (ev ρ)); invoke d.target d.args):=rfl
  rw [this,hf,ha]
  exact h

theorem aa {ops:Array Oper} {K:Env→World→Prop} (h:K ρ w):Seq P ops K [] ρ w:=h
theorem ph {ops:Array Oper} {K:Env→World→Prop} {rest:List Oper} {op:Op} (h:cw P ⟨d,op,ty,pos,af,none⟩ ρ w (fun v w'=>Seq P ops K rest (ey ρ d v) w')):Seq P ops K (⟨d,op,ty,pos,af,none⟩ :: rest) ρ w:=h
theorem aw {ops:Array Oper} {K:Env→World→Prop} {rest:List Oper} {op:Op} {j:Nat} {b:Bool} (hy:ei ops ρ j=some b)
    (h:cw P ⟨d,op,ty,pos,af,some (j,b)⟩ ρ w (fun v w'=>Seq P ops K rest (ey ρ d v) w')):Seq P ops K (⟨d,op,ty,pos,af,some (j,b)⟩ :: rest) ρ w:=by
  unfold Seq
  have:Region.wanted ⟨d,op,ty,pos,af,some (j,b)⟩ (ei ops ρ)=true:=by simp [Region.wanted,hy]
  rw [this]; exact h
theorem seq_off {ops:Array Oper} {K:Env→World→Prop} {rest:List Oper} {op:Op} {j:Nat} {b:Bool} (hy:ei ops ρ j=some (!b))
    (h:Seq P ops K rest (ey ρ d undef) w):Seq P ops K (⟨d,op,ty,pos,af,some (j,b)⟩ :: rest) ρ w:=by
  unfold Seq
  have:Region.wanted ⟨d,op,ty,pos,af,some (j,b)⟩ (ei ops ρ)=false:=by
    cases b <;> simp [Region.wanted,hy]
  rw [this]; exact h
end steps
end Go.K
end
section
namespace Go.K
open Go.RowKit

def cd (ρ:Env):List (Nat × Value)→Prop
  | []=>True
  | (t,v) :: l=>ρ t=v∧cd ρ l
def updL (ρ:Env):List (Nat × Value)→Env
  | []=>ρ
  | (t,v) :: l=>upd (updL ρ l) t v
theorem upd_self {ρ:Env} {t:Nat} {v:Value} (h:ρ t=v):upd ρ t v=ρ:=by
  funext s
  by_cases e:s=t
  · subst e; rw [upd_same,h]
  exact upd_ne ρ v e
theorem cd.updL_eq {ρ:Env}:∀ {l:List (Nat × Value)},cd ρ l→updL ρ l=ρ
  | [],_=>rfl
  | (t,v) :: l,h=>by
    show upd (updL ρ l) t v=ρ
    rw [cd.updL_eq h.2,upd_self h.1]
theorem cd.form {ρ:Env} {l:List (Nat × Value)} (h:cd ρ l):∃ ρr,ρ=updL ρr l:=⟨ρ,h.updL_eq.symm⟩

def pickL (L:List (Option Nat × Obj)):List Nat→Option (List (Option Nat × Obj))
  | []=>some []
  | i :: l=>match L[i]?,pickL L l with
    | some x,some xs=>some (x :: xs)
    | _,_=>none
theorem pickL_get {L:List (Option Nat × Obj)}:∀ {l:List Nat} {L':List (Option Nat × Obj)},pickL L l=some L'→∀ (i:Nat) x,L'[i]?=some x→∃ j,l[i]?=some j∧L[j]?=some x
  | [],L',h,i,x,hx=>by
    simp only [pickL,Option.some.injEq] at h
    subst h
    simp at hx
  | j :: l,L',h,i,x,hx=>by
    simp only [pickL] at h
    split at h
    · rename_i y ys hy hys
      simp only [Option.some.injEq] at h
      subst h
      cases i with
      | zero=>exact ⟨j,rfl,by simpa [hy] using hx⟩
      | succ i =>
        obtain ⟨k,h1,h2⟩:=pickL_get hys i x (by simpa using hx)
        exact ⟨k,by simpa using h1,h2⟩
    cases h
theorem Inv.pickL {B:List Nat} {w0 w:World} {L L':List (Option Nat × Obj)} (h:Inv B w0 w L) (l:List Nat) (hn:l.Nodup) (hL:K.pickL L l=some L'):Inv B w0 w L':=h.pick l hn (pickL_get hL)

def ndB:List Nat→Bool
  | []=>true
  | i :: l=>!l.elem i && ndB l
theorem ndB_ok:∀ {l:List Nat},ndB l=true→l.Nodup
  | [],_=>List.nodup_nil
  | i :: l,h=>by
    simp only [ndB,Bool.and_eq_true,Bool.not_eq_true',List.elem_eq_mem,decide_eq_false_iff_not] at h
    exact List.nodup_cons.2 ⟨h.1,ndB_ok h.2⟩
theorem Inv.pk {B:List Nat} {w0 w:World} {L L':List (Option Nat × Obj)} (h:Inv B w0 w L) (l:List Nat) (hn:ndB l=true) (hL:K.pickL L l=some L'):Inv B w0 w L':=h.pick l (ndB_ok hn) (pickL_get hL)

section steps
variable {P:Program} {ρ:Env} {B:List Nat} {w w0:World} {L:List (Option Nat × Obj)} {R:Value→World→Prop} {d:Option Nat} {ty:TypeId} {pos:String} {af:Array Edge} {gd:Option (Nat × Bool)}

theorem cm {T Ty:TypeId} {x y:Operand} {a b:Int} (ha:ev ρ x=.int .i64 a) (hb:ev ρ y=.int .i64 b) (k1:a < b→R (.bool true) w) (k2:¬ a < b→R (.bool false) w) :
    cw P ⟨d,.binOp .lss T x y Ty,ty,pos,af,gd⟩ ρ w R:=by
  refine kl (.bool (decide (a < b))) ?_ ?_
  · have:execOp (ev ρ) ⟨d,.binOp .lss T x y Ty,ty,pos,af,gd⟩=(do pure (.value (← (do eqGuard .lss T x y (ev ρ x) (ev ρ y); binOp .lss T (ev ρ x) (ev ρ y))))):=rfl
    rw [this,ha,hb]; rfl
  by_cases h:a < b
  · rw [decide_eq_true h]; exact k1 h
  rw [decide_eq_false h]; exact k2 h
theorem fq {T Ty:TypeId} {x y:Operand} {a b:Int} (ha:ev ρ x=.int .i64 a) (hb:ev ρ y=.int .i64 b) (k1:a≤b→R (.bool true) w) (k2:¬ a≤b→R (.bool false) w) :
    cw P ⟨d,.binOp .leq T x y Ty,ty,pos,af,gd⟩ ρ w R:=by
  refine kl (.bool (decide (a≤b))) ?_ ?_
  · have:execOp (ev ρ) ⟨d,.binOp .leq T x y Ty,ty,pos,af,gd⟩=(do pure (.value (← (do eqGuard .leq T x y (ev ρ x) (ev ρ y); binOp .leq T (ev ρ x) (ev ρ y))))):=rfl
    rw [this,ha,hb]; rfl
  by_cases h:a≤b
  · rw [decide_eq_true h]; exact k1 h
  rw [decide_eq_false h]; exact k2 h
theorem fh {T Ty:TypeId} {x y:Operand} {a b:Int} (ha:ev ρ x=.int .i64 a) (hb:ev ρ y=.int .i64 b) (k1:b < a→R (.bool true) w) (k2:¬ b < a→R (.bool false) w) :
    cw P ⟨d,.binOp .gtr T x y Ty,ty,pos,af,gd⟩ ρ w R:=by
  refine kl (.bool (decide (b < a))) ?_ ?_
  · have:execOp (ev ρ) ⟨d,.binOp .gtr T x y Ty,ty,pos,af,gd⟩=(do pure (.value (← (do eqGuard .gtr T x y (ev ρ x) (ev ρ y); binOp .gtr T (ev ρ x) (ev ρ y))))):=rfl
    rw [this,ha,hb]; rfl
  by_cases h:b < a
  · rw [decide_eq_true h]; exact k1 h
  rw [decide_eq_false h]; exact k2 h
theorem iq {T Ty:TypeId} {x y:Operand} {a b:Int} (ha:ev ρ x=.int .i64 a) (hb:ev ρ y=.int .i64 b) (k1:b≤a→R (.bool true) w) (k2:¬ b≤a→R (.bool false) w) :
    cw P ⟨d,.binOp .geq T x y Ty,ty,pos,af,gd⟩ ρ w R:=by
  refine kl (.bool (decide (b≤a))) ?_ ?_
  · have:execOp (ev ρ) ⟨d,.binOp .geq T x y Ty,ty,pos,af,gd⟩=(do pure (.value (← (do eqGuard .geq T x y (ev ρ x) (ev ρ y); binOp .geq T (ev ρ x) (ev ρ y))))):=rfl
    rw [this,ha,hb]; rfl
  by_cases h:b≤a
  · rw [decide_eq_true h]; exact k1 h
  rw [decide_eq_false h]; exact k2 h
theorem di {T Ty:TypeId} {x y:Operand} {a b:Int} (ha:ev ρ x=.int .i64 a) (hb:ev ρ y=.int .i64 b) (k1:a=b→R (.bool true) w) (k2:¬ a=b→R (.bool false) w) :
    cw P ⟨d,.binOp .eql T x y Ty,ty,pos,af,gd⟩ ρ w R:=by
  refine kl (.bool (a == b)) ?_ ?_
  · have:execOp (ev ρ) ⟨d,.binOp .eql T x y Ty,ty,pos,af,gd⟩=(do pure (.value (← (do eqGuard .eql T x y (ev ρ x) (ev ρ y); binOp .eql T (ev ρ x) (ev ρ y))))):=rfl
    rw [this,ha,hb]; rfl
  by_cases h:a=b
  · rw [beq_iff_eq.2 h]; exact k1 h
  rw [beq_eq_false_iff_ne.2 h]; exact k2 h
theorem de {T Ty:TypeId} {x y:Operand} {a b:Int} (ha:ev ρ x=.int .i64 a) (hb:ev ρ y=.int .i64 b) (k1:¬ a=b→R (.bool true) w) (k2:a=b→R (.bool false) w) :
    cw P ⟨d,.binOp .neq T x y Ty,ty,pos,af,gd⟩ ρ w R:=by
  refine kl (.bool (a != b)) ?_ ?_
  · have:execOp (ev ρ) ⟨d,.binOp .neq T x y Ty,ty,pos,af,gd⟩=(do pure (.value (← (do eqGuard .neq T x y (ev ρ x) (ev ρ y); binOp .neq T (ev ρ x) (ev ρ y))))):=rfl
    rw [this,ha,hb]; rfl
  by_cases h:a=b
  · rw [show (a != b)=false by simp [h]]; exact k2 h
  rw [show (a != b)=true by simp [h]]; exact k1 h

theorem seq_offN {ops:Array Oper} {K:Env→World→Prop} {rest:List Oper} {op:Op} {j:Nat} {b:Bool} (hy:ei ops ρ j=none)
    (h:Seq P ops K rest (ey ρ d undef) w):Seq P ops K (⟨d,op,ty,pos,af,some (j,b)⟩ :: rest) ρ w:=by
  unfold Seq
  have:Region.wanted ⟨d,op,ty,pos,af,some (j,b)⟩ (ei ops ρ)=false:=by simp [Region.wanted,hy]
  rw [this]; exact h
theorem ah {r:Option Nat} {ds:List Deferred} {n:Nat} {Q:List Deferred→Exit→Env→World→Prop} {c:Operand} {x y:Code} (hc:ev ρ c=.bool true) (h:WP r ds P n x Q ρ w):WP r ds P n (.cond c x y) Q ρ w:=wp_cond hc (fun _=>h) (fun h=>by cases h)
theorem ai {r:Option Nat} {ds:List Deferred} {n:Nat} {Q:List Deferred→Exit→Env→World→Prop} {c:Operand} {x y:Code} (hc:ev ρ c=.bool false) (h:WP r ds P n y Q ρ w):WP r ds P n (.cond c x y) Q ρ w:=wp_cond hc (fun h=>by cases h) (fun _=>h)
end steps
end Go.K
end
section
namespace Go.K
open Go.RowKit

def bi (w:World) (A:Option Addr) (xs:List Value):Prop:=0 < xs.length→∃ b off,A=some ⟨b,off,none⟩∧b < w.heap.size∧∀ j u,xs[j]?=some u→w.cell? ⟨b,off+j,none⟩=some u

structure Row (k:Nat) (g:Option Nat) (n c:Nat) (cl:List Value) (xs:List Value):Prop where
  len:xs.length=n * k
  cap:n≤c
  capmax:c≤maxLen
  size:cl.length=c * k
  head:cl.take (n * k)=xs
  nil:g=none→c=0

abbrev slv (g:Option Nat) (n c:Nat):Value:=.slice (g.map fun b=>⟨b,0,none⟩) n c

theorem Row.nil_ (k:Nat):Row k none 0 0 [] []:=⟨by simp,by simp,by simp,by simp,by simp,fun _=>rfl⟩
theorem Row.some_ {k:Nat} {g:Option Nat} {n c:Nat} {cl xs:List Value} (h:Row k g n c cl xs) (hn:0 < n):∃ b,g=some b:=by
  cases g with
  | none=>have:=h.nil rfl; have:=h.cap; omega
  | some b=>exact ⟨b,rfl⟩
theorem Row.get {k:Nat} {g:Option Nat} {n c:Nat} {cl xs:List Value} (h:Row k g n c cl xs) {j:Nat} {u:Value} (hj:xs[j]?=some u):cl[j]?=some u:=by
  have h1:=h.head
  subst h1
  rw [List.getElem?_take] at hj
  split at hj
  · exact hj
  cases hj

section inv
variable {B:List Nat} {w0 w:World} {L:List (Option Nat × Obj)}
theorem Inv.replace {x:Option Nat × Obj} (h:Inv B w0 w (x :: L)) (i:Nat):Inv B w0 w (L.set i x):=by
  have old:∀ (j:Nat) y,(L.set i x)[j]?=some y→(j=i∧y=x)∨(j≠i∧L[j]?=some y):=by
    intro j y hj
    rw [List.getElem?_set] at hj
    by_cases e:i=j
    · subst e
      split at hj
      · split at hj
        · injection hj with hj; exact .inl ⟨rfl,hj.symm⟩
        cases hj
      contradiction
    rw [if_neg e] at hj; exact .inr ⟨fun h=>e h.symm,hj⟩
  refine ⟨h.but,fun j b o hj=>?_,fun j k b c o p hj hk hjk=>?_⟩
  · rcases old j _ hj with ⟨_,rfl⟩ | ⟨_,h2⟩
    · exact h.has 0 b o rfl
    exact h.has (j+1) b o h2
  rcases old j _ hj with ⟨rfl,rfl⟩ | ⟨n1,h2⟩
  · rcases old k _ hk with ⟨rfl,_⟩ | ⟨n2,h3⟩
    · exact absurd rfl hjk
    exact h.sep 0 (k+1) b c o p rfl h3 (by omega)
  rcases old k _ hk with ⟨rfl,rfl⟩ | ⟨n2,h3⟩
  · exact h.sep (j+1) 0 b c o p h2 rfl (by omega)
  exact h.sep (j+1) (k+1) b c o p h2 h3 (by omega)

theorem Inv.cells (hI:Inv B w0 w L) (i:Nat) {b off:Nat} {cl:List Value} {T:TypeId} {xs:List Value} (hi:L[i]?=some (some b,blk cl T)) (hx:∀ j u,xs[j]?=some u→cl[off+j]?=some u):bi w (some ⟨b,off,none⟩) xs :=
  fun _=>⟨b,off,rfl,hI.lt hi,fun j u hj=>hI.cell hi (by simpa using hx j u hj)⟩

theorem Inv.rowCells (hI:Inv B w0 w L) (i:Nat) {k:Nat} {g:Option Nat} {n c:Nat} {cl xs:List Value} {T:TypeId} (hi:L[i]?=some (g,blk cl T)) (hr:Row k g n c cl xs):bi w (g.map fun b=>⟨b,0,none⟩) xs:=by
  intro hx
  have hn:0 < n:=by
    rcases Nat.eq_zero_or_pos n with h0 | h0
    · subst h0; have:=hr.len; simp at this; subst this; simp at hx
    exact h0
  obtain ⟨b,rfl⟩:=hr.some_ hn
  exact hI.cells i (off:=0) hi (fun j u hj=>by rw [Nat.zero_add]; exact hr.get hj) hx

theorem bi.below {xs:List Value} {A:Option Addr} (h:bi w0 A xs) (hb:Below w0.heap.size w0 w):bi w A xs:=fun hx=>by
  obtain ⟨b,off,hA,hlt,hc⟩:=h hx
  exact ⟨b,off,hA,Nat.lt_of_lt_of_le hlt hb.size,fun j u hj=>(hb.kit.cell (p:=⟨b,off+j,none⟩) hlt).trans (hc j u hj)⟩
theorem bi.inv {xs:List Value} {A:Option Addr} (h:bi w0 A xs) (hI:Inv B w0 w L) (hB:∀ b off,A=some ⟨b,off,none⟩→b ∉ B):bi w A xs:=fun hx=>by
  obtain ⟨b,off,hA,hlt,hc⟩:=h hx
  refine ⟨b,off,hA,Nat.lt_of_lt_of_le hlt hI.but.size,fun j u hj=>?_⟩
  have:=hI.but.block b hlt (hB b off hA)
  rw [← hc j u hj]
  simp [World.cell?,this]
theorem bi.inv0 {xs:List Value} {A:Option Addr} (h:bi w0 A xs) (hI:Inv [] w0 w L):bi w A xs:=h.below hI.below
end inv

section run
variable {P:Program} {w:World}
theorem run_first {xs:List Value} {A:Option Addr} {k m c:Nat} (h:bi w A xs) (hl:xs.length=m * k) (w':World) (hw:w'.heap=w.heap):(Builtin.firstCells k m (.slice A m c)).run P w'=.ok xs.toArray w':=by
  rcases Nat.eq_zero_or_pos xs.length with h0 | h0
  · have:xs=[]:=List.eq_nil_of_length_eq_zero h0
    subst this
    have hmk:m * k=0:=by simpa using hl.symm
    cases A with
    | none=>simp [Builtin.firstCells]
    | some a=>simp [Builtin.firstCells,loadCells,hmk,loadCellsFrom]
  obtain ⟨b,off,rfl,hb,hc⟩:=h h0
  show (loadCells ⟨b,off,none⟩ (m * k)).run P w'=_
  rw [← hl]
  have:=run_loadCells (P:=P) (w:=w') ⟨b,off,none⟩ xs 0 #[] (fun j v hj=>by
    rw [jl,Nat.zero_add]
    have:=hc j v hj
    simpa [World.cell?,hw] using this)
  simpa [loadCells] using this

theorem zero_len (z:Array Value) (n:Nat):(Builtin.zeroCells z n).toList.length=n * z.size:=by simp [Builtin.zeroCells]
end run

theorem put_len:∀ (news cl:List Value) (off:Nat),(le cl off news).length=cl.length
  | [],cl,off=>rfl
  | v :: news,cl,off=>by rw [le,put_len news]; simp
theorem put_take:∀ (cl news:List Value) (off:Nat),off+news.length≤cl.length→(le cl off news).take (off+news.length)=cl.take off++news
  | cl,[],off,_=>by simp [le]
  | cl,v :: news,off,h=>by
    simp only [List.length_cons] at h
    rw [le,show off+(v :: news).length=(off+1)+news.length by simp; omega,put_take (cl.set off v) news (off+1) (by simp; omega)]
    rw [List.take_succ_eq_append_getElem (by simp; omega)]
    simp [List.take_set_of_le]

section app
variable {P:Program} {B:List Nat} {w0 w:World} {L:List (Option Nat × Obj)}

theorem run_append (hI:Inv B w0 w L) {t ty e:TypeId} {i:TypeInfo} {z:Value} {k bytes:Nat} (ht:P.underlying t=some (.slice e)) (hi:P.info? e=some i) (hz:i.zero=some z) (hk:i.size=k) (hby:i.bytes=bytes) (hzs:z.cells.size=k) (hk0:0 < k)
    (ix:Nat) {g:Option Nat} {n c:Nat} {cl xs:List Value} (hL:L[ix]?=some (g,blk cl e)) (hr:Row k g n c cl xs)
    {A:Option Addr} {m c2:Nat} {news:List Value} (hl:news.length=m * k) (hc:bi w A news) (h1:∀ u∈news,u.oneCell'=true) (hmax:n+m≤maxLen) (hbytes:(n+m) * bytes≤140737488355328) :
    ∃ g' c' cl' w',(Builtin.append_ #[t,t] ty #[slv g n c,.slice A m c2]).run P w=.ok (slv g' (n+m) c') w'∧Row k g' (n+m) c' cl' (xs++news)∧Inv B w0 w' (L.set ix (g',blk cl' e)):=by
  subst hk
  subst hby
  have hlen:(xs++news).length=(n+m) * i.size:=by rw [List.length_append,hr.len,hl,Nat.add_mul]
  have hf:=fun w' hw=>run_first (P:=P) (c:=c2) hc hl w' hw
  by_cases hroom:n+m≤c
  · -- there is room
    cases g with
    | none =>
      have hc0:=hr.nil rfl
      have hn0:n=0:=by omega
      have hm0:m=0:=by omega
      subst hc0; subst hn0; subst hm0
      have hx0:xs=[]:=List.eq_nil_of_length_eq_zero (by simpa using hr.len)
      have hn0:news=[]:=List.eq_nil_of_length_eq_zero (by simpa using hl)
      subst hx0; subst hn0
      refine ⟨none,0,cl,w,?_,by simpa using hr,?_⟩
      · have:=hf w rfl
        simp [Builtin.append_,run_underlying ht,sizeOf,typeInfo,hi,Builtin.lenOf,this]
      have:L.set ix (none,blk cl e)=L:=by
        apply List.ext_getElem?
        intro j
        rw [List.getElem?_set]
        split
        · rename_i hj; subst hj
          split
          · exact hL.symm
          rename_i hge; rw [List.getElem?_eq_none (by omega)]
        rfl
      rw [this]; exact hI
    | some b =>
      have hb:=(hI.has ix b _ hL).1
      have hs:n * i.size+news.length≤cl.length:=by rw [hl,hr.size,← Nat.add_mul]; exact Nat.mul_le_mul_right _ hroom
      obtain ⟨w',hrun,e1,e2,e3,e4,e5,e6⟩:=lm (P:=P) news (n * i.size) 0 w cl hb (by simpa using hs) h1
      refine ⟨some b,c,le cl (n * i.size) news,w',?_,⟨hlen,hroom,hr.capmax,?_,?_,fun h=>by cases h⟩,hI.turn hL e1 e2 e3 (by omega) (fun k hk hg=>e5 k fun he=>hg (by rw [he])) (fun b' hb'=>by injection hb' with hb'; subst hb'; simpa using e6)⟩
      · have:=hf w rfl
        simp [Builtin.append_,run_underlying ht,sizeOf,typeInfo,hi,Builtin.lenOf,this,hroom,jl,hrun]
      · rw [put_len,hr.size]
      rw [Nat.add_mul,← hl,put_take cl news (n * i.size) hs,hr.head]
  -- it grows
  have hn:¬ (n+m≤c):=hroom
  have h63':¬ (9223372036854775807 < ((n:Int)+(m:Int))):=by simp only [maxLen] at hmax; omega
  have hfit:=growslice_fits (need:=n+m) (old:=c) (bytes:=i.bytes) (by omega) hbytes
  have h48':¬ (281474976710656 < Builtin.nextslicecap (n+m) c * i.bytes):=by omega
  have hnew:=hf w.drew rfl
  have hold:=run_first (P:=P) (c:=c) (hI.rowCells ix hL hr) hr.len w.drew rfl
  have hge:=grownCap_ge w (n+m) c e
  have hcm:grownCap w (n+m) c e≤maxLen:=grownCap_le_maxLen w (n+m) c e hmax
  refine ⟨some w.heap.size,grownCap w (n+m) c e,xs++news++(Builtin.zeroCells z.cells (grownCap w (n+m) c e - (n+m))).toList,w.drew.alloc (.cells (xs++news++(Builtin.zeroCells z.cells (grownCap w (n+m) c e - (n+m))).toList).toArray e),?_,⟨hlen,hge,hcm,?_,?_,fun h=>by cases h⟩,?_⟩
  · simp [Builtin.append_,run_underlying ht,sizeOf,typeInfo,zeroValue,hi,hz,Builtin.lenOf,hn,h63',h48',Question.forced,hnew,hold,newRow,grownCap]
    congr 2
    apply Array.ext'
    simp
  · rw [List.length_append,hlen,zero_len,hzs,← Nat.add_mul]; congr 1; omega
  · rw [← hlen]; exact List.take_left
  exact (hI.drew.alloc _).replace ix
end app
end Go.K
end
section
namespace Go.K
open Go.RowKit

section al
variable {α:Type} {enc:α→List Value} {k:Nat}
def al (enc:α→List Value) (l:List α):List Value:=l.flatMap enc
theorem flat_cons (x:α) (l:List α):al enc (x :: l)=enc x++al enc l:=rfl
theorem gc (l m:List α):al enc (l++m)=al enc l++al enc m:=by simp [al]
theorem flat_one (x:α):al enc [x]=enc x:=by simp [al]
theorem dt (hk:∀ x,(enc x).length=k):∀ l:List α,(al enc l).length=l.length * k
  | []=>by simp [al]
  | x :: l=>by rw [flat_cons,List.length_append,hk,dt hk l,List.length_cons,Nat.add_mul]; omega
theorem flat_get (hk:∀ x,(enc x).length=k):∀ (l:List α) (i j:Nat) (x:α),l[i]?=some x→j < k→(al enc l)[i * k+j]?=(enc x)[j]?
  | [],i,j,x,h,_=>by simp at h
  | y :: l,0,j,x,h,hj=>by
    simp only [List.getElem?_cons_zero,Option.some.injEq] at h
    subst h
    rw [flat_cons,Nat.zero_mul,Nat.zero_add,List.getElem?_append_left (by rw [hk]; exact hj)]
  | y :: l,i+1,j,x,h,hj=>by
    rw [flat_cons,List.getElem?_append_right (by rw [hk,Nat.add_mul]; omega),hk,show (i+1) * k+j - k=i * k+j by rw [Nat.add_mul]; omega]
    exact flat_get hk l i j x (by simpa using h) hj
theorem flat_take (hk:∀ x,(enc x).length=k):∀ (l:List α) (n:Nat),(al enc l).take (n * k)=al enc (l.take n)
  | [],n=>by simp [al]
  | x :: l,0=>by simp [al]
  | x :: l,n+1=>by
    rw [flat_cons,List.take_succ_cons,flat_cons,Nat.add_mul,Nat.one_mul,List.take_append,hk,List.take_of_length_le (by rw [hk]; omega),show n * k+k - k=n * k by omega,flat_take hk l n]
theorem flat_drop (hk:∀ x,(enc x).length=k):∀ (l:List α) (n:Nat),(al enc l).drop (n * k)=al enc (l.drop n)
  | [],n=>by simp [al]
  | x :: l,0=>by simp [al]
  | x :: l,n+1=>by
    rw [flat_cons,List.drop_succ_cons,Nat.add_mul,Nat.one_mul,List.drop_append,hk,List.drop_of_length_le (by rw [hk]; omega),show n * k+k - k=n * k by omega,flat_drop hk l n,List.nil_append]
theorem put_append (a b:List Value) (off:Nat) (vs:List Value) (h:a.length≤off):le (a++b) off vs=a++le b (off - a.length) vs:=by
  induction vs generalizing b off with
  | nil=>rfl
  | cons v vs ih =>
    rw [le,le,List.set_append_right _ _ h,ih _ _ (by omega),show off+1 - a.length=off - a.length+1 by omega]
theorem put_left:∀ (vs a b:List Value) (off:Nat),off+vs.length≤a.length→le (a++b) off vs=le a off vs++b
  | [],a,b,off,_=>rfl
  | v :: vs,a,b,off,h=>by
    simp only [List.length_cons] at h
    rw [le,le,List.set_append_left _ _ (by omega),put_left vs _ b (off+1) (by simp; omega)]
theorem put_all (vs a:List Value) (h:vs.length=a.length):le a 0 vs=vs:=by
  have:=put_take a vs 0 (by omega)
  simp only [Nat.zero_add,List.take_zero,List.nil_append] at this
  rw [List.take_of_length_le (by rw [put_len]; omega)] at this
  exact this
end al

section steps
variable {P:Program} {ρ:Env} {B:List Nat} {w w0:World} {L:List (Option Nat × Obj)} {R:Value→World→Prop} {d:Option Nat} {ty:TypeId} {pos:String} {af:Array Edge} {gd:Option (Nat × Bool)}

theorem Inv.nilRow (hI:Inv B w0 w L) (e:TypeId):Inv B w0 w ((none,blk [] e) :: L):=hI.more (Below.refl _ w) fun b hb=>by cases hb

theorem s_append (hI:Inv B w0 w L) {t e:TypeId} {i:TypeInfo} {z:Value} {k bytes:Nat} (ht:P.underlying t=some (.slice e)) (hi:P.info? e=some i) (hz:i.zero=some z) (hk:i.size=k) (hby:i.bytes=bytes) (hzs:z.cells.size=k) (hk0:0 < k)
    {x y:Operand} (ix:Nat) {g:Option Nat} {n c:Nat} {cl xs:List Value} (hx:ev ρ x=slv g n c) (hL:L[ix]?=some (g,blk cl e)) (hr:Row k g n c cl xs)
    {A:Option Addr} {m c2:Nat} {news:List Value} (hy:ev ρ y=.slice A m c2) (hl:news.length=m * k) (hc:bi w A news) (h1:∀ u∈news,u.oneCell'=true) (hmax:n+m≤maxLen) (hbytes:(n+m) * bytes≤140737488355328)
    (kk:∀ g' c' cl' w',Inv B w0 w' (L.set ix (g',blk cl' e))→Row k g' (n+m) c' cl' (xs++news)→R (slv g' (n+m) c') w') :
    cw P ⟨d,.call ⟨.builtin .append,#[x,y],#[t,t]⟩,ty,pos,af,gd⟩ ρ w R:=by
  obtain ⟨g',c',cl',w',hrun,hrow,hinv⟩:=run_append (c2:=c2) hI (ty:=ty) ht hi hz hk hby hzs hk0 ix hL hr hl hc h1 hmax hbytes
  have h:(execOp (ev ρ) ⟨d,.call ⟨.builtin .append,#[x,y],#[t,t]⟩,ty,pos,af,gd⟩).run P w=.ok (.value (slv g' (n+m) c')) w':=by
    simp [execOp,resolve,invoke,builtin,hx,hy,hrun]
  unfold cw; rw [h]; exact kk g' c' cl' w' hinv hrow

theorem fu (hI:Inv B w0 w L) {o:Oper} (cl:List Value) (E:TypeId) (v:Nat→Value) (h:(execOp (ev ρ) o).run P w=.ok (.value (v w.heap.size)) (w.alloc (blk cl E))) (k:∀ b w',Inv B w0 w' ((some b,blk cl E) :: L)→R (v b) w'):cw P o ρ w R:=by
  unfold cw; rw [h]; exact k _ _ (hI.alloc _)

theorem s_index {T E:TypeId} {x y:Operand} {b off n c k m:Nat} {i:Int} (hT:P.underlying T=some (.slice E)) (hS:∀ w,(Go.sizeOf E).run P w=.ok k w) (hx:ev ρ x=.slice (some ⟨b,off,none⟩) n c) (hy:ev ρ y=.int .i64 i) (hi:i=(m:Int)) (hm:m < n)
    (kk:R (.pointer (some ⟨b,off+m * k,none⟩)) w):cw P ⟨d,.indexAddr T x y,ty,pos,af,gd⟩ ρ w R:=by
  refine kl (.pointer (some ⟨b,off+m * k,none⟩)) ?_ kk
  have:execOp (ev ρ) ⟨d,.indexAddr T x y,ty,pos,af,gd⟩=(do pure (.value (← Instr.indexAt T (ev ρ x) (ev ρ y)))):=rfl
  rw [this,hx,hy]
  subst hi
  have h1:(0:Int)≤(m:Int)∧(m:Int) < (n:Int):=by omega
  have h3:¬ n≤m:=by omega
  simp [Instr.indexAt,asIntOf,run_underlying hT,hS,jl,hm]

theorem dj (hI:Inv B w0 w L) {T:TypeId} {x:Operand} {a:Addr} (v:Value) (hA:∀ w,(isAgg T).run P w=.ok false w) (ha:ev ρ x=.pointer (some a)) (hb:a.block < w0.heap.size) (hB:a.block ∉ B) (hc:w0.cell? a=some v) (k:R v w) :
    cw P ⟨d,.load T x,ty,pos,af,gd⟩ ρ w R:=s_load ha (bv (by rw [← hc]; simp [World.cell?,hI.but.block a.block hb hB]) hA) k
theorem ef (hI:Inv B w0 w L) {T:TypeId} {x:Operand} {b off:Nat} {n:Nat} (vs:List Value) (hA:∀ w,(isAgg T).run P w=.ok true w) (hS:∀ w,(Go.sizeOf T).run P w=.ok n w) (ha:ev ρ x=.pointer (some ⟨b,off,none⟩)) (hn:vs.length=n)
    (hb:b < w0.heap.size) (hB:b ∉ B) (hc:∀ j v,vs[j]?=some v→w0.cell? ⟨b,off+j,none⟩=some v) (k:R (.agg vs.toArray) w):cw P ⟨d,.load T x,ty,pos,af,gd⟩ ρ w R :=
  s_load ha (run_load_agg hA hS hn fun j v hj=>by rw [jl,← hc j v hj]; simp [World.cell?,hI.but.block b hb hB]) k
theorem s_loadR1 (hI:Inv B w0 w L) {T:TypeId} {x:Operand} (i:Nat) {b off:Nat} {cl:List Value} {T':TypeId} (v:Value) (hA:∀ w,(isAgg T).run P w=.ok false w)
    (ha:ev ρ x=.pointer (some ⟨b,off,none⟩)) (hi:L[i]?=some (some b,blk cl T')) (hc:cl[off]?=some v) (k:R v w):cw P ⟨d,.load T x,ty,pos,af,gd⟩ ρ w R:=ag hI i v hA ha hi hc k
theorem cq (hI:Inv B w0 w L) {T:TypeId} {x:Operand} (i:Nat) {n b off:Nat} {cl:List Value} {T':TypeId} (vs:List Value) (hA:∀ w,(isAgg T).run P w=.ok true w) (hS:∀ w,(Go.sizeOf T).run P w=.ok n w)
    (ha:ev ρ x=.pointer (some ⟨b,off,none⟩)) (hi:L[i]?=some (some b,blk cl T')) (hn:vs.length=n) (hc:∀ j v,vs[j]?=some v→cl[off+j]?=some v) (k:R (.agg vs.toArray) w):cw P ⟨d,.load T x,ty,pos,af,gd⟩ ρ w R :=
  s_load ha (run_load_agg hA hS hn fun j v hj=>by rw [jl]; exact hI.cell hi (by simpa using hc j v hj)) k

def sub (A:Option Addr) (c l k:Nat):Option Addr:=if c=l then A else A.map (·.add (l * k))
theorem sub_zero (A:Option Addr) (c k:Nat):sub A c 0 k=A:=by
  unfold sub
  split
  · rfl
  cases A with
  | none=>rfl
  | some a=>simp [Addr.add]
theorem bi.sub {A:Option Addr} {xs:List Value} (h:bi w A xs) {c l k len:Nat} (hlen:l * k+len≤xs.length) (hc:len≤(c - l) * k):bi w (K.sub A c l k) ((xs.drop (l * k)).take len):=by
  intro h0
  simp only [List.length_take,List.length_drop] at h0
  obtain ⟨b,off,rfl,hb,hcell⟩:=h (by omega)
  have hne:¬ c=l:=by intro he; subst he; simp at hc; omega
  refine ⟨b,off+l * k,?_,hb,fun j u hj=>?_⟩
  · unfold K.sub; rw [if_neg hne]; simp [jl]
  rw [List.getElem?_take] at hj
  split at hj
  · rw [List.getElem?_drop] at hj
    have:=hcell _ _ hj
    rwa [Nat.add_assoc]
  cases hj

theorem s_slice {T E:TypeId} {x:Operand} {lo hi:Option Operand} {A:Option Addr} {n c l h k:Nat} (hT:P.underlying T=some (.slice E)) (hS:∀ w,(Go.sizeOf E).run P w=.ok k w) (hx:ev ρ x=.slice A n c)
    (hlo:lo.map (ev ρ)=some (.int .i64 (l:Int))∨lo=none∧l=0) (hhi:hi.map (ev ρ)=some (.int .i64 (h:Int))∨hi=none∧h=n) (hle:l≤h) (hc:h≤c)
    (kk:R (.slice (sub A c l k) (h - l) (c - l)) w):cw P ⟨d,.slice T x lo hi none,ty,pos,af,gd⟩ ρ w R:=by
  refine kl (.slice (sub A c l k) (h - l) (c - l)) ?_ kk
  have:execOp (ev ρ) ⟨d,.slice T x lo hi none,ty,pos,af,gd⟩=(do pure (.value (← Instr.sliceAt T (ev ρ x) (lo.map (ev ρ)) (hi.map (ev ρ)) none))):=rfl
  rw [this,hx]
  have h1:(0:Int)≤(h:Int)∧(h:Int)≤(c:Int):=by omega
  have h2:(0:Int)≤(l:Int)∧(l:Int)≤(h:Int):=by omega
  have hs:(Instr.sliceBounds true n c (lo.map (ev ρ)) (hi.map (ev ρ)) none).run P w=.ok (l,h,c) w:=by
    rcases hlo with hlo | ⟨rfl,rfl⟩ <;> rcases hhi with hhi | ⟨rfl,rfl⟩ <;> simp [Instr.sliceBounds, *,Instr.sliceBound,asIntOf]
  simp [Instr.sliceAt,run_underlying hT,Instr.slice,hs,hS,K.sub]

theorem s_eqnil {T Ty:TypeId} {x y:Operand} {E:TypeId} {A:Option Addr} {n c m c':Nat} (hT:P.underlying T=some (.slice E)) (ha:ev ρ x=.slice A n c) (hb:ev ρ y=.slice none m c') (k1:A=none→R (.bool true) w) (k2:(∃ a,A=some a)→R (.bool false) w) :
    cw P ⟨d,.binOp .eql T x y Ty,ty,pos,af,gd⟩ ρ w R:=by
  refine kl (.bool A.isNone) ?_ ?_
  · have:execOp (ev ρ) ⟨d,.binOp .eql T x y Ty,ty,pos,af,gd⟩=(do pure (.value (← (do eqGuard .eql T x y (ev ρ x) (ev ρ y); binOp .eql T (ev ρ x) (ev ρ y))))):=rfl
    rw [this,ha,hb]
    have:=Lib.run_eql_slice_nil w T E A n c m c' hT
    show ((binOp .eql T (.slice A n c) (.slice none m c') >>= fun v=>pure (Next.value v)).run P w)=_
    rw [Sem.run_bind,this]; rfl
  cases A with
  | none=>exact k1 rfl
  | some a=>exact k2 ⟨a,rfl⟩
end steps
end Go.K
end
section
namespace Go.K
open Go.RowKit

section drawn
variable {P:Program} {ops:Array Oper} {B:List Nat} {w0:World} {Lc:List (Option Nat × Obj)} {Q:Env→World→Prop}

theorem updO_comm (ρ:Env) {x y:Option Nat} (v u:Value) (h:∀ d,x=some d→y≠some d):ey (ey ρ x v) y u=ey (ey ρ y u) x v:=by
  cases x with
  | none=>rfl
  | some d =>
    cases y with
    | none=>rfl
    | some e =>
      have hne:d≠e:=fun he=>h d rfl (he ▸ rfl)
      funext s
      show upd (upd ρ d v) e u s=upd (upd ρ e u) d v s
      by_cases h1:s=d
      · subst h1
        rw [upd_ne _ _ hne,upd_same,upd_same]
      by_cases h2:s=e
      · subst h2
        rw [upd_same,upd_ne _ _ h1,upd_same]
      rw [upd_ne _ _ h2,upd_ne _ _ h1,upd_ne _ _ h1,upd_ne _ _ h2]

theorem ev_upd {ρ:Env} {dst:Option Nat} {v:Value} {x:Operand} (h:∀ d,dst=some d→x≠.tmp d):ev (ey ρ dst v) x=ev ρ x:=by
  cases dst with
  | none=>rfl
  | some d =>
    cases x with
    | tmp t =>
      have hne:t≠d:=fun e=>h d rfl (e ▸ rfl)
      exact upd_ne ρ v hne
    | _=>rfl

theorem exec_upd (o:Oper) (hs:∀ cs b,o.op≠.select cs b) (ρ:Env) (dst:Option Nat) (v:Value) (h:∀ d,dst=some d→d ∉ o.looksAt ops):execOp (ev (ey ρ dst v)) o=execOp (ev ρ) o :=
  execOp_congr o hs fun x hx=>ev_upd fun d hd hxd=>h d hd (by
    subst hxd
    exact List.mem_append_left _ (List.mem_filterMap.2 ⟨.tmp d,by simpa using hx,rfl⟩))

theorem wanted_upd (o:Oper) (ρ:Env) (dst:Option Nat) (v:Value) (h:∀ d,dst=some d→d ∉ o.looksAt ops):Region.wanted o (ei ops (ey ρ dst v))=Region.wanted o (ei ops ρ):=by
  cases dst with
  | none=>rfl
  | some d =>
    unfold Region.wanted
    cases hg:o.guard with
    | none=>rfl
    | some gw =>
      obtain ⟨g,want⟩:=gw
      have hy:ei ops (ey ρ (some d) v) g=ei ops ρ g:=by
        unfold ei
        cases ht:(ops[g]?).bind (·.dst) with
        | none=>rfl
        | some t =>
          have hne:t≠d:=fun e=>h d rfl (by subst e; simp [Oper.looksAt,hg,ht])
          simp only [ey,upd_ne ρ v hne]
      simp only [hy]

def opX (P:Program) (ops:Array Oper) (i:Nat) (ρ:Env) (w:World) (K:Env→World→Prop):Prop :=
  match ops[i]? with
  | none=>K ρ w
  | some o =>
    match Region.wanted o (ei ops ρ) with
    | true=>cw P o ρ w (fun v w'=>K (ey ρ o.dst v) w')
    | false=>K (ey ρ o.dst undef) w

theorem opX.mono {i:Nat} {ρ:Env} {w:World} {K K':Env→World→Prop} (h:opX P ops i ρ w K) (hk:∀ ρ w,K ρ w→K' ρ w):opX P ops i ρ w K':=by
  unfold opX at *
  split
  · rename_i ho; simp only [ho] at h; exact hk _ _ h
  rename_i o ho
  simp only [ho] at h
  split
  · rename_i hw; simp only [hw] at h; exact h.mono fun v w' hv=>hk _ _ hv
  rename_i hw; simp only [hw] at h; exact hk _ _ h

def AnyE (P:Program) (ops:Array Oper) (B:List Nat) (w0:World) (Lc:List (Option Nat × Obj)) (Q:Env→World→Prop):Nat→Array Bool→Env→List (Option Nat × Obj)→Prop
  | 0,listed,ρ,L=>Region.ready .any ops listed=[]∧∀ w,Inv B w0 w L→Q ρ w
  | fuel+1,listed,ρ,L =>
    (Region.ready .any ops listed=[]→∀ w,Inv B w0 w L→Q ρ w) ∧
    ∀ i∈Region.ready .any ops listed,∀ w,Inv B w0 w L→opX P ops i ρ w (fun ρ' w'=>∃ L',Inv B w0 w' L'∧(∀ x,Inv B w0 x L'→Inv B w0 x Lc)∧AnyE P ops B w0 Lc Q fuel (listed.setIfInBounds i true) ρ' L')

def Light (P:Program) (ops:Array Oper) (B:List Nat) (w0:World) (Lc:List (Option Nat × Obj)) (o:Oper) (v:Value) (ρ:Env):Prop :=
  (Region.wanted o (ei ops ρ)=true∧∀ w,Inv B w0 w Lc→cw P o ρ w (fun v' w'=>v'=v∧Below w.heap.size w w'))∨(Region.wanted o (ei ops ρ)=false∧v=undef)

theorem Light.of_same {o:Oper} {v:Value} {ρ ρ':Env} (h:Light P ops B w0 Lc o v ρ) (he:execOp (ev ρ') o=execOp (ev ρ) o) (hw:Region.wanted o (ei ops ρ')=Region.wanted o (ei ops ρ)):Light P ops B w0 Lc o v ρ':=by
  unfold Light cw at *
  rw [he,hw]
  exact h

theorem any_first {i:Nat} {oi:Oper} {v:Value} (hi:ops[i]?=some oi) (hsel:∀ (j:Nat) (o:Oper) cs b,ops[j]?=some o→o.op≠.select cs b) :
    ∀ (fuel:Nat) (listed:Array Bool) (ρ:Env) (L:List (Option Nat × Obj)),(∀ x,Inv B w0 x L→Inv B w0 x Lc) →
      (∀ j oj,ops[j]?=some oj→j≠i→listed.getD j true=false→(∀ e∈oj.after,Region.binds .any e=true→e.on≠i)→oi.apart ops oj=true) →
      i∈Region.ready .any ops listed→Light P ops B w0 Lc oi v ρ →
      AnyE P ops B w0 Lc Q fuel (listed.setIfInBounds i true) (ey ρ oi.dst v) L→AnyE P ops B w0 Lc Q (fuel+1) listed ρ L:=by
  have one:∀ (fuel:Nat) (listed:Array Bool) (ρ:Env) (L:List (Option Nat × Obj)),(∀ x,Inv B w0 x L→Inv B w0 x Lc)→Light P ops B w0 Lc oi v ρ →
      AnyE P ops B w0 Lc Q fuel (listed.setIfInBounds i true) (ey ρ oi.dst v) L→∀ w,Inv B w0 w L→opX P ops i ρ w (fun ρ' w'=>∃ L',Inv B w0 w' L'∧(∀ x,Inv B w0 x L'→Inv B w0 x Lc)∧AnyE P ops B w0 Lc Q fuel (listed.setIfInBounds i true) ρ' L'):=by
    intro fuel listed ρ L hsub hy H w hI
    unfold opX
    simp only [hi]
    rcases hy with ⟨hw,hv⟩ | ⟨hw,rfl⟩
    · simp only [hw]
      exact (hv w (hsub w hI)).mono fun v' w' ⟨e,hb⟩=>by subst e; exact ⟨L,hI.call hb,hsub,H⟩
    simp only [hw]
    exact ⟨L,hI,hsub,H⟩
  intro fuel
  induction fuel with
  | zero =>
    intro listed ρ L hsub _ hr hy H
    refine ⟨fun h=>(by rw [h] at hr; cases hr),fun j hj w hI=>?_⟩
    by_cases hji:j=i
    · subst hji; exact one 0 listed ρ L hsub hy H w hI
    have:=ready_mono hj hji
    rw [H.1] at this
    cases this
  | succ fuel ih =>
    intro listed ρ L hsub hfree hr hy H
    refine ⟨fun h=>(by rw [h] at hr; cases hr),fun j hj w hI=>?_⟩
    by_cases hji:j=i
    · subst hji; exact one (fuel+1) listed ρ L hsub hy H w hI
    have h1:=H.2 j (ready_mono hj hji) w hI
    obtain ⟨hjun,oj,hoj,hall⟩:=mem_ready.1 hj
    have hnot:∀ e∈oj.after,Region.binds .any e=true→e.on≠i:=fun e he hb heq=>by
      have h1:=hall e he hb
      have h0:=(mem_ready.1 hr).1
      rw [heq] at h1
      rcases Nat.lt_or_ge i listed.size with h' | h'
      · simp [h'] at h0 h1; rw [h0] at h1; cases h1
      simp [Array.getElem?_eq_none h'] at h1
    have hap:=hfree j oj hoj hji hjun hnot
    obtain ⟨a1,a2,a3⟩:=Oper.apart_spec hap
    have hfree':∀ k ok,ops[k]?=some ok→k≠i→(listed.setIfInBounds j true).getD k true=false →
        (∀ e∈ok.after,Region.binds .any e=true→e.on≠i)→oi.apart ops ok=true:=fun k ok hk hki hun hno=>by
      refine hfree k ok hk hki ?_ hno
      by_cases hjk:j=k
      · subst hjk; exact hjun
      rw [getD_set_ne true hjk] at hun; exact hun
    have keep:∀ u,Light P ops B w0 Lc oi v (ey ρ oj.dst u):=fun u=>hy.of_same (exec_upd oi (fun cs b=>hsel i oi cs b hi) ρ oj.dst u a3) (wanted_upd oi ρ oj.dst u a3)
    have fin:∀ u w' L',Inv B w0 w' L'→(∀ x,Inv B w0 x L'→Inv B w0 x Lc)→AnyE P ops B w0 Lc Q fuel ((listed.setIfInBounds i true).setIfInBounds j true) (ey (ey ρ oi.dst v) oj.dst u) L' →
        ∃ L',Inv B w0 w' L'∧(∀ x,Inv B w0 x L'→Inv B w0 x Lc)∧AnyE P ops B w0 Lc Q (fuel+1) (listed.setIfInBounds j true) (ey ρ oj.dst u) L':=fun u w' L' hI' hs' hA=>by
      refine ⟨L',hI',hs',ih (listed.setIfInBounds j true) (ey ρ oj.dst u) L' hs' hfree' (ready_mono hr (Ne.symm hji)) (keep u) ?_⟩
      rw [Array.setIfInBounds_comm _ _ hji,← updO_comm ρ v u a2]
      exact hA
    unfold opX at h1 ⊢
    simp only [hoj] at h1 ⊢
    rw [wanted_upd oj ρ oi.dst v a1] at h1
    split
    · rename_i hw
      simp only [hw] at h1
      unfold cw at h1 ⊢
      rw [exec_upd oj (fun cs b=>hsel j oj cs b hoj) ρ oi.dst v a1] at h1
      generalize (execOp (ev ρ) oj).run P w=r at *
      cases r with
      | ok x w' =>
        cases x with
        | value u=>obtain ⟨L',h2,h3,h4⟩:=h1; exact fin u w' L' h2 h3 h4
        | skip=>obtain ⟨L',h2,h3,h4⟩:=h1; exact fin undef w' L' h2 h3 h4
        | enter f args=>exact Calls.mono h1 fun e w'' ⟨u,he,L',h2,h3,h4⟩=>⟨u,he,fin u w'' L' h2 h3 h4⟩
        | round l f tmps assign body=>exact RoundIn.mono h1 fun e w'' ⟨u,he,L',h2,h3,h4⟩=>⟨u,he,fin u w'' L' h2 h3 h4⟩
        | _=>exact h1.elim
      | halt x w'=>exact h1.elim
    rename_i hw
    simp only [hw] at h1
    obtain ⟨L',h2,h3,h4⟩:=h1
    exact fin undef w L' h2 h3 h4

def goB (ops:Array Oper) (listed:Array Bool) (i:Nat):Bool:=(Region.ready .any ops listed).contains i && Region.free .any ops listed i

theorem any_light {fuel:Nat} {listed:Array Bool} {ρ:Env} {L:List (Option Nat × Obj)} (i:Nat) (v:Value) {d:Option Nat} {op:Op} {ty:TypeId} {pos:String} {af:Array Edge} (hn:Region.noSelect ops=true) (hsub:∀ x,Inv B w0 x L→Inv B w0 x Lc) (hi:ops[i]?=some ⟨d,op,ty,pos,af,none⟩) (hg:goB ops listed i=true)
    (hl:∀ w,Inv B w0 w Lc→cw P ⟨d,op,ty,pos,af,none⟩ ρ w (fun v' w'=>v'=v∧Below w.heap.size w w'))
    (h:AnyE P ops B w0 Lc Q fuel (listed.setIfInBounds i true) (ey ρ d v) L):AnyE P ops B w0 Lc Q (fuel+1) listed ρ L:=by
  simp only [goB,Bool.and_eq_true] at hg
  exact any_first hi (Region.noSelect_spec hn) fuel listed ρ L hsub (Region.free_spec hi hg.2) (by simpa using hg.1) (.inl ⟨rfl,hl⟩) h
theorem any_end {fuel:Nat} {listed:Array Bool} {ρ:Env} {L:List (Option Nat × Obj)} (hr:Region.ready .any ops listed=[]) (h:∀ w,Inv B w0 w L→Q ρ w):AnyE P ops B w0 Lc Q fuel listed ρ L:=by
  cases fuel with
  | zero=>exact ⟨hr,h⟩
  | succ fuel=>exact ⟨fun _=>h,fun i hi=>by rw [hr] at hi; cases hi⟩

theorem any_heavy {fuel:Nat} {listed:Array Bool} {ρ:Env} {L:List (Option Nat × Obj)} (rs:List Nat) (hr:Region.ready .any ops listed=rs) (hne:rs.isEmpty=false)
    (h:∀ i∈rs,∀ w,Inv B w0 w L→opX P ops i ρ w (fun ρ' w'=>∃ L',Inv B w0 w' L'∧(∀ x,Inv B w0 x L'→Inv B w0 x Lc)∧AnyE P ops B w0 Lc Q fuel (listed.setIfInBounds i true) ρ' L')):AnyE P ops B w0 Lc Q (fuel+1) listed ρ L:=by
  subst hr
  exact ⟨fun he=>(by rw [he] at hne; cases hne),h⟩
theorem each1 {a:Nat} {p:Nat→Prop} (h:p a):∀ i∈[a],p i:=fun i hi=>by simp at hi; subst hi; exact h
theorem opx_c {i:Nat} {ρ:Env} {w:World} {K:Env→World→Prop} {d:Option Nat} {op:Op} {ty:TypeId} {pos:String} {af:Array Edge} (hi:ops[i]?=some ⟨d,op,ty,pos,af,none⟩)
    (h:cw P ⟨d,op,ty,pos,af,none⟩ ρ w (fun v w'=>K (ey ρ d v) w')):opX P ops i ρ w K:=by
  unfold opX; simp only [hi]; exact h
end drawn

theorem wpAny_of_AnyE {P:Program} {r:Option Nat} {ds:List Deferred} {n:Nat} {ops:Array Oper} {B:List Nat} {w0:World} {Lc:List (Option Nat × Obj)} {Q:Env→World→Prop} {Q':Exit→Act→World→Prop} (hd:∀ (i:Nat) o,ops[i]?=some o→dstOk n o.dst=true)
    (hQ:∀ ρ a w,Sat ds n ρ a→Q ρ w→Q' .normal a w):∀ (fuel:Nat) (listed:Array Bool) (ρ:Env) (a:Act) (w:World) (L:List (Option Nat × Obj)),Sat ds n ρ a→Inv B w0 w L→AnyE P ops B w0 Lc Q fuel listed ρ L→wpAnyIn (fen r) 0 P .any ops Q' fuel listed a w
  | 0,_,ρ,a,w,L,hs,hI,h=>⟨h.1,hQ _ _ _ hs (h.2 w hI)⟩
  | fuel+1,listed,ρ,a,w,L,hs,hI,h=>by
    refine ⟨fun h0=>hQ _ _ _ hs (h.1 h0 w hI),fun i hi=>?_⟩
    have h1:=h.2 i hi w hI
    unfold opX at h1
    unfold wpOpIn
    split
    · rename_i ho
      simp only [ho] at h1
      obtain ⟨L',h2,_,h4⟩:=h1
      exact wpAny_of_AnyE hd hQ fuel _ ρ a w L' hs h2 h4
    rename_i o ho
    simp only [ho] at h1
    rw [hs.yielded]
    split
    · rename_i hw
      simp only [hw] at h1
      exact h1.toWp hs fun v w' ⟨L',h2,_,h4⟩=>wpAny_of_AnyE hd hQ fuel _ _ _ w' L' (hs.put (hd i o ho) v) h2 h4
    rename_i hw
    have hw':Region.wanted o (ei ops ρ)=false:=by simpa using hw
    simp only [hw'] at h1
    obtain ⟨L',h2,_,h4⟩:=h1
    exact ⟨fun _ _=>trivial,wpAny_of_AnyE hd hQ fuel _ _ _ _ L' (hs.put (hd i o ho) undef) h2 h4⟩

theorem wp_drawn {P:Program} {r:Option Nat} {ds:List Deferred} {n:Nat} {Q:List Deferred→Exit→Env→World→Prop} {ρ:Env} {B:List Nat} {w w0:World} {L:List (Option Nat × Obj)} {id:Nat} {l:List Oper} (hI:Inv B w0 w L) (Lc:List (Option Nat × Obj)) (hm:P.follows .mixedOrders=true) (hd:dstsOk n l=true)
    (h:AnyE P l.toArray B w0 Lc (Q ds .normal) l.length (Array.replicate l.length false) ρ L):WP r ds P n (.region id l.toArray true) Q ρ w :=
  ⟨fun a hs=>wpIn_region_any hm (by
    have:=wpAny_of_AnyE (P:=P) (r:=r) (ds:=ds) (ops:=l.toArray) (Q:=Q ds .normal) (Q':=fun e a' w'=>∃ ds' ρ',Sat ds' n ρ' a'∧Q ds' e ρ' w') (fun i o ho=>by
      simp only [dstsOk,List.all_eq_true] at hd
      exact hd o (List.mem_of_getElem? (by simpa using ho))) (fun ρ a w hs hk=>⟨ds,ρ,hs,hk⟩) l.length (Array.replicate l.length false) ρ a { w with drawn:=w.drawn+1 } L hs (hI.drew) h
    simpa using this)⟩
theorem subk {A B:Prop} (a:A) (b:A→B):A∧B:=⟨a,b a⟩
theorem wp_drawn2 {P:Program} {r:Option Nat} {ds:List Deferred} {n:Nat} {Q:List Deferred→Exit→Env→World→Prop} {ρ:Env} {B:List Nat} {w w0:World} {L:List (Option Nat × Obj)} {id:Nat} {l:List Oper} (hI:Inv B w0 w L) (l0:List Nat) {Lc:List (Option Nat × Obj)} (hn:l0.Nodup) (hL:K.pickL L l0=some Lc) (hm:P.follows .mixedOrders=true) (hd:dstsOk n l=true)
    (h:(∀ x,Inv B w0 x L→Inv B w0 x Lc)→AnyE P l.toArray B w0 Lc (Q ds .normal) l.length (Array.replicate l.length false) ρ L):WP r ds P n (.region id l.toArray true) Q ρ w :=
  wp_drawn hI Lc hm hd (h fun _ hx=>hx.pickL l0 hn hL)
end Go.K
end
section
namespace Go.K
open Go.RowKit

section elems
variable {α:Type} {enc:α→List Value} {k:Nat}
theorem bi.at_ {w0:World} {A:Option Addr} {l:List α} (hC:bi w0 A (al enc l)) (hk:∀ x,(enc x).length=k) (hk0:0 < k) {i:Nat} {x:α} (hx:l[i]?=some x) :
    ∃ b off,A=some ⟨b,off,none⟩∧b < w0.heap.size∧∀ j v,(enc x)[j]?=some v→w0.cell? ⟨b,off+i * k+j,none⟩=some v:=by
  have hlt:i < l.length:=by
    rcases Nat.lt_or_ge i l.length with h | h
    · exact h
    rw [List.getElem?_eq_none h] at hx; cases hx
  obtain ⟨b,off,hA,hb,hc⟩:=hC (by rw [dt hk]; exact Nat.mul_pos (by omega) hk0)
  refine ⟨b,off,hA,hb,fun j v hj=>?_⟩
  have hjk:j < k:=by
    rw [← hk x]
    rcases Nat.lt_or_ge j (enc x).length with h | h
    · exact h
    rw [List.getElem?_eq_none h] at hj; cases hj
  rw [Nat.add_assoc]
  exact hc _ v (by rw [flat_get hk l i j x hx hjk]; exact hj)
theorem Row.at_ {g:Option Nat} {n c:Nat} {cl:List Value} {l:List α} (hr:Row k g n c cl (al enc l)) (hk:∀ x,(enc x).length=k) (hk0:0 < k) {i:Nat} {x:α} (hx:l[i]?=some x) :
    ∃ b,g=some b∧∀ j v,(enc x)[j]?=some v→cl[i * k+j]?=some v:=by
  have hlt:i < l.length:=by
    rcases Nat.lt_or_ge i l.length with h | h
    · exact h
    rw [List.getElem?_eq_none h] at hx; cases hx
  have hn:n=l.length:=by
    have:=hr.len
    rw [dt hk] at this
    exact (Nat.eq_of_mul_eq_mul_right hk0 this).symm
  obtain ⟨b,hb⟩:=hr.some_ (by omega)
  refine ⟨b,hb,fun j v hj=>?_⟩
  have hjk:j < k:=by
    rw [← hk x]
    rcases Nat.lt_or_ge j (enc x).length with h | h
    · exact h
    rw [List.getElem?_eq_none h] at hj; cases hj
  exact hr.get (by rw [flat_get hk l i j x hx hjk]; exact hj)
theorem Row.n_eq {g:Option Nat} {n c:Nat} {cl:List Value} {l:List α} (hr:Row k g n c cl (al enc l)) (hk:∀ x,(enc x).length=k) (hk0:0 < k):n=l.length:=by
  have:=hr.len
  rw [dt hk] at this
  exact (Nat.eq_of_mul_eq_mul_right hk0 this).symm
theorem lt_of_get {l:List α} {i:Nat} {x:α} (hx:l[i]?=some x):i < l.length:=by
  rcases Nat.lt_or_ge i l.length with h | h
  · exact h
  rw [List.getElem?_eq_none h] at hx; cases hx
theorem mem_of_get {l:List α} {i:Nat} {x:α} (hx:l[i]?=some x):x∈l:=List.mem_of_getElem? hx
end elems

section steps
variable {P:Program} {ρ:Env} {B:List Nat} {w w0:World} {L:List (Option Nat × Obj)} {R:Value→World→Prop} {d:Option Nat} {ty:TypeId} {pos:String} {af:Array Edge} {gd:Option (Nat × Bool)}

theorem cn {T E:TypeId} {x y:Operand} {A:Option Addr} {b off n c k:Nat} (m:Nat) {i:Int} (hT:P.underlying T=some (.slice E)) (hS:∀ w,(Go.sizeOf E).run P w=.ok k w) (hx:ev ρ x=.slice A n c) (hA:A=some ⟨b,off,none⟩) (hy:ev ρ y=.int .i64 i) (hi:i=(m:Int)) (hm:m < n)
    (kk:R (.pointer (some ⟨b,off+m * k,none⟩)) w):cw P ⟨d,.indexAddr T x y,ty,pos,af,gd⟩ ρ w R:=s_index hT hS (hx.trans (by rw [hA])) hy hi hm kk
theorem be {T E:TypeId} {x y:Operand} {b n c k:Nat} (m:Nat) {i:Int} (hT:P.underlying T=some (.slice E)) (hS:∀ w,(Go.sizeOf E).run P w=.ok k w) (hx:ev ρ x=slv (some b) n c) (hy:ev ρ y=.int .i64 i) (hi:i=(m:Int)) (hm:m < n)
    (kk:R (.pointer (some ⟨b,m * k,none⟩)) w):cw P ⟨d,.indexAddr T x y,ty,pos,af,gd⟩ ρ w R:=s_index (off:=0) hT hS hx hy hi hm (by rw [Nat.zero_add]; exact kk)

end steps

section anyl
variable {P:Program} {l:List Oper} {B:List Nat} {w0:World} {Lc:List (Option Nat × Obj)} {Q:Env→World→Prop} {fuel:Nat} {listed:Array Bool} {ρ:Env} {L:List (Option Nat × Obj)} {d:Option Nat} {op:Op} {ty:TypeId} {pos:String} {af:Array Edge}
theorem al_light (i:Nat) (v:Value) (hsub:∀ x,Inv B w0 x L→Inv B w0 x Lc) (hi:l[i]?=some ⟨d,op,ty,pos,af,none⟩) (hg:(Region.noSelect l.toArray && goB l.toArray listed i)=true)
    (hl:∀ w,Inv B w0 w Lc→cw P ⟨d,op,ty,pos,af,none⟩ ρ w (fun v' w'=>v'=v∧Below w.heap.size w w'))
    (h:AnyE P l.toArray B w0 Lc Q fuel (listed.setIfInBounds i true) (ey ρ d v) L):AnyE P l.toArray B w0 Lc Q (fuel+1) listed ρ L:=by
  simp only [Bool.and_eq_true] at hg
  exact any_light i v hg.1 hsub (by simpa using hi) hg.2 hl h
theorem ol_c {i:Nat} {w:World} {K:Env→World→Prop} (hi:l[i]?=some ⟨d,op,ty,pos,af,none⟩) (h:cw P ⟨d,op,ty,pos,af,none⟩ ρ w (fun v w'=>K (ey ρ d v) w')):opX P l.toArray i ρ w K:=opx_c (by simpa using hi) h
end anyl

structure Rg where
  lo:Int
  hi:Int
structure Ld where
  src:Int
  hr:Int
  lo:Int
  hi:Int
  kn:Int
  un:Int
structure Sp where
  src:Int
  kd:Int
  fr:Int
  to:Int
  kn:Int
  un:Int
structure Nt where
  s:Int
  k:Int
  u:Int
def eRg (x:Rg):List Value:=[.int .i64 x.lo,.int .i64 x.hi]
def eLd (x:Ld):List Value:=[.int .i64 x.src,.int .i64 x.hr,.int .i64 x.lo,.int .i64 x.hi,.int .i64 x.kn,.int .i64 x.un]
def eSp (x:Sp):List Value:=[.int .i64 x.src,.int .i64 x.kd,.int .i64 x.fr,.int .i64 x.to,.int .i64 x.kn,.int .i64 x.un]
def eNt (x:Nt):List Value:=[.int .i64 x.s,.int .i64 x.k,.int .i64 x.u]
def dv (x:Int):List Value:=[.int .i64 x]
theorem cy (x:Int):(dv x).length=1:=rfl
def idxI {α:Type} (p:α→Bool) (l:List α):Int:=match l.findIdx? p with
  | some i=>i
  | none=>-1
end Go.K
end
section
namespace Go.K
open Go.RowKit
abbrev iv (x:Int):Value:=.int .i64 x
abbrev pt (b:Nat):Value:=.pointer (some ⟨b,0,none⟩)
abbrev bT:Value:=.bool true
abbrev bF:Value:=.bool false
section steps
variable {P:Program} {ρ:Env} {w:World} {d:Option Nat} {ty:TypeId} {pos:String} {af:Array Edge} {ops:Array Oper} {K:Env→World→Prop} {rest:List Oper} {op:Op}
theorem pu (v:Value) (h:(execOp (ev ρ) ⟨d,op,ty,pos,af,none⟩).run P w=.ok (.value v) w) (k:Seq P ops K rest (ey ρ d v) w):Seq P ops K (⟨d,op,ty,pos,af,none⟩ :: rest) ρ w :=
  ph (kl v h k)
theorem puo (v:Value) {j:Nat} {b:Bool} (h:ei ops ρ j=some b∧(execOp (ev ρ) ⟨d,op,ty,pos,af,some (j,b)⟩).run P w=.ok (.value v) w) (k:Seq P ops K rest (ey ρ d v) w):Seq P ops K (⟨d,op,ty,pos,af,some (j,b)⟩ :: rest) ρ w :=
  aw h.1 (kl v h.2 k)
theorem pup (v:Value) {j:Nat} {b:Bool} (h:(ei ops ρ j,(execOp (ev ρ) ⟨d,op,ty,pos,af,some (j,b)⟩).run P w)=(some b,.ok (.value v) w)) (k:Seq P ops K rest (ey ρ d v) w):Seq P ops K (⟨d,op,ty,pos,af,some (j,b)⟩ :: rest) ρ w :=
  puo v ⟨congrArg Prod.fst h,congrArg Prod.snd h⟩ k
theorem of_ {j:Nat} {b:Bool} (hy:ei ops ρ j=some (!b)) (k:Seq P ops K rest (ey ρ d undef) w):Seq P ops K (⟨d,op,ty,pos,af,some (j,b)⟩ :: rest) ρ w :=
  seq_off hy k
theorem pu2 {d1:Option Nat} {op1:Op} {ty1:TypeId} {pos1:String} {af1:Array Edge} {d2:Option Nat} {op2:Op} {ty2:TypeId} {pos2:String} {af2:Array Edge} (a1 a2:Value) (h:((execOp (ev ρ) ⟨d1,op1,ty1,pos1,af1,none⟩).run P w,(execOp (ev (ey ρ d1 a1)) ⟨d2,op2,ty2,pos2,af2,none⟩).run P w)=(.ok (.value a1) w,.ok (.value a2) w)) (k:Seq P ops K rest (ey (ey ρ d1 a1) d2 a2) w):Seq P ops K ((⟨d1,op1,ty1,pos1,af1,none⟩:Oper) :: (⟨d2,op2,ty2,pos2,af2,none⟩:Oper) :: rest) ρ w :=
  pu a1 (congrArg Prod.fst h) (pu a2 (congrArg Prod.snd h) (k))
theorem pu3 {d1:Option Nat} {op1:Op} {ty1:TypeId} {pos1:String} {af1:Array Edge} {d2:Option Nat} {op2:Op} {ty2:TypeId} {pos2:String} {af2:Array Edge} {d3:Option Nat} {op3:Op} {ty3:TypeId} {pos3:String} {af3:Array Edge} (a1 a2 a3:Value) (h:((execOp (ev ρ) ⟨d1,op1,ty1,pos1,af1,none⟩).run P w,(execOp (ev (ey ρ d1 a1)) ⟨d2,op2,ty2,pos2,af2,none⟩).run P w,(execOp (ev (ey (ey ρ d1 a1) d2 a2)) ⟨d3,op3,ty3,pos3,af3,none⟩).run P w)=(.ok (.value a1) w,.ok (.value a2) w,.ok (.value a3) w)) (k:Seq P ops K rest (ey (ey (ey ρ d1 a1) d2 a2) d3 a3) w):Seq P ops K ((⟨d1,op1,ty1,pos1,af1,none⟩:Oper) :: (⟨d2,op2,ty2,pos2,af2,none⟩:Oper) :: (⟨d3,op3,ty3,pos3,af3,none⟩:Oper) :: rest) ρ w :=
  pu a1 (congrArg Prod.fst h) (pu a2 (congrArg Prod.fst (congrArg Prod.snd h)) (pu a3 (congrArg Prod.snd (congrArg Prod.snd h)) (k)))
end steps
theorem qa {a b:Nat} (h:Nat.ble a b=true):a≤b:=Nat.le_of_ble_eq_true h
section whole
variable {P:Program} {ρ:Env} {B:List Nat} {w w0:World} {L:List (Option Nat × Obj)} {R:Value→World→Prop} {d:Option Nat} {ty:TypeId} {pos:String} {af:Array Edge} {gd:Option (Nat × Bool)}
theorem ma (hI:Inv B w0 w L) {T:TypeId} {x:Operand} (i:Nat) {n b:Nat} {cl:List Value} {T':TypeId} (hA:∀ w,(isAgg T).run P w=.ok true w) (hS:∀ w,(Go.sizeOf T).run P w=.ok n w)
    (ha:ev ρ x=.pointer (some ⟨b,0,none⟩)) (hi:L[i]?=some (some b,blk cl T')) (hn:cl.length=n) (k:R (.agg cl.toArray) w):cw P ⟨d,.load T x,ty,pos,af,gd⟩ ρ w R :=
  ar hI i n cl hA hS ha hi (by rw [List.drop_zero]; exact List.take_of_length_le (by omega)) hn k
theorem mb (hI:Inv B w0 w L) {T:TypeId} {x y:Operand} (i:Nat) {n b:Nat} {cl:List Value} {T':TypeId} (vs:List Value) (hS:∀ w,(Go.sizeOf T).run P w=.ok n w)
    (ha:ev ρ x=.pointer (some ⟨b,0,none⟩)) (hv:(ev ρ y).cells=vs.toArray) (hn:vs.length=n) (h1:vs.all Value.oneCell'=true) (hi:L[i]?=some (some b,blk cl T')) (hl:cl.length=n)
    (k:∀ w',Inv B w0 w' (L.set i (some b,blk vs T'))→R undef w'):cw P ⟨d,.store T x y,ty,pos,af,gd⟩ ρ w R :=
  aq hI i n vs hS ha hv hn h1 hi (by omega) fun w' h=>k w' (by rwa [put_all vs cl (by omega)] at h)
end whole
theorem rgn {P:Program} {r:Option Nat} {ds:List Deferred} {n:Nat} {Q:List Deferred→Exit→Env→World→Prop} {ρ:Env} {w:World} {id:Nat} {l:List Oper} (hd:dstsOk n l=true) (h:Seq P l.toArray (Q ds .normal) l ρ w):WP r ds P n (.region id l.toArray false) Q ρ w:=wp_region hd h
section anyl
variable {P:Program} {l:List Oper} {B:List Nat} {w0:World} {Lc:List (Option Nat × Obj)} {Q:Env→World→Prop} {fuel:Nat} {listed:Array Bool} {ρ:Env} {L:List (Option Nat × Obj)} {d:Option Nat} {op:Op} {ty:TypeId} {pos:String} {af:Array Edge}
theorem alp (i:Nat) (v:Value) (hsub:∀ x,Inv B w0 x L→Inv B w0 x Lc) (hi:l[i]?=some ⟨d,op,ty,pos,af,none⟩) (hg:(Region.noSelect l.toArray && goB l.toArray listed i)=true)
    (hl:∀ w,(execOp (ev ρ) ⟨d,op,ty,pos,af,none⟩).run P w=.ok (.value v) w) (h:AnyE P l.toArray B w0 Lc Q fuel (listed.setIfInBounds i true) (ey ρ d v) L):AnyE P l.toArray B w0 Lc Q (fuel+1) listed ρ L :=
  al_light i v hsub hi hg (fun w _=>kl v (hl w) ⟨rfl,Below.refl _ _⟩) h
end anyl
end Go.K
end
section
namespace Go.K
open Go.RowKit
theorem br {v:Value} {w:World}:v=v∧Below w.heap.size w w:=⟨rfl,Below.refl _ _⟩
def onsL (ops:Array Oper) (k:Nat):List Nat:=match ops[k]? with | none=>[] | some o=>(o.after.toList.filter (Region.binds .any)).map (·.on)
def markL (ops:Array Oper):Nat→List Nat→List Nat
  | 0,m=>m
  | k+1,m=>markL ops k (if m.contains k then m++onsL ops k else m)
def goAll (ops:Array Oper) (p:Nat):Nat→Nat→Array Bool→Bool
  | 0,_,listed=>(Region.ready .any ops listed).isEmpty
  | m+1,i,listed=>(if i < p then goB ops listed i else Region.ready .any ops listed == [i]) && goAll ops p m (i+1) (listed.setIfInBounds i true)
def sinks (ops:Array Oper) (p:Nat):Bool:=(List.range ops.size).all fun j=>decide (j < p) || (let m:=markL ops j (onsL ops j); (List.range p).all fun i=>m.contains i)
def litOk (P:Program) (n p:Nat) (l:List Oper):Bool:=P.follows .mixedOrders && dstsOk n l && Region.noSelect l.toArray && goAll l.toArray p l.length 0 (Array.replicate l.length false) && sinks l.toArray p && decide (p≤l.length)
section any
variable {P:Program} {ops:Array Oper} {B:List Nat} {w0:World} {L:List (Option Nat × Obj)} {Q:Env→World→Prop}
def Closed_ (ops:Array Oper) (listed:Array Bool):Prop:=∀ a o,ops[a]?=some o→listed.getD a false=true→∀ e∈o.after,Region.binds .any e=true→listed.getD e.on false=true
theorem closed_set {listed:Array Bool} {i:Nat} (h:Closed_ ops listed) (hr:i∈Region.ready .any ops listed):Closed_ ops (listed.setIfInBounds i true):=fun a o ha hl e he hb=>by
  by_cases hai:i=a
  · subst hai
    obtain ⟨_,o',ho',hall⟩:=mem_ready.1 hr
    rw [ha] at ho'; injection ho' with ho'; subst ho'
    exact getD_set_true (hall e he hb)
  rw [getD_set_ne false hai] at hl
  exact getD_set_true (h a o ha hl e he hb)
theorem mark_in {listed:Array Bool} (h:Closed_ ops listed):∀ (k:Nat) (m:List Nat),(∀ x∈m,listed.getD x false=true)→∀ x∈markL ops k m,listed.getD x false=true
  | 0,m,hm,x,hx=>hm x hx
  | k+1,m,hm,x,hx=>by
    unfold markL at hx
    refine mark_in h k _ (fun y hy=>?_) x hx
    split at hy
    · rename_i hc
      rcases List.mem_append.1 hy with hy | hy
      · exact hm y hy
      unfold onsL at hy
      cases ho:ops[k]? with
      | none=>rw [ho] at hy; cases hy
      | some o =>
        rw [ho] at hy
        simp only [List.mem_map,List.mem_filter] at hy
        obtain ⟨e,⟨he,hb⟩,rfl⟩:=hy
        exact h k o ho (hm k (by simpa using hc)) e (by simpa using he) hb
    exact hm y hy
theorem ready_ons {listed:Array Bool} {j:Nat} (hj:j∈Region.ready .any ops listed):∀ x∈onsL ops j,listed.getD x false=true:=fun x hx=>by
  obtain ⟨_,o,ho,hall⟩:=mem_ready.1 hj
  unfold onsL at hx
  rw [ho] at hx
  simp only [List.mem_map,List.mem_filter] at hx
  obtain ⟨e,⟨he,hb⟩,rfl⟩:=hx
  exact hall e (by simpa using he) hb
def AnyW (P:Program) (ops:Array Oper) (Q:Env→World→Prop):Nat→Array Bool→Env→World→Prop
  | 0,listed,ρ,w=>Region.ready .any ops listed=[]∧Q ρ w
  | f+1,listed,ρ,w=>(Region.ready .any ops listed=[]→Q ρ w)∧∀ i∈Region.ready .any ops listed,opX P ops i ρ w (fun ρ' w'=>AnyW P ops Q f (listed.setIfInBounds i true) ρ' w')
def AnyD (P:Program) (ops:Array Oper) (B:List Nat) (w0:World) (L:List (Option Nat × Obj)) (p:Nat) (Q:Env→World→Prop):Nat→Array Bool→Env→Prop
  | 0,listed,ρ=>Region.ready .any ops listed=[]∧∀ w,Inv B w0 w L→Q ρ w
  | f+1,listed,ρ=>(Region.ready .any ops listed=[]→∀ w,Inv B w0 w L→Q ρ w) ∧
    ∀ i∈Region.ready .any ops listed,∀ w,Inv B w0 w L→opX P ops i ρ w (fun ρ' w'=>(p≤i∧AnyW P ops Q f (listed.setIfInBounds i true) ρ' w')∨(i < p∧Inv B w0 w' L∧AnyD P ops B w0 L p Q f (listed.setIfInBounds i true) ρ'))
theorem any_firstD {p i:Nat} {oi:Oper} {v:Value} (hip:i < p) (hi:ops[i]?=some oi) (hsel:∀ (j:Nat) (o:Oper) cs b,ops[j]?=some o→o.op≠.select cs b) (hreach:∀ j,p≤j→j < ops.size→i∈markL ops j (onsL ops j)) :
    ∀ (fuel:Nat) (listed:Array Bool) (ρ:Env),Closed_ ops listed →
      (∀ j oj,ops[j]?=some oj→j≠i→listed.getD j true=false→(∀ e∈oj.after,Region.binds .any e=true→e.on≠i)→oi.apart ops oj=true) →
      i∈Region.ready .any ops listed→Light P ops B w0 L oi v ρ →
      AnyD P ops B w0 L p Q fuel (listed.setIfInBounds i true) (ey ρ oi.dst v)→AnyD P ops B w0 L p Q (fuel+1) listed ρ:=by
  have one:∀ (fuel:Nat) (listed:Array Bool) (ρ:Env),Light P ops B w0 L oi v ρ →
      AnyD P ops B w0 L p Q fuel (listed.setIfInBounds i true) (ey ρ oi.dst v)→∀ w,Inv B w0 w L→opX P ops i ρ w (fun ρ' w'=>(p≤i∧AnyW P ops Q fuel (listed.setIfInBounds i true) ρ' w')∨(i < p∧Inv B w0 w' L∧AnyD P ops B w0 L p Q fuel (listed.setIfInBounds i true) ρ')):=by
    intro fuel listed ρ hy H w hI
    unfold opX
    simp only [hi]
    rcases hy with ⟨hw,hv⟩ | ⟨hw,rfl⟩
    · simp only [hw]
      exact (hv w hI).mono fun v' w' ⟨e,hb⟩=>by subst e; exact .inr ⟨hip,hI.call hb,H⟩
    simp only [hw]
    exact .inr ⟨hip,hI,H⟩
  intro fuel
  induction fuel with
  | zero =>
    intro listed ρ hcl _ hr hy H
    refine ⟨fun h=>(by rw [h] at hr; cases hr),fun j hj w hI=>?_⟩
    by_cases hji:j=i
    · subst hji; exact one 0 listed ρ hy H w hI
    have:=ready_mono hj hji
    rw [H.1] at this
    cases this
  | succ fuel ih =>
    intro listed ρ hcl hfree hr hy H
    refine ⟨fun h=>(by rw [h] at hr; cases hr),fun j hj w hI=>?_⟩
    by_cases hji:j=i
    · subst hji; exact one (fuel+1) listed ρ hy H w hI
    have h1:=H.2 j (ready_mono hj hji) w hI
    obtain ⟨hjun,oj,hoj,hall⟩:=mem_ready.1 hj
    have hjp:j < p:=by
      rcases Nat.lt_or_ge j p with h | h
      · exact h
      exfalso
      have hz:=mark_in hcl j _ (ready_ons hj) i (hreach j h (Array.getElem?_eq_some_iff.1 hoj).1)
      have h0:=(mem_ready.1 hr).1
      rcases Nat.lt_or_ge i listed.size with h' | h'
      · simp [h'] at h0 hz; rw [h0] at hz; cases hz
      simp [Array.getElem?_eq_none h'] at hz
    have hnot:∀ e∈oj.after,Region.binds .any e=true→e.on≠i:=fun e he hb heq=>by
      have h1:=hall e he hb
      have h0:=(mem_ready.1 hr).1
      rw [heq] at h1
      rcases Nat.lt_or_ge i listed.size with h' | h'
      · simp [h'] at h0 h1; rw [h0] at h1; cases h1
      simp [Array.getElem?_eq_none h'] at h1
    have hap:=hfree j oj hoj hji hjun hnot
    obtain ⟨a1,a2,a3⟩:=Oper.apart_spec hap
    have hfree':∀ k ok,ops[k]?=some ok→k≠i→(listed.setIfInBounds j true).getD k true=false →
        (∀ e∈ok.after,Region.binds .any e=true→e.on≠i)→oi.apart ops ok=true:=fun k ok hk hki hun hno=>by
      refine hfree k ok hk hki ?_ hno
      by_cases hjk:j=k
      · subst hjk; exact hjun
      rw [getD_set_ne true hjk] at hun; exact hun
    have keep:∀ u,Light P ops B w0 L oi v (ey ρ oj.dst u):=fun u=>hy.of_same (exec_upd oi (fun cs b=>hsel i oi cs b hi) ρ oj.dst u a3) (wanted_upd oi ρ oj.dst u a3)
    have fin:∀ u w',((p≤j∧AnyW P ops Q fuel ((listed.setIfInBounds i true).setIfInBounds j true) (ey (ey ρ oi.dst v) oj.dst u) w')∨(j < p∧Inv B w0 w' L∧AnyD P ops B w0 L p Q fuel ((listed.setIfInBounds i true).setIfInBounds j true) (ey (ey ρ oi.dst v) oj.dst u))) →
        (p≤j∧AnyW P ops Q (fuel+1) (listed.setIfInBounds j true) (ey ρ oj.dst u) w')∨(j < p∧Inv B w0 w' L∧AnyD P ops B w0 L p Q (fuel+1) (listed.setIfInBounds j true) (ey ρ oj.dst u)):=fun u w' h=>by
      rcases h with ⟨h,_⟩ | ⟨_,hI',hA⟩
      · exact absurd h (by omega)
      refine .inr ⟨hjp,hI',ih (listed.setIfInBounds j true) (ey ρ oj.dst u) (closed_set hcl hj) hfree' (ready_mono hr (Ne.symm hji)) (keep u) ?_⟩
      rw [Array.setIfInBounds_comm _ _ hji,← updO_comm ρ v u a2]
      exact hA
    unfold opX at h1 ⊢
    simp only [hoj] at h1 ⊢
    rw [wanted_upd oj ρ oi.dst v a1] at h1
    split
    · rename_i hw
      simp only [hw] at h1
      unfold cw at h1 ⊢
      rw [exec_upd oj (fun cs b=>hsel j oj cs b hoj) ρ oi.dst v a1] at h1
      generalize (execOp (ev ρ) oj).run P w=r at *
      cases r with
      | ok x w' =>
        cases x with
        | value u=>exact fin u w' h1
        | skip=>exact fin undef w' h1
        | enter f args=>exact Calls.mono h1 fun e w'' ⟨u,he,h⟩=>⟨u,he,fin u w'' h⟩
        | round l f tmps assign body=>exact RoundIn.mono h1 fun e w'' ⟨u,he,h⟩=>⟨u,he,fin u w'' h⟩
        | _=>exact h1.elim
      | halt x w'=>exact h1.elim
    rename_i hw
    simp only [hw] at h1
    exact fin undef w h1
theorem jt {r:Option Nat} {ds:List Deferred} {n:Nat} {Q':Exit→Act→World→Prop} (hd:∀ (i:Nat) o,ops[i]?=some o→dstOk n o.dst=true)
    (hQ:∀ ρ a w,Sat ds n ρ a→Q ρ w→Q' .normal a w):∀ (fuel:Nat) (listed:Array Bool) (ρ:Env) (a:Act) (w:World),Sat ds n ρ a→AnyW P ops Q fuel listed ρ w→wpAnyIn (fen r) 0 P .any ops Q' fuel listed a w
  | 0,_,ρ,a,w,hs,h=>⟨h.1,hQ _ _ _ hs h.2⟩
  | fuel+1,listed,ρ,a,w,hs,h=>by
    refine ⟨fun h0=>hQ _ _ _ hs (h.1 h0),fun i hi=>?_⟩
    have h1:=h.2 i hi
    unfold opX at h1
    unfold wpOpIn
    split
    · rename_i ho
      simp only [ho] at h1
      exact jt hd hQ fuel _ ρ a w hs h1
    rename_i o ho
    simp only [ho] at h1
    rw [hs.yielded]
    split
    · rename_i hw
      simp only [hw] at h1
      exact h1.toWp hs fun v w' h2=>jt hd hQ fuel _ _ _ w' (hs.put (hd i o ho) v) h2
    rename_i hw
    have hw':Region.wanted o (ei ops ρ)=false:=by simpa using hw
    simp only [hw'] at h1
    exact ⟨fun _ _=>trivial,jt hd hQ fuel _ _ _ _ (hs.put (hd i o ho) undef) h1⟩
theorem wpAny_of_AnyD {p:Nat} {r:Option Nat} {ds:List Deferred} {n:Nat} {Q':Exit→Act→World→Prop} (hd:∀ (i:Nat) o,ops[i]?=some o→dstOk n o.dst=true)
    (hQ:∀ ρ a w,Sat ds n ρ a→Q ρ w→Q' .normal a w):∀ (fuel:Nat) (listed:Array Bool) (ρ:Env) (a:Act) (w:World),Sat ds n ρ a→Inv B w0 w L→AnyD P ops B w0 L p Q fuel listed ρ→wpAnyIn (fen r) 0 P .any ops Q' fuel listed a w
  | 0,_,ρ,a,w,hs,hI,h=>⟨h.1,hQ _ _ _ hs (h.2 w hI)⟩
  | fuel+1,listed,ρ,a,w,hs,hI,h=>by
    refine ⟨fun h0=>hQ _ _ _ hs (h.1 h0 w hI),fun i hi=>?_⟩
    have h1:=h.2 i hi w hI
    have fin:∀ ρ' w' a',Sat ds n ρ' a'→((p≤i∧AnyW P ops Q fuel (listed.setIfInBounds i true) ρ' w')∨(i < p∧Inv B w0 w' L∧AnyD P ops B w0 L p Q fuel (listed.setIfInBounds i true) ρ'))→wpAnyIn (fen r) 0 P .any ops Q' fuel (listed.setIfInBounds i true) a' w':=fun ρ' w' a' hs' h=>by
      rcases h with ⟨_,h⟩ | ⟨_,hI',h⟩
      · exact jt hd hQ fuel _ ρ' a' w' hs' h
      exact wpAny_of_AnyD hd hQ fuel _ ρ' a' w' hs' hI' h
    unfold opX at h1
    unfold wpOpIn
    split
    · rename_i ho
      simp only [ho] at h1
      exact fin ρ w a hs h1
    rename_i o ho
    simp only [ho] at h1
    rw [hs.yielded]
    split
    · rename_i hw
      simp only [hw] at h1
      exact h1.toWp hs fun v w' h2=>fin _ w' _ (hs.put (hd i o ho) v) h2
    rename_i hw
    have hw':Region.wanted o (ei ops ρ)=false:=by simpa using hw
    simp only [hw'] at h1
    exact ⟨fun _ _=>trivial,fin _ w _ (hs.put (hd i o ho) undef) h1⟩
end any
theorem drop_at {α:Type} {l r:List α} {i:Nat} {x:α} (h:l.drop i=x :: r):l[i]?=some x∧l.drop (i+1)=r:=by
  have h1:(l.drop i)[0]?=some x:=by rw [h]; rfl
  rw [List.getElem?_drop] at h1
  refine ⟨h1,?_⟩
  rw [← List.drop_drop,h]; rfl
section lit
variable {P:Program} {l:List Oper} {B:List Nat} {w0:World} {L:List (Option Nat × Obj)} {Q:Env→World→Prop} {ρ:Env} {d:Option Nat} {op:Op} {ty:TypeId} {pos:String} {af:Array Edge} {rest:List Oper} {p q:Nat}
theorem anyW_of_seq:∀ (rest:List Oper) (i:Nat) (listed:Array Bool) (ρ:Env) (w:World),l.drop i=rest→p≤i→goAll l.toArray p rest.length i listed=true→Seq P l.toArray Q rest ρ w→AnyW P l.toArray Q rest.length listed ρ w
  | [],i,listed,ρ,w,hd,hp,hg,h=>by
    simp only [List.length_nil,goAll,List.isEmpty_iff] at hg
    exact ⟨hg,h⟩
  | o :: rest,i,listed,ρ,w,hd,hp,hg,h=>by
    have he:=drop_at hd
    simp only [List.length_cons,goAll,Bool.and_eq_true,if_neg (show ¬ i < p by omega),beq_iff_eq] at hg
    refine ⟨fun h0=>(by rw [hg.1] at h0; cases h0),fun j hj=>?_⟩
    rw [hg.1] at hj
    obtain rfl:=List.mem_singleton.1 hj
    have ho:l.toArray[j]?=some o:=by simpa using he.1
    unfold opX
    unfold Seq at h
    simp only [ho]
    split
    · rename_i hw
      simp only [hw] at h
      exact h.mono fun v w' hv=>anyW_of_seq rest (j+1) _ _ w' he.2 (by omega) hg.2 hv
    rename_i hw
    simp only [hw] at h
    exact anyW_of_seq rest (j+1) _ _ w he.2 (by omega) hg.2 h
def SA (P:Program) (l:List Oper) (p:Nat) (B:List Nat) (w0:World) (L:List (Option Nat × Obj)) (Q:Env→World→Prop) (q:Nat) (rest:List Oper) (ρ:Env):Prop :=
  ∀ i listed,Region.noSelect l.toArray=true→i+q=p→l.drop i=rest→Closed_ l.toArray listed→(∀ i j,i < p→p≤j→j < l.toArray.size→i∈markL l.toArray j (onsL l.toArray j))→goAll l.toArray p rest.length i listed=true→AnyD P l.toArray B w0 L p Q rest.length listed ρ
theorem z_any {o:Oper} (v:Value) (hl:Light P l.toArray B w0 L o v ρ) (h:SA P l p B w0 L Q q rest (ey ρ o.dst v)):SA P l p B w0 L Q (q+1) (o :: rest) ρ:=fun i listed hn hq hd hcl hre hg=>by
  have he:=drop_at hd
  have hip:i < p:=by omega
  simp only [List.length_cons,goAll,Bool.and_eq_true,if_pos hip,goB] at hg
  have hr:i∈Region.ready .any l.toArray listed:=by simpa using hg.1.1
  have ho:l.toArray[i]?=some o:=by simpa using he.1
  exact any_firstD hip ho (Region.noSelect_spec hn) (fun j h1 h2=>hre i j hip h1 h2) _ listed ρ hcl (Region.free_spec ho hg.1.2) hr hl (h (i+1) _ hn (by omega) he.2 (closed_set hcl hr) hre hg.2)
theorem zc (v:Value) (hl:∀ w,Inv B w0 w L→cw P ⟨d,op,ty,pos,af,none⟩ ρ w (fun v' w'=>v'=v∧Below w.heap.size w w')) (h:SA P l p B w0 L Q q rest (ey ρ d v)):SA P l p B w0 L Q (q+1) (⟨d,op,ty,pos,af,none⟩ :: rest) ρ :=
  z_any v (.inl ⟨rfl,hl⟩) h
theorem zo (v:Value) {j:Nat} {b:Bool} (hy:ei l.toArray ρ j=some b) (hl:∀ w,Inv B w0 w L→cw P ⟨d,op,ty,pos,af,some (j,b)⟩ ρ w (fun v' w'=>v'=v∧Below w.heap.size w w')) (h:SA P l p B w0 L Q q rest (ey ρ d v)):SA P l p B w0 L Q (q+1) (⟨d,op,ty,pos,af,some (j,b)⟩ :: rest) ρ :=
  z_any v (.inl ⟨by simp [Region.wanted,hy],hl⟩) h
def offsB (ops:Array Oper):Nat→List Oper→Env→Bool
  | n+1,o :: r,ρ=>!Region.wanted o (ei ops ρ) && offsB ops n r (ey ρ o.dst undef)
  | 0,_,_=>true
  | _,[],_=>false
def offsE:Nat→List Oper→Env→Env
  | n+1,o :: r,ρ=>offsE n r (ey ρ o.dst undef)
  | _,_,ρ=>ρ
theorem zf:∀ (n:Nat) {rest:List Oper} {ρ:Env},offsB l.toArray n rest ρ=true→SA P l p B w0 L Q q (rest.drop n) (offsE n rest ρ)→SA P l p B w0 L Q (q+n) rest ρ
  | 0,rest,ρ,_,h=>by unfold offsE at h; exact h
  | n+1,[],ρ,hc,h=>by simp [offsB] at hc
  | n+1,o :: rest,ρ,hc,h=>by
    simp only [offsB,Bool.and_eq_true,Bool.not_eq_true'] at hc
    exact z_any undef (.inr ⟨hc.1,rfl⟩) (zf n hc.2 h)
theorem sf {w:World}:∀ (n:Nat) {rest:List Oper} {ρ:Env},offsB l.toArray n rest ρ=true→Seq P l.toArray Q (rest.drop n) (offsE n rest ρ) w→Seq P l.toArray Q rest ρ w
  | 0,rest,ρ,_,h=>by unfold offsE at h; exact h
  | n+1,[],ρ,hc,h=>by simp [offsB] at hc
  | n+1,o :: rest,ρ,hc,h=>by
    simp only [offsB,Bool.and_eq_true,Bool.not_eq_true'] at hc
    unfold Seq
    simp only [hc.1]
    exact sf n hc.2 h
theorem zp (v:Value) (hl:∀ w,(execOp (ev ρ) ⟨d,op,ty,pos,af,none⟩).run P w=.ok (.value v) w) (h:SA P l p B w0 L Q q rest (ey ρ d v)):SA P l p B w0 L Q (q+1) (⟨d,op,ty,pos,af,none⟩ :: rest) ρ :=
  zc v (fun w _=>kl v (hl w) br) h
theorem zp2 {d1:Option Nat} {op1:Op} {ty1:TypeId} {pos1:String} {af1:Array Edge} {d2:Option Nat} {op2:Op} {ty2:TypeId} {pos2:String} {af2:Array Edge} (a1 a2:Value) (h:∀ w,((execOp (ev ρ) ⟨d1,op1,ty1,pos1,af1,none⟩).run P w,(execOp (ev (ey ρ d1 a1)) ⟨d2,op2,ty2,pos2,af2,none⟩).run P w)=(.ok (.value a1) w,.ok (.value a2) w)) (k:SA P l p B w0 L Q q rest (ey (ey ρ d1 a1) d2 a2)):SA P l p B w0 L Q (q+2) ((⟨d1,op1,ty1,pos1,af1,none⟩:Oper) :: (⟨d2,op2,ty2,pos2,af2,none⟩:Oper) :: rest) ρ :=
  zp a1 (fun w=>(congrArg Prod.fst (h w))) (zp a2 (fun w=>(congrArg Prod.snd (h w))) (k))
theorem zq (v:Value) {j:Nat} {b:Bool} (hy:ei l.toArray ρ j=some b) (hl:∀ w,(execOp (ev ρ) ⟨d,op,ty,pos,af,some (j,b)⟩).run P w=.ok (.value v) w) (h:SA P l p B w0 L Q q rest (ey ρ d v)):SA P l p B w0 L Q (q+1) (⟨d,op,ty,pos,af,some (j,b)⟩ :: rest) ρ :=
  zo v hy (fun w _=>kl v (hl w) br) h
theorem zh (h:∀ w,Inv B w0 w L→Seq P l.toArray Q rest ρ w):SA P l p B w0 L Q 0 rest ρ:=fun i listed hn hq hd hcl hre hg=>by
  obtain rfl:i=p:=by omega
  cases rest with
  | nil =>
    simp only [List.length_nil,goAll,List.isEmpty_iff] at hg
    exact ⟨hg,fun w hI=>h w hI⟩
  | cons o rest =>
    have he:=drop_at hd
    simp only [List.length_cons,goAll,Bool.and_eq_true,if_neg (Nat.lt_irrefl _),beq_iff_eq] at hg
    refine ⟨fun h0=>(by rw [hg.1] at h0; cases h0),fun j hj w hI=>?_⟩
    rw [hg.1] at hj
    obtain rfl:=List.mem_singleton.1 hj
    have ho:l.toArray[j]?=some o:=by simpa using he.1
    have h:=h w hI
    unfold opX
    unfold Seq at h
    simp only [ho]
    split
    · rename_i hw
      simp only [hw] at h
      exact h.mono fun v w' hv=>.inl ⟨Nat.le_refl _,anyW_of_seq rest (j+1) _ _ w' he.2 (by omega) hg.2 hv⟩
    rename_i hw
    simp only [hw] at h
    exact .inl ⟨Nat.le_refl _,anyW_of_seq rest (j+1) _ _ w he.2 (by omega) hg.2 h⟩
end lit
theorem gm {P:Program} {r:Option Nat} {ds:List Deferred} {n:Nat} {Q:List Deferred→Exit→Env→World→Prop} {ρ:Env} {B:List Nat} {w w0:World} {L:List (Option Nat × Obj)} {id:Nat} {l:List Oper} (p:Nat) (hI:Inv B w0 w L)
    (hc:litOk P n p l=true) (h:SA P l p B w0 L (Q ds .normal) p l ρ):WP r ds P n (.region id l.toArray true) Q ρ w:=by
  simp only [litOk,Bool.and_eq_true,decide_eq_true_eq] at hc
  obtain ⟨⟨⟨⟨⟨hm,hd⟩,hn⟩,hg⟩,hs⟩,hp⟩:=hc
  have h1:=h 0 (Array.replicate l.length false) hn (by omega) rfl (fun a o _ hl=>by simp [Array.getElem?_replicate] at hl; split at hl <;> simp at hl) (fun i j hi hj hz=>by
    simp only [sinks,List.all_eq_true,List.mem_range,Bool.or_eq_true,decide_eq_true_eq] at hs
    rcases hs j hz with h2 | h2
    · omega
    simpa using h2 i hi) hg
  exact ⟨fun a hs=>wpIn_region_any hm (by
    have:=wpAny_of_AnyD (P:=P) (r:=r) (ds:=ds) (ops:=l.toArray) (Q:=Q ds .normal) (Q':=fun e a' w'=>∃ ds' ρ',Sat ds' n ρ' a'∧Q ds' e ρ' w') (fun i o ho=>by
      simp only [dstsOk,List.all_eq_true] at hd
      exact hd o (List.mem_of_getElem? (by simpa using ho))) (fun ρ a w hs hk=>⟨ds,ρ,hs,hk⟩) l.length (Array.replicate l.length false) ρ a { w with drawn:=w.drawn+1 } hs (hI.drew) h1
    simpa using this)⟩
attribute [irreducible] SA
end Go.K
end
