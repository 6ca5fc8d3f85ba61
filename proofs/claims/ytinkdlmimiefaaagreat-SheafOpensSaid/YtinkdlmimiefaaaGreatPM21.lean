import Derived.Test.YtinkdlmimiefaaaGreatProg
import Derived.Test.YtinkdlmimiefaaaGreatPM19
import Derived.Maps.RangeRun
namespace Go.K
open Go.Proofs.Tryz
open Go.Proofs Go.RowKit
set_option linter.unusedVariables false
set_option linter.unusedSimpArgs false
set_option maxRecDepth 100000
attribute [local irreducible] Seq cw cx fl opX

def it (mb ck:Nat) (vis:List En):Obj:=.mapIter (some mb) ck (vis.map En.born).toArray ck
section steps
variable {P:Program} {ρ:Env} {B:List Nat} {w w0:World} {L:List (Option Nat × Obj)} {R:Value→World→Prop} {d:Option Nat} {ty:TypeId} {pos:String} {af:Array Edge} {gd:Option (Nat × Bool)}
theorem s_lookupBM (hI:Inv B w0 w L) {T K E:TypeId} {kd:IntKind} {z:Value} {x y:Operand} {b:Nat} {k:Int} {es:List En} {clk:Nat} (v:Value) (hT:P.underlying T=some (.map K E)) (hK:P.underlying K=some (.int kd)) (hz:∀ w,(zeroValue E).run P w=.ok z w)
    (hb:w0.heap[b]?=some (fp es clk)) (hB:¬ b∈B) (hx:ev ρ x=.map (some b)) (hy:ev ρ y=.int .i64 k) (hv:(el es k).getD z=v) (kk:R v w):cw P ⟨d,.lookup T x y false,ty,pos,af,gd⟩ ρ w R:=by
  have hb':w.heap[b]?=some (fp es clk):=(hI.but.block b (iz hb) hB).trans hb
  subst hv
  refine kl _ ?_ kk
  have:execOp (ev ρ) ⟨d,.lookup T x y false,ty,pos,af,gd⟩=(do pure (.value (← Instr.lookup T (ev ρ x) (ev ρ y) false))):=rfl
  rw [this,hx,hy,Sem.run_bind,run_lookup hT hK hz k hb']
  rfl
theorem s_range (hI:Inv B w0 w L) {T K E:TypeId} {x:Operand} {mb:Nat} {es:List En} {ck:Nat} (hT:P.underlying T=some (.map K E)) (hx:ev ρ x=.map (some mb)) (hm:w.heap[mb]?=some (fp es ck))
    (k:∀ r w',Inv B w0 w' ((some r,it mb ck []) :: L)→R (.pointer (some ⟨r,0,none⟩)) w'):cw P ⟨d,.range T x,ty,pos,af,gd⟩ ρ w R:=by
  have h:(execOp (ev ρ) ⟨d,.range T x,ty,pos,af,gd⟩).run P w=.ok (.value (.pointer (some ⟨w.heap.size,0,none⟩))) (w.alloc (it mb ck [])):=by
    have:execOp (ev ρ) ⟨d,.range T x,ty,pos,af,gd⟩=(do pure (.value (← Instr.range T (ev ρ x)))):=rfl
    rw [this,hx]
    have hgo:(getObj mb).run P w=.ok (fp es ck) w:=by simp [getObj,Sem.run,hm]
    simp [Instr.range,run_underlying hT,Sem.run_bind,hgo,Result.andThen,it]
  unfold cw; rw [h]; exact k _ _ (hI.alloc _)
theorem s_next (hI:Inv B w0 w L) {x:Operand} {r mb:Nat} {es:List En} {ck:Nat} {vis:List En} (ix:Nat) (hx:ev ρ x=.pointer (some ⟨r,0,none⟩)) (hL:L[ix]?=some (some r,it mb ck vis)) (hm:w.heap[mb]?=some (fp es ck)) (ho:MOk es ck)
    (kT:∀ e w',e∈es→e.born ∉ vis.map En.born→Inv B w0 w' (L.set ix (some r,it mb ck (vis++[e])))→R (.tuple #[.bool true,.int .i64 e.key,e.val]) w')
    (kF:(∀ e∈es,e.born∈vis.map En.born)→R (.tuple #[.bool false]) w):cw P ⟨d,.next x false,ty,pos,af,gd⟩ ρ w R:=by
  have hr:=(hI.has ix r _ hL).1
  have he:execOp (ev ρ) ⟨d,.next x false,ty,pos,af,gd⟩=(do pure (.value (← Instr.next (ev ρ x) false ty))):=rfl
  rcases run_next_at (P:=P) w ty r mb ck ck (vis.map En.born).toArray (es.map toE).toArray ck hr hm (fun e he=>by
    simp only [List.mem_map] at he
    obtain ⟨e',he',rfl⟩:=he
    exact ho.lt e' he') (Nat.le_refl _) with ⟨h0,hrun⟩ | ⟨e,hmem,w1,hw1,hrun⟩
  · refine kl (.tuple #[.bool false]) (by rw [he,hx,Sem.run_bind,hrun]; rfl) (kF fun e hm'=>?_)
    have h1:(leftOf (es.map toE).toArray (vis.map En.born).toArray) = #[]:=Array.eq_empty_of_size_eq_zero h0
    unfold leftOf at h1
    rw [Array.filter_eq_empty_iff] at h1
    have:=h1 (toE e) (by simpa using ⟨e,hm',rfl⟩)
    simpa [toE] using this
  unfold leftOf at hmem
  simp only [Array.mem_toList_iff,Array.mem_filter,List.mem_toArray,List.mem_map] at hmem
  obtain ⟨⟨e',he',rfl⟩,hno⟩:=hmem
  have hI1:Inv B w0 w1 L:=by rcases hw1 with rfl | rfl; exact hI; exact hI.drew
  have h:(execOp (ev ρ) ⟨d,.next x false,ty,pos,af,gd⟩).run P w=.ok (.value (.tuple #[.bool true,.int .i64 e'.key,e'.val])) (w1.putObj r (it mb ck (vis++[e']))):=by
    rw [he,hx,Sem.run_bind,hrun]
    have e1:it mb ck (vis++[e'])=.mapIter (some mb) ck ((vis.map En.born).toArray.push (toE e').born) ck:=by simp [it,toE]
    rw [e1]; rfl
  unfold cw; rw [h]
  refine kT e' _ he' (by simpa [toE] using hno) ?_
  exact hI1.turn (i:=ix) hL rfl rfl rfl (by rw [World.putObj_size]; exact Nat.le_refl _) (fun k _ hk=>World.putObj_heap_other fun e=>hk (by rw [e])) (fun b hb=>by
    injection hb with hb; subst hb; exact World.putObj_heap_same (hI1.lt hL))
theorem s_entry (hI:Inv B w0 w L) {x:Operand} {r mb:Nat} {es:List En} {ck:Nat} {vis:List En} {e:En} (ix:Nat) (hx:ev ρ x=.pointer (some ⟨r,0,none⟩)) (hL:L[ix]?=some (some r,it mb ck (vis++[e]))) (hm:w.heap[mb]?=some (fp es ck)) (ho:MOk es ck) (he:e∈es)
    (k:R (.tuple #[.int .i64 e.key,e.val]) w):cw P ⟨d,.entry x,ty,pos,af,gd⟩ ρ w R:=by
  have hr:=(hI.has ix r _ hL).1
  refine kl _ ?_ k
  have h1:execOp (ev ρ) ⟨d,.entry x,ty,pos,af,gd⟩=(do pure (.value (← Instr.entry (ev ρ x)))):=rfl
  have e1:it mb ck (vis++[e])=.mapIter (some mb) ck ((vis.map En.born).toArray.push (toE e).born) ck:=by simp [it,toE]
  rw [e1] at hr
  rw [h1,hx,Sem.run_bind,run_entry_at w r mb ck _ _ ck (toE e) hr hm (by simpa using ⟨e,he,rfl⟩) (by simpa [toE,Function.comp_def] using ho.borns)]
  rfl
theorem map_erase {α β:Type} (f:α→β):∀ (l:List α) (n:Nat),(l.map f).eraseIdx n=(l.eraseIdx n).map f
  | [],_=>by simp
  | a :: l,0=>by simp
  | a :: l,n+1=>by simp [map_erase f l n]
theorem mfind_none:∀ (es:List En) (k:Int) (i:Nat),mfind es k i=none→el es k=none
  | [],_,_,_=>rfl
  | e :: es,k,i,h=>by
    simp only [mfind] at h
    simp only [el]
    split at h
    · cases h
    rename_i hne; rw [if_neg hne]; exact mfind_none es k (i+1) h
theorem mget_erase:∀ (es:List En) (n:Nat) (e:En),(es.map En.key).Nodup→es[n]?=some e→∀ k,el (es.eraseIdx n) k=if k=e.key then none else el es k
  | [],_,_,_,h,_=>by simp at h
  | a :: es,0,e,hn,h,k=>by
    simp only [List.getElem?_cons_zero,Option.some.injEq] at h
    subst h
    simp only [List.eraseIdx_cons_zero,el]
    by_cases hk:k=a.key
    · rw [if_pos hk]
      cases hq:el es k with
      | none=>rfl
      | some v =>
        have:k∈es.map En.key:=by
          clear hn
          induction es with
          | nil=>cases hq
          | cons b es ih =>
            simp only [el] at hq
            split at hq
            · rename_i hb; simp [hb]
            simp [ih hq]
        rw [List.map_cons,List.nodup_cons] at hn
        exact absurd (hk ▸ this) hn.1
    rw [if_neg hk,if_neg hk]
  | a :: es,n+1,e,hn,h,k=>by
    rw [List.map_cons,List.nodup_cons] at hn
    rw [List.getElem?_cons_succ] at h
    simp only [List.eraseIdx_cons_succ,el]
    rw [mget_erase es n e hn.2 h k]
    by_cases hk:k=e.key
    · have hne:¬ k=a.key:=fun ha=>hn.1 (by rw [← ha,hk]; exact List.mem_map.2 ⟨e,List.mem_of_getElem? h,rfl⟩)
      rw [if_neg hne,if_pos hk,if_pos hk]
    rw [if_neg hk,if_neg hk]
theorem s_delete (hI:Inv B w0 w L) {T K E:TypeId} {kd:IntKind} {m x:Operand} {b:Nat} {k:Int} {es:List En} {clk:Nat} (hT:P.underlying T=some (.map K E)) (hK:P.underlying K=some (.int kd)) (i:Nat)
    (hm:ev ρ m=.map (some b)) (hx:ev ρ x=.int .i64 k) (hL:L[i]?=some (some b,fp es clk)) (ho:MOk es clk) {K2:TypeId}
    (kk:∀ es' w',Inv B w0 w' (L.set i (some b,fp es' clk))→MOk es' clk→(∀ j,el es' j=if j=k then none else el es j)→R (.tuple #[]) w'):cw P ⟨d,.call ⟨.builtin .delete,#[m,x],#[T,K2]⟩,ty,pos,af,gd⟩ ρ w R:=by
  have hb:=(hI.has i b _ hL).1
  have key:∃ es',(Builtin.delete_ #[T,K2] ty #[.map (some b),.int .i64 k]).run P w=.ok (.tuple #[]) (w.putObj b (fp es' clk))∧MOk es' clk∧(∀ j,el es' j=if j=k then none else el es j):=by
    have hgo:(getObj b).run P w=.ok (fp es clk) w:=by simp [getObj,Sem.run,hb]
    have hf:=run_findKey (P:=P) hK es k w
    have hck:=run_checkKey (P:=P) K k kd hK (es.map toE).toArray.isEmpty w
    cases hq:mfind es k 0 with
    | none =>
      refine ⟨es,?_,ho,fun j=>?_⟩
      · rw [hq] at hf
        simp only [Builtin.delete_,Sem.run_bind,run_underlying hT,hgo,Result.andThen,List.getElem?_toArray,List.getElem?_cons_zero,List.getElem?_cons_succ,Sem.run_pure]
        simp only [hck,hf]
        simp [setObj,Sem.run,hb,World.putObj]
      by_cases hj:j=k
      · rw [if_pos hj,hj]; exact mfind_none es k 0 hq
      rw [if_neg hj]
    | some p =>
      obtain ⟨n,v⟩:=p
      obtain ⟨_,e,he,hek⟩:=mfind_at es k 0 n v hq
      rw [Nat.sub_zero] at he
      refine ⟨es.eraseIdx n,?_,⟨?_,?_,fun e' h'=>ho.lt e' (List.mem_of_mem_eraseIdx h')⟩,fun j=>?_⟩
      · rw [hq] at hf
        simp only [Builtin.delete_,Sem.run_bind,run_underlying hT,hgo,Result.andThen,List.getElem?_toArray,List.getElem?_cons_zero,List.getElem?_cons_succ,Sem.run_pure]
        simp only [hck,hf]
        have hlt:=bu he
        have e1:(es.map toE).toArray.eraseIdxIfInBounds n=((es.eraseIdx n).map toE).toArray:=by
          have hlt':n < (es.map toE).toArray.size:=by simpa using hlt
          rw [Array.eraseIdxIfInBounds,dif_pos hlt']
          apply Array.ext'
          rw [Array.toList_eraseIdx]
          exact map_erase toE es n
        rw [e1]
        simp [setObj,Sem.run,hb,World.putObj]
      · exact ho.keys.sublist ((List.eraseIdx_sublist _ _).map _)
      · exact ho.borns.sublist ((List.eraseIdx_sublist _ _).map _)
      rw [mget_erase es n e ho.keys he j,hek]
  obtain ⟨es',hrun,ho',hg⟩:=key
  have h:(execOp (ev ρ) ⟨d,.call ⟨.builtin .delete,#[m,x],#[T,K2]⟩,ty,pos,af,gd⟩).run P w=.ok (.value (.tuple #[])) (w.putObj b (fp es' clk)):=by
    simp [execOp,resolve,invoke,builtin,hm,hx,hrun]
  unfold cw; rw [h]
  exact kk es' _ (hI.turn (i:=i) hL rfl rfl rfl (by rw [World.putObj_size]; exact Nat.le_refl _) (fun k _ hk=>World.putObj_heap_other fun e=>hk (by rw [e])) (fun b' hb'=>by
      injection hb' with hb'; subst hb'; exact World.putObj_heap_same (hI.lt hL))) ho' hg
end steps

theorem hS_of {es:List En} {S:Int→Bool} (hT:∀ j,el es j=if S j then some kg else none):∀ j,(el es j).getD kf=.bool (S j):=fun j=>by
  rw [hT j]; cases S j <;> rfl
def srcB (q:Pl) (j:Int):Bool:=decide (j∈q.loads.map Ld.src++q.stands.map Ld.src)
theorem src_step {α:Type} {f:α→Int} {P:List Int} {l:List α} {k:Nat} {x:α} (hx:l[k]?=some x) (j:Int):(if j=f x then true else decide (j∈P++(l.take k).map f))=decide (j∈P++(l.take (k+1)).map f):=by
  rw [fe hx,List.map_append]
  by_cases h:j=f x
  · rw [if_pos h,decide_eq_true]; simp [h]
  rw [if_neg h]; simp [h]
def byC (cs:List Ld) (S:Int→Bool):List Ld:=cs.map fun x=>if S x.src then x else ⟨x.src,x.hr,0,10000,x.kn,x.un⟩
def byP (p:Pl) (S:Int→Bool):Pl:={ p with stands:=p.stands.filter fun x=>S x.src }
theorem row_part {α:Type} {enc:α→List Value} {k:Nat} (hk:∀ x,(enc x).length=k) (hk0:0 < k) {g:Option Nat} {n c:Nat} {cl:List Value} {M:List α} (hr:Row k g n c cl (al enc M)) {i:Nat} {x y:α} (hx:M[i]?=some x) (fo:Nat) (vs:List Value) (hf:fo+vs.length≤k) (he:putCells (enc x) fo vs=enc y) :
    Row k g n c (putCells cl (i * k+fo) vs) (al enc (M.set i y)):=by
  have hn:=hr.n_eq hk hk0
  have hi:=bu hx
  have hle:i * k+k≤cl.length:=hr.room (by omega)
  have hA:(cl.take (i * k)).length=i * k:=by rw [List.length_take]; omega
  have hmid:(cl.drop (i * k)).take k=enc x:=by
    have h1:cl.take (n * k)=al enc M:=hr.head
    have h2:((cl.take (n * k)).drop (i * k)).take k=((al enc M).drop (i * k)).take k:=by rw [h1]
    rw [flat_drop hk,List.drop_eq_getElem_cons hi] at h2
    rw [List.getElem?_eq_getElem hi] at hx
    injection hx with hx
    rw [hx,flat_cons,List.take_left' (hk x)] at h2
    rw [← h2,List.drop_take,List.take_take]
    congr 1
    have:i * k+k≤n * k:=by rw [← Nat.succ_mul]; exact Nat.mul_le_mul_right k (by omega)
    omega
  have hcl:cl=cl.take (i * k)++(enc x++cl.drop (i * k+k)):=by
    rw [← hmid,← List.drop_drop,List.take_append_drop,List.take_append_drop]
  have e1:putCells cl (i * k+fo) vs=cl.take (i * k)++(putCells (enc x) fo vs++cl.drop (i * k+k)):=by
    conv=>lhs; rw [hcl]
    rw [put_append _ _ _ _ (by rw [hA]; omega),hA,Nat.add_sub_cancel_left,put_left _ _ _ _ (by rw [hk]; omega)]
  have e2:putCells cl (i * k) (enc y)=cl.take (i * k)++(enc y++cl.drop (i * k+k)):=by
    conv=>lhs; rw [hcl]
    rw [put_append _ _ _ _ (by rw [hA]; exact Nat.le_refl _),hA,Nat.sub_self,put_left _ _ _ _ (by rw [hk,hk]; omega),put_all _ _ (by rw [hk,hk])]
  have e:putCells cl (i * k+fo) vs=putCells cl (i * k) (enc y):=by rw [e1,e2,he]
  rw [e]
  exact hr.put hk hk0 i y (by omega)
theorem byC_step {cs:List Ld} {S:Int→Bool} {k:Nat} {x y:Ld} (hx:cs[k]?=some x) (hy:(if S x.src then x else ⟨x.src,x.hr,0,10000,x.kn,x.un⟩)=y):(byC (cs.take k) S++cs.drop k).set k y=byC (cs.take (k+1)) S++cs.drop (k+1):=by
  have hl:=bu hx
  have e:(byC (cs.take k) S).length=k:=by simp [byC]; omega
  rw [List.set_append_right _ _ (by omega),e,Nat.sub_self,List.drop_eq_getElem_cons hl,List.set_cons_zero,fe hx,← hy]
  simp [byC]
theorem byC_get {cs:List Ld} {S:Int→Bool} {k:Nat} {x:Ld} (hx:(byC (cs.take k) S++cs.drop k)[k]?=some x):cs[k]?=some x:=by
  have hlen:(byC (cs.take k) S++cs.drop k).length=cs.length:=by simp [byC]; omega
  have hl:=bu hx
  rw [hlen] at hl
  have e:(byC (cs.take k) S).length=k:=by simp [byC]; omega
  rw [List.getElem?_append_right (by omega),e,Nat.sub_self,List.getElem?_drop] at hx
  simpa using hx
theorem own_ne {w0 w:World} {L:List (Option Nat × Obj)} (hI:Inv []  w0 w L) (i:Nat) {g:Option Nat} {o p:Obj} (hi:L[i]?=some (g,o)) {b:Nat} (hb:w0.heap[b]?=some p):g≠some b:=fun e=>by
  subst e
  rcases (hI.has i b o hi).2 with h | h
  · have:=iz hb; omega
  cases h
theorem sortM_perm {l m:List Int} (h:l.Perm m):js l=js m:=by
  have tr:∀ (a b c:Int),decide (a≤b)=true→decide (b≤c)=true→decide (a≤c)=true:=by intro a b c; simp; omega
  have to:∀ (a b:Int),(decide (a≤b) || decide (b≤a))=true:=by intro a b; simp; omega
  refine List.Perm.eq_of_pairwise (le:=fun a b=>decide (a≤b)=true) (fun a b _ _ h1 h2=>by simp at h1 h2; omega) (List.pairwise_mergeSort tr to l) (List.pairwise_mergeSort tr to m) ?_
  exact (List.mergeSort_perm l _).trans (h.trans (List.mergeSort_perm m _).symm)
structure Vis (es vis:List En):Prop where
  mem:∀ e∈vis,e∈es
  nd:(vis.map En.born).Nodup
theorem Vis.more {es vis:List En} (h:Vis es vis) {e:En} (he:e∈es) (hb:e.born ∉ vis.map En.born):Vis es (vis++[e]):=by
  refine ⟨fun x hx=>?_,?_⟩
  · rcases List.mem_append.1 hx with h1 | h1
    · exact h.mem x h1
    rw [List.mem_singleton] at h1; rw [h1]; exact he
  rw [List.map_append,List.nodup_append]
  refine ⟨h.nd,by simp,fun a ha b hb'=>?_⟩
  simp only [List.map_cons,List.map_nil,List.mem_singleton] at hb'
  subst hb'
  intro e'
  subst e'
  exact hb ha
theorem nodup_of_map {α β:Type} {f:α→β}:∀ {l:List α},(l.map f).Nodup→l.Nodup
  | [],_=>List.nodup_nil
  | a :: l,h=>by
    rw [List.map_cons,List.nodup_cons] at h
    rw [List.nodup_cons]
    exact ⟨fun ha=>h.1 (List.mem_map.2 ⟨a,ha,rfl⟩),nodup_of_map h.2⟩
theorem inj_of_nodup {α β:Type} {f:α→β}:∀ {l:List α},(l.map f).Nodup→∀ {x y:α},x∈l→y∈l→f x=f y→x=y
  | a :: l,h,x,y,hx,hy,e=>by
    rw [List.map_cons,List.nodup_cons] at h
    rcases List.mem_cons.1 hx with h1 | h1 <;> rcases List.mem_cons.1 hy with h2 | h2
    · rw [h1,h2]
    · subst h1; exact absurd (List.mem_map.2 ⟨y,h2,e.symm⟩) h.1
    · subst h2; exact absurd (List.mem_map.2 ⟨x,h1,e⟩) h.1
    exact inj_of_nodup h.2 h1 h2 e
theorem Vis.perm {es vis:List En} {ck:Nat} (h:Vis es vis) (ho:MOk es ck) (hall:∀ e∈es,e.born∈vis.map En.born):vis.Perm es:=by
  refine (List.perm_ext_iff_of_nodup (nodup_of_map h.nd) (nodup_of_map ho.borns)).2 fun a=>⟨h.mem a,fun ha=>?_⟩
  obtain ⟨b,hb,e⟩:=List.mem_map.1 (hall a ha)
  rw [← inj_of_nodup ho.borns (h.mem b hb) ha e]; exact hb
theorem vis_le {es vis:List En} (h:Vis es vis):vis.length≤es.length:=(nodup_of_map h.nd).length_le_of_subset (fun x hx=>h.mem x hx)


theorem sourcesOf_c (w0:World) (pl:Pl) (f:Option Addr) (d g:Nat) (h:Option Addr) (e k:Nat) (o:Option Addr) (q r:Nat) (cs:List Ld) (s:Option Addr) (t u:Nat) (hSc:ScIn w0 pl f d g h e k o q r cs s t u):bn Tryz.prog 90 [.agg (qn7 pl.lo pl.hi f d g h e k o q r pl.geese s t u).toArray] w0 fun v w=>∃ mb es ck,v=.map (some mb)∧Inv []  w0 w [(some mb,fp es ck)]∧MOk es ck∧∀ j,el es j=if srcB pl j then some kg else none:=by
 have hm1:=hSc.p.m1; have hm2:=hSc.p.m2; have hm3:=hSc.p.m3; have hm4:=hSc.m4; have hk4:=hSc.k4; have hz1:=hSc.z1; have hz2:=hSc.z2; have hz3:=hSc.z3; have hz4:=hSc.z4
 refine az (n:=34) func90 rfl ntmps90 rfl ?_
 have hI:=Inv.start w0
 refine ab (rgn rfl (ac (ca hI (qn7 pl.lo pl.hi f d g h e k o q r pl.geese s t u) rfl fun b1 w hI=>pu (.map none) rfl (aa (ab (rgn rfl (ac (s_makeMap hI fun b2 w hI=>pu (.map (some b2)) rfl (aa (ab (ab (rgn rfl (pu (.pointer (some ⟨b1,0,none⟩)) rfl (pu (.pointer (some ⟨b1,2,none⟩)) rfl (ac (ag hI 1 (.slice f d g) isAgg24 rfl rfl rfl ?_))))))))))))))))
 refine pu (iv ((d:Nat):Int)) (by kernel_rfl) (pu (iv 0) rfl (aa (au ?_)))
 have hT8:∀ j,el ([]:List En) j=if (fun _=>false) j then some kg else none:=fun _=>rfl
 refine cb (fun m ρ w=>∃ (k0:Nat) (es0_:List En) (ck0_:Nat),cd ρ [(1,.pointer (some ⟨b1,0,none⟩)),(3,.map (some b2)),(11,.slice f d g),(12,iv (d:Int)),(13,iv (k0:Int))]∧Inv []  w0 w [(some b2,fp es0_ ck0_),(some b1,blk (qn7 pl.lo pl.hi f d g h e k o q r pl.geese s t u) 116)]∧(k0≤d)∧(MOk es0_ ck0_)∧(∀ j,el es0_ j=if (fun j=>decide (j∈([]:List Int)++(pl.loads.take k0).map Ld.src)) j then some kg else none)∧m=d - k0) (m:=d - 0) ⟨0,[],0,⟨rfl,rfl,rfl,rfl,rfl,trivial⟩,hI.pk [0,1] rfl rfl,(by omega),MOk.nilM,(fun j=>by rw [hT8 j]; simp),rfl⟩ ?_
 rintro m ρ w ⟨k0,es0_,ck0_,hag,hI,hk0,ho0_,hT0_,hm⟩
 obtain ⟨ρ,rfl⟩:=hag.form; clear hag
 refine ab (rgn rfl (ac (cm rfl rfl ?_ ?_)))
 ·intro h1
  refine aa (ab (ah rfl (ak (ab (au ?_)))))
  refine ab (rgn rfl ?_)
  obtain ⟨x3,hx4⟩:=bq (l:=pl.loads) (i:=k0) (by omega)
  obtain ⟨b5,o6,hA7,hb8,he9⟩:=hSc.p.c1.at_ bf (by decide) hx4
  refine ac (cn k0 underlying24 sizeOf30 rfl hA7 rfl rfl (by omega) ?_)
  refine ac (ef hI (eLd x3) isAgg30 sizeOf30 rfl rfl hb8 (by simp) he9 ?_)
  refine ac (bh hI [iv 0,iv 0,iv 0,iv 0,iv 0,iv 0] zeroValue30 rfl fun A w hI=>ac (aq hI 0 6 (eLd x3) sizeOf30 rfl rfl rfl rfl rfl (kh rfl) fun w hI=>aa (rgn rfl (pu (.map (some b2)) rfl (pu (.pointer (some ⟨A,0,none⟩)) rfl (ac (ag hI 0 (iv x3.src) isAgg3 rfl rfl rfl ?_)))))))
  refine ac (ii hI underlying103 underlying3 1 rfl rfl rfl rfl ho0_ ?_)
  intro x B w hI C hg14
  have hS15:∀ j,(el x j).getD kf=.bool ((fun j=>if j=x3.src then true else (fun j=>decide (j∈([]:List Int)++(pl.loads.take k0).map Ld.src)) j) j):=fun j=>by rw [hg14 j]; show _=Value.bool (if j=x3.src then true else (fun j=>decide (j∈([]:List Int)++(pl.loads.take k0).map Ld.src)) j); by_cases hj:j=x3.src; (rw [if_pos hj,if_pos hj]; rfl); (rw [if_neg hj,if_neg hj]; exact (hS_of hT0_) j)
  have hT16:∀ j,el x j=if (fun j=>if j=x3.src then true else (fun j=>decide (j∈([]:List Int)++(pl.loads.take k0).map Ld.src)) j) j then some kg else none:=fun j=>by rw [hg14 j]; show _=if (if j=x3.src then true else (fun j=>decide (j∈([]:List Int)++(pl.loads.take k0).map Ld.src)) j)=true then some (Value.bool true) else none; by_cases hj:j=x3.src; (rw [if_pos hj,if_pos hj]; rfl); (rw [if_neg hj,if_neg hj]; exact hT0_ j)
  refine aa (rgn rfl (ac (cj rfl rfl (by omega) ?_)))
  refine pu (iv ((k0:Int)+1)) rfl (aa ?_)
  exact ⟨rfl,_,(by omega),⟨k0+1,x,B,⟨rfl,rfl,rfl,rfl,rfl,trivial⟩,hI.pk [1,2] rfl rfl,(by omega),C,(fun j=>(hT16 j).trans (congrArg (fun b:Bool=>if b=true then some (Value.bool true) else none) (src_step (P:=([]:List Int)) hx4 j))),rfl⟩⟩
 intro h2
 refine aa (ab (ai rfl (bw ?_)))
 refine ab (ab (rgn rfl (pu (.pointer (some ⟨b1,0,none⟩)) rfl (pu (.pointer (some ⟨b1,3,none⟩)) rfl (ac (ag hI 1 (.slice h e k) isAgg25 rfl rfl rfl ?_))))))
 refine pu (iv ((e:Nat):Int)) (by kernel_rfl) (pu (iv 0) rfl (aa (au ?_)))
 have hT8:=hT0_
 refine cb (fun m ρ w=>∃ (k1:Nat) (es1_:List En) (ck1_:Nat),cd ρ [(3,.map (some b2)),(23,.slice h e k),(24,iv (e:Int)),(25,iv (k1:Int))]∧Inv []  w0 w [(some b2,fp es1_ ck1_),(some b1,blk (qn7 pl.lo pl.hi f d g h e k o q r pl.geese s t u) 116)]∧(k1≤e)∧(MOk es1_ ck1_)∧(∀ j,el es1_ j=if (fun j=>decide (j∈pl.loads.map Ld.src++(pl.stands.take k1).map Ld.src)) j then some kg else none)∧m=e - k1) (m:=e - 0) ⟨0,es0_,ck0_,⟨rfl,rfl,rfl,rfl,trivial⟩,hI.pk [0,1] rfl rfl,(by omega),ho0_,(fun j=>by rw [hT8 j,List.take_of_length_le (by omega)]; simp),rfl⟩ ?_
 rintro m ρ w ⟨k1,es1_,ck1_,hag,hI,hk1,ho1_,hT1_,hm⟩
 obtain ⟨ρ,rfl⟩:=hag.form; clear hag
 refine ab (rgn rfl (ac (cm rfl rfl ?_ ?_)))
 ·intro h3
  refine aa (ab (ah rfl (ak (ab (au ?_)))))
  refine ab (rgn rfl ?_)
  obtain ⟨a,z⟩:=bq (l:=pl.stands) (i:=k1) (by omega)
  obtain ⟨J,K,D,E,F⟩:=hSc.p.c2.at_ bf (by decide) z
  refine ac (cn k1 underlying25 sizeOf31 rfl D rfl rfl (by omega) ?_)
  refine ac (ef hI (eLd a) isAgg31 sizeOf31 rfl rfl E (by simp) F ?_)
  refine ac (bh hI [iv 0,iv 0,iv 0,iv 0,iv 0,iv 0] zeroValue31 rfl fun G w hI=>ac (aq hI 0 6 (eLd a) sizeOf31 rfl rfl rfl rfl rfl (kh rfl) fun w hI=>aa (rgn rfl (pu (.map (some b2)) rfl (pu (.pointer (some ⟨G,0,none⟩)) rfl (ac (ag hI 0 (iv a.src) isAgg3 rfl rfl rfl ?_)))))))
  refine ac (ii hI underlying103 underlying3 1 rfl rfl rfl rfl ho1_ ?_)
  intro y H w hI I hg28
  have hS29:∀ j,(el y j).getD kf=.bool ((fun j=>if j=a.src then true else (fun j=>decide (j∈pl.loads.map Ld.src++(pl.stands.take k1).map Ld.src)) j) j):=fun j=>by rw [hg28 j]; show _=Value.bool (if j=a.src then true else (fun j=>decide (j∈pl.loads.map Ld.src++(pl.stands.take k1).map Ld.src)) j); by_cases hj:j=a.src; (rw [if_pos hj,if_pos hj]; rfl); (rw [if_neg hj,if_neg hj]; exact (hS_of hT1_) j)
  have hT30:∀ j,el y j=if (fun j=>if j=a.src then true else (fun j=>decide (j∈pl.loads.map Ld.src++(pl.stands.take k1).map Ld.src)) j) j then some kg else none:=fun j=>by rw [hg28 j]; show _=if (if j=a.src then true else (fun j=>decide (j∈pl.loads.map Ld.src++(pl.stands.take k1).map Ld.src)) j)=true then some (Value.bool true) else none; by_cases hj:j=a.src; (rw [if_pos hj,if_pos hj]; rfl); (rw [if_neg hj,if_neg hj]; exact hT1_ j)
  refine aa (rgn rfl (ac (cj rfl rfl (by omega) ?_)))
  refine pu (iv ((k1:Int)+1)) rfl (aa ?_)
  exact ⟨rfl,_,(by omega),⟨k1+1,y,H,⟨rfl,rfl,rfl,rfl,trivial⟩,hI.pk [1,2] rfl rfl,(by omega),I,(fun j=>(hT30 j).trans (congrArg (fun b:Bool=>if b=true then some (Value.bool true) else none) (src_step (P:=pl.loads.map Ld.src) z j))),rfl⟩⟩
 intro h4
 refine aa (ab (ai rfl (bw ?_)))
 refine ab (rgn rfl (pu (.map (some b2)) rfl (pu (.map (some b2)) rfl (aa (aj ?_)))))
 exact ⟨.map (some b2),Ret.r1 rfl rfl,⟨b2,es1_,ck1_,rfl,hI.pk [0] rfl rfl,ho1_,(fun j=>by rw [hT1_ j,List.take_of_length_le (by omega)]; rfl)⟩⟩

theorem list_set_self {α:Type} {M:List α} {i:Nat} {x:α} (hx:M[i]?=some x):M.set i x=M:=by
  apply List.ext_getElem?
  intro q
  by_cases e:i=q
  · subst e; rw [List.getElem?_set_self (bu hx),hx]
  rw [List.getElem?_set_ne e]
theorem byC_len (cs:List Ld) (S:Int→Bool):(byC cs S).length=cs.length:=by simp [byC]


theorem by1_c (w0:World) (y:Ld) (bx:Nat) (mb ck:Nat) (es:List En) (S:Int→Bool) (hmap:w0.heap[mb]?=some (fp es ck)) (hS:∀ j,(el es j).getD kf=.bool (S j)) (hb:w0.heap[bx]?=some (blk [.map (some mb)] 103)):bn Tryz.prog 146 [.agg (eLd y).toArray,.pointer (some ⟨bx,0,none⟩)] w0 fun v w=>v=.bool (!S y.src)∧Below w0.heap.size w0 w:=by
 refine az (n:=9) func146 rfl ntmps146 rfl ?_
 have hI:=Inv.start w0
 refine ab (rgn rfl (ac (ca hI (eLd y) rfl fun b1 w hI=>pu kf rfl (aa (ab (rgn rfl (ac (dj hI (.map (some mb)) isAgg103 rfl (iz hb) (by simp) (io hb rfl) ?_))))))))
 refine pu (.pointer (some ⟨b1,0,none⟩)) rfl (ac (ag hI 0 (iv y.src) isAgg3 rfl rfl rfl ?_))
 refine ac (s_lookupBM hI (.bool (S y.src)) underlying103 underlying3 zeroValue4 hmap (by simp) rfl rfl (hS _) ?_)
 refine pu (.bool (!(S y.src))) rfl (pu (.bool (!(S y.src))) rfl (aa (aj ?_)))
 exact ⟨.bool (!(S y.src)),Ret.r1 rfl rfl,⟨rfl,hI.below⟩⟩

set_option maxHeartbeats 1600000 in
theorem by_c (w0:World) (pl:Pl) (d:Option Addr) (e f:Nat) (s:Option Addr) (b t:Nat) (g:Option Addr) (h o:Nat) (cs:List Ld) (u:Option Addr) (a A:Nat) (hSc:ScIn w0 pl d e f s b t g h o cs u a A) (mb ck:Nat) (es:List En) (S:Int→Bool) (hmap:w0.heap[mb]?=some (fp es ck)) (hS:∀ j,(el es j).getD kf=.bool (S j)):bn Tryz.prog 92 [.agg (qn7 pl.lo pl.hi d e f s b t g h o pl.geese u a A).toArray,.map (some mb)] w0 fun v w=>∃ g2 c2 cl2 g4 c4 cl4,v=.agg #[.int .i64 pl.lo,.int .i64 pl.hi,.slice d e f,slv g2 (byP pl S).stands.length c2,.slice g h o,.int .i64 pl.geese,slv g4 (byC cs S).length c4]∧Inv []  w0 w [(g2,blk cl2 31),(g4,blk cl4 30)]∧Row 6 g2 (byP pl S).stands.length c2 cl2 (al eLd (byP pl S).stands)∧Row 6 g4 (byC cs S).length c4 cl4 (al eLd (byC cs S)):=by
 have hm1:=hSc.p.m1; have hm2:=hSc.p.m2; have hm3:=hSc.p.m3; have hm4:=hSc.m4; have hk4:=hSc.k4; have hz1:=hSc.z1; have hz2:=hSc.z2; have hz3:=hSc.z3; have hz4:=hSc.z4
 refine az (n:=42) func92 rfl ntmps92 rfl ?_
 have hI:=Inv.start w0
 refine ab (rgn rfl (ac (ca hI (qn7 pl.lo pl.hi d e f s b t g h o pl.geese u a A) rfl fun b1 w hI=>ac (ca hI [.map (some mb)] rfl fun b2 w hI=>ac (bh hI (qn7 0 0 none 0 0 none 0 0 none 0 0 0 none 0 0) zeroValue116 rfl fun b3 w hI=>aa (ab (rgn rfl (pu (.pointer (some ⟨b1,6,none⟩)) rfl (ac (ag hI 2 (.slice u a A) isAgg24 rfl rfl rfl ?_))))))))))
 refine ac (gj hI 123 [.slice u a A] (by kernel_rfl) (CloneLoads_c _ cs u a A hSc.m4 (by omega) (hSc.e4.inv0 hI)) ?_)
 intro g4 c5 cl6 w hI r7
 have r7:Row 6 g4 (a) c5 cl6 (al eLd (cs)):=r7
 refine pu (.pointer (some ⟨b1,6,none⟩)) rfl (ac (aq hI 3 1 [slv g4 a c5] sizeOf24 rfl rfl rfl rfl rfl (kh rfl) fun w hI=>aa (ab (ab (rgn rfl (pu (.pointer (some ⟨b1,6,none⟩)) rfl (ac (ag hI 3 (slv g4 a c5) isAgg24 rfl rfl rfl ?_))))))))
 refine pu (iv ((a:Nat):Int)) (by kernel_rfl) (pu (iv 0) rfl (aa (au ?_)))
 refine cb (fun m ρ w=>∃ (k:Nat) (ccl:List Value),cd ρ [(2,.pointer (some ⟨b1,0,none⟩)),(3,.pointer (some ⟨b2,0,none⟩)),(4,.pointer (some ⟨b3,0,none⟩)),(13,slv g4 a c5),(14,iv (a:Int)),(15,iv (k:Int))]∧Inv []  w0 w [(g4,blk ccl 30),(some b3,blk (qn7 0 0 none 0 0 none 0 0 none 0 0 0 none 0 0) 116),(some b2,blk [.map (some mb)] 103),(some b1,blk [iv pl.lo,iv pl.hi,.slice d e f,.slice s b t,.slice g h o,iv pl.geese,slv g4 a c5] 116)]∧(k≤a)∧(Row 6 g4 a c5 ccl (al eLd (byC (cs.take k) S++cs.drop k)))∧m=a - k) (m:=a - 0) ⟨0,cl6,⟨rfl,rfl,rfl,rfl,rfl,rfl,trivial⟩,hI.pk [0,1,2,3] rfl rfl,(by omega),(r7.to (by simp [byC]) rfl),rfl⟩ ?_
 rintro m ρ w ⟨k,ccl,hag,hI,hk,hrr,hm⟩
 obtain ⟨ρ,rfl⟩:=hag.form; clear hag
 have hml:(byC (cs.take k) S++cs.drop k).length=a:=by simp [byC]; omega
 refine ab (rgn rfl (ac (cm rfl rfl ?_ ?_)))
 ·intro h1
  refine aa (ab (ah rfl (ak (ab (au ?_)))))
  refine ab (rgn rfl (pu (iv (k:Int)) rfl ?_))
  obtain ⟨x8,hx9⟩:=bq (l:=byC (cs.take k) S++cs.drop k) (i:=k) (by omega)
  obtain ⟨B,rfl,J⟩:=hrr.at_ bf (by decide) hx9
  refine ac (be k underlying24 sizeOf30 rfl rfl rfl (by omega) ?_)
  refine ac (cq hI 0 (eLd x8) isAgg30 sizeOf30 rfl rfl rfl J ?_)
  refine ac (bh hI [iv 0,iv 0,iv 0,iv 0,iv 0,iv 0] zeroValue30 rfl fun E w hI=>pu (iv (k:Int)) rfl (ac (aq hI 0 6 (eLd x8) sizeOf30 rfl rfl rfl rfl rfl (kh rfl) fun w hI=>aa (ab (rgn rfl (ac (ag hI 3 (.map (some mb)) isAgg103 rfl rfl rfl ?_)))))))
  refine pu (.pointer (some ⟨E,0,none⟩)) rfl (ac (ag hI 0 (iv x8.src) isAgg3 rfl rfl rfl ?_))
  rcases Bool.eq_false_or_eq_true (S x8.src) with h2 | h2
  ·refine ac (s_lookupBM hI kg underlying103 underlying3 zeroValue4 hmap (by simp) rfl rfl ((hS _).trans (congrArg Value.bool h2)) ?_)
   refine pu kf rfl (aa (ai rfl (ak (rgn rfl (ac (cj rfl rfl (by omega) ?_))))))
   refine pu (iv ((k:Int)+1)) rfl (aa ?_)
   exact ⟨rfl,_,(by omega),⟨k+1,ccl,⟨rfl,rfl,rfl,rfl,rfl,rfl,trivial⟩,hI.pk [1,2,3,4] rfl rfl,(by omega),(hrr.to (by have h8:=byC_step (S:=S) (byC_get hx9) (by rw [if_pos h2]); rwa [list_set_self hx9] at h8) rfl),rfl⟩⟩
  refine ac (s_lookupBM hI kf underlying103 underlying3 zeroValue4 hmap (by simp) rfl rfl ((hS _).trans (congrArg Value.bool h2)) ?_)
  refine pu kg rfl (aa (ah rfl (rgn rfl (pu (.pointer (some ⟨b1,6,none⟩)) rfl (ac (ag hI 4 (slv (some B) a c5) isAgg24 rfl rfl rfl ?_))))))
  refine pu (iv (k:Int)) rfl (pu (.agg #[iv 0,iv 10000]) (by kernel_rfl) (ac (be k underlying24 sizeOf30 rfl rfl rfl (by omega) ?_)))
  refine pu (.pointer (some ⟨B,k * 6+2,none⟩)) rfl (ac (aq hI 1 2 [iv 0,iv 10000] sizeOf23 rfl rfl rfl rfl rfl (by have h8:=hrr.room (i:=k) (by omega); omega) ?_))
  intro w hI
  have F:=row_part bf (by decide) hrr hx9 2 [iv 0,iv 10000] (by decide) (y:=(⟨x8.src,x8.hr,0,10000,x8.kn,x8.un⟩:Ld)) rfl
  obtain ⟨G,hcl⟩:∃ z,z=putCells ccl (k * 6+2) [iv 0,iv 10000]:=⟨_,rfl⟩
  rw [← hcl] at F
  have hI:Inv []  w0 w [(some E,blk (eLd x8) 30),(some B,blk G 30),(some b3,blk (qn7 0 0 none 0 0 none 0 0 none 0 0 0 none 0 0) 116),(some b2,blk [.map (some mb)] 103),(some b1,blk [iv pl.lo,iv pl.hi,.slice d e f,.slice s b t,.slice g h o,iv pl.geese,slv (some B) a c5] 116)]:=by rw [hcl]; exact hI
  clear hcl
  refine aa (rgn rfl (ac (cj rfl rfl (by omega) ?_)))
  refine pu (iv ((k:Int)+1)) rfl (aa ?_)
  exact ⟨rfl,_,(by omega),⟨k+1,G,⟨rfl,rfl,rfl,rfl,rfl,rfl,trivial⟩,hI.pk [1,2,3,4] rfl rfl,(by omega),(F.to (byC_step (byC_get hx9) (by rw [if_neg (by rw [h2]; decide)])) rfl),rfl⟩⟩
 intro h3
 refine aa (ab (ai rfl (bw ?_)))
 refine ab (rgn rfl (pu (.func (.func 146) #[] #[.pointer (some ⟨b2,0,none⟩)]) (by kernel_rfl) (pu (.func (.func 146) #[] #[.pointer (some ⟨b2,0,none⟩)]) rfl (aa (ab (rgn rfl (pu (.pointer (some ⟨b1,0,none⟩)) rfl (pu (.pointer (some ⟨b1,3,none⟩)) rfl (ac (ag hI 3 (.slice s b t) isAgg25 rfl rfl rfl ?_))))))))))
 refine ac (gj hI 124 [.slice s b t] (by kernel_rfl) (jr _ pl.stands s b t hSc.p.m2 (by omega) (hSc.p.c2.inv0 hI)) ?_)
 intro q r H w hI C
 have C:Row 6 q (b) r H (al eLd (pl.stands)):=C
 refine pu (.func (.func 146) #[] #[.pointer (some ⟨b2,0,none⟩)]) rfl (ac (s_callGivesIn hI 130 [slv q b r,.func (.func 146) #[] #[.pointer (some ⟨b2,0,none⟩)]] 0 rfl (by kernel_rfl) (DeleteStands_c _ q b r H pl.stands (.func (.func 146) #[] #[.pointer (some ⟨b2,0,none⟩)]) (fun x:Ld=>!S x.src) (hI.hasg 0 rfl) C (by omega) (fun w1 hb x _=>cx.of (args':=[.agg (eLd x).toArray,.pointer (some ⟨b2,0,none⟩)]) rfl (by1_c w1 x b2 mb ck es S (but_blk hb (jy hI.below hmap) (own_ne hI 0 rfl hmap)) hS (but_blk hb (hI.has 3 _ _ rfl).1 (hI.ne 0 3 (by decide) rfl rfl))))) ?_))
 intro I w hI D
 have D:Row 6 q (((pl.stands).filter (fun y=>!(fun x:Ld=>!S x.src) y)).length) r I (al eLd ((pl.stands).filter (fun y=>!(fun x:Ld=>!S x.src) y))):=D
 refine pu (.pointer (some ⟨b1,0,none⟩)) rfl (pu (.pointer (some ⟨b1,3,none⟩)) rfl (ac (aq hI 5 1 [slv q (((pl.stands).filter (fun y=>!(fun x:Ld=>!S x.src) y)).length) r] sizeOf25 rfl rfl rfl rfl rfl (kh rfl) fun w hI=>aa (ab (rgn rfl (ac (ar hI 5 7 [iv pl.lo,iv pl.hi,.slice d e f,slv q (((pl.stands).filter (fun y=>!(fun x:Ld=>!S x.src) y)).length) r,.slice g h o,iv pl.geese,slv g4 a c5] isAgg116 sizeOf116 rfl rfl rfl rfl ?_)))))))
 refine ac (aq hI 3 7 [iv pl.lo,iv pl.hi,.slice d e f,slv q (((pl.stands).filter (fun y=>!(fun x:Ld=>!S x.src) y)).length) r,.slice g h o,iv pl.geese,slv g4 a c5] sizeOf116 rfl rfl rfl rfl rfl (kh rfl) fun w hI=>aa (aj ?_))
 exact ⟨.agg #[iv pl.lo,iv pl.hi,.slice d e f,slv q (((pl.stands).filter (fun y=>!(fun x:Ld=>!S x.src) y)).length) r,.slice g h o,iv pl.geese,slv g4 a c5],Ret.c rfl rfl (ce hI 3 7 [iv pl.lo,iv pl.hi,.slice d e f,slv q (((pl.stands).filter (fun y=>!(fun x:Ld=>!S x.src) y)).length) r,.slice g h o,iv pl.geese,slv g4 a c5] isAgg116 sizeOf116 rfl rfl rfl),⟨q,r,I,g4,c5,ccl,(by rw [show (byP pl S).stands.length=((pl.stands).filter (fun y=>!(fun x:Ld=>!S x.src) y)).length by simp [byP],byC_len,← hm4]),hI.pk [0,2] rfl rfl,D.to (by simp [byP]) (by simp [byP]),hrr.to (by rw [List.take_of_length_le (by omega),List.drop_eq_nil_of_le (by omega),List.append_nil]) (by rw [byC_len]; omega)⟩⟩


theorem falling_c (w0:World) (mb ck:Nat) (es:List En) (hmap:w0.heap[mb]?=some (fp es ck)) (ho:MOk es ck) (hle:es.length≤10000):bn Tryz.prog 91 [.map (some mb)] w0 fun v w=>Gives 1 3 none es.length (al dv (js (es.map En.key)).reverse) w0 v w:=by
 refine az (n:=20) func91 rfl ntmps91 rfl ?_
 have hI:=Inv.start w0
 refine ab (rgn rfl (pu (.slice none 0 0) rfl (aa (ab (rgn rfl (pu (.slice none 0 0) rfl (aa (ab (ab ?_)))))))))
 refine rgn rfl (pu (.map (some mb)) rfl (ac (s_range hI underlying103 rfl (jy hI.below hmap) fun b1 w hI=>aa (au ?_))))
 have hI:=hI.nilRow 3
 refine cb (fun m ρ w=>∃ (vis:List En) (nn:Nat) (gg:Option Nat) (cc:Nat) (ccl:List Value),cd ρ [(3,slv gg nn cc),(6,.pointer (some ⟨b1,0,none⟩))]∧Inv []  w0 w [(gg,blk ccl 3),(some b1,it mb ck vis)]∧(Vis es vis)∧(nn=vis.length)∧(Row 1 gg (nn) cc ccl (al dv (vis.map En.key)))∧m=es.length - vis.length) (m:=es.length - [].length) ⟨[],0,none,0,[],⟨rfl,rfl,trivial⟩,hI.pk [0,1] rfl rfl,⟨fun e he=>(by cases he),List.nodup_nil⟩,rfl,(Row.nil_ 1),rfl⟩ ?_
 rintro m ρ w ⟨vis,nn,gg,cc,ccl,hag,hI,hv,hnn,hrr,hm⟩
 obtain ⟨ρ,rfl⟩:=hag.form; clear hag
 have hvl:=vis_le hv
 refine ab (rgn rfl (ac (s_next hI 1 rfl rfl (jy hI.below hmap) ho ?_ ?_)))
 ·intro e w hmem hnb hI
  refine pu kg rfl (aa (ab (ah rfl (ak (au ?_)))))
  refine ab (rgn rfl (ac (s_entry hI 1 rfl rfl (jy hI.below hmap) ho hmem ?_)))
  refine pu (iv e.key) rfl (pu (iv e.key) rfl (aa (rgn rfl (pu (slv gg nn cc) rfl (pu (iv e.key) rfl (ac (fu hI [iv e.key] 3 (fun b=>slv (some b) 1 1) (by kernel_rfl) fun b2 w hI=>ac (s_app hI underlying41 (z:=iv 0) (k:=1) (bytes:=8) rfl rfl rfl 1 rfl rfl hrr [iv e.key] rfl rfl (hI.cells 0 (off:=0) rfl (fun j u h=>by rw [Nat.zero_add]; exact h)) (by simp [Value.oneCell']) (by omega) (by omega) ?_))))))))
  intro g3 c4 cl5 w hI r6
  have r6:Row 1 g3 (nn+1) c4 cl5 (al dv ((vis.map En.key)++[e.key])):=r6.snoc _ rfl
  refine pu (slv g3 (nn+1) c4) rfl (aa ?_)
  exact ⟨rfl,_,(by have h8:=vis_le (hv.more hmem hnb); simp at h8 ⊢; omega),⟨vis++[e],nn+1,g3,c4,cl5,⟨rfl,rfl,trivial⟩,hI.pk [1,2] rfl rfl,(hv.more hmem hnb),(by simp; omega),(r6.to (by simp) rfl),rfl⟩⟩
 intro hall
 refine pu kf rfl (aa (ab (ai rfl (bw ?_))))
 refine ab (rgn rfl (pu (slv gg nn cc) rfl (ac (ee hI 69 [slv gg nn cc] 0 rfl (by kernel_rfl) (Sort_c _ gg nn cc ccl (vis.map En.key) (hI.hasg 0 rfl) hrr (by omega)) ?_))))
 intro cl7 w hI r8
 have r8:Row 1 gg (nn) cc cl7 (al dv (js (vis.map En.key))):=r8
 refine aa (ab (rgn rfl (pu (slv gg nn cc) rfl (ac (ee hI 93 [slv gg nn cc] 0 rfl (by kernel_rfl) (ReverseInts_c _ gg nn cc cl7 (js (vis.map En.key)) (hI.hasg 0 rfl) r8 (by omega)) ?_)))))
 intro cl9 w hI a
 have a:Row 1 gg (nn) cc cl9 (al dv ((js (vis.map En.key)).reverse)):=a
 refine aa (ab (rgn rfl (pu (slv gg nn cc) rfl (pu (slv gg nn cc) rfl (aa (aj ?_))))))
 exact ⟨slv gg nn cc,Ret.r1 rfl rfl,⟨gg,cc,cl9,(by rw [show nn=es.length from hnn.trans (hv.perm ho hall).length_eq]),hI.pk [0] rfl rfl,a.to (by rw [sortM_perm ((hv.perm ho hall).map En.key)]) (hnn.trans (hv.perm ho hall).length_eq)⟩⟩

end Go.K
