import Derived.Test.YtinkdlmimiefaaaGreatProg
import Derived.Test.YtinkdlmimiefaaaGreatPM17
import Derived.Test.YtinkdlmimiefaaaGreatPSh
namespace Go.K
open Go.Proofs.Tryz
open Go.Proofs Go.RowKit
set_option linter.unusedVariables false
set_option linter.unusedSimpArgs false
set_option maxRecDepth 100000
attribute [local irreducible] Seq cw cx fl opX

def js (l:List Int):List Int:=l.mergeSort fun x y=>decide (x≤y)
theorem sortM_len (l:List Int):(js l).length=l.length:=List.length_mergeSort _
theorem holds_of {w:World} {b n c:Nat} {cl:List Value} {l:List Int} (hb:w.heap[b]?=some (blk cl 3)) (hr:Row 1 (some b) n c cl (al dv l)):Go.Sort.Holds (Value.int .i64) w b 0 l.toArray:=fun j hj=>by
  have hj':j < l.length:=by simpa using hj
  have h1:=hr.atS cy (by decide) (List.getElem?_eq_getElem hj') 0 _ rfl
  rw [Nat.mul_one,Nat.add_zero] at h1
  refine ⟨?_,by simp [World.frozen?,hb]⟩
  have h2:=io hb h1
  rw [Nat.zero_add,h2]
  simp [hj']
theorem Sort1_c (w0:World) (b n c:Nat) (cl:List Value) (l:List Int) (hb:w0.heap[b]?=some (blk cl 3)) (hr:Row 1 (some b) n c cl (al dv l)) (hmax:n≤1000000000):bn Tryz.prog 69 [slv (some b) n c] w0 fun v w=>ex 1 3 (some b) c n (al dv (js l)) w0 v w:=by
  have hn:=hr.n_eq cy (by decide)
  subst hn
  refine Calls.mono (Go.Proofs.Tryz.slices_Sort_int b 0 c l w0 (holds_of hb hr) (iz hb) (by omega)) ?_
  rintro e w' ⟨rfl,nn,os,rfl⟩
  have hs:(al dv l).length=l.length:=by rw [dt cy]; omega
  have hcl:cl.length=c:=by have:=hr.size; omega
  have hcap:=hr.cap
  have hlen:(al dv (js l)).length=l.length:=by rw [dt cy,sortM_len]; omega
  refine ⟨_,rfl,al dv (js l)++cl.drop l.length,rfl,?_,?_⟩
  · have hlt:=iz hb
    refine (Inv.lent w0 (some b) (blk cl 3) (fun b' h=>by injection h with h; rw [← h]; exact hb)).turn (i:=0) (o':=blk (al dv (js l)++cl.drop l.length) 3) rfl rfl rfl rfl (by simp [Go.Sort.ahead]) (fun k hk hg=>?_) (fun b' h=>?_)
    · rw [Go.Sort.heap_grow_old _ _ (by simpa [Go.Sort.ahead] using hk)]
      simp only [Go.Sort.putRow,Go.Sort.mapBlock,Go.Sort.ahead]
      rw [Array.getElem?_modify,if_neg (fun e=>hg (by rw [e]))]
    injection h with h; subst h
    rw [Go.Sort.heap_grow_old _ _ (by simpa [Go.Sort.ahead] using hlt)]
    simp only [Go.Sort.putRow,Go.Sort.mapBlock,Go.Sort.ahead]
    rw [Array.getElem?_modify,if_pos rfl,hb]
    simp only [Option.map_some,Go.Sort.onCells]
    congr 2
    apply Array.ext_getElem?
    intro q
    simp only [Go.Sort.putCells,Array.getElem?_mapIdx,List.getElem?_toArray]
    rcases Nat.lt_or_ge q l.length with h1 | h1
    · have hq2:q < (js l).length:=by rw [sortM_len]; exact h1
      rw [List.getElem?_append_left (by omega),List.getElem?_eq_getElem (show q < cl.length by omega)]
      have h2:=flat_get cy (js l) q 0 _ (List.getElem?_eq_getElem hq2) (by decide)
      rw [Nat.mul_one,Nat.add_zero] at h2
      rw [h2]
      have hq3:q < (List.mergeSort l fun x y=>decide (x≤y)).length:=hq2
      simp [dv,js,h1]
    rw [List.getElem?_append_right (by omega),hlen,List.getElem?_drop,show l.length+(q - l.length)=q by omega]
    cases hc:cl[q]? with
    | none=>rfl
    | some u=>simp [Nat.not_lt.2 h1]
  exact ⟨by omega,hcap,hr.capmax,by rw [List.length_append,List.length_drop]; omega,by rw [Nat.mul_one]; exact List.take_left' hlen,fun h=>by cases h⟩
theorem Sort_c (w0:World) (g:Option Nat) (n c:Nat) (cl:List Value) (l:List Int) (hg:∀ b,g=some b→w0.heap[b]?=some (blk cl 3)) (hr:Row 1 g n c cl (al dv l)) (hmax:n≤1000000000):bn Tryz.prog 69 [slv g n c] w0 fun v w=>ex 1 3 g c n (al dv (js l)) w0 v w:=by
  cases g with
  | none =>
    have hc:=hr.nil rfl
    have hn:n=0:=by have:=hr.cap; omega
    subst hc; subst hn
    have hl:l=[]:=List.eq_nil_of_length_eq_zero (hr.n_eq cy (by decide)).symm
    subst hl
    refine Calls.mono (Go.Proofs.Tryz.slices_Sort_int_none none 0 w0) ?_
    rintro e w' ⟨rfl,rfl⟩
    exact ⟨_,rfl,cl,rfl,Inv.lent w' none (blk cl 3) (fun b h=>by cases h),by simpa [js] using hr⟩
  | some b=>exact Sort1_c w0 b n c cl l (hg b rfl) hr hmax
def compG:Int→List Int→List Int
  | _,[]=>[]
  | a,b :: l=>if b=a then compG a l else b :: compG b l
def ea:List Int→List Int
  | []=>[]
  | a :: l=>a :: compG a l
theorem compG_snoc:∀ (l:List Int) (a y z:Int),(a :: l)[l.length]?=some y→compG a (l++[z])=compG a l++(if z=y then [] else [z])
  | [],a,y,z,h=>by
    simp only [List.length_nil,List.getElem?_cons_zero,Option.some.injEq] at h
    subst h
    simp only [List.nil_append,compG]
  | b :: l,a,y,z,h=>by
    have h':(b :: l)[l.length]?=some y:=by simpa using h
    simp only [List.cons_append,compG]
    split
    · rename_i e; subst e; exact compG_snoc l b y z h'
    rw [compG_snoc l b y z h',List.cons_append]
theorem compact_snoc {l:List Int} {k:Nat} {y z:Int} (hy:l[k]?=some y) (hz:l[k+1]?=some z):ea (l.take (k+2))=ea (l.take (k+1))++(if z=y then [] else [z]):=by
  rw [fe hz]
  cases l with
  | nil=>simp at hy
  | cons a l =>
    have hk:=bu hz
    simp only [List.length_cons] at hk
    rw [List.take_succ_cons,List.cons_append]
    have hl:(l.take k).length=k:=by rw [List.length_take]; omega
    have:=compG_snoc (l.take k) a y z (by
      rw [hl]
      cases k with
      | zero=>simpa using hy
      | succ k=>rw [List.getElem?_cons_succ] at hy ⊢; rw [List.getElem?_take,if_pos (by omega)]; exact hy)
    simp only [ea,this,List.cons_append]
theorem compact_one (l:List Int):ea (l.take 1)=l.take 1:=by
  cases l with
  | nil=>rfl
  | cons a l=>rfl
theorem compact_next {l:List Int} {i:Nat} {x y:Int} (h:ea (l.take i)=l.take i) (hi:1≤i) (hx:l[i]?=some x) (hy:l[i - 1]?=some y) (hne:¬ x=y):ea (l.take (i+1))=l.take (i+1):=by
  obtain ⟨j,rfl⟩:∃ j,i=j+1:=⟨i - 1,by omega⟩
  rw [compact_snoc (by simpa using hy) hx,h,if_neg hne,fe hx]
structure Cmp (l M:List Int) (k i:Nat):Prop where
  len:M.length=l.length
  kept:M.take i=ea (l.take k)
  cnt:i=(ea (l.take k)).length
  rest:∀ q,k≤q+1→M[q]?=l[q]?
  lt:i < k
  le:k≤l.length
theorem Cmp.start {l:List Int} {i:Nat} {x y:Int} (h:ea (l.take i)=l.take i) (hi:1≤i) (hx:l[i]?=some x) (hy:l[i - 1]?=some y) (he:x=y):Cmp l l (i+1) i:=by
  have hl:=bu hx
  have e:ea (l.take (i+1))=l.take i:=by
    obtain ⟨j,rfl⟩:∃ j,i=j+1:=⟨i - 1,by omega⟩
    rw [compact_snoc (by simpa using hy) hx,h,if_pos he,List.append_nil]
  exact ⟨rfl,e.symm,by rw [e,List.length_take]; omega,fun q _=>rfl,by omega,by omega⟩
theorem Cmp.same {l M:List Int} {k i:Nat} {x y:Int} (h:Cmp l M k i) (hx:M[k]?=some x) (hy:M[k - 1]?=some y) (he:x=y):Cmp l M (k+1) i:=by
  have h1:=h.lt
  have hx':l[k]?=some x:=by rw [← h.rest k (by omega)]; exact hx
  have hy':l[k - 1]?=some y:=by rw [← h.rest (k - 1) (by omega)]; exact hy
  have e:ea (l.take (k+1))=ea (l.take k):=by
    obtain ⟨j,rfl⟩:∃ j,k=j+1:=⟨k - 1,by omega⟩
    rw [compact_snoc (by simpa using hy') hx',if_pos he,List.append_nil]
  exact ⟨h.len,by rw [e]; exact h.kept,by rw [e]; exact h.cnt,fun q hq=>h.rest q (by omega),by omega,bu hx'⟩
theorem Cmp.other {l M:List Int} {k i:Nat} {x y:Int} (h:Cmp l M k i) (hx:M[k]?=some x) (hy:M[k - 1]?=some y) (he:¬ x=y):Cmp l (M.set i x) (k+1) (i+1):=by
  have h1:=h.lt
  have hx':l[k]?=some x:=by rw [← h.rest k (by omega)]; exact hx
  have hy':l[k - 1]?=some y:=by rw [← h.rest (k - 1) (by omega)]; exact hy
  have hk:=bu hx'
  have e:ea (l.take (k+1))=ea (l.take k)++[x]:=by
    obtain ⟨j,rfl⟩:∃ j,k=j+1:=⟨k - 1,by omega⟩
    rw [compact_snoc (by simpa using hy') hx',if_neg he]
  refine ⟨by rw [List.length_set]; exact h.len,?_,by rw [e,List.length_append,← h.cnt]; rfl,fun q hq=>?_,by omega,hk⟩
  · rw [e,← h.kept,List.take_succ_eq_append_getElem (by rw [List.length_set,h.len]; omega)]
    simp [List.take_set_of_le]
  rw [List.getElem?_set_ne (by omega)]; exact h.rest q (by omega)
theorem Cmp.done {l M:List Int} {k i:Nat} (h:Cmp l M k i) (hk:l.length≤k):M.take i=ea l∧i=(ea l).length:=by
  have h1:=h.kept
  have h2:=h.cnt
  rw [List.take_of_length_le hk] at h1 h2
  exact ⟨h1,h2⟩

set_option maxHeartbeats 1600000 in
theorem Compact_c (w0:World) (g:Option Nat) (n c:Nat) (cl:List Value) (l:List Int) (hg:∀ b,g=some b→w0.heap[b]?=some (blk cl 3)) (hr:Row 1 g n c cl (al dv l)) (hmax:n≤1000000000):bn Tryz.prog 70 [slv g n c] w0 fun v w=>GivesIn 1 3 g c (ea l).length (al dv (ea l)) w0 v w:=by
 have hnl:=hr.n_eq cy (by decide)
 refine az (n:=61) func70 rfl ntmps70 rfl ?_
 have hI:=Inv.lent w0 g (blk cl 3) hg
 refine ab (rgn rfl (pu (.slice none 0 0) rfl (aa (ab (ab (rgn rfl (pu (slv g n c) rfl (pu (iv ((n:Nat):Int)) (by kernel_rfl) (ac (cm rfl rfl ?_ ?_))))))))))
 ·intro h1
  refine aa (ah rfl (ab (rgn rfl (pu (slv g n c) rfl (pu (slv g n c) rfl (aa (aj ?_)))))))
  exact ⟨slv g n c,Ret.r1 rfl rfl,⟨cl,(by rw [show ea l=l by have h8:=compact_one l; rwa [List.take_of_length_le (by omega)] at h8,← hnl]),hI.pk [0] rfl rfl,(by rw [show ea l=l by have h8:=compact_one l; rwa [List.take_of_length_le (by omega)] at h8,← hnl]; exact hr)⟩⟩
 intro h2
 refine aa (ai rfl (ak (ab (ab (rgn rfl (pu (iv 1) rfl (aa (au ?_))))))))
 have hmx:=hr.capmax; unfold maxLen at hmx; have hcp:=hr.cap
 obtain ⟨b0,rfl⟩:=hr.some_ (by omega)
 refine cb (fun m ρ w=>∃ (i:Nat),cd ρ [(0,slv (some b0) n c),(3,iv (i:Int))]∧Inv [b0] w0 w [(some b0,blk cl 3)]∧(1≤i∧i≤n)∧(ea (l.take i)=l.take i)∧m=n - i) (m:=n - 1) ⟨1,⟨rfl,rfl,trivial⟩,hI.pk [0] rfl rfl,(by omega),(compact_one l),rfl⟩ ?_
 rintro m ρ w ⟨i,hag,hI,hi,hpre,hm⟩
 obtain ⟨ρ,rfl⟩:=hag.form; clear hag
 refine ab (ab (rgn rfl (pu (iv (i:Int)) rfl (pu (slv (some b0) n c) rfl (pu (iv ((n:Nat):Int)) (by kernel_rfl) (ac (cm rfl rfl ?_ ?_)))))))
 ·intro h3
  refine aa (ah rfl (ak (ab (au ?_))))
  refine ab ?_
  obtain ⟨x1,hx2⟩:=bq (l:=l) (i:=i) (by omega)
  have he3:=hr.atS cy (by decide) hx2
  obtain ⟨x4,hx5⟩:=bq (l:=l) (i:=i - 1) (by omega)
  have he6:=hr.atS cy (by decide) hx5
  refine dh hI [0] (by decide) rfl rfl rfl fun hsub=>alp 0 (slv (some b0) n c) hsub rfl (by kernel_rfl) (fun _=>rfl) ?_
  refine alp 1 (iv (i:Int)) hsub rfl (by kernel_rfl) (fun _=>rfl) ?_
  refine ap 2 (.pointer (some ⟨b0,i * 1,none⟩)) hsub rfl (by kernel_rfl) (fun w hI=>be i underlying41 sizeOf3 rfl rfl rfl (by omega) br) ?_
  refine ap 3 (iv x1) hsub rfl (by kernel_rfl) (fun w hI=>db hI 0 (iv x1) isAgg3 rfl rfl (he3 0 _ rfl) br) ?_
  refine alp 4 (slv (some b0) n c) hsub rfl (by kernel_rfl) (fun _=>rfl) ?_
  refine alp 5 (iv (i:Int)) hsub rfl (by kernel_rfl) (fun _=>rfl) ?_
  refine ap 6 (iv ((i:Int) - 1)) hsub rfl (by kernel_rfl) (fun w hI=>dm rfl rfl (by omega) br) ?_
  refine ap 7 (.pointer (some ⟨b0,(i - 1) * 1,none⟩)) hsub rfl (by kernel_rfl) (fun w hI=>be (i - 1) underlying41 sizeOf3 rfl rfl (by omega) (by omega) br) ?_
  refine ap 8 (iv x4) hsub rfl (by kernel_rfl) (fun w hI=>db hI 0 (iv x4) isAgg3 rfl rfl (he6 0 _ rfl) br) ?_
  by_cases h4:x1=x4
  ·refine ap 9 kg hsub rfl (by kernel_rfl) (fun w hI=>di rfl rfl (fun _=>br) (fun h=>absurd h4 h)) ?_
   refine cp rfl (fun w hI=>?_)
   refine ah rfl (ab (rgn rfl (pu (slv (some b0) n c) rfl (pu (iv (i:Int)) rfl (ac (ka i underlying41 sizeOf3 rfl rfl (by omega) (by omega) ?_))))))
   refine pu (.slice (sub ((some b0).map fun b=>⟨b,0,none⟩) c i 1) (n - i) (c - i)) rfl (aa (ab (ab (rgn rfl (pu (iv 1) rfl (aa (au ?_)))))))
   have hC0:=Cmp.start hpre (by omega) hx2 hx5 (by assumption)
   have hsub0:sub (some ⟨b0,0,none⟩) c i 1=some ⟨b0,i * 1,none⟩:=by rw [sub,if_neg (by omega)]; show some ((Addr.mk b0 0 none).add (i * 1))=_; rw [jl,Nat.zero_add]
   refine cb (fun m ρ w=>∃ (k:Nat) (i2:Nat) (ccl:List Value) (M:List Int),cd ρ [(0,slv (some b0) n c),(3,iv (i2:Int)),(4,.slice (sub ((some b0).map fun b=>⟨b,0,none⟩) c i 1) (n - i) (c - i)),(5,iv (k:Int))]∧Inv [b0] w0 w [(some b0,blk ccl 3)]∧(Cmp l M (i+k) i2)∧(Row 1 (some b0) n c ccl (al dv M))∧(1≤k)∧m=n - i - k) (m:=n - i - 1) ⟨1,i,cl,l,⟨rfl,rfl,rfl,rfl,trivial⟩,hI.pk [0] rfl rfl,hC0,hr,(by omega),rfl⟩ ?_
   rintro m ρ w ⟨k,i2,ccl,M,hag,hI,hC,hrr,hk1,hm⟩
   obtain ⟨ρ,rfl⟩:=hag.form; clear hag
   have hc1:=hC.lt; have hc2:=hC.le; have hc3:=hC.len
   refine ab (ab (rgn rfl (pu (iv (k:Int)) rfl (pu (.slice (sub ((some b0).map fun b=>⟨b,0,none⟩) c i 1) (n - i) (c - i)) rfl (pu (iv ((n - i:Nat):Int)) (by kernel_rfl) (ac (cm rfl rfl ?_ ?_)))))))
   ·intro h5
    refine aa (ah rfl (ak (ab (au ?_))))
    refine ab (dh hI [0] (by decide) rfl rfl rfl fun hsub=>alp 0 (.slice (sub ((some b0).map fun b=>⟨b,0,none⟩) c i 1) (n - i) (c - i)) hsub rfl (by kernel_rfl) (fun _=>rfl) ?_)
    refine alp 1 (iv (k:Int)) hsub rfl (by kernel_rfl) (fun _=>rfl) ?_
    obtain ⟨x7,hx8⟩:=bq (l:=M) (i:=i+k) (by omega)
    have he9:∀ j v,(dv x7)[j]?=some v→ccl[i * 1+k * 1+j]?=some v:=fun j v h=>by have h8:=hrr.atS cy (by decide) hx8 j v h; have e8:(i+k) * 1+j=i * 1+k * 1+j:=(by omega); rwa [e8] at h8
    refine ap 2 (.pointer (some ⟨b0,i * 1+k * 1,none⟩)) hsub rfl (by kernel_rfl) (fun w hI=>cn k underlying41 sizeOf3 rfl hsub0 rfl rfl (by omega) br) ?_
    refine ap 3 (iv x7) hsub rfl (by kernel_rfl) (fun w hI=>db hI 0 (iv x7) isAgg3 rfl rfl (he9 0 _ rfl) br) ?_
    refine alp 4 (.slice (sub ((some b0).map fun b=>⟨b,0,none⟩) c i 1) (n - i) (c - i)) hsub rfl (by kernel_rfl) (fun _=>rfl) ?_
    refine alp 5 (iv (k:Int)) hsub rfl (by kernel_rfl) (fun _=>rfl) ?_
    refine ap 6 (iv ((k:Int) - 1)) hsub rfl (by kernel_rfl) (fun w hI=>dm rfl rfl (by omega) br) ?_
    obtain ⟨a,d⟩:=bq (l:=M) (i:=i+k - 1) (by omega)
    have p:∀ j v,(dv a)[j]?=some v→ccl[i * 1+(k - 1) * 1+j]?=some v:=fun j v h=>by have h8:=hrr.atS cy (by decide) d j v h; have e8:(i+k - 1) * 1+j=i * 1+(k - 1) * 1+j:=(by omega); rwa [e8] at h8
    refine ap 7 (.pointer (some ⟨b0,i * 1+(k - 1) * 1,none⟩)) hsub rfl (by kernel_rfl) (fun w hI=>cn (k - 1) underlying41 sizeOf3 rfl hsub0 rfl (by omega) (by omega) br) ?_
    refine ap 8 (iv a) hsub rfl (by kernel_rfl) (fun w hI=>db hI 0 (iv a) isAgg3 rfl rfl (p 0 _ rfl) br) ?_
    by_cases h6:x7=a
    ·refine ap 9 kf hsub rfl (by kernel_rfl) (fun w hI=>de rfl rfl (fun h=>absurd h6 h) (fun _=>br)) ?_
     refine cp rfl (fun w hI=>?_)
     refine ai rfl (ak (rgn rfl (pu (iv (k:Int)) rfl (ac (cj rfl rfl (by omega) ?_)))))
     refine pu (iv ((k:Int)+1)) rfl (aa ?_)
     exact ⟨rfl,_,(by omega),⟨k+1,i2,ccl,M,⟨rfl,rfl,rfl,rfl,trivial⟩,hI.pk [0] rfl rfl,(by have h8:=hC.same hx8 d (by assumption); have e8:i+(k+1)=i+k+1:=(by omega); rw [e8]; exact h8),hrr,(by omega),rfl⟩⟩
    refine ap 9 kg hsub rfl (by kernel_rfl) (fun w hI=>de rfl rfl (fun _=>br) (fun h=>absurd h h6)) ?_
    refine cp rfl (fun w hI=>?_)
    refine ah rfl (ab (rgn rfl (pu (slv (some b0) n c) rfl (pu (iv (i2:Int)) rfl (pu (.slice (sub ((some b0).map fun b=>⟨b,0,none⟩) c i 1) (n - i) (c - i)) rfl (pu (iv (k:Int)) rfl (ac (cn k underlying41 sizeOf3 rfl hsub0 rfl rfl (by omega) ?_))))))))
    refine ac (db hI 0 (iv x7) isAgg3 rfl rfl (he9 0 _ rfl) ?_)
    obtain ⟨s,q⟩:=bq (l:=M) (i:=i2) (by omega)
    have t:=hrr.atS cy (by decide) q
    refine ac (be i2 underlying41 sizeOf3 rfl rfl rfl (by omega) ?_)
    refine ac (aq hI 0 1 [iv x7] sizeOf3 rfl rfl rfl rfl rfl (hrr.room (by omega)) ?_)
    intro w hI
    have e:=hrr.put cy (by decide) i2 x7 (by omega)
    obtain ⟨f,hcl⟩:∃ z,z=putCells ccl (i2 * 1) (dv x7):=⟨_,rfl⟩
    rw [← hcl] at e
    have hI:Inv [b0] w0 w [(some b0,blk f 3)]:=by rw [hcl]; exact hI
    clear hcl
    refine aa (rgn rfl (pu (iv (i2:Int)) rfl (ac (cj rfl rfl (by omega) ?_))))
    refine pu (iv ((i2:Int)+1)) rfl (aa (rgn rfl (pu (iv (k:Int)) rfl (ac (cj rfl rfl (by omega) ?_)))))
    refine pu (iv ((k:Int)+1)) rfl (aa ?_)
    exact ⟨rfl,_,(by omega),⟨k+1,i2+1,f,(M).set i2 x7,⟨rfl,rfl,rfl,rfl,trivial⟩,hI.pk [0] rfl rfl,(by have h8:=hC.other hx8 d (by assumption); have e8:i+(k+1)=i+k+1:=(by omega); rw [e8]; exact h8),e,(by omega),rfl⟩⟩
   intro h7
   refine aa (ai rfl (bw ?_))
   refine ab (rgn rfl (pu (slv (some b0) n c) rfl (pu (iv (i2:Int)) rfl (ac (ka i2 underlying41 sizeOf3 rfl rfl (by omega) (by omega) ?_)))))
   refine ac (s_clearTail hI 0 underlying41 zeroValue3 rfl rfl rfl rfl (by omega) hrr.cap hrr.size ?_)
   intro r w hI hl0 ht0
   have o:=(hrr.cut cy (by decide) i2 (by omega)).same hl0 ht0
   refine aa (ab (rgn rfl (pu (slv (some b0) n c) rfl (pu (iv (i2:Int)) rfl (ac (s_sliceHi i2 underlying41 sizeOf3 rfl rfl o.cap ?_))))))
   refine pu (slv (some b0) i2 c) rfl (aa (aj ?_))
   exact ⟨slv (some b0) i2 c,Ret.r1 rfl rfl,⟨r,(by rw [← (hC.done (by omega)).2]),hI.pk [0] rfl rfl,(by rw [← (hC.done (by omega)).2,← (hC.done (by omega)).1]; exact o)⟩⟩
  refine ap 9 kf hsub rfl (by kernel_rfl) (fun w hI=>di rfl rfl (fun h=>absurd h h4) (fun _=>br)) ?_
  refine cp rfl (fun w hI=>?_)
  refine ai rfl (ak (rgn rfl (pu (iv (i:Int)) rfl (ac (cj rfl rfl (by omega) ?_)))))
  refine pu (iv ((i:Int)+1)) rfl (aa ?_)
  exact ⟨rfl,_,(by omega),⟨i+1,⟨rfl,rfl,trivial⟩,hI.pk [0] rfl rfl,(by omega),(compact_next hpre (by omega) hx2 hx5 (by assumption)),rfl⟩⟩
 intro h8
 refine aa (ai rfl (bw ?_))
 refine ab (rgn rfl (pu (slv (some b0) n c) rfl (pu (slv (some b0) n c) rfl (aa (aj ?_)))))
 exact ⟨slv (some b0) n c,Ret.r1 rfl rfl,⟨cl,(by rw [show ea l=l by have h8:=hpre; rwa [List.take_of_length_le (by omega)] at h8,← hnl]),hI.pk [0] rfl rfl,(by rw [show ea l=l by have h8:=hpre; rwa [List.take_of_length_le (by omega)] at h8,← hnl]; exact hr)⟩⟩

end Go.K
