import Derived.Test.YtinkdlmimiefaaaGreatProg
import Derived.Test.YtinkdlmimiefaaaGreatPM13
namespace Go.K
open Go.Proofs.Tryz
open Go.Proofs Go.RowKit
set_option linter.unusedVariables false
set_option linter.unusedSimpArgs false
set_option maxRecDepth 100000
attribute [local irreducible] Seq cw cx fl opX

theorem tw_at {α:Type} {p:α→Bool}:∀ (l:List α) (k:Nat),(∀ i y,i < k→l[i]?=some y→p y=true)→(∀ y,l[k]?=some y→p y=false)→k≤l.length→l.takeWhile p=l.take k∧l.dropWhile p=l.drop k
  | [],k,_,_,hk=>by
                          have:k=0:=by simpa using hk
                          subst this; exact ⟨rfl,rfl⟩
  | a :: l,0,_,h2,_=>by
    have:=h2 a rfl
    simp [this]
  | a :: l,k+1,h1,h2,hk=>by
    have ha:=h1 0 a (by omega) rfl
    have ih:=tw_at (p:=p) l k (fun i y hi hy=>h1 (i+1) y (by omega) (by simpa using hy)) (fun y hy=>h2 y (by simpa using hy)) (by simpa using hk)
    rw [List.takeWhile_cons,List.dropWhile_cons]
    simp only [ha,if_true,List.take_succ_cons,List.drop_succ_cons]
    exact ⟨by rw [ih.1],ih.2⟩
def insR (x:Ld) (acc:List Ld):List Ld:=(acc.reverse.dropWhile fun y=>decide (x.hr < y.hr)).reverse++[x]++(acc.reverse.takeWhile fun y=>decide (x.hr < y.hr)).reverse
def ed (l:List Ld):List Ld:=l.foldl (fun acc x=>insR x acc) []
theorem insR_at {x:Ld} {acc:List Ld} {j:Nat} (hj:j≤acc.length) (h1:∀ q y,j≤q→acc[q]?=some y→x.hr < y.hr) (h2:∀ y,0 < j→acc[j - 1]?=some y→¬ x.hr < y.hr):insR x acc=acc.take j++[x]++acc.drop j:=by
  have ht:=tw_at (p:=fun y=>decide (x.hr < y.hr)) acc.reverse (acc.length - j) (fun i y hi hy=>by
    rw [List.getElem?_reverse (by omega)] at hy
    exact decide_eq_true (h1 _ y (by omega) hy)) (fun y hy=>by
    rcases Nat.eq_zero_or_pos j with h0 | h0
    · subst h0; rw [List.getElem?_eq_none (by simp)] at hy; cases hy
    rw [List.getElem?_reverse (by omega),show acc.length - 1 - (acc.length - j)=j - 1 by omega] at hy
    exact decide_eq_false (h2 y h0 hy)) (by simp)
  rw [insR,ht.1,ht.2,List.take_reverse,List.drop_reverse,List.reverse_reverse,List.reverse_reverse,show acc.length - (acc.length - j)=j by omega]
theorem insR_len (x:Ld) (acc:List Ld):(insR x acc).length=acc.length+1:=by
  have:=congrArg List.length (List.takeWhile_append_dropWhile (p:=fun y=>decide (x.hr < y.hr)) (l:=acc.reverse))
  rw [List.length_append,List.length_reverse] at this
  simp only [insR,List.length_append,List.length_reverse,List.length_singleton]
  omega
theorem sortF_step {l:List Ld} {k:Nat} {x:Ld} (hx:l[k]?=some x):ed (l.take (k+1))=insR x (ed (l.take k)):=by
  rw [fe hx,ed,List.foldl_append]; rfl
theorem sortL_len:∀ (l acc:List Ld),(l.foldl (fun acc x=>insR x acc) acc).length=l.length+acc.length
  | [],acc=>by simp
  | x :: l,acc=>by rw [List.foldl_cons,sortL_len l,insR_len,List.length_cons]; omega
theorem fm (l:List Ld):(ed l).length=l.length:=by rw [ed,sortL_len]; rfl
theorem insR_mem {x y:Ld} {acc:List Ld}:y∈insR x acc↔y=x∨y∈acc:=by
  have h:=List.takeWhile_append_dropWhile (p:=fun y=>decide (x.hr < y.hr)) (l:=acc.reverse)
  have:y∈acc↔y∈acc.reverse.takeWhile (fun y=>decide (x.hr < y.hr))∨y∈acc.reverse.dropWhile (fun y=>decide (x.hr < y.hr)):=by
    rw [← List.mem_reverse,← List.mem_append,h]
  rw [this,insR]
  simp only [List.mem_append,List.mem_reverse,List.mem_singleton]
  constructor
  · rintro ((h | h) | h)
    · exact .inr (.inr h)
    · exact .inl h
    exact .inr (.inl h)
  rintro (h | h | h)
  · exact .inl (.inr h)
  · exact .inr h
  exact .inl (.inl h)
theorem sortL_mem {y:Ld}:∀ (l acc:List Ld),y∈l.foldl (fun acc x=>insR x acc) acc↔y∈l∨y∈acc
  | [],acc=>by simp
  | x :: l,acc=>by
    rw [List.foldl_cons,sortL_mem l,insR_mem,List.mem_cons]
    constructor
    · rintro (h | h | h)
      · exact .inl (.inr h)
      · exact .inl (.inl h)
      exact .inr h
    rintro ((h | h) | h)
    · exact .inr (.inl h)
    · exact .inl h
    exact .inr (.inr h)
theorem sortF_mem {y:Ld} {l:List Ld}:y∈ed l↔y∈l:=by rw [ed,sortL_mem]; simp
def cmpI (a b:Int):Int:=if a < b then -1 else if b < a then 1 else 0
theorem ju {a b:Int}:cmpI a b < 0↔a < b:=by unfold cmpI; split <;> (try split) <;> omega
structure Ins (l M:List Ld) (i j:Nat) (x:Ld):Prop where
  eq:M=(ed (l.take i)).take j++[x]++((ed (l.take i)).drop j++l.drop (i+1))
  le:j≤i
  lt:i < l.length
  gt:∀ q y,j≤q→(ed (l.take i))[q]?=some y→x.hr < y.hr
theorem acc_len {l:List Ld} {i:Nat} (h:i≤l.length):(ed (l.take i)).length=i:=by rw [fm,List.length_take]; omega
theorem Ins.start {l M:List Ld} {i:Nat} {x:Ld} (hM:M=ed (l.take i)++l.drop i) (hx:M[i]?=some x):Ins l M i i x∧l[i]?=some x:=by
  have hl:l[i]?=some x:=by
    rw [hM] at hx
    rcases Nat.lt_or_ge i l.length with hi | hi
    · rw [List.getElem?_append_right (by rw [acc_len (by omega)]; exact Nat.le_refl _),acc_len (by omega),Nat.sub_self,List.getElem?_drop] at hx
      simpa using hx
    rw [List.getElem?_eq_none (by rw [List.length_append,fm,List.length_take,List.length_drop]; omega)] at hx; cases hx
  have hi:=bu hl
  have hal:=acc_len (l:=l) (i:=i) (by omega)
  refine ⟨⟨?_,Nat.le_refl _,hi,fun q y hq hy=>?_⟩,hl⟩
  · rw [hM]
    generalize ed (l.take i)=acc at hal
    rw [List.take_of_length_le (show acc.length≤i by omega),List.drop_eq_nil_of_le (show acc.length≤i by omega),List.nil_append,List.append_assoc]
    congr 1
    rw [List.drop_eq_getElem_cons hi]
    rw [List.getElem?_eq_getElem hi] at hl
    injection hl with hl
    rw [hl]; rfl
  rw [List.getElem?_eq_none (by omega)] at hy; cases hy
theorem Ins.len {l M:List Ld} {i j:Nat} {x:Ld} (h:Ins l M i j x):M.length=l.length:=by
  have hal:=acc_len (l:=l) (i:=i) (Nat.le_of_lt h.lt)
  have h1:=h.le
  have h2:=h.lt
  rw [h.eq]
  simp only [List.length_append,List.length_take,List.length_drop,List.length_singleton]
  omega
theorem Ins.at_ {l M:List Ld} {i j:Nat} {x y:Ld} (h:Ins l M i j x) (hy:M[j]?=some y):y=x:=by
  have hal:=acc_len (l:=l) (i:=i) (Nat.le_of_lt h.lt)
  have h1:=h.le
  rw [h.eq,List.append_assoc,List.getElem?_append_right (by rw [List.length_take]; omega),List.length_take,Nat.min_eq_left (by omega),Nat.sub_self] at hy
  simpa using hy.symm
theorem Ins.prev {l M:List Ld} {i j:Nat} {x y:Ld} (h:Ins l M i j x) (hj:0 < j) (hy:M[j - 1]?=some y):(ed (l.take i))[j - 1]?=some y:=by
  have hal:=acc_len (l:=l) (i:=i) (Nat.le_of_lt h.lt)
  have h1:=h.le
  rw [h.eq,List.append_assoc,List.getElem?_append_left (by rw [List.length_take]; omega),List.getElem?_take,if_pos (by omega)] at hy
  exact hy
theorem Ins.step {l M:List Ld} {i j:Nat} {x y:Ld} (h:Ins l M i j x) (hj:0 < j) (hy:M[j - 1]?=some y) (hlt:x.hr < y.hr):Ins l ((M.set j y).set (j - 1) x) i (j - 1) x:=by
  have hal:=acc_len (l:=l) (i:=i) (Nat.le_of_lt h.lt)
  have h1:=h.le
  have hp:=h.prev hj hy
  have ht:(ed (l.take i)).take j=(ed (l.take i)).take (j - 1)++[y]:=by
    have:=fe hp
    rwa [Nat.sub_add_cancel hj] at this
  have hd:(ed (l.take i)).drop (j - 1)=y :: (ed (l.take i)).drop j:=by
    have hlt2:=bu hp
    rw [List.drop_eq_getElem_cons hlt2,Nat.sub_add_cancel hj]
    rw [List.getElem?_eq_getElem hlt2] at hp
    injection hp with hp; rw [hp]
  have hl:((ed (l.take i)).take (j - 1)).length=j - 1:=by rw [List.length_take]; omega
  refine ⟨?_,by omega,h.lt,fun q z hq hz=>?_⟩
  · rw [h.eq,ht,hd]
    simp only [List.append_assoc,List.singleton_append,List.cons_append]
    rw [List.set_append_right _ _ (by rw [hl]; omega),hl,show j - (j - 1)=1 by omega,List.set_append_right _ _ (by rw [hl]; omega),hl,Nat.sub_self]
    rfl
  by_cases e:q=j - 1
  · subst e; rw [hp] at hz; injection hz with hz; rw [← hz]; exact hlt
  exact h.gt q z (by omega) hz
theorem Ins.done {l M:List Ld} {i j:Nat} {x:Ld} (h:Ins l M i j x) (hl:l[i]?=some x) (hs:∀ y,0 < j→M[j - 1]?=some y→¬ x.hr < y.hr):M=ed (l.take (i+1))++l.drop (i+1):=by
  have hal:=acc_len (l:=l) (i:=i) (Nat.le_of_lt h.lt)
  have h1:=h.le
  rw [sortF_step hl,insR_at (by omega) h.gt (fun y hj hy=>hs y hj (by
    rw [h.eq,List.append_assoc,List.getElem?_append_left (by rw [List.length_take]; omega),List.getElem?_take,if_pos (by omega)]; exact hy)),h.eq]
  simp only [List.append_assoc]


theorem sceneOf2_c (w0:World) (x y:Ld):bn Tryz.prog 144 [.agg (eLd x).toArray,.agg (eLd y).toArray] w0 fun v w=>v=.int .i64 (cmpI x.hr y.hr)∧Below w0.heap.size w0 w:=by
 refine az (n:=10) func144 rfl ntmps144 rfl ?_
 have hI:=Inv.start w0
 refine ab (rgn rfl (ac (ca hI (eLd x) rfl fun b1 w hI=>ac (ca hI (eLd y) rfl fun b2 w hI=>pu (iv 0) rfl (aa (ab (rgn rfl (pu (.pointer (some ⟨b1,1,none⟩)) rfl (ac (ag hI 1 (iv x.hr) isAgg3 rfl rfl rfl ?_))))))))))
 refine pu (.pointer (some ⟨b2,1,none⟩)) rfl (ac (ag hI 0 (iv y.hr) isAgg3 rfl rfl rfl ?_))
 refine ac (bg hI 145 [iv x.hr,iv y.hr] (iv (if x.hr < y.hr then -1 else if y.hr < x.hr then 1 else 0)) (by kernel_rfl) (Compare_c x.hr y.hr _) fun w hI=>pu (iv (if x.hr < y.hr then -1 else if y.hr < x.hr then 1 else 0)) rfl (aa (aj ?_)))
 exact ⟨iv (if x.hr < y.hr then -1 else if y.hr < x.hr then 1 else 0),Ret.r1 rfl rfl,⟨rfl,hI.below⟩⟩

theorem sort_one (l:List Ld):l=ed (l.take 1)++l.drop 1:=by
  cases l with
  | nil=>rfl
  | cons x l=>simp [ed,insR]
theorem sort_all {l M:List Ld} {i:Nat} (hM:M=ed (l.take i)++l.drop i) (h:l.length≤i):M=ed l:=by
  rw [hM,List.take_of_length_le h,List.drop_eq_nil_of_le h,List.append_nil]

set_option maxHeartbeats 3200000 in
theorem insertion_c1 (w0:World) (b0 n c:Nat) (cl:List Value) (l:List Ld) (hg:∀ b,some b0=some b→w0.heap[b]?=some (blk cl 30)) (hr:Row 6 (some b0) n c cl (al eLd l)) (hmax:n≤1000000000):bn Tryz.prog 183 [slv (some b0) n c,.int .i64 0,.int .i64 (n:Int),.func (.func 144) #[] #[]] w0 fun v w=>ex 6 30 (some b0) c n (al eLd (ed l)) w0 v w:=by
 have hnl:=hr.n_eq bf (by decide)
 refine az (n:=53) func183 rfl ntmps183 rfl ?_
 have hI:=Inv.lent w0 (some b0) (blk cl 30) hg
 refine ab (rgn rfl (pu (iv 0) rfl (ac (cj rfl rfl (by omega) ?_))))
 refine pu (iv (0+1)) rfl (aa (au ?_))
 refine cb (fun m ρ w=>∃ (i:Nat) (ccl:List Value) (M:List Ld),cd ρ [(0,slv (some b0) n c),(1,iv 0),(2,iv (n:Int)),(3,.func (.func 144) #[] #[]),(8,iv (i:Int))]∧Inv [b0] w0 w [(some b0,blk ccl 30)]∧(1≤i∧(i≤n∨n=0∧i=1))∧(M=ed (l.take i)++l.drop i)∧(Row 6 (some b0) n c ccl (al eLd M))∧m=n - i) (m:=n - 1) ⟨1,cl,l,⟨rfl,rfl,rfl,rfl,rfl,trivial⟩,hI.pk [0] rfl rfl,(by omega),(sort_one l),hr,rfl⟩ ?_
 rintro m ρ w ⟨i,ccl,M,hag,hI,hi,hM,hrr,hm⟩
 obtain ⟨ρ,rfl⟩:=hag.form; clear hag
 refine ab (ab (rgn rfl (pu (iv (i:Int)) rfl (pu (iv (n:Int)) rfl (ac (cm rfl rfl ?_ ?_))))))
 ·intro h1
  refine aa (ah rfl (ak (ab (au ?_))))
  refine ab (rgn rfl (pu (iv (i:Int)) rfl (pu (iv (i:Int)) rfl (aa (au ?_)))))
  have hml:M.length=n:=by rw [hM,List.length_append,fm,List.length_take,List.length_drop]; omega
  obtain ⟨xi,hxi⟩:=bq (l:=M) (i:=i) (by omega)
  obtain ⟨hS0,hli⟩:=Ins.start hM hxi
  refine cb (fun m ρ w=>∃ (j:Nat) (jv:Int) (ccl2:List Value) (N:List Ld),cd ρ [(0,slv (some b0) n c),(1,iv 0),(2,iv (n:Int)),(3,.func (.func 144) #[] #[]),(8,iv (i:Int)),(9,iv jv)]∧Inv [b0] w0 w [(some b0,blk ccl2 30)]∧(jv=((j:Nat):Int))∧(Ins l N i j xi)∧(Row 6 (some b0) n c ccl2 (al eLd N))∧m=j) (m:=i) ⟨i,(i:Int),ccl,M,⟨rfl,rfl,rfl,rfl,rfl,rfl,trivial⟩,hI.pk [0] rfl rfl,rfl,hS0,hrr,rfl⟩ ?_
  rintro m ρ w ⟨j,jv,ccl2,N,hag,hI,hjv,hS,hrr2,hm⟩
  obtain ⟨ρ,rfl⟩:=hag.form; clear hag
  have hml2:=hS.len; have hji:=hS.le; have hil:=hS.lt
  refine ab (ab (dh hI [0] (by decide) rfl rfl rfl fun hsub=>alp 0 (iv jv) hsub rfl (by kernel_rfl) (fun _=>rfl) ?_))
  refine alp 1 (iv 0) hsub rfl (by kernel_rfl) (fun _=>rfl) ?_
  by_cases h2:0 < jv
  ·refine ap 2 kg hsub rfl (by kernel_rfl) (fun w hI=>fh rfl rfl (fun _=>br) (fun h=>absurd h2 h)) ?_
   refine alp 3 kg hsub rfl (by kernel_rfl) (fun _=>rfl) ?_
   refine ie 4 (.func (.func 144) #[] #[]) hsub rfl (by kernel_rfl) rfl (fun w hI=>kl (.func (.func 144) #[] #[]) rfl br) ?_
   refine ie 5 (slv (some b0) n c) hsub rfl (by kernel_rfl) rfl (fun w hI=>kl (slv (some b0) n c) rfl br) ?_
   refine ie 6 (iv jv) hsub rfl (by kernel_rfl) rfl (fun w hI=>kl (iv jv) rfl br) ?_
   obtain ⟨x1,hx2⟩:=bq (l:=N) (i:=j) (by omega)
   have he3:=hrr2.atS bf (by decide) hx2
   refine ie 7 (.pointer (some ⟨b0,j * 6,none⟩)) hsub rfl (by kernel_rfl) rfl (fun w hI=>be j underlying24 sizeOf30 rfl rfl (by omega) (by omega) br) ?_
   refine ie 8 (.agg (eLd x1).toArray) hsub rfl (by kernel_rfl) rfl (fun w hI=>cq hI 0 (eLd x1) isAgg30 sizeOf30 rfl rfl rfl he3 br) ?_
   refine ie 9 (slv (some b0) n c) hsub rfl (by kernel_rfl) rfl (fun w hI=>kl (slv (some b0) n c) rfl br) ?_
   refine ie 10 (iv jv) hsub rfl (by kernel_rfl) rfl (fun w hI=>kl (iv jv) rfl br) ?_
   refine ie 11 (iv (jv - 1)) hsub rfl (by kernel_rfl) rfl (fun w hI=>dm rfl rfl (by omega) br) ?_
   obtain ⟨x4,hx5⟩:=bq (l:=N) (i:=j - 1) (by omega)
   have he6:=hrr2.atS bf (by decide) hx5
   refine ie 12 (.pointer (some ⟨b0,(j - 1) * 6,none⟩)) hsub rfl (by kernel_rfl) rfl (fun w hI=>be (j - 1) underlying24 sizeOf30 rfl rfl (by omega) (by omega) br) ?_
   refine ie 13 (.agg (eLd x4).toArray) hsub rfl (by kernel_rfl) rfl (fun w hI=>cq hI 0 (eLd x4) isAgg30 sizeOf30 rfl rfl rfl he6 br) ?_
   refine ie 14 (iv (cmpI x1.hr x4.hr)) hsub rfl (by kernel_rfl) rfl (fun w hI=>im [.agg (eLd x1).toArray,.agg (eLd x4).toArray] rfl (by kernel_rfl) (cx.of (args':=[.agg (eLd x1).toArray,.agg (eLd x4).toArray]) rfl (sceneOf2_c w x1 x4)) (fun v' w' h=>h)) ?_
   by_cases h3:(cmpI x1.hr x4.hr) < 0
   ·refine ie 15 kg hsub rfl (by kernel_rfl) rfl (fun w hI=>cm rfl rfl (fun _=>br) (fun h=>absurd h3 h)) ?_
    refine alp 16 kg hsub rfl (by kernel_rfl) (fun _=>rfl) ?_
    refine cp rfl (fun w hI=>?_)
    refine ah rfl (ak (ab (au ?_)))
    replace hI:=hI.pk [0] rfl rfl
    refine dh hI [] (by decide) rfl rfl rfl fun hsub=>alp 0 (slv (some b0) n c) hsub rfl (by kernel_rfl) (fun _=>rfl) ?_
    refine alp 1 (iv jv) hsub rfl (by kernel_rfl) (fun _=>rfl) ?_
    refine alp 2 (slv (some b0) n c) hsub rfl (by kernel_rfl) (fun _=>rfl) ?_
    refine alp 3 (iv jv) hsub rfl (by kernel_rfl) (fun _=>rfl) ?_
    refine ap 4 (iv (jv - 1)) hsub rfl (by kernel_rfl) (fun w hI=>dm rfl rfl (by omega) br) ?_
    refine alp 5 (slv (some b0) n c) hsub rfl (by kernel_rfl) (fun _=>rfl) ?_
    refine alp 6 (iv jv) hsub rfl (by kernel_rfl) (fun _=>rfl) ?_
    refine ap 7 (iv (jv - 1)) hsub rfl (by kernel_rfl) (fun w hI=>dm rfl rfl (by omega) br) ?_
    refine ap 8 (.pointer (some ⟨b0,(j - 1) * 6,none⟩)) hsub rfl (by kernel_rfl) (fun w hI=>be (j - 1) underlying24 sizeOf30 rfl rfl (by omega) (by omega) br) ?_
    refine alp 10 (slv (some b0) n c) hsub rfl (by kernel_rfl) (fun _=>rfl) ?_
    refine alp 11 (iv jv) hsub rfl (by kernel_rfl) (fun _=>rfl) ?_
    refine ap 12 (.pointer (some ⟨b0,j * 6,none⟩)) hsub rfl (by kernel_rfl) (fun w hI=>be j underlying24 sizeOf30 rfl rfl (by omega) (by omega) br) ?_
    refine bc [9,13] (by kernel_rfl) rfl (each2 ?_ ?_)
    ·intro w hI
     refine dg rfl (cq hI 0 (eLd x4) isAgg30 sizeOf30 rfl rfl rfl he6 ?_)
     refine ⟨_,hI,dc (fun _ h=>h.pk [] rfl rfl) ?_⟩
     intro hsub
     refine bc [13] (by kernel_rfl) rfl (cz fun w hI=>dg rfl (cq hI 0 (eLd x1) isAgg30 sizeOf30 rfl rfl rfl he3 ?_))
     refine ⟨_,hI,dc (fun _ h=>h.pk [] rfl rfl) ?_⟩
     intro hsub
     refine ap 14 (.pointer (some ⟨b0,j * 6,none⟩)) hsub rfl (by kernel_rfl) (fun w hI=>be j underlying24 sizeOf30 rfl rfl (by omega) (by omega) br) ?_
     refine bc [15] (by kernel_rfl) rfl (cz fun w hI=>dg rfl (aq hI 0 6 (eLd x4) sizeOf30 rfl rfl rfl rfl rfl (hrr2.room (by omega)) fun w hI=>⟨_,hI,dc (fun _ h=>h.pk [] rfl rfl) ?_⟩))
     intro hsub
     have r7:=hrr2.put bf (by decide) j x4 (by omega)
     obtain ⟨x9,d⟩:=bq (l:=(N).set j x4) (i:=j - 1) (by first | omega | (simp only [List.length_set]; omega))
     have o:=r7.atS bf (by decide) d
     refine ap 16 (.pointer (some ⟨b0,(j - 1) * 6,none⟩)) hsub rfl (by kernel_rfl) (fun w hI=>be (j - 1) underlying24 sizeOf30 rfl rfl (by omega) (by omega) br) ?_
     refine bc [17] (by kernel_rfl) rfl (cz fun w hI=>dg rfl (aq hI 0 6 (eLd x1) sizeOf30 rfl rfl rfl rfl rfl (r7.room (by omega)) fun w hI=>⟨_,hI,dc (fun _ h=>h.pk [] rfl rfl) ?_⟩))
     intro hsub
     have f:=r7.put bf (by decide) (j - 1) (⟨x1.src,x1.hr,x1.lo,x1.hi,x1.kn,x1.un⟩:Ld) (by omega)
     refine cp rfl (fun w hI=>?_)
     refine rgn rfl (pu (iv jv) rfl (ac (dm rfl rfl (by omega) ?_)))
     refine pu (iv (jv - 1)) rfl (aa ?_)
     exact ⟨rfl,_,(by omega),⟨j - 1,jv - 1,putCells (putCells ccl2 (j * 6) (eLd x4)) ((j - 1) * 6) (eLd (⟨x1.src,x1.hr,x1.lo,x1.hi,x1.kn,x1.un⟩:Ld)),(((N).set j x4).set (j - 1) (⟨x1.src,x1.hr,x1.lo,x1.hi,x1.kn,x1.un⟩:Ld)),⟨rfl,rfl,rfl,rfl,rfl,rfl,trivial⟩,hI.pk [0] rfl rfl,(by omega),(by have e:=hS.at_ hx2; subst e; exact hS.step (by omega) hx5 (ju.1 (by assumption))),f,rfl⟩⟩
    intro w hI
    refine dg rfl (cq hI 0 (eLd x1) isAgg30 sizeOf30 rfl rfl rfl he3 ?_)
    refine ⟨_,hI,dc (fun _ h=>h.pk [] rfl rfl) ?_⟩
    intro hsub
    refine bc [9] (by kernel_rfl) rfl (cz fun w hI=>dg rfl (cq hI 0 (eLd x4) isAgg30 sizeOf30 rfl rfl rfl he6 ?_))
    refine ⟨_,hI,dc (fun _ h=>h.pk [] rfl rfl) ?_⟩
    intro hsub
    refine ap 14 (.pointer (some ⟨b0,j * 6,none⟩)) hsub rfl (by kernel_rfl) (fun w hI=>be j underlying24 sizeOf30 rfl rfl (by omega) (by omega) br) ?_
    refine bc [15] (by kernel_rfl) rfl (cz fun w hI=>dg rfl (aq hI 0 6 (eLd x4) sizeOf30 rfl rfl rfl rfl rfl (hrr2.room (by omega)) fun w hI=>⟨_,hI,dc (fun _ h=>h.pk [] rfl rfl) ?_⟩))
    intro hsub
    have a:=hrr2.put bf (by decide) j x4 (by omega)
    obtain ⟨p,g⟩:=bq (l:=(N).set j x4) (i:=j - 1) (by first | omega | (simp only [List.length_set]; omega))
    have q:=a.atS bf (by decide) g
    refine ap 16 (.pointer (some ⟨b0,(j - 1) * 6,none⟩)) hsub rfl (by kernel_rfl) (fun w hI=>be (j - 1) underlying24 sizeOf30 rfl rfl (by omega) (by omega) br) ?_
    refine bc [17] (by kernel_rfl) rfl (cz fun w hI=>dg rfl (aq hI 0 6 (eLd x1) sizeOf30 rfl rfl rfl rfl rfl (a.room (by omega)) fun w hI=>⟨_,hI,dc (fun _ h=>h.pk [] rfl rfl) ?_⟩))
    intro hsub
    have k:=a.put bf (by decide) (j - 1) (⟨x1.src,x1.hr,x1.lo,x1.hi,x1.kn,x1.un⟩:Ld) (by omega)
    refine cp rfl (fun w hI=>?_)
    refine rgn rfl (pu (iv jv) rfl (ac (dm rfl rfl (by omega) ?_)))
    refine pu (iv (jv - 1)) rfl (aa ?_)
    exact ⟨rfl,_,(by omega),⟨j - 1,jv - 1,putCells (putCells ccl2 (j * 6) (eLd x4)) ((j - 1) * 6) (eLd (⟨x1.src,x1.hr,x1.lo,x1.hi,x1.kn,x1.un⟩:Ld)),(((N).set j x4).set (j - 1) (⟨x1.src,x1.hr,x1.lo,x1.hi,x1.kn,x1.un⟩:Ld)),⟨rfl,rfl,rfl,rfl,rfl,rfl,trivial⟩,hI.pk [0] rfl rfl,(by omega),(by have e:=hS.at_ hx2; subst e; exact hS.step (by omega) hx5 (ju.1 (by assumption))),k,rfl⟩⟩
   refine ie 15 kf hsub rfl (by kernel_rfl) rfl (fun w hI=>cm rfl rfl (fun h=>absurd h h3) (fun _=>br)) ?_
   refine alp 16 kf hsub rfl (by kernel_rfl) (fun _=>rfl) ?_
   refine cp rfl (fun w hI=>?_)
   refine ai rfl ?_
   have hfin:N=ed (l.take (i+1))++l.drop (i+1):=hS.done hli (fun y _ hy=>by have e1:=Option.some.inj (hx5.symm.trans hy); have e2:=hS.at_ hx2; subst e1; subst e2; intro hlt; exact absurd (ju.2 hlt) (by assumption))
   refine bw ?_
   refine rgn rfl (pu (iv (i:Int)) rfl (ac (cj rfl rfl (by omega) ?_)))
   refine pu (iv ((i:Int)+1)) rfl (aa ?_)
   exact ⟨rfl,_,(by omega),⟨i+1,ccl2,N,⟨rfl,rfl,rfl,rfl,rfl,trivial⟩,hI.pk [0] rfl rfl,(by omega),hfin,hrr2,rfl⟩⟩
  refine ap 2 kf hsub rfl (by kernel_rfl) (fun w hI=>fh rfl rfl (fun h=>absurd h h2) (fun _=>br)) ?_
  refine alp 3 kf hsub rfl (by kernel_rfl) (fun _=>rfl) ?_
  refine ga 4 hsub rfl (by kernel_rfl) rfl ?_
  refine ga 5 hsub rfl (by kernel_rfl) rfl ?_
  refine ga 6 hsub rfl (by kernel_rfl) rfl ?_
  refine ga 7 hsub rfl (by kernel_rfl) rfl ?_
  refine ga 8 hsub rfl (by kernel_rfl) rfl ?_
  refine ga 9 hsub rfl (by kernel_rfl) rfl ?_
  refine ga 10 hsub rfl (by kernel_rfl) rfl ?_
  refine ga 11 hsub rfl (by kernel_rfl) rfl ?_
  refine ga 12 hsub rfl (by kernel_rfl) rfl ?_
  refine ga 13 hsub rfl (by kernel_rfl) rfl ?_
  refine ga 14 hsub rfl (by kernel_rfl) rfl ?_
  refine ga 15 hsub rfl (by kernel_rfl) rfl ?_
  refine alp 16 kf hsub rfl (by kernel_rfl) (fun _=>rfl) ?_
  refine cp rfl (fun w hI=>?_)
  refine ai rfl ?_
  have hfin:N=ed (l.take (i+1))++l.drop (i+1):=hS.done hli (fun y hj _=>by omega)
  refine bw ?_
  refine rgn rfl (pu (iv (i:Int)) rfl (ac (cj rfl rfl (by omega) ?_)))
  refine pu (iv ((i:Int)+1)) rfl (aa ?_)
  exact ⟨rfl,_,(by omega),⟨i+1,ccl2,N,⟨rfl,rfl,rfl,rfl,rfl,trivial⟩,hI.pk [0] rfl rfl,(by omega),hfin,hrr2,rfl⟩⟩
 intro h4
 refine aa (ai rfl (bw ?_))
 exact ⟨.tuple #[],Ret.r0 rfl , ⟨ccl,rfl,hI.pk [0] rfl rfl,hrr.to (sort_all hM (by omega)) rfl⟩⟩

end Go.K
