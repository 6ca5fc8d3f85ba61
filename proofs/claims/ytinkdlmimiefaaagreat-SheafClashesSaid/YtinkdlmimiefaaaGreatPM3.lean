/- Contracts of Check and of what it calls. -/
import Derived.Test.YtinkdlmimiefaaaGreatProg
import Derived.Test.YtinkdlmimiefaaaGreatPM2
import Derived.Test.YtinkdlmimiefaaaGreatPKK2
namespace Go.K
open Go.Proofs Go.RowKit
set_option linter.unusedVariables false
set_option linter.unusedSimpArgs false
set_option maxRecDepth 100000
attribute [local irreducible] Seq Step CallV AnyE opX

theorem MOk.nilM:MOk [] 0:=⟨List.nodup_nil,List.nodup_nil,fun e he=>by cases he⟩
theorem drop_get {α:Type} {l:List α} {k:Nat} {x:α} (hx:l[k]?=some x):l.drop k=x :: l.drop (k+1):=by
  have hlt:=lt_of_get hx
  rw [List.getElem?_eq_getElem hlt] at hx
  injection hx with hx
  rw [List.drop_eq_getElem_cons hlt,hx]
/-- The elements are valid, their sources rise, none was seen. -/
def okl {α:Type} (p:α→Int) (q:α→Nt):Int→(Int→Bool)→List α→Bool
  | _,_,[]=>true
  | last,S,x :: l=>if p x=0∧last < (q x).s∧S (q x).s=false then okl p q (q x).s (fun j=>if j=(q x).s then true else S j) l else false
def checkB {α:Type} (p:α→Int) (q:α→Nt) (S:Int→Bool) (l:List α):Bool:=decide (l.length≤60) && okl p q 0 S l
def seenB {α:Type} (q:α→Nt) (S:Int→Bool) (l:List α):Int→Bool:=fun j=>S j || l.any fun x=>decide (j=(q x).s)
theorem okl_no {α:Type} {p:α→Int} {q:α→Nt} {last:Int} {S:Int→Bool} {l:List α} {k:Nat} {x:α} (hx:l[k]?=some x) (h:¬ (p x=0∧last < (q x).s∧S (q x).s=false)):okl p q last S (l.drop k)=false:=by
  rw [drop_get hx]; simp only [okl]; rw [if_neg h]
theorem okl_yes {α:Type} {p:α→Int} {q:α→Nt} {last:Int} {S:Int→Bool} {l:List α} {k:Nat} {x:α} (hx:l[k]?=some x) (h1:p x=0) (h2:last < (q x).s) (h3:S (q x).s=false):okl p q last S (l.drop k)=okl p q (q x).s (fun j=>if j=(q x).s then true else S j) (l.drop (k+1)):=by
  rw [drop_get hx]; simp only [okl]; rw [if_pos ⟨h1,h2,h3⟩]
theorem okl_end {α:Type} {p:α→Int} {q:α→Nt} {last:Int} {S:Int→Bool} {l:List α} {k:Nat} (hk:l.length≤k):okl p q last S (l.drop k)=true:=by
  rw [List.drop_eq_nil_of_le hk]; rfl
theorem seen_step {α:Type} {q:α→Nt} {S S':Int→Bool} {l:List α} {k:Nat} {x:α} (h:∀ j,S' j=seenB q S (l.take k) j) (hx:l[k]?=some x):∀ j,(if j=(q x).s then true else S' j)=seenB q S (l.take (k+1)) j:=by
  intro j
  rw [take_get hx,h j]
  unfold seenB
  rw [List.any_append]
  by_cases hj:j=(q x).s <;> simp [hj]


theorem checkLoads_c (w0:World) (l:List Ld) (A:Option Addr) (n c:Nat) (f1 f2:Value) (p:Ld→Int) (q:Ld→Nt) (mp:Nat) (es:List En) (clk:Nat) (S:Int→Bool) (hn:n=l.length) (hmax:n≤9223372036854775807) (hC:CellsB [mp] w0 A (flat eLd l)) (hm:w0.heap[mp]?=some (mobj es clk)) (ho:MOk es clk) (hS:∀ j,(mget es j).getD (.bool false)=.bool (S j)) (hf1:∀ w,But [mp] w0 w→∀ x∈l,CallV Tryz.prog f1 [.agg (eLd x).toArray] w fun v w'=>v=.int .i64 (p x)∧Below w.heap.size w w') (hf2:∀ w,But [mp] w0 w→∀ x∈l,CallV Tryz.prog f2 [.agg (eLd x).toArray] w fun v w'=>v=.agg (eNt (q x)).toArray∧Below w.heap.size w w'):Does Tryz.prog 73 [.slice A n c,f1,f2,.map (some mp)] w0 fun v w=>∃ es1 ck1,v=.bool (checkB p q S l)∧Inv [mp] w0 w [(some mp,mobj es1 ck1)]∧(checkB p q S l=true→MOk es1 ck1∧∀ j,(mget es1 j).getD (.bool false)=.bool (seenB q S l j)):=by
 refine calls_of (n:=44) Tryz.func73 rfl Tryz.ntmps73 rfl ?_
 have hI:=Inv.lent w0 (some mp) (mobj es clk) (fun b hb=>by injection hb with hb; subst hb; exact hm)
 refine wp_seq (rgn rfl (pu (.bool false) rfl (seq_nil (wp_seq (wp_seq (rgn rfl (pu (.slice A n c) rfl (pu (iv ((n:Nat):Int)) (by kernel_rfl) (seq_c (s_gtr rfl rfl ?_ ?_))))))))))
 ·intro h1
  refine seq_nil (wp_condT rfl (wp_seq (rgn rfl (pu (.bool false) rfl (seq_nil (wp_ret ?_))))))
  exact ⟨.bool false,Ret.r1 rfl rfl,⟨es,clk,(by refine congrArg Value.bool (Eq.symm ?_); rw [checkB]; simp; omega),hI.pickL [0] (by decide) rfl,(fun h=>absurd (h.symm.trans (show checkB p q S l=false by rw [checkB]; simp; omega)) (by simp))⟩⟩
 ·intro h2
  refine seq_nil (wp_condF rfl (wp_skip (wp_seq (rgn rfl (pu (iv 0) rfl (seq_nil (wp_seq (wp_seq (rgn rfl ?_)))))))))
  refine pu (.slice A n c) rfl (pu (iv ((n:Nat):Int)) (by kernel_rfl) (pu (iv 0) rfl (seq_nil (wp_block ?_))))
  refine wp_loop (fun m ρ w=>∃ (k:Nat) (last:Int) (es1:List En) (ck1:Nat) (S1:Int→Bool),Agree ρ [(1,f1),(2,f2),(3,.map (some mp)),(9,iv last),(16,.slice A n c),(17,iv (n:Int)),(18,iv (k:Int))]∧Inv [mp] w0 w [(some mp,mobj es1 ck1)]∧(k≤n)∧(MOk es1 ck1)∧(∀ j,(mget es1 j).getD (.bool false)=.bool (S1 j))∧(okl p q 0 S l=okl p q last S1 (l.drop k))∧(∀ j,S1 j=seenB q S (l.take k) j)∧m=n - k) (m:=n - 0) ⟨0,0,es,clk,S,⟨rfl,rfl,rfl,rfl,rfl,rfl,rfl,trivial⟩,hI.pickL [0] (by decide) rfl,(by omega),ho,hS,rfl,(fun j=>by simp [seenB]),rfl⟩ ?_
  rintro m ρ w ⟨k,last,es1,ck1,S1,hag,hI,hk,ho1,hS1,hok,hse,hm⟩
  obtain ⟨ρ,rfl⟩:=hag.form; clear hag
  refine wp_seq (rgn rfl (seq_c (s_lss rfl rfl ?_ ?_)))
  ·intro h3
   refine seq_nil (wp_seq (wp_condT rfl (wp_skip (wp_seq (wp_block ?_)))))
   refine wp_seq (rgn rfl ?_)
   obtain ⟨x1,hx2⟩:=get_lt (l:=l) (i:=k) (by omega)
   obtain ⟨b3,o4,hA5,hb6,hB8,he7⟩:=hC.at_ eLd_len (by decide) hx2
   refine seq_c (s_indexA k Tryz.underlying24 Tryz.sizeOf30 rfl hA5 rfl rfl (by omega) ?_)
   refine seq_c (s_loadBK hI [iv x1.src,iv x1.hr,iv x1.lo,iv x1.hi,iv x1.kn,iv x1.un] Tryz.isAgg30 Tryz.sizeOf30 rfl rfl hb6 hB8 he7 ?_)
   refine seq_c (s_allocI hI [iv 0,iv 0,iv 0,iv 0,iv 0,iv 0] Tryz.zeroValue30 rfl ?_)
   intro b9 w hI
   refine seq_c (s_store hI 0 6 [iv x1.src,iv x1.hr,iv x1.lo,iv x1.hi,iv x1.kn,iv x1.un] Tryz.sizeOf30 rfl rfl rfl rfl rfl (Nat.le_of_ble_eq_true rfl) ?_)
   intro w hI
   refine seq_nil (wp_seq (rgn rfl (pu (f2) rfl (seq_c (s_loadK hI 0 6 [iv x1.src,iv x1.hr,iv x1.lo,iv x1.hi,iv x1.kn,iv x1.un] Tryz.isAgg30 Tryz.sizeOf30 rfl rfl rfl rfl ?_)))))
   refine seq_c (s_callVv hI [.agg #[iv x1.src,iv x1.hr,iv x1.lo,iv x1.hi,iv x1.kn,iv x1.un]] (.agg #[iv (q x1).s,iv (q x1).k,iv (q x1).u]) rfl (by kernel_rfl) (hf2 w hI.but x1 (mem_of_get hx2)) ?_)
   intro w hI
   refine pu (iv (q x1).s) rfl (pu (iv (q x1).s) rfl (seq_nil (wp_seq (wp_seq (rgn rfl (pu (f1) rfl (seq_c (s_loadK hI 0 6 [iv x1.src,iv x1.hr,iv x1.lo,iv x1.hi,iv x1.kn,iv x1.un] Tryz.isAgg30 Tryz.sizeOf30 rfl rfl rfl rfl ?_))))))))
   refine seq_c (s_callVv hI [.agg #[iv x1.src,iv x1.hr,iv x1.lo,iv x1.hi,iv x1.kn,iv x1.un]] (iv (p x1)) rfl (by kernel_rfl) (hf1 w hI.but x1 (mem_of_get hx2)) ?_)
   intro w hI
   refine seq_c (s_neq rfl rfl ?_ ?_)
   ·intro h4
    refine pu (.bool true) rfl (of_ rfl (of_ rfl (of_ rfl (pu (.bool true) rfl (pu (.bool true) rfl (of_ rfl (of_ rfl (of_ rfl (pu (.bool true) rfl ?_)))))))))
    refine seq_nil (wp_condT rfl (wp_seq (rgn rfl (pu (.bool false) rfl (seq_nil (wp_ret ?_))))))
    exact ⟨.bool false,Ret.r1 rfl rfl,⟨es1,ck1,(by refine congrArg Value.bool (Eq.symm ?_); rw [checkB,hok,okl_no hx2 (fun h=>by first | exact absurd h.1 (by assumption) | (have:=h.2.1; omega) | simp_all)]; simp),hI.pickL [1] (by decide) rfl,(fun h=>absurd (h.symm.trans (show checkB p q S l=false by rw [checkB,hok,okl_no hx2 (fun h=>by first | exact absurd h.1 (by assumption) | (have:=h.2.1; omega) | simp_all)]; simp)) (by simp))⟩⟩
   ·intro h5
    refine pu (.bool false) rfl (puo (iv (q x1).s) ⟨rfl,rfl⟩ (puo (iv last) ⟨rfl,rfl⟩ (seq_on rfl (s_leq rfl rfl ?_ ?_))))
    ·intro h6
     refine pu (.bool true) rfl (pu (.bool true) rfl (of_ rfl (of_ rfl (of_ rfl (pu (.bool true) rfl (seq_nil (wp_condT rfl (wp_seq (rgn rfl ?_)))))))))
     refine pu (.bool false) rfl (seq_nil (wp_ret ?_))
     exact ⟨.bool false,Ret.r1 rfl rfl,⟨es1,ck1,(by refine congrArg Value.bool (Eq.symm ?_); rw [checkB,hok,okl_no hx2 (fun h=>by first | exact absurd h.1 (by assumption) | (have:=h.2.1; omega) | simp_all)]; simp),hI.pickL [1] (by decide) rfl,(fun h=>absurd (h.symm.trans (show checkB p q S l=false by rw [checkB,hok,okl_no hx2 (fun h=>by first | exact absurd h.1 (by assumption) | (have:=h.2.1; omega) | simp_all)]; simp)) (by simp))⟩⟩
    ·intro h7
     refine pu (.bool false) rfl (pu (.bool false) rfl (puo (.map (some mp)) ⟨rfl,rfl⟩ (puo (iv (q x1).s) ⟨rfl,rfl⟩ ?_)))
     rcases Bool.eq_false_or_eq_true (S1 (q x1).s) with h8 | h8
     ·refine seq_on rfl (s_lookup hI (.bool true) Tryz.underlying103 Tryz.underlying3 Tryz.zeroValue4 1 rfl rfl rfl ((hS1 _).trans (congrArg Value.bool h8)) ?_)
      refine pu (.bool true) rfl (seq_nil (wp_condT rfl (wp_seq (rgn rfl (pu (.bool false) rfl (seq_nil (wp_ret ?_)))))))
      exact ⟨.bool false,Ret.r1 rfl rfl,⟨es1,ck1,(by refine congrArg Value.bool (Eq.symm ?_); rw [checkB,hok,okl_no hx2 (fun h=>by first | exact absurd h.1 (by assumption) | (have:=h.2.1; omega) | simp_all)]; simp),hI.pickL [1] (by decide) rfl,(fun h=>absurd (h.symm.trans (show checkB p q S l=false by rw [checkB,hok,okl_no hx2 (fun h=>by first | exact absurd h.1 (by assumption) | (have:=h.2.1; omega) | simp_all)]; simp)) (by simp))⟩⟩
     ·refine seq_on rfl (s_lookup hI (.bool false) Tryz.underlying103 Tryz.underlying3 Tryz.zeroValue4 1 rfl rfl rfl ((hS1 _).trans (congrArg Value.bool h8)) ?_)
      refine pu (.bool false) rfl (seq_nil (wp_condF rfl (wp_skip (wp_seq (rgn rfl (pu (.map (some mp)) rfl (pu (iv (q x1).s) rfl (seq_c (s_mapUpdate hI Tryz.underlying103 Tryz.underlying3 1 rfl rfl rfl rfl ho1 ?_)))))))))
      intro es10 ck11 w hI ho12 hg13
      have hS14:∀ j,(mget es10 j).getD (.bool false)=.bool ((fun j=>if j=(q x1).s then true else S1 j) j):=fun j=>by rw [hg13 j]; show _=Value.bool (if j=(q x1).s then true else S1 j); by_cases hj:j=(q x1).s; (rw [if_pos hj,if_pos hj]; rfl); (rw [if_neg hj,if_neg hj]; exact hS1 j)
      refine seq_nil (rgn rfl (pu (iv (q x1).s) rfl (pu (iv (q x1).s) rfl (seq_nil (rgn rfl (seq_c (s_add rfl rfl (by omega) ?_)))))))
      refine pu (iv ((k:Int)+1)) rfl (seq_nil ?_)
      exact ⟨rfl,_,(by omega),⟨k+1,(q x1).s,es10,ck11,(fun j=>if j=(q x1).s then true else S1 j),⟨rfl,rfl,rfl,rfl,rfl,rfl,rfl,trivial⟩,hI.pickL [1] (by decide) rfl,(by omega),ho12,hS14,(hok.trans (okl_yes hx2 (by assumption) (by omega) (by assumption))),(seen_step hse hx2),rfl⟩⟩
  ·intro h9
   refine seq_nil (wp_seq (wp_condF rfl (wp_exit ?_)))
   refine wp_seq (rgn rfl (pu (.bool true) rfl (seq_nil (wp_ret ?_))))
   exact ⟨.bool true,Ret.r1 rfl rfl,⟨es1,ck1,(by rw [checkB,hok,okl_end (by omega)]; simp; omega),hI.pickL [0] (by decide) rfl,fun _=>⟨ho1,fun j=>by rw [hS1 j,hse j,List.take_of_length_le (by omega)]⟩⟩⟩


theorem checkStands_c (w0:World) (l:List Ld) (A:Option Addr) (n c:Nat) (f1 f2:Value) (p:Ld→Int) (q:Ld→Nt) (mp:Nat) (es:List En) (clk:Nat) (S:Int→Bool) (hn:n=l.length) (hmax:n≤9223372036854775807) (hC:CellsB [mp] w0 A (flat eLd l)) (hm:w0.heap[mp]?=some (mobj es clk)) (ho:MOk es clk) (hS:∀ j,(mget es j).getD (.bool false)=.bool (S j)) (hf1:∀ w,But [mp] w0 w→∀ x∈l,CallV Tryz.prog f1 [.agg (eLd x).toArray] w fun v w'=>v=.int .i64 (p x)∧Below w.heap.size w w') (hf2:∀ w,But [mp] w0 w→∀ x∈l,CallV Tryz.prog f2 [.agg (eLd x).toArray] w fun v w'=>v=.agg (eNt (q x)).toArray∧Below w.heap.size w w'):Does Tryz.prog 75 [.slice A n c,f1,f2,.map (some mp)] w0 fun v w=>∃ es1 ck1,v=.bool (checkB p q S l)∧Inv [mp] w0 w [(some mp,mobj es1 ck1)]∧(checkB p q S l=true→MOk es1 ck1∧∀ j,(mget es1 j).getD (.bool false)=.bool (seenB q S l j)):=by
 refine calls_of (n:=44) Tryz.func75 rfl Tryz.ntmps75 rfl ?_
 have hI:=Inv.lent w0 (some mp) (mobj es clk) (fun b hb=>by injection hb with hb; subst hb; exact hm)
 refine wp_seq (rgn rfl (pu (.bool false) rfl (seq_nil (wp_seq (wp_seq (rgn rfl (pu (.slice A n c) rfl (pu (iv ((n:Nat):Int)) (by kernel_rfl) (seq_c (s_gtr rfl rfl ?_ ?_))))))))))
 ·intro h1
  refine seq_nil (wp_condT rfl (wp_seq (rgn rfl (pu (.bool false) rfl (seq_nil (wp_ret ?_))))))
  exact ⟨.bool false,Ret.r1 rfl rfl,⟨es,clk,(by refine congrArg Value.bool (Eq.symm ?_); rw [checkB]; simp; omega),hI.pickL [0] (by decide) rfl,(fun h=>absurd (h.symm.trans (show checkB p q S l=false by rw [checkB]; simp; omega)) (by simp))⟩⟩
 ·intro h2
  refine seq_nil (wp_condF rfl (wp_skip (wp_seq (rgn rfl (pu (iv 0) rfl (seq_nil (wp_seq (wp_seq (rgn rfl ?_)))))))))
  refine pu (.slice A n c) rfl (pu (iv ((n:Nat):Int)) (by kernel_rfl) (pu (iv 0) rfl (seq_nil (wp_block ?_))))
  refine wp_loop (fun m ρ w=>∃ (k:Nat) (last:Int) (es1:List En) (ck1:Nat) (S1:Int→Bool),Agree ρ [(1,f1),(2,f2),(3,.map (some mp)),(9,iv last),(16,.slice A n c),(17,iv (n:Int)),(18,iv (k:Int))]∧Inv [mp] w0 w [(some mp,mobj es1 ck1)]∧(k≤n)∧(MOk es1 ck1)∧(∀ j,(mget es1 j).getD (.bool false)=.bool (S1 j))∧(okl p q 0 S l=okl p q last S1 (l.drop k))∧(∀ j,S1 j=seenB q S (l.take k) j)∧m=n - k) (m:=n - 0) ⟨0,0,es,clk,S,⟨rfl,rfl,rfl,rfl,rfl,rfl,rfl,trivial⟩,hI.pickL [0] (by decide) rfl,(by omega),ho,hS,rfl,(fun j=>by simp [seenB]),rfl⟩ ?_
  rintro m ρ w ⟨k,last,es1,ck1,S1,hag,hI,hk,ho1,hS1,hok,hse,hm⟩
  obtain ⟨ρ,rfl⟩:=hag.form; clear hag
  refine wp_seq (rgn rfl (seq_c (s_lss rfl rfl ?_ ?_)))
  ·intro h3
   refine seq_nil (wp_seq (wp_condT rfl (wp_skip (wp_seq (wp_block ?_)))))
   refine wp_seq (rgn rfl ?_)
   obtain ⟨x1,hx2⟩:=get_lt (l:=l) (i:=k) (by omega)
   obtain ⟨b3,o4,hA5,hb6,hB8,he7⟩:=hC.at_ eLd_len (by decide) hx2
   refine seq_c (s_indexA k Tryz.underlying25 Tryz.sizeOf31 rfl hA5 rfl rfl (by omega) ?_)
   refine seq_c (s_loadBK hI [iv x1.src,iv x1.hr,iv x1.lo,iv x1.hi,iv x1.kn,iv x1.un] Tryz.isAgg31 Tryz.sizeOf31 rfl rfl hb6 hB8 he7 ?_)
   refine seq_c (s_allocI hI [iv 0,iv 0,iv 0,iv 0,iv 0,iv 0] Tryz.zeroValue31 rfl ?_)
   intro b9 w hI
   refine seq_c (s_store hI 0 6 [iv x1.src,iv x1.hr,iv x1.lo,iv x1.hi,iv x1.kn,iv x1.un] Tryz.sizeOf31 rfl rfl rfl rfl rfl (Nat.le_of_ble_eq_true rfl) ?_)
   intro w hI
   refine seq_nil (wp_seq (rgn rfl (pu (f2) rfl (seq_c (s_loadK hI 0 6 [iv x1.src,iv x1.hr,iv x1.lo,iv x1.hi,iv x1.kn,iv x1.un] Tryz.isAgg31 Tryz.sizeOf31 rfl rfl rfl rfl ?_)))))
   refine seq_c (s_callVv hI [.agg #[iv x1.src,iv x1.hr,iv x1.lo,iv x1.hi,iv x1.kn,iv x1.un]] (.agg #[iv (q x1).s,iv (q x1).k,iv (q x1).u]) rfl (by kernel_rfl) (hf2 w hI.but x1 (mem_of_get hx2)) ?_)
   intro w hI
   refine pu (iv (q x1).s) rfl (pu (iv (q x1).s) rfl (seq_nil (wp_seq (wp_seq (rgn rfl (pu (f1) rfl (seq_c (s_loadK hI 0 6 [iv x1.src,iv x1.hr,iv x1.lo,iv x1.hi,iv x1.kn,iv x1.un] Tryz.isAgg31 Tryz.sizeOf31 rfl rfl rfl rfl ?_))))))))
   refine seq_c (s_callVv hI [.agg #[iv x1.src,iv x1.hr,iv x1.lo,iv x1.hi,iv x1.kn,iv x1.un]] (iv (p x1)) rfl (by kernel_rfl) (hf1 w hI.but x1 (mem_of_get hx2)) ?_)
   intro w hI
   refine seq_c (s_neq rfl rfl ?_ ?_)
   ·intro h4
    refine pu (.bool true) rfl (of_ rfl (of_ rfl (of_ rfl (pu (.bool true) rfl (pu (.bool true) rfl (of_ rfl (of_ rfl (of_ rfl (pu (.bool true) rfl ?_)))))))))
    refine seq_nil (wp_condT rfl (wp_seq (rgn rfl (pu (.bool false) rfl (seq_nil (wp_ret ?_))))))
    exact ⟨.bool false,Ret.r1 rfl rfl,⟨es1,ck1,(by refine congrArg Value.bool (Eq.symm ?_); rw [checkB,hok,okl_no hx2 (fun h=>by first | exact absurd h.1 (by assumption) | (have:=h.2.1; omega) | simp_all)]; simp),hI.pickL [1] (by decide) rfl,(fun h=>absurd (h.symm.trans (show checkB p q S l=false by rw [checkB,hok,okl_no hx2 (fun h=>by first | exact absurd h.1 (by assumption) | (have:=h.2.1; omega) | simp_all)]; simp)) (by simp))⟩⟩
   ·intro h5
    refine pu (.bool false) rfl (puo (iv (q x1).s) ⟨rfl,rfl⟩ (puo (iv last) ⟨rfl,rfl⟩ (seq_on rfl (s_leq rfl rfl ?_ ?_))))
    ·intro h6
     refine pu (.bool true) rfl (pu (.bool true) rfl (of_ rfl (of_ rfl (of_ rfl (pu (.bool true) rfl (seq_nil (wp_condT rfl (wp_seq (rgn rfl ?_)))))))))
     refine pu (.bool false) rfl (seq_nil (wp_ret ?_))
     exact ⟨.bool false,Ret.r1 rfl rfl,⟨es1,ck1,(by refine congrArg Value.bool (Eq.symm ?_); rw [checkB,hok,okl_no hx2 (fun h=>by first | exact absurd h.1 (by assumption) | (have:=h.2.1; omega) | simp_all)]; simp),hI.pickL [1] (by decide) rfl,(fun h=>absurd (h.symm.trans (show checkB p q S l=false by rw [checkB,hok,okl_no hx2 (fun h=>by first | exact absurd h.1 (by assumption) | (have:=h.2.1; omega) | simp_all)]; simp)) (by simp))⟩⟩
    ·intro h7
     refine pu (.bool false) rfl (pu (.bool false) rfl (puo (.map (some mp)) ⟨rfl,rfl⟩ (puo (iv (q x1).s) ⟨rfl,rfl⟩ ?_)))
     rcases Bool.eq_false_or_eq_true (S1 (q x1).s) with h8 | h8
     ·refine seq_on rfl (s_lookup hI (.bool true) Tryz.underlying103 Tryz.underlying3 Tryz.zeroValue4 1 rfl rfl rfl ((hS1 _).trans (congrArg Value.bool h8)) ?_)
      refine pu (.bool true) rfl (seq_nil (wp_condT rfl (wp_seq (rgn rfl (pu (.bool false) rfl (seq_nil (wp_ret ?_)))))))
      exact ⟨.bool false,Ret.r1 rfl rfl,⟨es1,ck1,(by refine congrArg Value.bool (Eq.symm ?_); rw [checkB,hok,okl_no hx2 (fun h=>by first | exact absurd h.1 (by assumption) | (have:=h.2.1; omega) | simp_all)]; simp),hI.pickL [1] (by decide) rfl,(fun h=>absurd (h.symm.trans (show checkB p q S l=false by rw [checkB,hok,okl_no hx2 (fun h=>by first | exact absurd h.1 (by assumption) | (have:=h.2.1; omega) | simp_all)]; simp)) (by simp))⟩⟩
     ·refine seq_on rfl (s_lookup hI (.bool false) Tryz.underlying103 Tryz.underlying3 Tryz.zeroValue4 1 rfl rfl rfl ((hS1 _).trans (congrArg Value.bool h8)) ?_)
      refine pu (.bool false) rfl (seq_nil (wp_condF rfl (wp_skip (wp_seq (rgn rfl (pu (.map (some mp)) rfl (pu (iv (q x1).s) rfl (seq_c (s_mapUpdate hI Tryz.underlying103 Tryz.underlying3 1 rfl rfl rfl rfl ho1 ?_)))))))))
      intro es10 ck11 w hI ho12 hg13
      have hS14:∀ j,(mget es10 j).getD (.bool false)=.bool ((fun j=>if j=(q x1).s then true else S1 j) j):=fun j=>by rw [hg13 j]; show _=Value.bool (if j=(q x1).s then true else S1 j); by_cases hj:j=(q x1).s; (rw [if_pos hj,if_pos hj]; rfl); (rw [if_neg hj,if_neg hj]; exact hS1 j)
      refine seq_nil (rgn rfl (pu (iv (q x1).s) rfl (pu (iv (q x1).s) rfl (seq_nil (rgn rfl (seq_c (s_add rfl rfl (by omega) ?_)))))))
      refine pu (iv ((k:Int)+1)) rfl (seq_nil ?_)
      exact ⟨rfl,_,(by omega),⟨k+1,(q x1).s,es10,ck11,(fun j=>if j=(q x1).s then true else S1 j),⟨rfl,rfl,rfl,rfl,rfl,rfl,rfl,trivial⟩,hI.pickL [1] (by decide) rfl,(by omega),ho12,hS14,(hok.trans (okl_yes hx2 (by assumption) (by omega) (by assumption))),(seen_step hse hx2),rfl⟩⟩
  ·intro h9
   refine seq_nil (wp_seq (wp_condF rfl (wp_exit ?_)))
   refine wp_seq (rgn rfl (pu (.bool true) rfl (seq_nil (wp_ret ?_))))
   exact ⟨.bool true,Ret.r1 rfl rfl,⟨es1,ck1,(by rw [checkB,hok,okl_end (by omega)]; simp; omega),hI.pickL [0] (by decide) rfl,fun _=>⟨ho1,fun j=>by rw [hS1 j,hse j,List.take_of_length_le (by omega)]⟩⟩⟩


theorem checkSpells_c (w0:World) (l:List Sp) (A:Option Addr) (n c:Nat) (f1 f2:Value) (p:Sp→Int) (q:Sp→Nt) (mp:Nat) (es:List En) (clk:Nat) (S:Int→Bool) (hn:n=l.length) (hmax:n≤9223372036854775807) (hC:CellsB [mp] w0 A (flat eSp l)) (hm:w0.heap[mp]?=some (mobj es clk)) (ho:MOk es clk) (hS:∀ j,(mget es j).getD (.bool false)=.bool (S j)) (hf1:∀ w,But [mp] w0 w→∀ x∈l,CallV Tryz.prog f1 [.agg (eSp x).toArray] w fun v w'=>v=.int .i64 (p x)∧Below w.heap.size w w') (hf2:∀ w,But [mp] w0 w→∀ x∈l,CallV Tryz.prog f2 [.agg (eSp x).toArray] w fun v w'=>v=.agg (eNt (q x)).toArray∧Below w.heap.size w w'):Does Tryz.prog 77 [.slice A n c,f1,f2,.map (some mp)] w0 fun v w=>∃ es1 ck1,v=.bool (checkB p q S l)∧Inv [mp] w0 w [(some mp,mobj es1 ck1)]∧(checkB p q S l=true→MOk es1 ck1∧∀ j,(mget es1 j).getD (.bool false)=.bool (seenB q S l j)):=by
 refine calls_of (n:=44) Tryz.func77 rfl Tryz.ntmps77 rfl ?_
 have hI:=Inv.lent w0 (some mp) (mobj es clk) (fun b hb=>by injection hb with hb; subst hb; exact hm)
 refine wp_seq (rgn rfl (pu (.bool false) rfl (seq_nil (wp_seq (wp_seq (rgn rfl (pu (.slice A n c) rfl (pu (iv ((n:Nat):Int)) (by kernel_rfl) (seq_c (s_gtr rfl rfl ?_ ?_))))))))))
 ·intro h1
  refine seq_nil (wp_condT rfl (wp_seq (rgn rfl (pu (.bool false) rfl (seq_nil (wp_ret ?_))))))
  exact ⟨.bool false,Ret.r1 rfl rfl,⟨es,clk,(by refine congrArg Value.bool (Eq.symm ?_); rw [checkB]; simp; omega),hI.pickL [0] (by decide) rfl,(fun h=>absurd (h.symm.trans (show checkB p q S l=false by rw [checkB]; simp; omega)) (by simp))⟩⟩
 ·intro h2
  refine seq_nil (wp_condF rfl (wp_skip (wp_seq (rgn rfl (pu (iv 0) rfl (seq_nil (wp_seq (wp_seq (rgn rfl ?_)))))))))
  refine pu (.slice A n c) rfl (pu (iv ((n:Nat):Int)) (by kernel_rfl) (pu (iv 0) rfl (seq_nil (wp_block ?_))))
  refine wp_loop (fun m ρ w=>∃ (k:Nat) (last:Int) (es1:List En) (ck1:Nat) (S1:Int→Bool),Agree ρ [(1,f1),(2,f2),(3,.map (some mp)),(9,iv last),(16,.slice A n c),(17,iv (n:Int)),(18,iv (k:Int))]∧Inv [mp] w0 w [(some mp,mobj es1 ck1)]∧(k≤n)∧(MOk es1 ck1)∧(∀ j,(mget es1 j).getD (.bool false)=.bool (S1 j))∧(okl p q 0 S l=okl p q last S1 (l.drop k))∧(∀ j,S1 j=seenB q S (l.take k) j)∧m=n - k) (m:=n - 0) ⟨0,0,es,clk,S,⟨rfl,rfl,rfl,rfl,rfl,rfl,rfl,trivial⟩,hI.pickL [0] (by decide) rfl,(by omega),ho,hS,rfl,(fun j=>by simp [seenB]),rfl⟩ ?_
  rintro m ρ w ⟨k,last,es1,ck1,S1,hag,hI,hk,ho1,hS1,hok,hse,hm⟩
  obtain ⟨ρ,rfl⟩:=hag.form; clear hag
  refine wp_seq (rgn rfl (seq_c (s_lss rfl rfl ?_ ?_)))
  ·intro h3
   refine seq_nil (wp_seq (wp_condT rfl (wp_skip (wp_seq (wp_block ?_)))))
   refine wp_seq (rgn rfl ?_)
   obtain ⟨x1,hx2⟩:=get_lt (l:=l) (i:=k) (by omega)
   obtain ⟨b3,o4,hA5,hb6,hB8,he7⟩:=hC.at_ eSp_len (by decide) hx2
   refine seq_c (s_indexA k Tryz.underlying26 Tryz.sizeOf33 rfl hA5 rfl rfl (by omega) ?_)
   refine seq_c (s_loadBK hI [iv x1.src,iv x1.kd,iv x1.fr,iv x1.to,iv x1.kn,iv x1.un] Tryz.isAgg33 Tryz.sizeOf33 rfl rfl hb6 hB8 he7 ?_)
   refine seq_c (s_allocI hI [iv 0,iv 0,iv 0,iv 0,iv 0,iv 0] Tryz.zeroValue33 rfl ?_)
   intro b9 w hI
   refine seq_c (s_store hI 0 6 [iv x1.src,iv x1.kd,iv x1.fr,iv x1.to,iv x1.kn,iv x1.un] Tryz.sizeOf33 rfl rfl rfl rfl rfl (Nat.le_of_ble_eq_true rfl) ?_)
   intro w hI
   refine seq_nil (wp_seq (rgn rfl (pu (f2) rfl (seq_c (s_loadK hI 0 6 [iv x1.src,iv x1.kd,iv x1.fr,iv x1.to,iv x1.kn,iv x1.un] Tryz.isAgg33 Tryz.sizeOf33 rfl rfl rfl rfl ?_)))))
   refine seq_c (s_callVv hI [.agg #[iv x1.src,iv x1.kd,iv x1.fr,iv x1.to,iv x1.kn,iv x1.un]] (.agg #[iv (q x1).s,iv (q x1).k,iv (q x1).u]) rfl (by kernel_rfl) (hf2 w hI.but x1 (mem_of_get hx2)) ?_)
   intro w hI
   refine pu (iv (q x1).s) rfl (pu (iv (q x1).s) rfl (seq_nil (wp_seq (wp_seq (rgn rfl (pu (f1) rfl (seq_c (s_loadK hI 0 6 [iv x1.src,iv x1.kd,iv x1.fr,iv x1.to,iv x1.kn,iv x1.un] Tryz.isAgg33 Tryz.sizeOf33 rfl rfl rfl rfl ?_))))))))
   refine seq_c (s_callVv hI [.agg #[iv x1.src,iv x1.kd,iv x1.fr,iv x1.to,iv x1.kn,iv x1.un]] (iv (p x1)) rfl (by kernel_rfl) (hf1 w hI.but x1 (mem_of_get hx2)) ?_)
   intro w hI
   refine seq_c (s_neq rfl rfl ?_ ?_)
   ·intro h4
    refine pu (.bool true) rfl (of_ rfl (of_ rfl (of_ rfl (pu (.bool true) rfl (pu (.bool true) rfl (of_ rfl (of_ rfl (of_ rfl (pu (.bool true) rfl ?_)))))))))
    refine seq_nil (wp_condT rfl (wp_seq (rgn rfl (pu (.bool false) rfl (seq_nil (wp_ret ?_))))))
    exact ⟨.bool false,Ret.r1 rfl rfl,⟨es1,ck1,(by refine congrArg Value.bool (Eq.symm ?_); rw [checkB,hok,okl_no hx2 (fun h=>by first | exact absurd h.1 (by assumption) | (have:=h.2.1; omega) | simp_all)]; simp),hI.pickL [1] (by decide) rfl,(fun h=>absurd (h.symm.trans (show checkB p q S l=false by rw [checkB,hok,okl_no hx2 (fun h=>by first | exact absurd h.1 (by assumption) | (have:=h.2.1; omega) | simp_all)]; simp)) (by simp))⟩⟩
   ·intro h5
    refine pu (.bool false) rfl (puo (iv (q x1).s) ⟨rfl,rfl⟩ (puo (iv last) ⟨rfl,rfl⟩ (seq_on rfl (s_leq rfl rfl ?_ ?_))))
    ·intro h6
     refine pu (.bool true) rfl (pu (.bool true) rfl (of_ rfl (of_ rfl (of_ rfl (pu (.bool true) rfl (seq_nil (wp_condT rfl (wp_seq (rgn rfl ?_)))))))))
     refine pu (.bool false) rfl (seq_nil (wp_ret ?_))
     exact ⟨.bool false,Ret.r1 rfl rfl,⟨es1,ck1,(by refine congrArg Value.bool (Eq.symm ?_); rw [checkB,hok,okl_no hx2 (fun h=>by first | exact absurd h.1 (by assumption) | (have:=h.2.1; omega) | simp_all)]; simp),hI.pickL [1] (by decide) rfl,(fun h=>absurd (h.symm.trans (show checkB p q S l=false by rw [checkB,hok,okl_no hx2 (fun h=>by first | exact absurd h.1 (by assumption) | (have:=h.2.1; omega) | simp_all)]; simp)) (by simp))⟩⟩
    ·intro h7
     refine pu (.bool false) rfl (pu (.bool false) rfl (puo (.map (some mp)) ⟨rfl,rfl⟩ (puo (iv (q x1).s) ⟨rfl,rfl⟩ ?_)))
     rcases Bool.eq_false_or_eq_true (S1 (q x1).s) with h8 | h8
     ·refine seq_on rfl (s_lookup hI (.bool true) Tryz.underlying103 Tryz.underlying3 Tryz.zeroValue4 1 rfl rfl rfl ((hS1 _).trans (congrArg Value.bool h8)) ?_)
      refine pu (.bool true) rfl (seq_nil (wp_condT rfl (wp_seq (rgn rfl (pu (.bool false) rfl (seq_nil (wp_ret ?_)))))))
      exact ⟨.bool false,Ret.r1 rfl rfl,⟨es1,ck1,(by refine congrArg Value.bool (Eq.symm ?_); rw [checkB,hok,okl_no hx2 (fun h=>by first | exact absurd h.1 (by assumption) | (have:=h.2.1; omega) | simp_all)]; simp),hI.pickL [1] (by decide) rfl,(fun h=>absurd (h.symm.trans (show checkB p q S l=false by rw [checkB,hok,okl_no hx2 (fun h=>by first | exact absurd h.1 (by assumption) | (have:=h.2.1; omega) | simp_all)]; simp)) (by simp))⟩⟩
     ·refine seq_on rfl (s_lookup hI (.bool false) Tryz.underlying103 Tryz.underlying3 Tryz.zeroValue4 1 rfl rfl rfl ((hS1 _).trans (congrArg Value.bool h8)) ?_)
      refine pu (.bool false) rfl (seq_nil (wp_condF rfl (wp_skip (wp_seq (rgn rfl (pu (.map (some mp)) rfl (pu (iv (q x1).s) rfl (seq_c (s_mapUpdate hI Tryz.underlying103 Tryz.underlying3 1 rfl rfl rfl rfl ho1 ?_)))))))))
      intro es10 ck11 w hI ho12 hg13
      have hS14:∀ j,(mget es10 j).getD (.bool false)=.bool ((fun j=>if j=(q x1).s then true else S1 j) j):=fun j=>by rw [hg13 j]; show _=Value.bool (if j=(q x1).s then true else S1 j); by_cases hj:j=(q x1).s; (rw [if_pos hj,if_pos hj]; rfl); (rw [if_neg hj,if_neg hj]; exact hS1 j)
      refine seq_nil (rgn rfl (pu (iv (q x1).s) rfl (pu (iv (q x1).s) rfl (seq_nil (rgn rfl (seq_c (s_add rfl rfl (by omega) ?_)))))))
      refine pu (iv ((k:Int)+1)) rfl (seq_nil ?_)
      exact ⟨rfl,_,(by omega),⟨k+1,(q x1).s,es10,ck11,(fun j=>if j=(q x1).s then true else S1 j),⟨rfl,rfl,rfl,rfl,rfl,rfl,rfl,trivial⟩,hI.pickL [1] (by decide) rfl,(by omega),ho12,hS14,(hok.trans (okl_yes hx2 (by assumption) (by omega) (by assumption))),(seen_step hse hx2),rfl⟩⟩
  ·intro h9
   refine seq_nil (wp_seq (wp_condF rfl (wp_exit ?_)))
   refine wp_seq (rgn rfl (pu (.bool true) rfl (seq_nil (wp_ret ?_))))
   exact ⟨.bool true,Ret.r1 rfl rfl,⟨es1,ck1,(by rw [checkB,hok,okl_end (by omega)]; simp; omega),hI.pickL [0] (by decide) rfl,fun _=>⟨ho1,fun j=>by rw [hS1 j,hse j,List.take_of_length_le (by omega)]⟩⟩⟩

section steps
variable {P:Program} {ρ:Env} {B:List Nat} {w w0:World} {L:List (Option Nat × Obj)} {R:Value→World→Prop}
/-- A call that was lent a map and tells a bool. -/
theorem s_callMap (hI:Inv B w0 w L) {o:Oper} (f:FuncId) (args:List Value) (b:Bool) {X:List En→Nat→Prop} (i:Nat) {mb:Nat} {o':Obj} (hi:L[i]?=some (some mb,o')) (h:(execOp (ev ρ) o).run P w=.ok (.enter f args.toArray) w)
    (hc:Does P f args w fun v w'=>∃ es ck,v=.bool b∧Inv [mb] w w' [(some mb,mobj es ck)]∧(b=true→X es ck))
    (kT:b=true→∀ es ck w',Inv B w0 w' ((some mb,mobj es ck) :: L.set i (none,o'))→X es ck→R (.bool true) w') (kF:b=false→∀ es ck w',Inv B w0 w' ((some mb,mobj es ck) :: L.set i (none,o'))→R (.bool false) w'):Step P o ρ w R :=
  s_call f args h hc fun v w' ⟨es,ck,hv,hN,hx⟩=>by
    subst hv
    cases b with
    | true=>exact kT rfl es ck w' (hI.back i hi hN) (hx rfl)
    | false=>exact kF rfl es ck w' (hI.back i hi hN)
end steps
def ntL (x:Ld):Nt:=⟨x.src,x.kn,x.un⟩
def ntS (x:Sp):Nt:=⟨x.src,x.kn,x.un⟩
def okL (e:Int) (x:Ld):Int:=codeI (loadB x.src x.hr x.lo x.hi x.kn x.un) e
def okS (x:Sp):Int:=codeI (spellB x.src x.kd x.fr x.to x.kn x.un) 12
/-- Whether a plot is valid. -/
def plotB (p:Pl):Bool:=areSheavesB p.lo p.hi && decide (0≤p.geese) && decide (p.geese≤60) && checkB (okL 10) ntL (fun _=>false) p.loads && checkB (okL 11) ntL (seenB ntL (fun _=>false) p.loads) p.stands
  && checkB okS ntS (seenB ntL (seenB ntL (fun _=>false) p.loads) p.stands) p.spells


theorem Check_c (w0:World) (pl:Pl) (pA1:Option Addr) (pn1 pc1:Nat) (pA2:Option Addr) (pn2 pc2:Nat) (pA3:Option Addr) (pn3 pc3:Nat) (hP:PlotIn w0 pl pA1 pn1 pA2 pn2 pA3 pn3):Does Tryz.prog 22 [.agg #[.int .i64 pl.lo,.int .i64 pl.hi,.slice pA1 pn1 pc1,.slice pA2 pn2 pc2,.slice pA3 pn3 pc3,.int .i64 pl.geese]] w0 fun v w=>v=.int .i64 (codeI (plotB pl) 13)∧Below w0.heap.size w0 w:=by
 refine calls_of (n:=38) Tryz.func22 rfl Tryz.ntmps22 rfl ?_
 have hI:=Inv.start w0
 refine wp_seq (rgn rfl (seq_c (s_boxI hI [iv pl.lo,iv pl.hi,.slice pA1 pn1 pc1,.slice pA2 pn2 pc2,.slice pA3 pn3 pc3,iv pl.geese] rfl ?_)))
 intro b1 w hI
 refine pu (iv 0) rfl (seq_nil (wp_seq (rgn rfl (seq_c (s_makeMap hI ?_)))))
 intro b2 w hI
 refine pu (.map (some b2)) rfl (seq_nil (wp_seq (rgn rfl (pu (.pointer (some ⟨b1,0,none⟩)) rfl (seq_c (s_loadK hI 1 2 [iv pl.lo,iv pl.hi] Tryz.isAgg23 Tryz.sizeOf23 rfl rfl rfl rfl ?_))))))
 refine seq_c (s_callb hI 72 [.agg #[iv pl.lo,iv pl.hi]] (areSheavesB pl.lo pl.hi) (by kernel_rfl) (areSheaves_c pl.lo pl.hi _) ?_ ?_)
 ·intro h1 w hI
  refine pu (.bool true) rfl (puo (.pointer (some ⟨b1,5,none⟩)) ⟨rfl,rfl⟩ (seq_on rfl (s_load1 hI 1 (iv pl.geese) Tryz.isAgg3 rfl rfl rfl ?_)))
  refine seq_on rfl (s_geq rfl rfl ?_ ?_)
  ·intro h2
   refine pu (.bool true) rfl (pu (.bool true) rfl (puo (.pointer (some ⟨b1,5,none⟩)) ⟨rfl,rfl⟩ (seq_on rfl (s_load1 hI 1 (iv pl.geese) Tryz.isAgg3 rfl rfl rfl ?_))))
   refine seq_on rfl (s_leq rfl rfl ?_ ?_)
   ·intro h3
    refine pu (.bool true) rfl (pu (.bool true) rfl (puo (.pointer (some ⟨b1,2,none⟩)) ⟨rfl,rfl⟩ (seq_on rfl (s_load1 hI 1 (.slice pA1 pn1 pc1) Tryz.isAgg24 rfl rfl rfl ?_))))
    refine puo (.map (some b2)) ⟨rfl,rfl⟩ (seq_on rfl (s_callMap hI 73 [.slice pA1 pn1 pc1,.func (.func 24) #[] #[],.func (.func 74) #[] #[],.map (some b2)] (checkB (okL 10) ntL (fun _=>false) pl.loads) (X:=fun es1 ck1=>MOk es1 ck1∧∀ j,(mget es1 j).getD (.bool false)=.bool (seenB ntL (fun _=>false) pl.loads j)) 0 rfl (by kernel_rfl) (checkLoads_c _ pl.loads pA1 pn1 pc1 (.func (.func 24) #[] #[]) (.func (.func 74) #[] #[]) (okL 10) ntL b2 [] 0 (fun _=>false) hP.m1 hP.b1 (hI.apartBase 0 rfl hP.c1) (hI.has 0 _ _ rfl).1 MOk.nilM (fun _=>rfl) (fun w1 _ x _=>CallV.of (args':=[.agg (eLd x).toArray]) rfl (CheckLoad_c x.src x.hr x.lo x.hi x.kn x.un w1)) (fun w1 _ x _=>CallV.of (args':=[.agg (eLd x).toArray]) rfl (noteOfLoad_c x.src x.hr x.lo x.hi x.kn x.un w1))) ?_ ?_))
    ·intro h4 es3 ck4 w hI hx5
     refine pu (.bool true) rfl (pu (.bool true) rfl (puo (.pointer (some ⟨b1,3,none⟩)) ⟨rfl,rfl⟩ (seq_on rfl (s_load1 hI 2 (.slice pA2 pn2 pc2) Tryz.isAgg25 rfl rfl rfl ?_))))
     refine puo (.map (some b2)) ⟨rfl,rfl⟩ (seq_on rfl (s_callMap hI 75 [.slice pA2 pn2 pc2,.func (.func 26) #[] #[],.func (.func 76) #[] #[],.map (some b2)] (checkB (okL 11) ntL (seenB ntL (fun _=>false) pl.loads) pl.stands) (X:=fun es1 ck1=>MOk es1 ck1∧∀ j,(mget es1 j).getD (.bool false)=.bool (seenB ntL (seenB ntL (fun _=>false) pl.loads) pl.stands j)) 0 rfl (by kernel_rfl) (checkStands_c _ pl.stands pA2 pn2 pc2 (.func (.func 26) #[] #[]) (.func (.func 76) #[] #[]) (okL 11) ntL b2 es3 ck4 (seenB ntL (fun _=>false) pl.loads) hP.m2 hP.b2 (hI.apartBase 0 rfl hP.c2) (hI.has 0 _ _ rfl).1 hx5.1 hx5.2 (fun w1 _ x _=>CallV.of (args':=[.agg (eLd x).toArray]) rfl (CheckStand_c x.src x.hr x.lo x.hi x.kn x.un w1)) (fun w1 _ x _=>CallV.of (args':=[.agg (eLd x).toArray]) rfl (noteOfStand_c x.src x.hr x.lo x.hi x.kn x.un w1))) ?_ ?_))
     ·intro h5 es6 ck7 w hI hx8
      refine pu (.bool true) rfl (pu (.bool true) rfl (puo (.pointer (some ⟨b1,4,none⟩)) ⟨rfl,rfl⟩ (seq_on rfl (s_load1 hI 3 (.slice pA3 pn3 pc3) Tryz.isAgg26 rfl rfl rfl ?_))))
      refine puo (.map (some b2)) ⟨rfl,rfl⟩ (seq_on rfl (s_callMap hI 77 [.slice pA3 pn3 pc3,.func (.func 28) #[] #[],.func (.func 78) #[] #[],.map (some b2)] (checkB okS ntS (seenB ntL (seenB ntL (fun _=>false) pl.loads) pl.stands) pl.spells) (X:=fun es1 ck1=>MOk es1 ck1∧∀ j,(mget es1 j).getD (.bool false)=.bool (seenB ntS (seenB ntL (seenB ntL (fun _=>false) pl.loads) pl.stands) pl.spells j)) 0 rfl (by kernel_rfl) (checkSpells_c _ pl.spells pA3 pn3 pc3 (.func (.func 28) #[] #[]) (.func (.func 78) #[] #[]) okS ntS b2 es6 ck7 (seenB ntL (seenB ntL (fun _=>false) pl.loads) pl.stands) hP.m3 hP.b3 (hI.apartBase 0 rfl hP.c3) (hI.has 0 _ _ rfl).1 hx8.1 hx8.2 (fun w1 _ x _=>CallV.of (args':=[.agg (eSp x).toArray]) rfl (CheckSpell_c x.src x.kd x.fr x.to x.kn x.un w1)) (fun w1 _ x _=>CallV.of (args':=[.agg (eSp x).toArray]) rfl (noteOfSpell_c x.src x.kd x.fr x.to x.kn x.un w1))) ?_ ?_))
      ·intro h6 es9 ck10 w hI hx11
       refine pu (.bool true) rfl (pu (.bool true) rfl (seq_nil (wp_seq (wp_seq (rgn rfl (pu (.bool true) rfl (seq_nil (wp_condT rfl (wp_seq ?_)))))))))
       refine rgn rfl (pu (iv 0) rfl (seq_nil (wp_ret ?_)))
       exact ⟨iv 0,Ret.r1 rfl rfl,⟨by refine congrArg (Value.int .i64) ?_; simp [plotB,codeI,h1,h2,h3,h4,h5,h6],hI.below⟩⟩
      ·intro h7 es12 ck13 w hI
       refine pu (.bool false) rfl (pu (.bool false) rfl (seq_nil (wp_seq (wp_seq (rgn rfl (pu (.bool false) rfl (seq_nil (wp_condF rfl (wp_skip ?_)))))))))
       refine wp_seq (rgn rfl (pu (iv 13) rfl (seq_nil (wp_ret ?_))))
       exact ⟨iv 13,Ret.r1 rfl rfl,⟨by refine congrArg (Value.int .i64) ?_; simp [plotB,codeI,h1,h2,h3,h4,h5,h7],hI.below⟩⟩
     ·intro h8 es15 ck16 w hI
      refine pu (.bool false) rfl (pu (.bool false) rfl (of_ rfl (of_ rfl (of_ rfl (of_ rfl (pu (.bool false) rfl (pu (.bool false) rfl (seq_nil (wp_seq ?_)))))))))
      refine wp_seq (rgn rfl (pu (.bool false) rfl (seq_nil (wp_condF rfl (wp_skip (wp_seq (rgn rfl (pu (iv 13) rfl (seq_nil ?_)))))))))
      refine wp_ret ?_
      exact ⟨iv 13,Ret.r1 rfl rfl,⟨by refine congrArg (Value.int .i64) ?_; simp [plotB,codeI,h1,h2,h3,h4,h8],hI.below⟩⟩
    ·intro h9 es18 ck19 w hI
     refine pu (.bool false) rfl (pu (.bool false) rfl (of_ rfl (of_ rfl (of_ rfl (of_ rfl (pu (.bool false) rfl (pu (.bool false) rfl (of_ rfl (of_ rfl ?_)))))))))
     refine of_ rfl (of_ rfl (pu (.bool false) rfl (pu (.bool false) rfl (seq_nil (wp_seq (wp_seq (rgn rfl (pu (.bool false) rfl (seq_nil ?_)))))))))
     refine wp_condF rfl (wp_skip (wp_seq (rgn rfl (pu (iv 13) rfl (seq_nil (wp_ret ?_))))))
     exact ⟨iv 13,Ret.r1 rfl rfl,⟨by refine congrArg (Value.int .i64) ?_; simp [plotB,codeI,h1,h2,h3,h9],hI.below⟩⟩
   ·intro h10
    refine pu (.bool false) rfl (pu (.bool false) rfl (of_ rfl (of_ rfl (of_ rfl (of_ rfl (pu (.bool false) rfl (pu (.bool false) rfl (of_ rfl (of_ rfl ?_)))))))))
    refine of_ rfl (of_ rfl (pu (.bool false) rfl (pu (.bool false) rfl (of_ rfl (of_ rfl (of_ rfl (of_ rfl (pu (.bool false) rfl (pu (.bool false) rfl ?_)))))))))
    refine seq_nil (wp_seq (wp_seq (rgn rfl (pu (.bool false) rfl (seq_nil (wp_condF rfl (wp_skip (wp_seq (rgn rfl ?_)))))))))
    refine pu (iv 13) rfl (seq_nil (wp_ret ?_))
    exact ⟨iv 13,Ret.r1 rfl rfl,⟨by refine congrArg (Value.int .i64) ?_; simp [plotB,codeI,h1,h2,h10],hI.below⟩⟩
  ·intro h11
   refine pu (.bool false) rfl (pu (.bool false) rfl (of_ rfl (of_ rfl (of_ rfl (pu (.bool false) rfl (pu (.bool false) rfl (of_ rfl (of_ rfl (of_ rfl ?_)))))))))
   refine of_ rfl (pu (.bool false) rfl (pu (.bool false) rfl (of_ rfl (of_ rfl (of_ rfl (of_ rfl (pu (.bool false) rfl (pu (.bool false) rfl (of_ rfl ?_)))))))))
   refine of_ rfl (of_ rfl (of_ rfl (pu (.bool false) rfl (pu (.bool false) rfl (seq_nil (wp_seq (wp_seq (rgn rfl (pu (.bool false) rfl ?_)))))))))
   refine seq_nil (wp_condF rfl (wp_skip (wp_seq (rgn rfl (pu (iv 13) rfl (seq_nil (wp_ret ?_)))))))
   exact ⟨iv 13,Ret.r1 rfl rfl,⟨by refine congrArg (Value.int .i64) ?_; simp [plotB,codeI,h1,h11],hI.below⟩⟩
 ·intro h12 w hI
  refine pu (.bool false) rfl (of_ rfl (of_ rfl (of_ rfl (pu (.bool false) rfl (pu (.bool false) rfl (of_ rfl (of_ rfl (of_ rfl (pu (.bool false) rfl ?_)))))))))
  refine pu (.bool false) rfl (of_ rfl (of_ rfl (of_ rfl (of_ rfl (pu (.bool false) rfl (pu (.bool false) rfl (of_ rfl (of_ rfl (of_ rfl ?_)))))))))
  refine of_ rfl (pu (.bool false) rfl (pu (.bool false) rfl (of_ rfl (of_ rfl (of_ rfl (of_ rfl (pu (.bool false) rfl (pu (.bool false) rfl (seq_nil ?_)))))))))
  refine wp_seq (wp_seq (rgn rfl (pu (.bool false) rfl (seq_nil (wp_condF rfl (wp_skip (wp_seq (rgn rfl (pu (iv 13) rfl ?_)))))))))
  refine seq_nil (wp_ret ?_)
  exact ⟨iv 13,Ret.r1 rfl rfl,⟨by refine congrArg (Value.int .i64) ?_; simp [plotB,codeI,h12],hI.below⟩⟩

end Go.K
