import Derived.Test.YtinkdlmimiefaaaGreatProg
import Derived.Test.YtinkdlmimiefaaaGreatPM2
import Derived.Test.YtinkdlmimiefaaaGreatPKK2
namespace Go.K
open Go.Proofs.Tryz
open Go.Proofs Go.RowKit
set_option linter.unusedVariables false
set_option linter.unusedSimpArgs false
set_option maxRecDepth 100000
attribute [local irreducible] Seq cw cx fl opX

theorem MOk.nilM:MOk [] 0:=⟨List.nodup_nil,List.nodup_nil,fun e he=>by cases he⟩
theorem drop_get {α:Type} {l:List α} {k:Nat} {x:α} (hx:l[k]?=some x):l.drop k=x :: l.drop (k+1):=by
  have hlt:=bu hx
  rw [List.getElem?_eq_getElem hlt] at hx
  injection hx with hx
  rw [List.drop_eq_getElem_cons hlt,hx]
def okl {α:Type} (p:α→Int) (q:α→Nt):Int→(Int→Bool)→List α→Bool
  | _,_,[]=>true
  | last,S,x :: l=>if p x=0∧last < (q x).s∧S (q x).s=false then okl p q (q x).s (fun j=>if j=(q x).s then true else S j) l else false
def dl {α:Type} (p:α→Int) (q:α→Nt) (S:Int→Bool) (l:List α):Bool:=decide (l.length≤60) && okl p q 0 S l
def gq {α:Type} (q:α→Nt) (S:Int→Bool) (l:List α):Int→Bool:=fun j=>S j || l.any fun x=>decide (j=(q x).s)
theorem ja {α:Type} {p:α→Int} {q:α→Nt} {last:Int} {S:Int→Bool} {l:List α} {k:Nat} {x:α} (hx:l[k]?=some x) (h:¬ (p x=0∧last < (q x).s∧S (q x).s=false)):okl p q last S (l.drop k)=false:=by
  rw [drop_get hx]; simp only [okl]; rw [if_neg h]
theorem okl_yes {α:Type} {p:α→Int} {q:α→Nt} {last:Int} {S:Int→Bool} {l:List α} {k:Nat} {x:α} (hx:l[k]?=some x) (h1:p x=0) (h2:last < (q x).s) (h3:S (q x).s=false):okl p q last S (l.drop k)=okl p q (q x).s (fun j=>if j=(q x).s then true else S j) (l.drop (k+1)):=by
  rw [drop_get hx]; simp only [okl]; rw [if_pos ⟨h1,h2,h3⟩]
theorem okl_end {α:Type} {p:α→Int} {q:α→Nt} {last:Int} {S:Int→Bool} {l:List α} {k:Nat} (hk:l.length≤k):okl p q last S (l.drop k)=true:=by
  rw [List.drop_eq_nil_of_le hk]; rfl
theorem seen_step {α:Type} {q:α→Nt} {S S':Int→Bool} {l:List α} {k:Nat} {x:α} (h:∀ j,S' j=gq q S (l.take k) j) (hx:l[k]?=some x):∀ j,(if j=(q x).s then true else S' j)=gq q S (l.take (k+1)) j:=by
  intro j
  rw [fe hx,h j]
  unfold gq
  rw [List.any_append]
  by_cases hj:j=(q x).s <;> simp [hj]


theorem checkLoads_c (w0:World) (l:List Ld) (A:Option Addr) (n c:Nat) (f1 f2:Value) (p:Ld→Int) (q:Ld→Nt) (mp:Nat) (es:List En) (clk:Nat) (S:Int→Bool) (hn:n=l.length) (hmax:n≤9223372036854775807) (hC:jq [mp] w0 A (al eLd l)) (hm:w0.heap[mp]?=some (fp es clk)) (ho:MOk es clk) (hS:∀ j,(el es j).getD kf=.bool (S j)) (hf1:∀ w,But [mp] w0 w→∀ x∈l,cx Tryz.prog f1 [.agg (eLd x).toArray] w fun v w'=>v=.int .i64 (p x)∧Below w.heap.size w w') (hf2:∀ w,But [mp] w0 w→∀ x∈l,cx Tryz.prog f2 [.agg (eLd x).toArray] w fun v w'=>v=.agg (eNt (q x)).toArray∧Below w.heap.size w w'):bn Tryz.prog 73 [.slice A n c,f1,f2,.map (some mp)] w0 fun v w=>∃ es1 ck1,v=.bool (dl p q S l)∧Inv [mp] w0 w [(some mp,fp es1 ck1)]∧(dl p q S l=true→MOk es1 ck1∧∀ j,(el es1 j).getD kf=.bool (gq q S l j)):=by
 refine az (n:=44) func73 rfl ntmps73 rfl ?_
 have hI:=Inv.lent w0 (some mp) (fp es clk) (fun b hb=>by injection hb with hb; subst hb; exact hm)
 refine ab (rgn rfl (pu kf rfl (aa (ab (ab (rgn rfl (pu (.slice A n c) rfl (pu (iv ((n:Nat):Int)) (by kernel_rfl) (ac (fh rfl rfl ?_ ?_))))))))))
 ·intro h1
  refine aa (ah rfl (ab (rgn rfl (pu kf rfl (aa (aj ?_))))))
  exact ⟨.bool false,Ret.r1 rfl rfl,⟨es,clk,(by refine congrArg Value.bool (Eq.symm ?_); rw [dl]; simp; omega),hI.pk [0] rfl rfl,(fun h=>absurd (h.symm.trans (show dl p q S l=false by rw [dl]; simp; omega)) (by simp))⟩⟩
 intro h2
 refine aa (ai rfl (ak (ab (rgn rfl (pu (iv 0) rfl (aa (ab (ab (rgn rfl ?_)))))))))
 refine pu (.slice A n c) rfl (pu (iv ((n:Nat):Int)) (by kernel_rfl) (pu (iv 0) rfl (aa (au ?_))))
 refine cb (fun m ρ w=>∃ (k:Nat) (last:Int) (es1:List En) (ck1:Nat) (S1:Int→Bool),cd ρ [(1,f1),(2,f2),(3,.map (some mp)),(9,iv last),(16,.slice A n c),(17,iv (n:Int)),(18,iv (k:Int))]∧Inv [mp] w0 w [(some mp,fp es1 ck1)]∧(k≤n)∧(MOk es1 ck1)∧(∀ j,(el es1 j).getD kf=.bool (S1 j))∧(okl p q 0 S l=okl p q last S1 (l.drop k))∧(∀ j,S1 j=gq q S (l.take k) j)∧m=n - k) (m:=n - 0) ⟨0,0,es,clk,S,⟨rfl,rfl,rfl,rfl,rfl,rfl,rfl,trivial⟩,hI.pk [0] rfl rfl,(by omega),ho,hS,rfl,(fun j=>by simp [gq]),rfl⟩ ?_
 rintro m ρ w ⟨k,last,es1,ck1,S1,hag,hI,hk,ho1,hS1,hok,hse,hm⟩
 obtain ⟨ρ,rfl⟩:=hag.form; clear hag
 refine ab (rgn rfl (ac (cm rfl rfl ?_ ?_)))
 ·intro h3
  refine aa (ab (ah rfl (ak (ab (au ?_)))))
  refine ab (rgn rfl ?_)
  obtain ⟨x1,hx2⟩:=bq (l:=l) (i:=k) (by omega)
  obtain ⟨b3,o4,hA5,hb6,hB8,he7⟩:=hC.at_ bf (by decide) hx2
  refine ac (cn k underlying24 sizeOf30 rfl hA5 rfl rfl (by omega) ?_)
  refine ac (ef hI (eLd x1) isAgg30 sizeOf30 rfl rfl hb6 hB8 he7 ?_)
  refine ac (bh hI [iv 0,iv 0,iv 0,iv 0,iv 0,iv 0] zeroValue30 rfl fun b9 w hI=>ac (aq hI 0 6 (eLd x1) sizeOf30 rfl rfl rfl rfl rfl (kh rfl) fun w hI=>aa (ab (rgn rfl (pu (f2) rfl (ac (ar hI 0 6 (eLd x1) isAgg30 sizeOf30 rfl rfl rfl rfl ?_)))))))
  refine ac (s_callVv hI [.agg (eLd x1).toArray] (.agg #[iv (q x1).s,iv (q x1).k,iv (q x1).u]) rfl (by kernel_rfl) (hf2 w hI.but x1 (bz hx2)) fun w hI=>pu (iv (q x1).s) rfl (pu (iv (q x1).s) rfl (aa (ab (ab (rgn rfl (pu (f1) rfl (ac (ar hI 0 6 (eLd x1) isAgg30 sizeOf30 rfl rfl rfl rfl ?_)))))))))
  refine ac (s_callVv hI [.agg (eLd x1).toArray] (iv (p x1)) rfl (by kernel_rfl) (hf1 w hI.but x1 (bz hx2)) fun w hI=>ac (de rfl rfl ?_ ?_))
  ·intro h4
   refine pu kg rfl (of_ rfl (of_ rfl (of_ rfl (pu kg rfl (pu kg rfl (of_ rfl (of_ rfl (of_ rfl (pu kg rfl ?_)))))))))
   refine aa (ah rfl (ab (rgn rfl (pu kf rfl (aa (aj ?_))))))
   exact ⟨.bool false,Ret.r1 rfl rfl,⟨es1,ck1,(by refine congrArg Value.bool (Eq.symm ?_); rw [dl,hok,ja hx2 (fun h=>by first | exact absurd h.1 (by assumption) | (have:=h.2.1; omega) | simp_all)]; simp),hI.pk [1] rfl rfl,(fun h=>absurd (h.symm.trans (show dl p q S l=false by rw [dl,hok,ja hx2 (fun h=>by first | exact absurd h.1 (by assumption) | (have:=h.2.1; omega) | simp_all)]; simp)) (by simp))⟩⟩
  intro h5
  refine pu kf rfl (puo (iv (q x1).s) ⟨rfl,rfl⟩ (puo (iv last) ⟨rfl,rfl⟩ (aw rfl (fq rfl rfl ?_ ?_))))
  ·intro h6
   refine pu kg rfl (pu kg rfl (of_ rfl (of_ rfl (of_ rfl (pu kg rfl (aa (ah rfl (ab (rgn rfl ?_)))))))))
   refine pu kf rfl (aa (aj ?_))
   exact ⟨.bool false,Ret.r1 rfl rfl,⟨es1,ck1,(by refine congrArg Value.bool (Eq.symm ?_); rw [dl,hok,ja hx2 (fun h=>by first | exact absurd h.1 (by assumption) | (have:=h.2.1; omega) | simp_all)]; simp),hI.pk [1] rfl rfl,(fun h=>absurd (h.symm.trans (show dl p q S l=false by rw [dl,hok,ja hx2 (fun h=>by first | exact absurd h.1 (by assumption) | (have:=h.2.1; omega) | simp_all)]; simp)) (by simp))⟩⟩
  intro h7
  refine pu kf rfl (pu kf rfl (puo (.map (some mp)) ⟨rfl,rfl⟩ (puo (iv (q x1).s) ⟨rfl,rfl⟩ ?_)))
  rcases Bool.eq_false_or_eq_true (S1 (q x1).s) with h8 | h8
  ·refine aw rfl (s_lookup hI kg underlying103 underlying3 zeroValue4 1 rfl rfl rfl ((hS1 _).trans (congrArg Value.bool h8)) ?_)
   refine pu kg rfl (aa (ah rfl (ab (rgn rfl (pu kf rfl (aa (aj ?_)))))))
   exact ⟨.bool false,Ret.r1 rfl rfl,⟨es1,ck1,(by refine congrArg Value.bool (Eq.symm ?_); rw [dl,hok,ja hx2 (fun h=>by first | exact absurd h.1 (by assumption) | (have:=h.2.1; omega) | simp_all)]; simp),hI.pk [1] rfl rfl,(fun h=>absurd (h.symm.trans (show dl p q S l=false by rw [dl,hok,ja hx2 (fun h=>by first | exact absurd h.1 (by assumption) | (have:=h.2.1; omega) | simp_all)]; simp)) (by simp))⟩⟩
  refine aw rfl (s_lookup hI kf underlying103 underlying3 zeroValue4 1 rfl rfl rfl ((hS1 _).trans (congrArg Value.bool h8)) ?_)
  refine pu kf rfl (aa (ai rfl (ak (ab (rgn rfl (pu (.map (some mp)) rfl (pu (iv (q x1).s) rfl (ac (ii hI underlying103 underlying3 1 rfl rfl rfl rfl ho1 ?_)))))))))
  intro a d w hI e hg13
  have hS14:∀ j,(el a j).getD kf=.bool ((fun j=>if j=(q x1).s then true else S1 j) j):=fun j=>by rw [hg13 j]; show _=Value.bool (if j=(q x1).s then true else S1 j); by_cases hj:j=(q x1).s; (rw [if_pos hj,if_pos hj]; rfl); (rw [if_neg hj,if_neg hj]; exact hS1 j)
  refine aa (rgn rfl (pu (iv (q x1).s) rfl (pu (iv (q x1).s) rfl (aa (rgn rfl (ac (cj rfl rfl (by omega) ?_)))))))
  refine pu (iv ((k:Int)+1)) rfl (aa ?_)
  exact ⟨rfl,_,(by omega),⟨k+1,(q x1).s,a,d,(fun j=>if j=(q x1).s then true else S1 j),⟨rfl,rfl,rfl,rfl,rfl,rfl,rfl,trivial⟩,hI.pk [1] rfl rfl,(by omega),e,hS14,(hok.trans (okl_yes hx2 (by assumption) (by omega) (by assumption))),(seen_step hse hx2),rfl⟩⟩
 intro h9
 refine aa (ab (ai rfl (bw ?_)))
 refine ab (rgn rfl (pu kg rfl (aa (aj ?_))))
 exact ⟨.bool true,Ret.r1 rfl rfl,⟨es1,ck1,(by rw [dl,hok,okl_end (by omega)]; simp; omega),hI.pk [0] rfl rfl,fun _=>⟨ho1,fun j=>by rw [hS1 j,hse j,List.take_of_length_le (by omega)]⟩⟩⟩


theorem checkStands_c (w0:World) (l:List Ld) (A:Option Addr) (n c:Nat) (f1 f2:Value) (p:Ld→Int) (q:Ld→Nt) (mp:Nat) (es:List En) (clk:Nat) (S:Int→Bool) (hn:n=l.length) (hmax:n≤9223372036854775807) (hC:jq [mp] w0 A (al eLd l)) (hm:w0.heap[mp]?=some (fp es clk)) (ho:MOk es clk) (hS:∀ j,(el es j).getD kf=.bool (S j)) (hf1:∀ w,But [mp] w0 w→∀ x∈l,cx Tryz.prog f1 [.agg (eLd x).toArray] w fun v w'=>v=.int .i64 (p x)∧Below w.heap.size w w') (hf2:∀ w,But [mp] w0 w→∀ x∈l,cx Tryz.prog f2 [.agg (eLd x).toArray] w fun v w'=>v=.agg (eNt (q x)).toArray∧Below w.heap.size w w'):bn Tryz.prog 75 [.slice A n c,f1,f2,.map (some mp)] w0 fun v w=>∃ es1 ck1,v=.bool (dl p q S l)∧Inv [mp] w0 w [(some mp,fp es1 ck1)]∧(dl p q S l=true→MOk es1 ck1∧∀ j,(el es1 j).getD kf=.bool (gq q S l j)):=by
 refine az (n:=44) func75 rfl ntmps75 rfl ?_
 have hI:=Inv.lent w0 (some mp) (fp es clk) (fun b hb=>by injection hb with hb; subst hb; exact hm)
 refine ab (rgn rfl (pu kf rfl (aa (ab (ab (rgn rfl (pu (.slice A n c) rfl (pu (iv ((n:Nat):Int)) (by kernel_rfl) (ac (fh rfl rfl ?_ ?_))))))))))
 ·intro h1
  refine aa (ah rfl (ab (rgn rfl (pu kf rfl (aa (aj ?_))))))
  exact ⟨.bool false,Ret.r1 rfl rfl,⟨es,clk,(by refine congrArg Value.bool (Eq.symm ?_); rw [dl]; simp; omega),hI.pk [0] rfl rfl,(fun h=>absurd (h.symm.trans (show dl p q S l=false by rw [dl]; simp; omega)) (by simp))⟩⟩
 intro h2
 refine aa (ai rfl (ak (ab (rgn rfl (pu (iv 0) rfl (aa (ab (ab (rgn rfl ?_)))))))))
 refine pu (.slice A n c) rfl (pu (iv ((n:Nat):Int)) (by kernel_rfl) (pu (iv 0) rfl (aa (au ?_))))
 refine cb (fun m ρ w=>∃ (k:Nat) (last:Int) (es1:List En) (ck1:Nat) (S1:Int→Bool),cd ρ [(1,f1),(2,f2),(3,.map (some mp)),(9,iv last),(16,.slice A n c),(17,iv (n:Int)),(18,iv (k:Int))]∧Inv [mp] w0 w [(some mp,fp es1 ck1)]∧(k≤n)∧(MOk es1 ck1)∧(∀ j,(el es1 j).getD kf=.bool (S1 j))∧(okl p q 0 S l=okl p q last S1 (l.drop k))∧(∀ j,S1 j=gq q S (l.take k) j)∧m=n - k) (m:=n - 0) ⟨0,0,es,clk,S,⟨rfl,rfl,rfl,rfl,rfl,rfl,rfl,trivial⟩,hI.pk [0] rfl rfl,(by omega),ho,hS,rfl,(fun j=>by simp [gq]),rfl⟩ ?_
 rintro m ρ w ⟨k,last,es1,ck1,S1,hag,hI,hk,ho1,hS1,hok,hse,hm⟩
 obtain ⟨ρ,rfl⟩:=hag.form; clear hag
 refine ab (rgn rfl (ac (cm rfl rfl ?_ ?_)))
 ·intro h3
  refine aa (ab (ah rfl (ak (ab (au ?_)))))
  refine ab (rgn rfl ?_)
  obtain ⟨x1,hx2⟩:=bq (l:=l) (i:=k) (by omega)
  obtain ⟨b3,o4,hA5,hb6,hB8,he7⟩:=hC.at_ bf (by decide) hx2
  refine ac (cn k underlying25 sizeOf31 rfl hA5 rfl rfl (by omega) ?_)
  refine ac (ef hI (eLd x1) isAgg31 sizeOf31 rfl rfl hb6 hB8 he7 ?_)
  refine ac (bh hI [iv 0,iv 0,iv 0,iv 0,iv 0,iv 0] zeroValue31 rfl fun b9 w hI=>ac (aq hI 0 6 (eLd x1) sizeOf31 rfl rfl rfl rfl rfl (kh rfl) fun w hI=>aa (ab (rgn rfl (pu (f2) rfl (ac (ar hI 0 6 (eLd x1) isAgg31 sizeOf31 rfl rfl rfl rfl ?_)))))))
  refine ac (s_callVv hI [.agg (eLd x1).toArray] (.agg #[iv (q x1).s,iv (q x1).k,iv (q x1).u]) rfl (by kernel_rfl) (hf2 w hI.but x1 (bz hx2)) fun w hI=>pu (iv (q x1).s) rfl (pu (iv (q x1).s) rfl (aa (ab (ab (rgn rfl (pu (f1) rfl (ac (ar hI 0 6 (eLd x1) isAgg31 sizeOf31 rfl rfl rfl rfl ?_)))))))))
  refine ac (s_callVv hI [.agg (eLd x1).toArray] (iv (p x1)) rfl (by kernel_rfl) (hf1 w hI.but x1 (bz hx2)) fun w hI=>ac (de rfl rfl ?_ ?_))
  ·intro h4
   refine pu kg rfl (of_ rfl (of_ rfl (of_ rfl (pu kg rfl (pu kg rfl (of_ rfl (of_ rfl (of_ rfl (pu kg rfl ?_)))))))))
   refine aa (ah rfl (ab (rgn rfl (pu kf rfl (aa (aj ?_))))))
   exact ⟨.bool false,Ret.r1 rfl rfl,⟨es1,ck1,(by refine congrArg Value.bool (Eq.symm ?_); rw [dl,hok,ja hx2 (fun h=>by first | exact absurd h.1 (by assumption) | (have:=h.2.1; omega) | simp_all)]; simp),hI.pk [1] rfl rfl,(fun h=>absurd (h.symm.trans (show dl p q S l=false by rw [dl,hok,ja hx2 (fun h=>by first | exact absurd h.1 (by assumption) | (have:=h.2.1; omega) | simp_all)]; simp)) (by simp))⟩⟩
  intro h5
  refine pu kf rfl (puo (iv (q x1).s) ⟨rfl,rfl⟩ (puo (iv last) ⟨rfl,rfl⟩ (aw rfl (fq rfl rfl ?_ ?_))))
  ·intro h6
   refine pu kg rfl (pu kg rfl (of_ rfl (of_ rfl (of_ rfl (pu kg rfl (aa (ah rfl (ab (rgn rfl ?_)))))))))
   refine pu kf rfl (aa (aj ?_))
   exact ⟨.bool false,Ret.r1 rfl rfl,⟨es1,ck1,(by refine congrArg Value.bool (Eq.symm ?_); rw [dl,hok,ja hx2 (fun h=>by first | exact absurd h.1 (by assumption) | (have:=h.2.1; omega) | simp_all)]; simp),hI.pk [1] rfl rfl,(fun h=>absurd (h.symm.trans (show dl p q S l=false by rw [dl,hok,ja hx2 (fun h=>by first | exact absurd h.1 (by assumption) | (have:=h.2.1; omega) | simp_all)]; simp)) (by simp))⟩⟩
  intro h7
  refine pu kf rfl (pu kf rfl (puo (.map (some mp)) ⟨rfl,rfl⟩ (puo (iv (q x1).s) ⟨rfl,rfl⟩ ?_)))
  rcases Bool.eq_false_or_eq_true (S1 (q x1).s) with h8 | h8
  ·refine aw rfl (s_lookup hI kg underlying103 underlying3 zeroValue4 1 rfl rfl rfl ((hS1 _).trans (congrArg Value.bool h8)) ?_)
   refine pu kg rfl (aa (ah rfl (ab (rgn rfl (pu kf rfl (aa (aj ?_)))))))
   exact ⟨.bool false,Ret.r1 rfl rfl,⟨es1,ck1,(by refine congrArg Value.bool (Eq.symm ?_); rw [dl,hok,ja hx2 (fun h=>by first | exact absurd h.1 (by assumption) | (have:=h.2.1; omega) | simp_all)]; simp),hI.pk [1] rfl rfl,(fun h=>absurd (h.symm.trans (show dl p q S l=false by rw [dl,hok,ja hx2 (fun h=>by first | exact absurd h.1 (by assumption) | (have:=h.2.1; omega) | simp_all)]; simp)) (by simp))⟩⟩
  refine aw rfl (s_lookup hI kf underlying103 underlying3 zeroValue4 1 rfl rfl rfl ((hS1 _).trans (congrArg Value.bool h8)) ?_)
  refine pu kf rfl (aa (ai rfl (ak (ab (rgn rfl (pu (.map (some mp)) rfl (pu (iv (q x1).s) rfl (ac (ii hI underlying103 underlying3 1 rfl rfl rfl rfl ho1 ?_)))))))))
  intro a d w hI e hg13
  have hS14:∀ j,(el a j).getD kf=.bool ((fun j=>if j=(q x1).s then true else S1 j) j):=fun j=>by rw [hg13 j]; show _=Value.bool (if j=(q x1).s then true else S1 j); by_cases hj:j=(q x1).s; (rw [if_pos hj,if_pos hj]; rfl); (rw [if_neg hj,if_neg hj]; exact hS1 j)
  refine aa (rgn rfl (pu (iv (q x1).s) rfl (pu (iv (q x1).s) rfl (aa (rgn rfl (ac (cj rfl rfl (by omega) ?_)))))))
  refine pu (iv ((k:Int)+1)) rfl (aa ?_)
  exact ⟨rfl,_,(by omega),⟨k+1,(q x1).s,a,d,(fun j=>if j=(q x1).s then true else S1 j),⟨rfl,rfl,rfl,rfl,rfl,rfl,rfl,trivial⟩,hI.pk [1] rfl rfl,(by omega),e,hS14,(hok.trans (okl_yes hx2 (by assumption) (by omega) (by assumption))),(seen_step hse hx2),rfl⟩⟩
 intro h9
 refine aa (ab (ai rfl (bw ?_)))
 refine ab (rgn rfl (pu kg rfl (aa (aj ?_))))
 exact ⟨.bool true,Ret.r1 rfl rfl,⟨es1,ck1,(by rw [dl,hok,okl_end (by omega)]; simp; omega),hI.pk [0] rfl rfl,fun _=>⟨ho1,fun j=>by rw [hS1 j,hse j,List.take_of_length_le (by omega)]⟩⟩⟩


theorem checkSpells_c (w0:World) (l:List Sp) (A:Option Addr) (n c:Nat) (f1 f2:Value) (p:Sp→Int) (q:Sp→Nt) (mp:Nat) (es:List En) (clk:Nat) (S:Int→Bool) (hn:n=l.length) (hmax:n≤9223372036854775807) (hC:jq [mp] w0 A (al eSp l)) (hm:w0.heap[mp]?=some (fp es clk)) (ho:MOk es clk) (hS:∀ j,(el es j).getD kf=.bool (S j)) (hf1:∀ w,But [mp] w0 w→∀ x∈l,cx Tryz.prog f1 [.agg (eSp x).toArray] w fun v w'=>v=.int .i64 (p x)∧Below w.heap.size w w') (hf2:∀ w,But [mp] w0 w→∀ x∈l,cx Tryz.prog f2 [.agg (eSp x).toArray] w fun v w'=>v=.agg (eNt (q x)).toArray∧Below w.heap.size w w'):bn Tryz.prog 77 [.slice A n c,f1,f2,.map (some mp)] w0 fun v w=>∃ es1 ck1,v=.bool (dl p q S l)∧Inv [mp] w0 w [(some mp,fp es1 ck1)]∧(dl p q S l=true→MOk es1 ck1∧∀ j,(el es1 j).getD kf=.bool (gq q S l j)):=by
 refine az (n:=44) func77 rfl ntmps77 rfl ?_
 have hI:=Inv.lent w0 (some mp) (fp es clk) (fun b hb=>by injection hb with hb; subst hb; exact hm)
 refine ab (rgn rfl (pu kf rfl (aa (ab (ab (rgn rfl (pu (.slice A n c) rfl (pu (iv ((n:Nat):Int)) (by kernel_rfl) (ac (fh rfl rfl ?_ ?_))))))))))
 ·intro h1
  refine aa (ah rfl (ab (rgn rfl (pu kf rfl (aa (aj ?_))))))
  exact ⟨.bool false,Ret.r1 rfl rfl,⟨es,clk,(by refine congrArg Value.bool (Eq.symm ?_); rw [dl]; simp; omega),hI.pk [0] rfl rfl,(fun h=>absurd (h.symm.trans (show dl p q S l=false by rw [dl]; simp; omega)) (by simp))⟩⟩
 intro h2
 refine aa (ai rfl (ak (ab (rgn rfl (pu (iv 0) rfl (aa (ab (ab (rgn rfl ?_)))))))))
 refine pu (.slice A n c) rfl (pu (iv ((n:Nat):Int)) (by kernel_rfl) (pu (iv 0) rfl (aa (au ?_))))
 refine cb (fun m ρ w=>∃ (k:Nat) (last:Int) (es1:List En) (ck1:Nat) (S1:Int→Bool),cd ρ [(1,f1),(2,f2),(3,.map (some mp)),(9,iv last),(16,.slice A n c),(17,iv (n:Int)),(18,iv (k:Int))]∧Inv [mp] w0 w [(some mp,fp es1 ck1)]∧(k≤n)∧(MOk es1 ck1)∧(∀ j,(el es1 j).getD kf=.bool (S1 j))∧(okl p q 0 S l=okl p q last S1 (l.drop k))∧(∀ j,S1 j=gq q S (l.take k) j)∧m=n - k) (m:=n - 0) ⟨0,0,es,clk,S,⟨rfl,rfl,rfl,rfl,rfl,rfl,rfl,trivial⟩,hI.pk [0] rfl rfl,(by omega),ho,hS,rfl,(fun j=>by simp [gq]),rfl⟩ ?_
 rintro m ρ w ⟨k,last,es1,ck1,S1,hag,hI,hk,ho1,hS1,hok,hse,hm⟩
 obtain ⟨ρ,rfl⟩:=hag.form; clear hag
 refine ab (rgn rfl (ac (cm rfl rfl ?_ ?_)))
 ·intro h3
  refine aa (ab (ah rfl (ak (ab (au ?_)))))
  refine ab (rgn rfl ?_)
  obtain ⟨x1,hx2⟩:=bq (l:=l) (i:=k) (by omega)
  obtain ⟨b3,o4,hA5,hb6,hB8,he7⟩:=hC.at_ gb (by decide) hx2
  refine ac (cn k underlying26 sizeOf33 rfl hA5 rfl rfl (by omega) ?_)
  refine ac (ef hI (eSp x1) isAgg33 sizeOf33 rfl rfl hb6 hB8 he7 ?_)
  refine ac (bh hI [iv 0,iv 0,iv 0,iv 0,iv 0,iv 0] zeroValue33 rfl fun b9 w hI=>ac (aq hI 0 6 (eSp x1) sizeOf33 rfl rfl rfl rfl rfl (kh rfl) fun w hI=>aa (ab (rgn rfl (pu (f2) rfl (ac (ar hI 0 6 (eSp x1) isAgg33 sizeOf33 rfl rfl rfl rfl ?_)))))))
  refine ac (s_callVv hI [.agg (eSp x1).toArray] (.agg #[iv (q x1).s,iv (q x1).k,iv (q x1).u]) rfl (by kernel_rfl) (hf2 w hI.but x1 (bz hx2)) fun w hI=>pu (iv (q x1).s) rfl (pu (iv (q x1).s) rfl (aa (ab (ab (rgn rfl (pu (f1) rfl (ac (ar hI 0 6 (eSp x1) isAgg33 sizeOf33 rfl rfl rfl rfl ?_)))))))))
  refine ac (s_callVv hI [.agg (eSp x1).toArray] (iv (p x1)) rfl (by kernel_rfl) (hf1 w hI.but x1 (bz hx2)) fun w hI=>ac (de rfl rfl ?_ ?_))
  ·intro h4
   refine pu kg rfl (of_ rfl (of_ rfl (of_ rfl (pu kg rfl (pu kg rfl (of_ rfl (of_ rfl (of_ rfl (pu kg rfl ?_)))))))))
   refine aa (ah rfl (ab (rgn rfl (pu kf rfl (aa (aj ?_))))))
   exact ⟨.bool false,Ret.r1 rfl rfl,⟨es1,ck1,(by refine congrArg Value.bool (Eq.symm ?_); rw [dl,hok,ja hx2 (fun h=>by first | exact absurd h.1 (by assumption) | (have:=h.2.1; omega) | simp_all)]; simp),hI.pk [1] rfl rfl,(fun h=>absurd (h.symm.trans (show dl p q S l=false by rw [dl,hok,ja hx2 (fun h=>by first | exact absurd h.1 (by assumption) | (have:=h.2.1; omega) | simp_all)]; simp)) (by simp))⟩⟩
  intro h5
  refine pu kf rfl (puo (iv (q x1).s) ⟨rfl,rfl⟩ (puo (iv last) ⟨rfl,rfl⟩ (aw rfl (fq rfl rfl ?_ ?_))))
  ·intro h6
   refine pu kg rfl (pu kg rfl (of_ rfl (of_ rfl (of_ rfl (pu kg rfl (aa (ah rfl (ab (rgn rfl ?_)))))))))
   refine pu kf rfl (aa (aj ?_))
   exact ⟨.bool false,Ret.r1 rfl rfl,⟨es1,ck1,(by refine congrArg Value.bool (Eq.symm ?_); rw [dl,hok,ja hx2 (fun h=>by first | exact absurd h.1 (by assumption) | (have:=h.2.1; omega) | simp_all)]; simp),hI.pk [1] rfl rfl,(fun h=>absurd (h.symm.trans (show dl p q S l=false by rw [dl,hok,ja hx2 (fun h=>by first | exact absurd h.1 (by assumption) | (have:=h.2.1; omega) | simp_all)]; simp)) (by simp))⟩⟩
  intro h7
  refine pu kf rfl (pu kf rfl (puo (.map (some mp)) ⟨rfl,rfl⟩ (puo (iv (q x1).s) ⟨rfl,rfl⟩ ?_)))
  rcases Bool.eq_false_or_eq_true (S1 (q x1).s) with h8 | h8
  ·refine aw rfl (s_lookup hI kg underlying103 underlying3 zeroValue4 1 rfl rfl rfl ((hS1 _).trans (congrArg Value.bool h8)) ?_)
   refine pu kg rfl (aa (ah rfl (ab (rgn rfl (pu kf rfl (aa (aj ?_)))))))
   exact ⟨.bool false,Ret.r1 rfl rfl,⟨es1,ck1,(by refine congrArg Value.bool (Eq.symm ?_); rw [dl,hok,ja hx2 (fun h=>by first | exact absurd h.1 (by assumption) | (have:=h.2.1; omega) | simp_all)]; simp),hI.pk [1] rfl rfl,(fun h=>absurd (h.symm.trans (show dl p q S l=false by rw [dl,hok,ja hx2 (fun h=>by first | exact absurd h.1 (by assumption) | (have:=h.2.1; omega) | simp_all)]; simp)) (by simp))⟩⟩
  refine aw rfl (s_lookup hI kf underlying103 underlying3 zeroValue4 1 rfl rfl rfl ((hS1 _).trans (congrArg Value.bool h8)) ?_)
  refine pu kf rfl (aa (ai rfl (ak (ab (rgn rfl (pu (.map (some mp)) rfl (pu (iv (q x1).s) rfl (ac (ii hI underlying103 underlying3 1 rfl rfl rfl rfl ho1 ?_)))))))))
  intro a d w hI e hg13
  have hS14:∀ j,(el a j).getD kf=.bool ((fun j=>if j=(q x1).s then true else S1 j) j):=fun j=>by rw [hg13 j]; show _=Value.bool (if j=(q x1).s then true else S1 j); by_cases hj:j=(q x1).s; (rw [if_pos hj,if_pos hj]; rfl); (rw [if_neg hj,if_neg hj]; exact hS1 j)
  refine aa (rgn rfl (pu (iv (q x1).s) rfl (pu (iv (q x1).s) rfl (aa (rgn rfl (ac (cj rfl rfl (by omega) ?_)))))))
  refine pu (iv ((k:Int)+1)) rfl (aa ?_)
  exact ⟨rfl,_,(by omega),⟨k+1,(q x1).s,a,d,(fun j=>if j=(q x1).s then true else S1 j),⟨rfl,rfl,rfl,rfl,rfl,rfl,rfl,trivial⟩,hI.pk [1] rfl rfl,(by omega),e,hS14,(hok.trans (okl_yes hx2 (by assumption) (by omega) (by assumption))),(seen_step hse hx2),rfl⟩⟩
 intro h9
 refine aa (ab (ai rfl (bw ?_)))
 refine ab (rgn rfl (pu kg rfl (aa (aj ?_))))
 exact ⟨.bool true,Ret.r1 rfl rfl,⟨es1,ck1,(by rw [dl,hok,okl_end (by omega)]; simp; omega),hI.pk [0] rfl rfl,fun _=>⟨ho1,fun j=>by rw [hS1 j,hse j,List.take_of_length_le (by omega)]⟩⟩⟩

section steps
variable {P:Program} {ρ:Env} {B:List Nat} {w w0:World} {L:List (Option Nat × Obj)} {R:Value→World→Prop}
theorem s_callMap (hI:Inv B w0 w L) {o:Oper} (f:FuncId) (args:List Value) (b:Bool) {X:List En→Nat→Prop} (i:Nat) {mb:Nat} {o':Obj} (hi:L[i]?=some (some mb,o')) (h:(execOp (ev ρ) o).run P w=.ok (.enter f args.toArray) w)
    (hc:bn P f args w fun v w'=>∃ es ck,v=.bool b∧Inv [mb] w w' [(some mb,fp es ck)]∧(b=true→X es ck))
    (kT:b=true→∀ es ck w',Inv B w0 w' ((some mb,fp es ck) :: L.set i (none,o'))→X es ck→R kg w') (kF:b=false→∀ es ck w',Inv B w0 w' ((some mb,fp es ck) :: L.set i (none,o'))→R kf w'):cw P o ρ w R :=
  co f args h hc fun v w' ⟨es,ck,hv,hN,hx⟩=>by
    subst hv
    cases b with
    | true=>exact kT rfl es ck w' (hI.back i hi hN) (hx rfl)
    | false=>exact kF rfl es ck w' (hI.back i hi hN)
end steps
def ntL (x:Ld):Nt:=⟨x.src,x.kn,x.un⟩
def ntS (x:Sp):Nt:=⟨x.src,x.kn,x.un⟩
def okL (e:Int) (x:Ld):Int:=cg (fk x.src x.hr x.lo x.hi x.kn x.un) e
def okS (x:Sp):Int:=cg (dq x.src x.kd x.fr x.to x.kn x.un) 12
def dw (p:Pl):Bool:=cu p.lo p.hi && decide (0≤p.geese) && decide (p.geese≤60) && dl (okL 10) ntL (fun _=>false) p.loads && dl (okL 11) ntL (gq ntL (fun _=>false) p.loads) p.stands
  && dl okS ntS (gq ntL (gq ntL (fun _=>false) p.loads) p.stands) p.spells


theorem Check_c (w0:World) (pl:Pl) (a:Option Addr) (b h:Nat) (d:Option Addr) (e i:Nat) (f:Option Addr) (g k:Nat) (hP:gz w0 pl a b d e f g):bn Tryz.prog 22 [.agg (qn6 pl.lo pl.hi a b h d e i f g k pl.geese).toArray] w0 fun v w=>v=.int .i64 (cg (dw pl) 13)∧Below w0.heap.size w0 w:=by
 refine az (n:=38) func22 rfl ntmps22 rfl ?_
 have hI:=Inv.start w0
 refine ab (rgn rfl (ac (ca hI (qn6 pl.lo pl.hi a b h d e i f g k pl.geese) rfl fun b1 w hI=>pu (iv 0) rfl (aa (ab (rgn rfl (ac (s_makeMap hI fun b2 w hI=>pu (.map (some b2)) rfl (aa (ab (rgn rfl (pu (.pointer (some ⟨b1,0,none⟩)) rfl (ac (ar hI 1 2 [iv pl.lo,iv pl.hi] isAgg23 sizeOf23 rfl rfl rfl rfl ?_))))))))))))))
 refine ac (fc hI 72 [.agg #[iv pl.lo,iv pl.hi]] (cu pl.lo pl.hi) (by kernel_rfl) (areSheaves_c pl.lo pl.hi _) ?_ ?_)
 ·intro h1 w hI
  refine pu kg rfl (puo (.pointer (some ⟨b1,5,none⟩)) ⟨rfl,rfl⟩ (aw rfl (ag hI 1 (iv pl.geese) isAgg3 rfl rfl rfl ?_)))
  refine aw rfl (iq rfl rfl ?_ ?_)
  ·intro h2
   refine pu kg rfl (pu kg rfl (puo (.pointer (some ⟨b1,5,none⟩)) ⟨rfl,rfl⟩ (aw rfl (ag hI 1 (iv pl.geese) isAgg3 rfl rfl rfl ?_))))
   refine aw rfl (fq rfl rfl ?_ ?_)
   ·intro h3
    refine pu kg rfl (pu kg rfl (puo (.pointer (some ⟨b1,2,none⟩)) ⟨rfl,rfl⟩ (aw rfl (ag hI 1 (.slice a b h) isAgg24 rfl rfl rfl ?_))))
    refine puo (.map (some b2)) ⟨rfl,rfl⟩ (aw rfl (s_callMap hI 73 [.slice a b h,.func (.func 24) #[] #[],.func (.func 74) #[] #[],.map (some b2)] (dl (okL 10) ntL (fun _=>false) pl.loads) (X:=fun es1 ck1=>MOk es1 ck1∧∀ j,(el es1 j).getD kf=.bool (gq ntL (fun _=>false) pl.loads j)) 0 rfl (by kernel_rfl) (checkLoads_c _ pl.loads a b h (.func (.func 24) #[] #[]) (.func (.func 74) #[] #[]) (okL 10) ntL b2 [] 0 (fun _=>false) hP.m1 hP.b1 (hI.apartBase 0 rfl hP.c1) (hI.has 0 _ _ rfl).1 MOk.nilM (fun _=>rfl) (fun w1 _ x _=>cx.of (args':=[.agg (eLd x).toArray]) rfl (CheckLoad_c x.src x.hr x.lo x.hi x.kn x.un w1)) (fun w1 _ x _=>cx.of (args':=[.agg (eLd x).toArray]) rfl (noteOfLoad_c x.src x.hr x.lo x.hi x.kn x.un w1))) ?_ ?_))
    ·intro h4 es3 ck4 w hI hx5
     refine pu kg rfl (pu kg rfl (puo (.pointer (some ⟨b1,3,none⟩)) ⟨rfl,rfl⟩ (aw rfl (ag hI 2 (.slice d e i) isAgg25 rfl rfl rfl ?_))))
     refine puo (.map (some b2)) ⟨rfl,rfl⟩ (aw rfl (s_callMap hI 75 [.slice d e i,.func (.func 26) #[] #[],.func (.func 76) #[] #[],.map (some b2)] (dl (okL 11) ntL (gq ntL (fun _=>false) pl.loads) pl.stands) (X:=fun es1 ck1=>MOk es1 ck1∧∀ j,(el es1 j).getD kf=.bool (gq ntL (gq ntL (fun _=>false) pl.loads) pl.stands j)) 0 rfl (by kernel_rfl) (checkStands_c _ pl.stands d e i (.func (.func 26) #[] #[]) (.func (.func 76) #[] #[]) (okL 11) ntL b2 es3 ck4 (gq ntL (fun _=>false) pl.loads) hP.m2 hP.b2 (hI.apartBase 0 rfl hP.c2) (hI.has 0 _ _ rfl).1 hx5.1 hx5.2 (fun w1 _ x _=>cx.of (args':=[.agg (eLd x).toArray]) rfl (CheckStand_c x.src x.hr x.lo x.hi x.kn x.un w1)) (fun w1 _ x _=>cx.of (args':=[.agg (eLd x).toArray]) rfl (noteOfStand_c x.src x.hr x.lo x.hi x.kn x.un w1))) ?_ ?_))
     ·intro h5 es6 ck7 w hI hx8
      refine pu kg rfl (pu kg rfl (puo (.pointer (some ⟨b1,4,none⟩)) ⟨rfl,rfl⟩ (aw rfl (ag hI 3 (.slice f g k) isAgg26 rfl rfl rfl ?_))))
      refine puo (.map (some b2)) ⟨rfl,rfl⟩ (aw rfl (s_callMap hI 77 [.slice f g k,.func (.func 28) #[] #[],.func (.func 78) #[] #[],.map (some b2)] (dl okS ntS (gq ntL (gq ntL (fun _=>false) pl.loads) pl.stands) pl.spells) (X:=fun es1 ck1=>MOk es1 ck1∧∀ j,(el es1 j).getD kf=.bool (gq ntS (gq ntL (gq ntL (fun _=>false) pl.loads) pl.stands) pl.spells j)) 0 rfl (by kernel_rfl) (checkSpells_c _ pl.spells f g k (.func (.func 28) #[] #[]) (.func (.func 78) #[] #[]) okS ntS b2 es6 ck7 (gq ntL (gq ntL (fun _=>false) pl.loads) pl.stands) hP.m3 hP.b3 (hI.apartBase 0 rfl hP.c3) (hI.has 0 _ _ rfl).1 hx8.1 hx8.2 (fun w1 _ x _=>cx.of (args':=[.agg (eSp x).toArray]) rfl (CheckSpell_c x.src x.kd x.fr x.to x.kn x.un w1)) (fun w1 _ x _=>cx.of (args':=[.agg (eSp x).toArray]) rfl (ir x.src x.kd x.fr x.to x.kn x.un w1))) ?_ ?_))
      ·intro h6 es9 p w hI q
       refine pu kg rfl (pu kg rfl (aa (ab (ab (rgn rfl (pu kg rfl (aa (ah rfl (ab ?_)))))))))
       refine rgn rfl (pu (iv 0) rfl (aa (aj ?_)))
       exact ⟨iv 0,Ret.r1 rfl rfl,⟨by refine congrArg (Value.int .i64) ?_; simp [dw,cg,h1,h2,h3,h4,h5,h6],hI.below⟩⟩
      intro h7 r s w hI
      refine pu kf rfl (pu kf rfl (aa (ab (ab (rgn rfl (pu kf rfl (aa (ai rfl (ak ?_)))))))))
      refine ab (rgn rfl (pu (iv 13) rfl (aa (aj ?_))))
      exact ⟨iv 13,Ret.r1 rfl rfl,⟨by refine congrArg (Value.int .i64) ?_; simp [dw,cg,h1,h2,h3,h4,h5,h7],hI.below⟩⟩
     intro h8 t u w hI
     refine pu kf rfl (pu kf rfl (of_ rfl (of_ rfl (of_ rfl (of_ rfl (pu kf rfl (pu kf rfl (aa (ab ?_)))))))))
     refine ab (rgn rfl (pu kf rfl (aa (ai rfl (ak (ab (rgn rfl (pu (iv 13) rfl (aa ?_)))))))))
     refine aj ?_
     exact ⟨iv 13,Ret.r1 rfl rfl,⟨by refine congrArg (Value.int .i64) ?_; simp [dw,cg,h1,h2,h3,h4,h8],hI.below⟩⟩
    intro h9 y z w hI
    refine pu kf rfl (pu kf rfl (of_ rfl (of_ rfl (of_ rfl (of_ rfl (pu kf rfl (pu kf rfl (of_ rfl (of_ rfl ?_)))))))))
    refine of_ rfl (of_ rfl (pu kf rfl (pu kf rfl (aa (ab (ab (rgn rfl (pu kf rfl (aa ?_)))))))))
    refine ai rfl (ak (ab (rgn rfl (pu (iv 13) rfl (aa (aj ?_))))))
    exact ⟨iv 13,Ret.r1 rfl rfl,⟨by refine congrArg (Value.int .i64) ?_; simp [dw,cg,h1,h2,h3,h9],hI.below⟩⟩
   intro l
   refine pu kf rfl (pu kf rfl (of_ rfl (of_ rfl (of_ rfl (of_ rfl (pu kf rfl (pu kf rfl (of_ rfl (of_ rfl ?_)))))))))
   refine of_ rfl (of_ rfl (pu kf rfl (pu kf rfl (of_ rfl (of_ rfl (of_ rfl (of_ rfl (pu kf rfl (pu kf rfl ?_)))))))))
   refine aa (ab (ab (rgn rfl (pu kf rfl (aa (ai rfl (ak (ab (rgn rfl ?_)))))))))
   refine pu (iv 13) rfl (aa (aj ?_))
   exact ⟨iv 13,Ret.r1 rfl rfl,⟨by refine congrArg (Value.int .i64) ?_; simp [dw,cg,h1,h2,l],hI.below⟩⟩
  intro m
  refine pu kf rfl (pu kf rfl (of_ rfl (of_ rfl (of_ rfl (pu kf rfl (pu kf rfl (of_ rfl (of_ rfl (of_ rfl ?_)))))))))
  refine of_ rfl (pu kf rfl (pu kf rfl (of_ rfl (of_ rfl (of_ rfl (of_ rfl (pu kf rfl (pu kf rfl (of_ rfl ?_)))))))))
  refine of_ rfl (of_ rfl (of_ rfl (pu kf rfl (pu kf rfl (aa (ab (ab (rgn rfl (pu kf rfl ?_)))))))))
  refine aa (ai rfl (ak (ab (rgn rfl (pu (iv 13) rfl (aa (aj ?_)))))))
  exact ⟨iv 13,Ret.r1 rfl rfl,⟨by refine congrArg (Value.int .i64) ?_; simp [dw,cg,h1,m],hI.below⟩⟩
 intro o w hI
 refine pu kf rfl (of_ rfl (of_ rfl (of_ rfl (pu kf rfl (pu kf rfl (of_ rfl (of_ rfl (of_ rfl (pu kf rfl ?_)))))))))
 refine pu kf rfl (of_ rfl (of_ rfl (of_ rfl (of_ rfl (pu kf rfl (pu kf rfl (of_ rfl (of_ rfl (of_ rfl ?_)))))))))
 refine of_ rfl (pu kf rfl (pu kf rfl (of_ rfl (of_ rfl (of_ rfl (of_ rfl (pu kf rfl (pu kf rfl (aa ?_)))))))))
 refine ab (ab (rgn rfl (pu kf rfl (aa (ai rfl (ak (ab (rgn rfl (pu (iv 13) rfl ?_)))))))))
 refine aa (aj ?_)
 exact ⟨iv 13,Ret.r1 rfl rfl,⟨by refine congrArg (Value.int .i64) ?_; simp [dw,cg,o],hI.below⟩⟩

end Go.K
