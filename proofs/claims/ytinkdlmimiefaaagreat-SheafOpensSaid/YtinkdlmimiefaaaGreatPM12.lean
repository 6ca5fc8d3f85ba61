import Derived.Test.YtinkdlmimiefaaaGreatProg
import Derived.Test.YtinkdlmimiefaaaGreatPM11
namespace Go.K
open Go.Proofs.Tryz
open Go.Proofs Go.RowKit
set_option linter.unusedVariables false
set_option linter.unusedSimpArgs false
set_option maxRecDepth 100000
attribute [local irreducible] Seq cw cx fl opX

structure ScIn (w:World) (p:Pl) (A1:Option Addr) (n1 c1:Nat) (A2:Option Addr) (n2 c2:Nat) (A3:Option Addr) (n3 c3:Nat) (cs:List Ld) (A4:Option Addr) (n4 c4:Nat):Prop where
  p:gz w p A1 n1 A2 n2 A3 n3
  e4:bi w A4 (al eLd cs)
  m4:n4=cs.length
  k4:n4≤c4
  z4:n4≤60
  z2:n2≤100
  z3:n3≤100
  z1:n1≤100
theorem ScIn.inv0 {w0 w:World} {L:List (Option Nat × Obj)} {p:Pl} {A1 A2 A3 A4:Option Addr} {n1 n2 n3 n4 c1 c2 c3 c4:Nat} {cs:List Ld} (h:ScIn w0 p A1 n1 c1 A2 n2 c2 A3 n3 c3 cs A4 n4 c4) (hI:Inv []  w0 w L):ScIn w p A1 n1 c1 A2 n2 c2 A3 n3 c3 cs A4 n4 c4 :=
  ⟨h.p.inv0 hI,h.e4.inv0 hI,h.m4,h.k4,h.z4,h.z2,h.z3,h.z1⟩
structure ScOk (p:Pl) (cs:List Ld):Prop where
  sown:Bd 10000 ⟨p.lo,p.hi⟩
  st:∀ x∈p.stands,Bd 10000 ⟨x.lo,x.hi⟩
  ld:∀ x∈cs,Fd x
def gk (cs:List Ld) (bs:List Rg) (x:Ld):List Rg:=bs.set (dz cs x.hr) (er (bs.getD (dz cs x.hr) ⟨0,0⟩) ⟨x.lo,x.hi⟩)
def bj (p:Pl) (cs:List Ld):List Rg:=p.stands.foldl (gk cs) (⟨p.lo,p.hi⟩ :: List.replicate cs.length ⟨0,10000⟩)
def bound0 (p:Pl) (cs:List Ld) (k:Nat):List Rg:=(p.stands.take k).foldl (gk cs) (⟨p.lo,p.hi⟩ :: List.replicate cs.length ⟨0,10000⟩)
theorem bound0_step {p:Pl} {cs:List Ld} {k:Nat} {x:Ld} (hx:p.stands[k]?=some x):bound0 p cs (k+1)=gk cs (bound0 p cs k) x:=by
  rw [bound0,fe hx,List.foldl_append]; rfl
theorem bound0_all {p:Pl} {cs:List Ld} {k:Nat} (h:p.stands.length≤k):bound0 p cs k=bj p cs:=by
  rw [bound0,List.take_of_length_le h]; rfl
theorem boundsL_len (cs:List Ld):∀ (l:List Ld) (bs:List Rg),(l.foldl (gk cs) bs).length=bs.length
  | [],_=>rfl
  | x :: l,bs=>by rw [List.foldl_cons,boundsL_len cs l]; simp [gk]
theorem bound0_len (p:Pl) (cs:List Ld) (k:Nat):(bound0 p cs k).length=cs.length+1:=by rw [bound0,boundsL_len]; simp
theorem boundsF_len (p:Pl) (cs:List Ld):(bj p cs).length=cs.length+1:=by rw [bj,boundsL_len]; simp
theorem boundsL_bd (cs:List Ld):∀ (l:List Ld) (bs:List Rg),(∀ x∈l,Bd 10000 ⟨x.lo,x.hi⟩)→(∀ r∈bs,Bd 10000 r)→∀ r∈l.foldl (gk cs) bs,Bd 10000 r
  | [],_,_,hb=>hb
  | x :: l,bs,hl,hb=>by
    rw [List.foldl_cons]
    refine boundsL_bd cs l _ (fun y hy=>hl y (by simp [hy])) fun r hr=>?_
    unfold gk at hr
    rcases List.mem_or_eq_of_mem_set hr with h | h
    · exact hb r h
    subst h
    refine meet_bd ?_ (hl x (by simp))
    rw [List.getD_eq_getElem?_getD]
    cases hq:bs[dz cs x.hr]? with
    | none=>exact ⟨by decide,by decide,by decide,by decide⟩
    | some y=>exact hb y (bz hq)
theorem je {p:Pl} {cs:List Ld} (h:ScOk p cs):∀ r∈bj p cs,Bd 10000 r:=by
  refine boundsL_bd cs _ _ h.st fun r hr=>?_
  rcases List.mem_cons.1 hr with e | e
  · subst e; exact h.sown
  rw [List.eq_of_mem_replicate e]; exact ⟨by decide,by decide,by decide,by decide⟩
theorem fill_step {α:Type} {x z:α} {k m:Nat} (h:k < m):(List.replicate k x++List.replicate (m - k) z).set k x=List.replicate (k+1) x++List.replicate (m - (k+1)) z:=by
  rw [List.set_append_right _ _ (by simp),List.length_replicate,Nat.sub_self,show m - k=(m - (k+1))+1 by omega,List.replicate_succ,List.set_cons_zero,List.replicate_succ',List.append_assoc]
  rfl
theorem fill_done {α:Type} {x z y:α} {k m:Nat} (h:k=m+1):(List.replicate k x++List.replicate (m+1 - k) z).set 0 y=y :: List.replicate m x:=by
  subst h; rw [Nat.sub_self,List.replicate_zero,List.append_nil,List.replicate_succ,List.set_cons_zero]
def ay (p:Pl) (cs:List Ld):List Rg × Bool :=
  if (dd (bj p cs).reverse (cs.map (Pf.mk true)).reverse).2 then dd (dd (bj p cs).reverse (cs.map (Pf.mk true)).reverse).1.reverse (cs.map (Pf.mk false)) else ([],false)

set_option maxHeartbeats 1600000 in
theorem bounds_c (w0:World) (pl:Pl) (q:Option Addr) (r s:Nat) (f:Option Addr) (e g:Nat) (t:Option Addr) (u x:Nat) (cs:List Ld) (j:Option Addr) (b o:Nat) (hSc:ScIn w0 pl q r s f e g t u x cs j b o):bn Tryz.prog 150 [.agg (qn7 pl.lo pl.hi q r s f e g t u x pl.geese j b o).toArray] w0 fun v w=>Gives 2 23 none (bj pl cs).length (al eRg (bj pl cs)) w0 v w:=by
 have hm1:=hSc.p.m1; have hm2:=hSc.p.m2; have hm3:=hSc.p.m3; have hm4:=hSc.m4; have hk4:=hSc.k4; have hz1:=hSc.z1; have hz2:=hSc.z2; have hz3:=hSc.z3; have hz4:=hSc.z4
 refine az (n:=52) func150 rfl ntmps150 rfl ?_
 have hI:=Inv.start w0
 refine ab (rgn rfl (ac (ca hI (qn7 pl.lo pl.hi q r s f e g t u x pl.geese j b o) rfl fun b1 w hI=>pu (.slice none 0 0) rfl (aa (ab (rgn rfl (pu (.pointer (some ⟨b1,6,none⟩)) rfl (ac (ag hI 0 (.slice j b o) isAgg24 rfl rfl rfl ?_)))))))))
 refine pu (iv ((b:Nat):Int)) (by kernel_rfl) (ac (cj rfl rfl (by omega) ?_))
 refine ac (s_makeRowM hI (enc:=eRg) da (by decide) (⟨0,0⟩:Rg) underlying130 (z:=.agg #[iv 0,iv 0]) (k:=2) (bytes:=16) rfl rfl (b+1) rfl rfl (by omega) (by decide) fun bm clm w hI hrm=>pu (slv (some bm) (b+1) (b+1)) rfl (aa (ab (ab (rgn rfl (pu (slv (some bm) (b+1) (b+1)) rfl (pu (iv ((b+1:Nat):Int)) (by kernel_rfl) (pu (iv 0) rfl (aa (au ?_))))))))))
 refine cb (fun m ρ w=>∃ (k:Nat) (ccl:List Value),cd ρ [(1,.pointer (some ⟨b1,0,none⟩)),(3,slv (some bm) (b+1) (b+1)),(14,iv (b+1:Int)),(15,iv (k:Int))]∧Inv []  w0 w [(some bm,blk ccl 23),(some b1,blk (qn7 pl.lo pl.hi q r s f e g t u x pl.geese j b o) 116)]∧(k≤b+1)∧(Row 2 (some bm) (b+1) (b+1) ccl (al eRg (List.replicate k (⟨0,10000⟩:Rg)++List.replicate (b+1 - k) (⟨0,0⟩:Rg))))∧m=b+1 - k) (m:=b+1 - 0) ⟨0,clm,⟨rfl,rfl,rfl,rfl,trivial⟩,hI.pk [0,1] rfl rfl,(by omega),(hrm.to (by simp) rfl),rfl⟩ ?_
 rintro m ρ w ⟨k,ccl,hag,hI,hk,hrr,hm⟩
 obtain ⟨ρ,rfl⟩:=hag.form; clear hag
 have hln:(List.replicate k (⟨0,10000⟩:Rg)++List.replicate (b+1 - k) (⟨0,0⟩:Rg)).length=b+1:=by simp; omega
 refine ab (rgn rfl (ac (cm rfl rfl ?_ ?_)))
 ·intro h1
  refine aa (ab (ah rfl (ak (ab (au ?_)))))
  refine ab (rgn rfl (pu (iv (k:Int)) rfl (pu (iv (k:Int)) rfl (aa (rgn rfl (pu (slv (some bm) (b+1) (b+1)) rfl (pu (iv (k:Int)) rfl (pu (.agg #[iv 0,iv 10000]) (by kernel_rfl) ?_))))))))
  obtain ⟨x2,hx3⟩:=bq (l:=List.replicate k (⟨0,10000⟩:Rg)++List.replicate (b+1 - k) (⟨0,0⟩:Rg)) (i:=k) (by omega)
  have he4:=hrr.atS da (by decide) hx3
  refine ac (be k underlying130 sizeOf23 rfl rfl rfl (by omega) ?_)
  refine ac (aq hI 0 2 [iv 0,iv 10000] sizeOf23 rfl rfl rfl rfl rfl (hrr.room (by omega)) ?_)
  intro w hI
  have r5:=hrr.put da (by decide) k (⟨0,10000⟩:Rg) (by omega)
  obtain ⟨cl6,hcl⟩:∃ z,z=putCells ccl (k * 2) (eRg (⟨0,10000⟩:Rg)):=⟨_,rfl⟩
  rw [← hcl] at r5
  have hI:Inv []  w0 w [(some bm,blk cl6 23),(some b1,blk (qn7 pl.lo pl.hi q r s f e g t u x pl.geese j b o) 116)]:=by rw [hcl]; exact hI
  clear hcl
  refine aa (rgn rfl (ac (cj rfl rfl (by omega) ?_)))
  refine pu (iv ((k:Int)+1)) rfl (aa ?_)
  exact ⟨rfl,_,(by omega),⟨k+1,cl6,⟨rfl,rfl,rfl,rfl,trivial⟩,hI.pk [0,1] rfl rfl,(by omega),(r5.to (fill_step (by omega)) rfl),rfl⟩⟩
 intro h2
 refine aa (ab (ai rfl (bw ?_)))
 refine ab (rgn rfl (pu (slv (some bm) (b+1) (b+1)) rfl (pu (.pointer (some ⟨b1,0,none⟩)) rfl (pu (.pointer (some ⟨b1,0,none⟩)) rfl (ac (ar hI 1 2 [iv pl.lo,iv pl.hi] isAgg23 sizeOf23 rfl rfl rfl rfl ?_))))))
 obtain ⟨x7,hx8⟩:=bq (l:=List.replicate k (⟨0,10000⟩:Rg)++List.replicate (b+1 - k) (⟨0,0⟩:Rg)) (i:=0) (by omega)
 have he9:=hrr.atS da (by decide) hx8
 refine ac (be 0 underlying130 sizeOf23 rfl rfl rfl (by omega) ?_)
 refine ac (aq hI 0 2 [iv pl.lo,iv pl.hi] sizeOf23 rfl rfl rfl rfl rfl (hrr.room (by omega)) ?_)
 intro w hI
 have y:=hrr.put da (by decide) 0 (⟨pl.lo,pl.hi⟩:Rg) (by omega)
 obtain ⟨A,hcl⟩:∃ z,z=putCells ccl (0 * 2) (eRg (⟨pl.lo,pl.hi⟩:Rg)):=⟨_,rfl⟩
 rw [← hcl] at y
 have hI:Inv []  w0 w [(some bm,blk A 23),(some b1,blk (qn7 pl.lo pl.hi q r s f e g t u x pl.geese j b o) 116)]:=by rw [hcl]; exact hI
 clear hcl
 refine aa (ab (ab (rgn rfl (pu (.pointer (some ⟨b1,0,none⟩)) rfl (pu (.pointer (some ⟨b1,3,none⟩)) rfl (ac (ag hI 1 (.slice f e g) isAgg25 rfl rfl rfl ?_)))))))
 refine pu (iv ((e:Nat):Int)) (by kernel_rfl) (pu (iv 0) rfl (aa (au ?_)))
 have hb0:=y.to (Y:=bound0 pl cs 0) ((fill_done (by omega)).trans (by rw [hm4]; rfl)) rfl
 refine cb (fun m ρ w=>∃ (k:Nat) (ccl2:List Value) (M:List Rg),cd ρ [(1,.pointer (some ⟨b1,0,none⟩)),(3,slv (some bm) (b+1) (b+1)),(30,.slice f e g),(31,iv (e:Int)),(32,iv (k:Int))]∧Inv []  w0 w [(some bm,blk ccl2 23),(some b1,blk (qn7 pl.lo pl.hi q r s f e g t u x pl.geese j b o) 116)]∧(k≤e)∧(M=bound0 pl cs k)∧(Row 2 (some bm) (b+1) (b+1) ccl2 (al eRg M))∧m=e - k) (m:=e - 0) ⟨0,A,bound0 pl cs 0,⟨rfl,rfl,rfl,rfl,rfl,trivial⟩,hI.pk [0,1] rfl rfl,(by omega),rfl,hb0,rfl⟩ ?_
 rintro m ρ w ⟨k,ccl2,M,hag,hI,hk2,hM,hrr2,hm⟩
 obtain ⟨ρ,rfl⟩:=hag.form; clear hag
 have hln2:M.length=b+1:=by rw [hM,bound0_len]; omega
 refine ab (rgn rfl (ac (cm rfl rfl ?_ ?_)))
 ·intro h3
  refine aa (ab (ah rfl (ak (ab (au ?_)))))
  refine ab (rgn rfl ?_)
  obtain ⟨a,B⟩:=bq (l:=pl.stands) (i:=k) (by omega)
  obtain ⟨J,K,E,F,G⟩:=hSc.p.c2.at_ bf (by decide) B
  refine ac (cn k underlying25 sizeOf31 rfl E rfl rfl (by omega) ?_)
  refine ac (ef hI (eLd a) isAgg31 sizeOf31 rfl rfl F (by simp) G ?_)
  refine ac (bh hI [iv 0,iv 0,iv 0,iv 0,iv 0,iv 0] zeroValue31 rfl fun C w hI=>ac (aq hI 0 6 (eLd a) sizeOf31 rfl rfl rfl rfl rfl (kh rfl) fun w hI=>aa (ab (rgn rfl (ac (ar hI 2 7 (qn7 pl.lo pl.hi q r s f e g t u x pl.geese j b o) isAgg116 sizeOf116 rfl rfl rfl rfl ?_))))))
  refine pu (.pointer (some ⟨C,1,none⟩)) rfl (ac (ag hI 0 (iv a.hr) isAgg3 rfl rfl rfl ?_))
  refine ac (bg hI 115 [.agg (qn7 pl.lo pl.hi q r s f e g t u x pl.geese j b o).toArray,iv a.hr] (iv ((dz cs a.hr:Nat):Int)) (by kernel_rfl) (cartedBy_c _ pl.lo pl.hi pl.geese (.slice q r s) (.slice f e g) (.slice t u x) j b o cs a.hr hSc.m4 (by omega) hSc.k4 (hSc.e4.inv0 hI)) fun w hI=>pu (iv ((dz cs a.hr:Nat):Int)) rfl (aa ?_))
  have hcl9:=cart_le cs a.hr
  obtain ⟨d,D⟩:=bq (l:=M) (i:=dz cs a.hr) (by omega)
  have H:=hrr2.atS da (by decide) D
  replace hI:=hI.pk [0,2,1] rfl rfl
  refine dh hI [0,1] (by decide) rfl rfl rfl fun hsub=>alp 0 (slv (some bm) (b+1) (b+1)) hsub rfl (by kernel_rfl) (fun _=>rfl) ?_
  refine alp 1 (iv ((dz cs a.hr:Nat):Int)) hsub rfl (by kernel_rfl) (fun _=>rfl) ?_
  refine alp 2 (slv (some bm) (b+1) (b+1)) hsub rfl (by kernel_rfl) (fun _=>rfl) ?_
  refine alp 3 (iv ((dz cs a.hr:Nat):Int)) hsub rfl (by kernel_rfl) (fun _=>rfl) ?_
  refine ap 4 (.pointer (some ⟨bm,(dz cs a.hr) * 2,none⟩)) hsub rfl (by kernel_rfl) (fun w hI=>be (dz cs a.hr) underlying130 sizeOf23 rfl rfl rfl (by omega) br) ?_
  refine alp 6 (.pointer (some ⟨C,2,none⟩)) hsub rfl (by kernel_rfl) (fun _=>rfl) ?_
  refine ap 7 (.agg #[iv a.lo,iv a.hi]) hsub rfl (by kernel_rfl) (fun w hI=>ar hI 0 2 [iv a.lo,iv a.hi] isAgg23 sizeOf23 rfl rfl rfl rfl br) ?_
  refine bc [5] (by kernel_rfl) rfl (cz fun w hI=>dg rfl (cq hI 2 [iv d.lo,iv d.hi] isAgg23 sizeOf23 rfl rfl rfl H ?_))
  refine ⟨_,hI,dc (fun _ h=>h.pk [0,1] rfl rfl) ?_⟩
  intro hsub
  refine ap 8 (.agg #[iv (if a.lo > d.lo then a.lo else d.lo),iv (if a.hi < d.hi then a.hi else d.hi)]) hsub rfl (by kernel_rfl) (fun w hI=>co 103 [.agg #[iv d.lo,iv d.hi],.agg #[iv a.lo,iv a.hi]] (by kernel_rfl) (meet_c d.lo d.hi a.lo a.hi _) (fun v' w' h=>h)) ?_
  refine ap 9 (.pointer (some ⟨bm,(dz cs a.hr) * 2,none⟩)) hsub rfl (by kernel_rfl) (fun w hI=>be (dz cs a.hr) underlying130 sizeOf23 rfl rfl rfl (by omega) br) ?_
  refine bc [10] (by kernel_rfl) rfl (cz fun w hI=>dg rfl (aq hI 2 2 [iv (if a.lo > d.lo then a.lo else d.lo),iv (if a.hi < d.hi then a.hi else d.hi)] sizeOf23 rfl rfl rfl rfl rfl (hrr2.room (by omega)) fun w hI=>⟨_,hI,dc (fun _ h=>h.pk [0,1] rfl rfl) ?_⟩))
  intro hsub
  have I:=hrr2.put da (by decide) (dz cs a.hr) (⟨if a.lo > d.lo then a.lo else d.lo,if a.hi < d.hi then a.hi else d.hi⟩:Rg) (by omega)
  refine cp rfl (fun w hI=>?_)
  refine rgn rfl (ac (cj rfl rfl (by omega) ?_))
  refine pu (iv ((k:Int)+1)) rfl (aa ?_)
  exact ⟨rfl,_,(by omega),⟨k+1,putCells ccl2 ((dz cs a.hr) * 2) (eRg (⟨if a.lo > d.lo then a.lo else d.lo,if a.hi < d.hi then a.hi else d.hi⟩:Rg)),gk cs M a,⟨rfl,rfl,rfl,rfl,rfl,trivial⟩,hI.pk [2,1] rfl rfl,(by omega),(by rw [hM,bound0_step B]),(I.to (by rw [gk,List.getD_eq_getElem?_getD,D]; rfl) rfl),rfl⟩⟩
 intro h4
 refine aa (ab (ai rfl (bw ?_)))
 refine ab (rgn rfl (pu (slv (some bm) (b+1) (b+1)) rfl (pu (slv (some bm) (b+1) (b+1)) rfl (aa (aj ?_)))))
 exact ⟨slv (some bm) (b+1) (b+1),Ret.r1 rfl rfl,⟨some bm,b+1,ccl2,(by rw [boundsF_len,hm4]),hI.pk [0] rfl rfl,hrr2.to (by rw [hM,bound0_all (by omega)]) (by rw [boundsF_len,hm4])⟩⟩

section steps
variable {P:Program} {ρ:Env} {B:List Nat} {w w0 w':World} {L N:List (Option Nat × Obj)} {R:Value→World→Prop}
theorem ee (hI:Inv B w0 w L) {o:Oper} (f:FuncId) (args:List Value) {k:Nat} {E:TypeId} {g:Option Nat} {n c:Nat} {xs:List Value} (i:Nat) {ob:Obj} (hi:L[i]?=some (g,ob)) (h:(execOp (ev ρ) o).run P w=.ok (.enter f args.toArray) w)
    (hc:bn P f args w fun v w'=>ex k E g c n xs w v w') (kk:∀ cl w',Inv B w0 w' ((g,blk cl E) :: L.set i (none,ob))→Row k g n c cl xs→R (.tuple #[]) w'):cw P o ρ w R :=
  co f args h hc fun v w' ⟨cl,hv,hN,hr⟩=>by
    subst hv
    exact kk cl w' (hI.back i hi hN) hr
theorem fy (hI:Inv B w0 w L) {o:Oper} (f:FuncId) (args:List Value) (F:Value→Value) {k:Nat} {E:TypeId} {n:Nat} {xs:List Value} (h:(execOp (ev ρ) o).run P w=.ok (.enter f args.toArray) w)
    (hc:bn P f args w fun v w'=>∃ v1,v=F v1∧Gives k E none n xs w v1 w') (kk:∀ g c cl w',Inv B w0 w' ((g,blk cl E) :: L)→Row k g n c cl xs→R (F (slv g n c)) w'):cw P o ρ w R :=
  co f args h hc fun v w' ⟨v1,hv,g,c,cl,hv1,hN,hr⟩=>by
    subst hv; subst hv1
    exact kk g c cl w' (hI.join (N:=[(g,blk cl E)]) ⟨hN.but,hN.has,hN.sep⟩) hr
end steps
theorem passF_len {bs:List Rg} {fs:List Pf} (hl:bs.length≤fs.length+1) (h:(dd bs fs).2=true):(dd bs fs).1.length=bs.length:=by
  unfold dd at h ⊢
  split
  · exact pass_len hl
  rename_i hn; rw [if_neg hn] at h; cases h
theorem passF_bd {bs:List Rg} {fs:List Pf} (hb:∀ r∈bs,Bd 10000 r) (hf:∀ f∈fs,Fd f.x) (hl:bs.length≤fs.length+1) (hs:bs.length≤90):∀ r∈(dd bs fs).1,Bd 1000000 r:=by
  intro r hr
  unfold dd at hr
  split at hr
  · obtain ⟨q,hq,he⟩:=List.getElem_of_mem (show r∈cr bs fs from hr)
    have hlen:=pass_len hl
    exact (pass_bd hb hf hl q r (by rw [List.getElem?_eq_getElem hq,he])).mono (by omega)
  cases hr
theorem fd_map {l:List Ld} {b:Bool} (h:∀ x∈l,Fd x):∀ f∈l.map (Pf.mk b),Fd f.x:=fun f hf=>by
  obtain ⟨x,hx,rfl⟩:=List.mem_map.1 hf
  exact h x hx
theorem stoodF_len {p:Pl} {cs:List Ld} (h:(ay p cs).2=true):(ay p cs).1.length=cs.length+1:=by
  have hb:=boundsF_len p cs
  unfold ay at h ⊢
  split
  · rename_i h1
    rw [if_pos h1] at h
    have:=passF_len (by rw [List.length_reverse,List.length_reverse,List.length_map]; omega) h1
    rw [passF_len (by rw [List.length_reverse,List.length_map,this,List.length_reverse]; omega) h,List.length_reverse,this,List.length_reverse,hb]
  rename_i h1; rw [if_neg h1] at h; cases h

set_option maxHeartbeats 1600000 in
theorem stood_c (w0:World) (pl:Pl) (t:Option Addr) (x y:Nat) (A:Option Addr) (B C:Nat) (D:Option Addr) (E F:Nat) (cs:List Ld) (q:Option Addr) (a s:Nat) (hSc:ScIn w0 pl t x y A B C D E F cs q a s) (hok:ScOk pl cs):bn Tryz.prog 102 [.agg (qn7 pl.lo pl.hi t x y A B C D E F pl.geese q a s).toArray] w0 fun v w=>∃ v1,v=.tuple #[v1,.bool (ay pl cs).2]∧Gives 2 23 none (ay pl cs).1.length (al eRg (ay pl cs).1) w0 v1 w:=by
 have hm1:=hSc.p.m1; have hm2:=hSc.p.m2; have hm3:=hSc.p.m3; have hm4:=hSc.m4; have hk4:=hSc.k4; have hz1:=hSc.z1; have hz2:=hSc.z2; have hz3:=hSc.z3; have hz4:=hSc.z4
 refine az (n:=53) func102 rfl ntmps102 rfl ?_
 have hI:=Inv.start w0
 refine ab (rgn rfl (ac (ca hI (qn7 pl.lo pl.hi t x y A B C D E F pl.geese q a s) rfl fun b1 w hI=>pu (.slice none 0 0) rfl (pu kf rfl (aa (ab (rgn rfl (pu (.slice none 0 0) rfl (pu (.slice none 0 0) rfl (aa (ab (ab ?_))))))))))))
 refine rgn rfl (pu (.pointer (some ⟨b1,6,none⟩)) rfl (ac (ag hI 0 (.slice q a s) isAgg24 rfl rfl rfl ?_)))
 refine pu (iv ((a:Nat):Int)) (by kernel_rfl) (pu (iv 0) rfl (aa (au ?_)))
 have hI:=hI.nilRow 188
 have hI:=hI.nilRow 188
 refine cb (fun m ρ w=>∃ (k:Nat) (gg0:Option Nat) (cc0:Nat) (ccl0:List Value) (gg1:Option Nat) (cc1:Nat) (ccl1:List Value),cd ρ [(1,.pointer (some ⟨b1,0,none⟩)),(4,slv gg0 k cc0),(5,slv gg1 k cc1),(13,.slice q a s),(14,iv (a:Int)),(15,iv (k:Int))]∧Inv []  w0 w [(gg1,blk ccl1 188),(gg0,blk ccl0 188),(some b1,blk (qn7 pl.lo pl.hi t x y A B C D E F pl.geese q a s) 116)]∧(k≤a)∧(Row 1 gg0 (k) cc0 ccl0 (al ePf ((cs.take k).map (Pf.mk true))))∧(Row 1 gg1 (k) cc1 ccl1 (al ePf ((cs.take k).map (Pf.mk false))))∧m=a - k) (m:=a - 0) ⟨0,none,0,[],none,0,[],⟨rfl,rfl,rfl,rfl,rfl,rfl,trivial⟩,hI.pk [0,1,2] rfl rfl,(by omega),(Row.nil_ 1),(Row.nil_ 1),rfl⟩ ?_
 rintro m ρ w ⟨k,gg0,cc0,ccl0,gg1,cc1,ccl1,hag,hI,hk,hrr0,hrr1,hm⟩
 obtain ⟨ρ,rfl⟩:=hag.form; clear hag
 refine ab (rgn rfl (ac (cm rfl rfl ?_ ?_)))
 ·intro h1
  refine aa (ab (ah rfl (ak (ab (au ?_)))))
  refine ab (rgn rfl ?_)
  obtain ⟨x2,hx3⟩:=bq (l:=cs) (i:=k) (by omega)
  obtain ⟨b4,o5,hA6,hb7,he8⟩:=hSc.e4.at_ bf (by decide) hx3
  refine ac (cn k underlying24 sizeOf30 rfl hA6 rfl rfl (by omega) ?_)
  refine ac (ef hI (eLd x2) isAgg30 sizeOf30 rfl rfl hb7 (by simp) he8 ?_)
  refine ac (bh hI [iv 0,iv 0,iv 0,iv 0,iv 0,iv 0] zeroValue30 rfl fun b9 w hI=>ac (aq hI 0 6 (eLd x2) sizeOf30 rfl rfl rfl rfl rfl (kh rfl) fun w hI=>aa (ab (rgn rfl (ac (ar hI 0 6 (eLd x2) isAgg30 sizeOf30 rfl rfl rfl rfl ?_))))))
  refine pu (.agg (eLd x2).toArray) (by kernel_rfl) (ac (bh hI [iv 0,iv 0,iv 0,iv 0,iv 0,iv 0] zeroValue183 rfl fun aB w hI=>ac (aq hI 0 6 (eLd x2) sizeOf183 rfl rfl rfl rfl rfl (kh rfl) fun w hI=>aa (ab (rgn rfl (pu (slv gg0 k cc0) rfl (ac (ar hI 0 6 (eLd x2) isAgg183 sizeOf183 rfl rfl rfl rfl ?_))))))))
  refine pu (.func (.func 148) #[.agg (eLd x2).toArray] #[]) (by kernel_rfl) (ac (fu hI [.func (.func 148) #[.agg (eLd x2).toArray] #[]] 188 (fun b=>slv (some b) 1 1) (by kernel_rfl) fun aC w hI=>ac (s_app hI underlying181 (z:=.nilFunc) (k:=1) (bytes:=8) rfl rfl rfl 4 rfl rfl hrr0 [.func (.func 148) #[.agg (eLd x2).toArray] #[]] rfl rfl (hI.cells 0 (off:=0) rfl (fun j u h=>by rw [Nat.zero_add]; exact h)) (by simp [Value.oneCell',eLd,eSp]) (by omega) (by omega) ?_)))
  intro P Q a0 w hI R
  have R:Row 1 P (k+1) Q a0 (al ePf (((cs.take k).map (Pf.mk true))++[(⟨true,x2⟩:Pf)])):=R.snoc _ rfl
  refine pu (slv P (k+1) Q) rfl (aa (rgn rfl (pu (slv gg1 k cc1) rfl (ac (ar hI 1 6 (eLd x2) isAgg183 sizeOf183 rfl rfl rfl rfl ?_)))))
  refine pu (.func (.func 149) #[.agg (eLd x2).toArray] #[]) (by kernel_rfl) (ac (fu hI [.func (.func 149) #[.agg (eLd x2).toArray] #[]] 188 (fun b=>slv (some b) 1 1) (by kernel_rfl) fun aD w hI=>ac (s_app hI underlying181 (z:=.nilFunc) (k:=1) (bytes:=8) rfl rfl rfl 4 rfl rfl hrr1 [.func (.func 149) #[.agg (eLd x2).toArray] #[]] rfl rfl (hI.cells 0 (off:=0) rfl (fun j u h=>by rw [Nat.zero_add]; exact h)) (by simp [Value.oneCell',eLd,eSp]) (by omega) (by omega) ?_)))
  intro S T a1 w hI U
  have U:Row 1 S (k+1) T a1 (al ePf (((cs.take k).map (Pf.mk false))++[(⟨false,x2⟩:Pf)])):=U.snoc _ rfl
  refine pu (slv S (k+1) T) rfl (aa (rgn rfl (ac (cj rfl rfl (by omega) ?_))))
  refine pu (iv ((k:Int)+1)) rfl (aa ?_)
  exact ⟨rfl,_,(by omega),⟨k+1,P,Q,a0,S,T,a1,⟨rfl,rfl,rfl,rfl,rfl,rfl,trivial⟩,hI.pk [4,5,6] rfl rfl,(by omega),(R.to (by rw [fe hx3]; simp) (by omega)),(U.to (by rw [fe hx3]; simp) (by omega)),rfl⟩⟩
 intro h2
 refine aa (ab (ai rfl (bw ?_)))
 refine ab (rgn rfl (ac (ar hI 2 7 (qn7 pl.lo pl.hi t x y A B C D E F pl.geese q a s) isAgg116 sizeOf116 rfl rfl rfl rfl ?_)))
 have hkk:a=k:=by omega
 subst hkk
 have hq4:=hrr0.to (Y:=cs.map (Pf.mk true)) (m:=a) (by rw [List.take_of_length_le (by omega)]) (by omega)
 have hq5:=hrr1.to (Y:=cs.map (Pf.mk false)) (m:=a) (by rw [List.take_of_length_le (by omega)]) (by omega)
 have hbl:=boundsF_len pl cs
 refine ac (gj hI 150 [.agg (qn7 pl.lo pl.hi t x y A B C D E F pl.geese q a s).toArray] (by kernel_rfl) (bounds_c _ pl t x y A B C D E F cs q a s (hSc.inv0 hI)) ?_)
 intro g o a2 w hI V
 have V:Row 2 g (bj pl cs).length o a2 (al eRg (bj pl cs)):=V
 refine pu (slv g (bj pl cs).length o) rfl (aa (ab (rgn rfl (pu (slv g (bj pl cs).length o) rfl (ac (ee hI 151 [slv g (bj pl cs).length o] 0 rfl (by kernel_rfl) (ReverseRanges_c _ g (bj pl cs).length o a2 (bj pl cs) (hI.hasg 0 rfl) V (by omega)) ?_))))))
 intro a7 w hI G
 have G:Row 2 g (bj pl cs).length o a7 (al eRg (bj pl cs).reverse):=G
 refine aa (ab (rgn rfl (pu (slv gg0 a cc0) rfl (ac (ee hI 152 [slv gg0 a cc0] 3 rfl (by kernel_rfl) (ReversePassings_c _ gg0 a cc0 ccl0 (cs.map (Pf.mk true)) (hI.hasg 3 rfl) hq4 (by omega)) ?_)))))
 intro a8 w hI H
 have H:Row 1 gg0 (a) cc0 a8 (al ePf ((cs.map (Pf.mk true)).reverse)):=H
 refine aa (ab (rgn rfl (pu (slv g (bj pl cs).length o) rfl (pu (slv gg0 a cc0) rfl ?_))))
 rcases Bool.eq_false_or_eq_true ((dd (bj pl cs).reverse ((cs.map (Pf.mk true)).reverse)).2) with h3 | h3
 ·
  refine ac (fy hI 153 [slv g (bj pl cs).length o,slv gg0 a cc0] (fun v1=>.tuple #[v1,.bool true]) (by kernel_rfl) (bn.mono (passOn_c _ (bj pl cs).reverse (g.map fun b=>⟨b,0,none⟩) (bj pl cs).length o ((cs.map (Pf.mk true)).reverse) (gg0.map fun b=>⟨b,0,none⟩) a cc0 (G.n_eq da (by decide)) (H.n_eq il (by decide)) (by omega) (by omega) (by omega) (by omega) (hI.rowCells 1 rfl G) (hI.rowCells 0 rfl H) (fun r hr=>(je hok r (List.mem_reverse.1 hr)).mono (by decide)) (fun f hf=>fd_map hok.ld f (List.mem_reverse.1 hf))) (fun v w' ⟨v1,e1,e2⟩=>⟨v1,by rw [e1,h3],e2⟩)) ?_)
  intro d c30 a3 w hI W
  have W:Row 2 d ((dd (bj pl cs).reverse ((cs.map (Pf.mk true)).reverse)).1.length) c30 a3 (al eRg ((dd (bj pl cs).reverse ((cs.map (Pf.mk true)).reverse)).1)):=W
  refine pu (.tuple #[slv d ((dd (bj pl cs).reverse ((cs.map (Pf.mk true)).reverse)).1.length) c30,.bool true]) rfl (pu (slv d ((dd (bj pl cs).reverse ((cs.map (Pf.mk true)).reverse)).1.length) c30) rfl (pu kg rfl (pu (slv d ((dd (bj pl cs).reverse ((cs.map (Pf.mk true)).reverse)).1.length) c30) rfl (pu kg rfl (aa (ab (ab (rgn rfl (pu kg rfl ?_)))))))))
  refine pu kf rfl (aa (ai rfl (ak (ab (rgn rfl (pu (slv d ((dd (bj pl cs).reverse ((cs.map (Pf.mk true)).reverse)).1.length) c30) rfl ?_))))))
  have hpl:=passF_len (by simp; omega) h3; rw [List.length_reverse] at hpl
  refine ac (ee hI 151 [slv d ((dd (bj pl cs).reverse ((cs.map (Pf.mk true)).reverse)).1.length) c30] 0 rfl (by kernel_rfl) (ReverseRanges_c _ d ((dd (bj pl cs).reverse ((cs.map (Pf.mk true)).reverse)).1.length) c30 a3 ((dd (bj pl cs).reverse ((cs.map (Pf.mk true)).reverse)).1) (hI.hasg 0 rfl) W (by omega)) ?_)
  intro a9 w hI I
  have I:Row 2 d ((dd (bj pl cs).reverse ((cs.map (Pf.mk true)).reverse)).1.length) c30 a9 (al eRg (((dd (bj pl cs).reverse ((cs.map (Pf.mk true)).reverse)).1).reverse)):=I
  refine aa (ab (rgn rfl (pu (slv d ((dd (bj pl cs).reverse ((cs.map (Pf.mk true)).reverse)).1.length) c30) rfl (pu (slv gg1 a cc1) rfl ?_))))
  rcases Bool.eq_false_or_eq_true ((dd (((dd (bj pl cs).reverse ((cs.map (Pf.mk true)).reverse)).1).reverse) (cs.map (Pf.mk false))).2) with h4 | h4
  ·
   refine ac (fy hI 153 [slv d ((dd (bj pl cs).reverse ((cs.map (Pf.mk true)).reverse)).1.length) c30,slv gg1 a cc1] (fun v1=>.tuple #[v1,.bool true]) (by kernel_rfl) (bn.mono (passOn_c _ (((dd (bj pl cs).reverse ((cs.map (Pf.mk true)).reverse)).1).reverse) (d.map fun b=>⟨b,0,none⟩) ((dd (bj pl cs).reverse ((cs.map (Pf.mk true)).reverse)).1.length) c30 (cs.map (Pf.mk false)) (gg1.map fun b=>⟨b,0,none⟩) a cc1 (I.n_eq da (by decide)) (hq5.n_eq il (by decide)) (by omega) (by omega) (by omega) (by omega) (hI.rowCells 0 rfl I) (hI.rowCells 5 rfl hq5) (fun r hr=>passF_bd (fun r hr=>je hok r (List.mem_reverse.1 hr)) (fun f hf=>fd_map hok.ld f (List.mem_reverse.1 hf)) (by simp; omega) (by simp; omega) r (List.mem_reverse.1 hr)) (fd_map hok.ld)) (fun v w' ⟨v1,e1,e2⟩=>⟨v1,by rw [e1,h4],e2⟩)) ?_)
   intro J K a4 w hI X
   have X:Row 2 J ((dd (((dd (bj pl cs).reverse ((cs.map (Pf.mk true)).reverse)).1).reverse) (cs.map (Pf.mk false))).1.length) K a4 (al eRg ((dd (((dd (bj pl cs).reverse ((cs.map (Pf.mk true)).reverse)).1).reverse) (cs.map (Pf.mk false))).1)):=X
   refine pu (slv J ((dd (((dd (bj pl cs).reverse ((cs.map (Pf.mk true)).reverse)).1).reverse) (cs.map (Pf.mk false))).1.length) K) rfl (pu kg rfl (pu (slv J ((dd (((dd (bj pl cs).reverse ((cs.map (Pf.mk true)).reverse)).1).reverse) (cs.map (Pf.mk false))).1.length) K) rfl (pu kg rfl (aa (aj ?_)))))
   have e:ay pl cs=dd (dd (bj pl cs).reverse (cs.map (Pf.mk true)).reverse).1.reverse (cs.map (Pf.mk false)):=by rw [ay,if_pos h3]
   exact ⟨.tuple #[slv J ((dd (((dd (bj pl cs).reverse ((cs.map (Pf.mk true)).reverse)).1).reverse) (cs.map (Pf.mk false))).1.length) K,.bool true],Ret.r2 rfl rfl rfl,(by rw [e,h4]; exact ⟨slv J ((dd (((dd (bj pl cs).reverse ((cs.map (Pf.mk true)).reverse)).1).reverse) (cs.map (Pf.mk false))).1.length) K,rfl,J,K,a4,rfl,hI.pk [0] rfl rfl,X⟩)⟩
  refine ac (fy hI 153 [slv d ((dd (bj pl cs).reverse ((cs.map (Pf.mk true)).reverse)).1.length) c30,slv gg1 a cc1] (fun v1=>.tuple #[v1,.bool false]) (by kernel_rfl) (bn.mono (passOn_c _ (((dd (bj pl cs).reverse ((cs.map (Pf.mk true)).reverse)).1).reverse) (d.map fun b=>⟨b,0,none⟩) ((dd (bj pl cs).reverse ((cs.map (Pf.mk true)).reverse)).1.length) c30 (cs.map (Pf.mk false)) (gg1.map fun b=>⟨b,0,none⟩) a cc1 (I.n_eq da (by decide)) (hq5.n_eq il (by decide)) (by omega) (by omega) (by omega) (by omega) (hI.rowCells 0 rfl I) (hI.rowCells 5 rfl hq5) (fun r hr=>passF_bd (fun r hr=>je hok r (List.mem_reverse.1 hr)) (fun f hf=>fd_map hok.ld f (List.mem_reverse.1 hf)) (by simp; omega) (by simp; omega) r (List.mem_reverse.1 hr)) (fd_map hok.ld)) (fun v w' ⟨v1,e1,e2⟩=>⟨v1,by rw [e1,h4],e2⟩)) ?_)
  intro L M a5 w hI Z
  have Z:Row 2 L ((dd (((dd (bj pl cs).reverse ((cs.map (Pf.mk true)).reverse)).1).reverse) (cs.map (Pf.mk false))).1.length) M a5 (al eRg ((dd (((dd (bj pl cs).reverse ((cs.map (Pf.mk true)).reverse)).1).reverse) (cs.map (Pf.mk false))).1)):=Z
  refine pu (slv L ((dd (((dd (bj pl cs).reverse ((cs.map (Pf.mk true)).reverse)).1).reverse) (cs.map (Pf.mk false))).1.length) M) rfl (pu kf rfl (pu (slv L ((dd (((dd (bj pl cs).reverse ((cs.map (Pf.mk true)).reverse)).1).reverse) (cs.map (Pf.mk false))).1.length) M) rfl (pu kf rfl (aa (aj ?_)))))
  have e:ay pl cs=dd (dd (bj pl cs).reverse (cs.map (Pf.mk true)).reverse).1.reverse (cs.map (Pf.mk false)):=by rw [ay,if_pos h3]
  exact ⟨.tuple #[slv L ((dd (((dd (bj pl cs).reverse ((cs.map (Pf.mk true)).reverse)).1).reverse) (cs.map (Pf.mk false))).1.length) M,.bool false],Ret.r2 rfl rfl rfl,(by rw [e,h4]; exact ⟨slv L ((dd (((dd (bj pl cs).reverse ((cs.map (Pf.mk true)).reverse)).1).reverse) (cs.map (Pf.mk false))).1.length) M,rfl,L,M,a5,rfl,hI.pk [0] rfl rfl,Z⟩)⟩
 refine ac (fy hI 153 [slv g (bj pl cs).length o,slv gg0 a cc0] (fun v1=>.tuple #[v1,.bool false]) (by kernel_rfl) (bn.mono (passOn_c _ (bj pl cs).reverse (g.map fun b=>⟨b,0,none⟩) (bj pl cs).length o ((cs.map (Pf.mk true)).reverse) (gg0.map fun b=>⟨b,0,none⟩) a cc0 (G.n_eq da (by decide)) (H.n_eq il (by decide)) (by omega) (by omega) (by omega) (by omega) (hI.rowCells 1 rfl G) (hI.rowCells 0 rfl H) (fun r hr=>(je hok r (List.mem_reverse.1 hr)).mono (by decide)) (fun f hf=>fd_map hok.ld f (List.mem_reverse.1 hf))) (fun v w' ⟨v1,e1,e2⟩=>⟨v1,by rw [e1,h3],e2⟩)) ?_)
 intro N O aA w hI a6
 have a6:Row 2 N ((dd (bj pl cs).reverse ((cs.map (Pf.mk true)).reverse)).1.length) O aA (al eRg ((dd (bj pl cs).reverse ((cs.map (Pf.mk true)).reverse)).1)):=a6
 refine pu (.tuple #[slv N ((dd (bj pl cs).reverse ((cs.map (Pf.mk true)).reverse)).1.length) O,.bool false]) rfl (pu (slv N ((dd (bj pl cs).reverse ((cs.map (Pf.mk true)).reverse)).1.length) O) rfl (pu kf rfl (pu (slv N ((dd (bj pl cs).reverse ((cs.map (Pf.mk true)).reverse)).1.length) O) rfl (pu kf rfl (aa (ab (ab (rgn rfl (pu kf rfl ?_)))))))))
 refine pu kg rfl (aa (ah rfl (ab (rgn rfl (pu (.slice none 0 0) rfl (pu kf rfl (aa (aj ?_))))))))
 have hI:=hI.nilRow 23
 have e:ay pl cs=([],false):=by rw [ay,if_neg (by rw [h3]; decide)]
 exact ⟨.tuple #[.slice none 0 0,.bool false],Ret.r2 rfl rfl rfl,(by rw [e]; exact ⟨.slice none 0 0,rfl,none,0,[],rfl,hI.pk [0] rfl rfl,Row.nil_ 2⟩)⟩

end Go.K
