/- Scenes: what stood. -/
import Derived.Test.YtinkdlmimiefaaaGreatProg
import Derived.Test.YtinkdlmimiefaaaGreatPM11
namespace Go.K
open Go.Proofs Go.RowKit
set_option linter.unusedVariables false
set_option linter.unusedSimpArgs false
set_option maxRecDepth 100000
attribute [local irreducible] Seq Step CallV AnyE opX

structure ScIn (w:World) (p:Pl) (A1:Option Addr) (n1 c1:Nat) (A2:Option Addr) (n2 c2:Nat) (A3:Option Addr) (n3 c3:Nat) (cs:List Ld) (A4:Option Addr) (n4 c4:Nat):Prop where
  p:PlotIn w p A1 n1 A2 n2 A3 n3
  e4:Cells w A4 (flat eLd cs)
  m4:n4=cs.length
  k4:n4≤c4
  z4:n4≤60
  z2:n2≤100
  z3:n3≤100
  z1:n1≤100
theorem ScIn.inv0 {w0 w:World} {L:List (Option Nat × Obj)} {p:Pl} {A1 A2 A3 A4:Option Addr} {n1 n2 n3 n4 c1 c2 c3 c4:Nat} {cs:List Ld} (h:ScIn w0 p A1 n1 c1 A2 n2 c2 A3 n3 c3 cs A4 n4 c4) (hI:Inv []  w0 w L):ScIn w p A1 n1 c1 A2 n2 c2 A3 n3 c3 cs A4 n4 c4 :=
  ⟨h.p.inv0 hI,h.e4.inv0 hI,h.m4,h.k4,h.z4,h.z2,h.z3,h.z1⟩
structure ScOk (p:Pl) (cs:List Ld):Prop where
  sown:Bd 10000 ⟨p.lo,p.hi⟩
  st:∀ x∈p.stands,Bd 10000 ⟨x.lo,x.hi⟩
  ld:∀ x∈cs,Fd x
def boundS (cs:List Ld) (bs:List Rg) (x:Ld):List Rg:=bs.set (cartF cs x.hr) (meetF (bs.getD (cartF cs x.hr) ⟨0,0⟩) ⟨x.lo,x.hi⟩)
/-- The bounds that Sown and the stands set. -/
def boundsF (p:Pl) (cs:List Ld):List Rg:=p.stands.foldl (boundS cs) (⟨p.lo,p.hi⟩ :: List.replicate cs.length ⟨0,10000⟩)
def bound0 (p:Pl) (cs:List Ld) (k:Nat):List Rg:=(p.stands.take k).foldl (boundS cs) (⟨p.lo,p.hi⟩ :: List.replicate cs.length ⟨0,10000⟩)
theorem bound0_step {p:Pl} {cs:List Ld} {k:Nat} {x:Ld} (hx:p.stands[k]?=some x):bound0 p cs (k+1)=boundS cs (bound0 p cs k) x:=by
  rw [bound0,take_get hx,List.foldl_append]; rfl
theorem bound0_all {p:Pl} {cs:List Ld} {k:Nat} (h:p.stands.length≤k):bound0 p cs k=boundsF p cs:=by
  rw [bound0,List.take_of_length_le h]; rfl
theorem boundsL_len (cs:List Ld):∀ (l:List Ld) (bs:List Rg),(l.foldl (boundS cs) bs).length=bs.length
  | [],_=>rfl
  | x :: l,bs=>by rw [List.foldl_cons,boundsL_len cs l]; simp [boundS]
theorem bound0_len (p:Pl) (cs:List Ld) (k:Nat):(bound0 p cs k).length=cs.length+1:=by rw [bound0,boundsL_len]; simp
theorem boundsF_len (p:Pl) (cs:List Ld):(boundsF p cs).length=cs.length+1:=by rw [boundsF,boundsL_len]; simp
theorem boundsL_bd (cs:List Ld):∀ (l:List Ld) (bs:List Rg),(∀ x∈l,Bd 10000 ⟨x.lo,x.hi⟩)→(∀ r∈bs,Bd 10000 r)→∀ r∈l.foldl (boundS cs) bs,Bd 10000 r
  | [],_,_,hb=>hb
  | x :: l,bs,hl,hb=>by
    rw [List.foldl_cons]
    refine boundsL_bd cs l _ (fun y hy=>hl y (by simp [hy])) fun r hr=>?_
    unfold boundS at hr
    rcases List.mem_or_eq_of_mem_set hr with h | h
    · exact hb r h
    · subst h
      refine meet_bd ?_ (hl x (by simp))
      rw [List.getD_eq_getElem?_getD]
      cases hq:bs[cartF cs x.hr]? with
      | none=>exact ⟨by decide,by decide,by decide,by decide⟩
      | some y=>exact hb y (mem_of_get hq)
theorem boundsF_bd {p:Pl} {cs:List Ld} (h:ScOk p cs):∀ r∈boundsF p cs,Bd 10000 r:=by
  refine boundsL_bd cs _ _ h.st fun r hr=>?_
  rcases List.mem_cons.1 hr with e | e
  · subst e; exact h.sown
  · rw [List.eq_of_mem_replicate e]; exact ⟨by decide,by decide,by decide,by decide⟩
theorem fill_step {α:Type} {x z:α} {k m:Nat} (h:k < m):(List.replicate k x++List.replicate (m - k) z).set k x=List.replicate (k+1) x++List.replicate (m - (k+1)) z:=by
  rw [List.set_append_right _ _ (by simp),List.length_replicate,Nat.sub_self,show m - k=(m - (k+1))+1 by omega,List.replicate_succ,List.set_cons_zero,List.replicate_succ',List.append_assoc]
  rfl
theorem fill_done {α:Type} {x z y:α} {k m:Nat} (h:k=m+1):(List.replicate k x++List.replicate (m+1 - k) z).set 0 y=y :: List.replicate m x:=by
  subst h; rw [Nat.sub_self,List.replicate_zero,List.append_nil,List.replicate_succ,List.set_cons_zero]
/-- What stood before the first load, and after each one. -/
def stoodF (p:Pl) (cs:List Ld):List Rg × Bool :=
  if (passF (boundsF p cs).reverse (cs.map (Pf.mk true)).reverse).2 then passF (passF (boundsF p cs).reverse (cs.map (Pf.mk true)).reverse).1.reverse (cs.map (Pf.mk false)) else ([],false)

set_option maxHeartbeats 1600000 in
theorem bounds_c (w0:World) (pl:Pl) (pA1:Option Addr) (pn1 pc1:Nat) (pA2:Option Addr) (pn2 pc2:Nat) (pA3:Option Addr) (pn3 pc3:Nat) (cs:List Ld) (pA4:Option Addr) (pn4 pc4:Nat) (hSc:ScIn w0 pl pA1 pn1 pc1 pA2 pn2 pc2 pA3 pn3 pc3 cs pA4 pn4 pc4):Does Tryz.prog 150 [.agg #[.int .i64 pl.lo,.int .i64 pl.hi,.slice pA1 pn1 pc1,.slice pA2 pn2 pc2,.slice pA3 pn3 pc3,.int .i64 pl.geese,.slice pA4 pn4 pc4]] w0 fun v w=>Gives 2 23 none (boundsF pl cs).length (flat eRg (boundsF pl cs)) w0 v w:=by
 have hm1:=hSc.p.m1; have hm2:=hSc.p.m2; have hm3:=hSc.p.m3; have hm4:=hSc.m4; have hk4:=hSc.k4; have hz1:=hSc.z1; have hz2:=hSc.z2; have hz3:=hSc.z3; have hz4:=hSc.z4
 refine calls_of (n:=52) Tryz.func150 rfl Tryz.ntmps150 rfl ?_
 have hI:=Inv.start w0
 refine wp_seq (rgn rfl (seq_c (s_boxI hI [iv pl.lo,iv pl.hi,.slice pA1 pn1 pc1,.slice pA2 pn2 pc2,.slice pA3 pn3 pc3,iv pl.geese,.slice pA4 pn4 pc4] rfl ?_)))
 intro b1 w hI
 refine pu (.slice none 0 0) rfl (seq_nil (wp_seq (rgn rfl (pu (.pointer (some ⟨b1,6,none⟩)) rfl (seq_c (s_load1 hI 0 (.slice pA4 pn4 pc4) Tryz.isAgg24 rfl rfl rfl ?_))))))
 refine pu (iv ((pn4:Nat):Int)) (by kernel_rfl) (seq_c (s_add rfl rfl (by omega) ?_))
 refine seq_c (s_makeRowM hI (enc:=eRg) eRg_len (by decide) (⟨0,0⟩:Rg) Tryz.underlying130 (z:=.agg #[iv 0,iv 0]) (k:=2) (bytes:=16) rfl rfl (pn4+1) rfl rfl (by omega) (by decide) ?_)
 intro bm clm w hI hrm
 refine pu (slv (some bm) (pn4+1) (pn4+1)) rfl (seq_nil (wp_seq (wp_seq (rgn rfl (pu (slv (some bm) (pn4+1) (pn4+1)) rfl (pu (iv ((pn4+1:Nat):Int)) (by kernel_rfl) (pu (iv 0) rfl (seq_nil (wp_block ?_)))))))))
 refine wp_loop (fun m ρ w=>∃ (k:Nat) (ccl:List Value),Agree ρ [(1,.pointer (some ⟨b1,0,none⟩)),(3,slv (some bm) (pn4+1) (pn4+1)),(14,iv (pn4+1:Int)),(15,iv (k:Int))]∧Inv []  w0 w [(some bm,blk ccl 23),(some b1,blk [iv pl.lo,iv pl.hi,.slice pA1 pn1 pc1,.slice pA2 pn2 pc2,.slice pA3 pn3 pc3,iv pl.geese,.slice pA4 pn4 pc4] 116)]∧(k≤pn4+1)∧(Row 2 (some bm) (pn4+1) (pn4+1) ccl (flat eRg (List.replicate k (⟨0,10000⟩:Rg)++List.replicate (pn4+1 - k) (⟨0,0⟩:Rg))))∧m=pn4+1 - k) (m:=pn4+1 - 0) ⟨0,clm,⟨rfl,rfl,rfl,rfl,trivial⟩,hI.pickL [0,1] (by decide) rfl,(by omega),(hrm.to (by simp) rfl),rfl⟩ ?_
 rintro m ρ w ⟨k,ccl,hag,hI,hk,hrr,hm⟩
 obtain ⟨ρ,rfl⟩:=hag.form; clear hag
 have hln:(List.replicate k (⟨0,10000⟩:Rg)++List.replicate (pn4+1 - k) (⟨0,0⟩:Rg)).length=pn4+1:=by simp; omega
 refine wp_seq (rgn rfl (seq_c (s_lss rfl rfl ?_ ?_)))
 ·intro h1
  refine seq_nil (wp_seq (wp_condT rfl (wp_skip (wp_seq (wp_block ?_)))))
  refine wp_seq (rgn rfl (pu (iv (k:Int)) rfl (pu (iv (k:Int)) rfl (seq_nil (rgn rfl (pu (slv (some bm) (pn4+1) (pn4+1)) rfl (pu (iv (k:Int)) rfl (pu (.agg #[iv 0,iv 10000]) (by kernel_rfl) ?_))))))))
  obtain ⟨x2,hx3⟩:=get_lt (l:=List.replicate k (⟨0,10000⟩:Rg)++List.replicate (pn4+1 - k) (⟨0,0⟩:Rg)) (i:=k) (by omega)
  have he4:=hrr.atS eRg_len (by decide) hx3
  refine seq_c (s_indexR k Tryz.underlying130 Tryz.sizeOf23 rfl rfl rfl (by omega) ?_)
  refine seq_c (s_store hI 0 2 [iv 0,iv 10000] Tryz.sizeOf23 rfl rfl rfl rfl rfl (hrr.room (by omega)) ?_)
  intro w hI
  have r5:=hrr.put eRg_len (by decide) k (⟨0,10000⟩:Rg) (by omega)
  obtain ⟨cl6,hcl⟩:∃ z,z=putCells ccl (k * 2) (eRg (⟨0,10000⟩:Rg)):=⟨_,rfl⟩
  rw [← hcl] at r5
  have hI:Inv []  w0 w [(some bm,blk cl6 23),(some b1,blk [iv pl.lo,iv pl.hi,.slice pA1 pn1 pc1,.slice pA2 pn2 pc2,.slice pA3 pn3 pc3,iv pl.geese,.slice pA4 pn4 pc4] 116)]:=by rw [hcl]; exact hI
  clear hcl
  refine seq_nil (rgn rfl (seq_c (s_add rfl rfl (by omega) ?_)))
  refine pu (iv ((k:Int)+1)) rfl (seq_nil ?_)
  exact ⟨rfl,_,(by omega),⟨k+1,cl6,⟨rfl,rfl,rfl,rfl,trivial⟩,hI.pickL [0,1] (by decide) rfl,(by omega),(r5.to (fill_step (by omega)) rfl),rfl⟩⟩
 ·intro h2
  refine seq_nil (wp_seq (wp_condF rfl (wp_exit ?_)))
  refine wp_seq (rgn rfl (pu (slv (some bm) (pn4+1) (pn4+1)) rfl (pu (.pointer (some ⟨b1,0,none⟩)) rfl (pu (.pointer (some ⟨b1,0,none⟩)) rfl (seq_c (s_loadK hI 1 2 [iv pl.lo,iv pl.hi] Tryz.isAgg23 Tryz.sizeOf23 rfl rfl rfl rfl ?_))))))
  obtain ⟨x7,hx8⟩:=get_lt (l:=List.replicate k (⟨0,10000⟩:Rg)++List.replicate (pn4+1 - k) (⟨0,0⟩:Rg)) (i:=0) (by omega)
  have he9:=hrr.atS eRg_len (by decide) hx8
  refine seq_c (s_indexR 0 Tryz.underlying130 Tryz.sizeOf23 rfl rfl rfl (by omega) ?_)
  refine seq_c (s_store hI 0 2 [iv pl.lo,iv pl.hi] Tryz.sizeOf23 rfl rfl rfl rfl rfl (hrr.room (by omega)) ?_)
  intro w hI
  have r10:=hrr.put eRg_len (by decide) 0 (⟨pl.lo,pl.hi⟩:Rg) (by omega)
  obtain ⟨cl11,hcl⟩:∃ z,z=putCells ccl (0 * 2) (eRg (⟨pl.lo,pl.hi⟩:Rg)):=⟨_,rfl⟩
  rw [← hcl] at r10
  have hI:Inv []  w0 w [(some bm,blk cl11 23),(some b1,blk [iv pl.lo,iv pl.hi,.slice pA1 pn1 pc1,.slice pA2 pn2 pc2,.slice pA3 pn3 pc3,iv pl.geese,.slice pA4 pn4 pc4] 116)]:=by rw [hcl]; exact hI
  clear hcl
  refine seq_nil (wp_seq (wp_seq (rgn rfl (pu (.pointer (some ⟨b1,0,none⟩)) rfl (pu (.pointer (some ⟨b1,3,none⟩)) rfl (seq_c (s_load1 hI 1 (.slice pA2 pn2 pc2) Tryz.isAgg25 rfl rfl rfl ?_)))))))
  refine pu (iv ((pn2:Nat):Int)) (by kernel_rfl) (pu (iv 0) rfl (seq_nil (wp_block ?_)))
  have hb0:=r10.to (Y:=bound0 pl cs 0) ((fill_done (by omega)).trans (by rw [hm4]; rfl)) rfl
  refine wp_loop (fun m ρ w=>∃ (k:Nat) (ccl2:List Value) (M:List Rg),Agree ρ [(1,.pointer (some ⟨b1,0,none⟩)),(3,slv (some bm) (pn4+1) (pn4+1)),(30,.slice pA2 pn2 pc2),(31,iv (pn2:Int)),(32,iv (k:Int))]∧Inv []  w0 w [(some bm,blk ccl2 23),(some b1,blk [iv pl.lo,iv pl.hi,.slice pA1 pn1 pc1,.slice pA2 pn2 pc2,.slice pA3 pn3 pc3,iv pl.geese,.slice pA4 pn4 pc4] 116)]∧(k≤pn2)∧(M=bound0 pl cs k)∧(Row 2 (some bm) (pn4+1) (pn4+1) ccl2 (flat eRg M))∧m=pn2 - k) (m:=pn2 - 0) ⟨0,cl11,bound0 pl cs 0,⟨rfl,rfl,rfl,rfl,rfl,trivial⟩,hI.pickL [0,1] (by decide) rfl,(by omega),rfl,hb0,rfl⟩ ?_
  rintro m ρ w ⟨k,ccl2,M,hag,hI,hk2,hM,hrr2,hm⟩
  obtain ⟨ρ,rfl⟩:=hag.form; clear hag
  have hln2:M.length=pn4+1:=by rw [hM,bound0_len]; omega
  refine wp_seq (rgn rfl (seq_c (s_lss rfl rfl ?_ ?_)))
  ·intro h3
   refine seq_nil (wp_seq (wp_condT rfl (wp_skip (wp_seq (wp_block ?_)))))
   refine wp_seq (rgn rfl ?_)
   obtain ⟨x12,hx13⟩:=get_lt (l:=pl.stands) (i:=k) (by omega)
   obtain ⟨b14,o15,hA16,hb17,he18⟩:=hSc.p.c2.at_ eLd_len (by decide) hx13
   refine seq_c (s_indexA k Tryz.underlying25 Tryz.sizeOf31 rfl hA16 rfl rfl (by omega) ?_)
   refine seq_c (s_loadBK hI [iv x12.src,iv x12.hr,iv x12.lo,iv x12.hi,iv x12.kn,iv x12.un] Tryz.isAgg31 Tryz.sizeOf31 rfl rfl hb17 (by simp) he18 ?_)
   refine seq_c (s_allocI hI [iv 0,iv 0,iv 0,iv 0,iv 0,iv 0] Tryz.zeroValue31 rfl ?_)
   intro b19 w hI
   refine seq_c (s_store hI 0 6 [iv x12.src,iv x12.hr,iv x12.lo,iv x12.hi,iv x12.kn,iv x12.un] Tryz.sizeOf31 rfl rfl rfl rfl rfl (Nat.le_of_ble_eq_true rfl) ?_)
   intro w hI
   refine seq_nil (wp_seq (rgn rfl (seq_c (s_loadK hI 2 7 [iv pl.lo,iv pl.hi,.slice pA1 pn1 pc1,.slice pA2 pn2 pc2,.slice pA3 pn3 pc3,iv pl.geese,.slice pA4 pn4 pc4] Tryz.isAgg116 Tryz.sizeOf116 rfl rfl rfl rfl ?_))))
   refine pu (.pointer (some ⟨b19,1,none⟩)) rfl (seq_c (s_load1 hI 0 (iv x12.hr) Tryz.isAgg3 rfl rfl rfl ?_))
   refine seq_c (s_callv hI 115 [.agg #[iv pl.lo,iv pl.hi,.slice pA1 pn1 pc1,.slice pA2 pn2 pc2,.slice pA3 pn3 pc3,iv pl.geese,.slice pA4 pn4 pc4],iv x12.hr] (iv ((cartF cs x12.hr:Nat):Int)) (by kernel_rfl) (cartedBy_c _ pl.lo pl.hi pl.geese (.slice pA1 pn1 pc1) (.slice pA2 pn2 pc2) (.slice pA3 pn3 pc3) pA4 pn4 pc4 cs x12.hr hSc.m4 (by omega) hSc.k4 (hSc.e4.inv0 hI)) ?_)
   intro w hI
   refine pu (iv ((cartF cs x12.hr:Nat):Int)) rfl (seq_nil ?_)
   have hcl9:=cart_le cs x12.hr
   obtain ⟨x20,hx21⟩:=get_lt (l:=M) (i:=cartF cs x12.hr) (by omega)
   have he22:=hrr2.atS eRg_len (by decide) hx21
   replace hI:=hI.pickL [0,2,1] (by decide) rfl
   refine wp_drawn2 hI [0,1] (by decide) rfl rfl rfl ?_
   intro hsub
   refine alp 0 (slv (some bm) (pn4+1) (pn4+1)) hsub rfl (by kernel_rfl) (fun _=>rfl) ?_
   refine alp 1 (iv ((cartF cs x12.hr:Nat):Int)) hsub rfl (by kernel_rfl) (fun _=>rfl) ?_
   refine alp 2 (slv (some bm) (pn4+1) (pn4+1)) hsub rfl (by kernel_rfl) (fun _=>rfl) ?_
   refine alp 3 (iv ((cartF cs x12.hr:Nat):Int)) hsub rfl (by kernel_rfl) (fun _=>rfl) ?_
   refine al_light 4 (.pointer (some ⟨bm,(cartF cs x12.hr) * 2,none⟩)) hsub rfl (by kernel_rfl) (fun w hI=>s_indexR (cartF cs x12.hr) Tryz.underlying130 Tryz.sizeOf23 rfl rfl rfl (by omega) ⟨rfl,Below.refl _ _⟩) ?_
   refine alp 6 (.pointer (some ⟨b19,2,none⟩)) hsub rfl (by kernel_rfl) (fun _=>rfl) ?_
   refine al_light 7 (.agg #[iv x12.lo,iv x12.hi]) hsub rfl (by kernel_rfl) (fun w hI=>s_loadK hI 0 2 [iv x12.lo,iv x12.hi] Tryz.isAgg23 Tryz.sizeOf23 rfl rfl rfl rfl ⟨rfl,Below.refl _ _⟩) ?_
   refine any_heavy [5] (by kernel_rfl) rfl (each1 ?_)
   intro w hI
   refine ol_c rfl (s_loadRK hI 2 [iv x20.lo,iv x20.hi] Tryz.isAgg23 Tryz.sizeOf23 rfl rfl rfl he22 ?_)
   refine ⟨_,hI,subk (fun _ h=>h.pickL [0,1] (by decide) rfl) ?_⟩
   intro hsub
   refine al_light 8 (.agg #[iv (if x12.lo > x20.lo then x12.lo else x20.lo),iv (if x12.hi < x20.hi then x12.hi else x20.hi)]) hsub rfl (by kernel_rfl) (fun w hI=>s_call 103 [.agg #[iv x20.lo,iv x20.hi],.agg #[iv x12.lo,iv x12.hi]] (by kernel_rfl) (meet_c x20.lo x20.hi x12.lo x12.hi _) (fun v' w' h=>h)) ?_
   refine al_light 9 (.pointer (some ⟨bm,(cartF cs x12.hr) * 2,none⟩)) hsub rfl (by kernel_rfl) (fun w hI=>s_indexR (cartF cs x12.hr) Tryz.underlying130 Tryz.sizeOf23 rfl rfl rfl (by omega) ⟨rfl,Below.refl _ _⟩) ?_
   refine any_heavy [10] (by kernel_rfl) rfl (each1 ?_)
   intro w hI
   refine ol_c rfl (s_store hI 2 2 [iv (if x12.lo > x20.lo then x12.lo else x20.lo),iv (if x12.hi < x20.hi then x12.hi else x20.hi)] Tryz.sizeOf23 rfl rfl rfl rfl rfl (hrr2.room (by omega)) ?_)
   intro w hI
   refine ⟨_,hI,subk (fun _ h=>h.pickL [0,1] (by decide) rfl) ?_⟩
   intro hsub
   have r23:=hrr2.put eRg_len (by decide) (cartF cs x12.hr) (⟨if x12.lo > x20.lo then x12.lo else x20.lo,if x12.hi < x20.hi then x12.hi else x20.hi⟩:Rg) (by omega)
   refine any_end rfl (fun w hI=>?_)
   refine rgn rfl (seq_c (s_add rfl rfl (by omega) ?_))
   refine pu (iv ((k:Int)+1)) rfl (seq_nil ?_)
   exact ⟨rfl,_,(by omega),⟨k+1,putCells ccl2 ((cartF cs x12.hr) * 2) (eRg (⟨if x12.lo > x20.lo then x12.lo else x20.lo,if x12.hi < x20.hi then x12.hi else x20.hi⟩:Rg)),boundS cs M x12,⟨rfl,rfl,rfl,rfl,rfl,trivial⟩,hI.pickL [2,1] (by decide) rfl,(by omega),(by rw [hM,bound0_step hx13]),(r23.to (by rw [boundS,List.getD_eq_getElem?_getD,hx21]; rfl) rfl),rfl⟩⟩
  ·intro h4
   refine seq_nil (wp_seq (wp_condF rfl (wp_exit ?_)))
   refine wp_seq (rgn rfl (pu (slv (some bm) (pn4+1) (pn4+1)) rfl (pu (slv (some bm) (pn4+1) (pn4+1)) rfl (seq_nil (wp_ret ?_)))))
   exact ⟨slv (some bm) (pn4+1) (pn4+1),Ret.r1 rfl rfl,⟨some bm,pn4+1,ccl2,(by rw [boundsF_len,hm4]),hI.pickL [0] (by decide) rfl,hrr2.to (by rw [hM,bound0_all (by omega)]) (by rw [boundsF_len,hm4])⟩⟩

section steps
variable {P:Program} {ρ:Env} {B:List Nat} {w w0 w':World} {L N:List (Option Nat × Obj)} {R:Value→World→Prop}
theorem s_callTurns (hI:Inv B w0 w L) {o:Oper} (f:FuncId) (args:List Value) {k:Nat} {E:TypeId} {g:Option Nat} {n c:Nat} {xs:List Value} (i:Nat) {ob:Obj} (hi:L[i]?=some (g,ob)) (h:(execOp (ev ρ) o).run P w=.ok (.enter f args.toArray) w)
    (hc:Does P f args w fun v w'=>TurnsIn k E g c n xs w v w') (kk:∀ cl w',Inv B w0 w' ((g,blk cl E) :: L.set i (none,ob))→Row k g n c cl xs→R (.tuple #[]) w'):Step P o ρ w R :=
  s_call f args h hc fun v w' ⟨cl,hv,hN,hr⟩=>by
    subst hv
    exact kk cl w' (hI.back i hi hN) hr
/-- A call that returns a row of its own making, and something besides. -/
theorem s_callNewF (hI:Inv B w0 w L) {o:Oper} (f:FuncId) (args:List Value) (F:Value→Value) {k:Nat} {E:TypeId} {n:Nat} {xs:List Value} (h:(execOp (ev ρ) o).run P w=.ok (.enter f args.toArray) w)
    (hc:Does P f args w fun v w'=>∃ v1,v=F v1∧Gives k E none n xs w v1 w') (kk:∀ g c cl w',Inv B w0 w' ((g,blk cl E) :: L)→Row k g n c cl xs→R (F (slv g n c)) w'):Step P o ρ w R :=
  s_call f args h hc fun v w' ⟨v1,hv,g,c,cl,hv1,hN,hr⟩=>by
    subst hv; subst hv1
    exact kk g c cl w' (hI.join (N:=[(g,blk cl E)]) ⟨hN.but,hN.has,hN.sep⟩) hr
end steps
theorem passF_len {bs:List Rg} {fs:List Pf} (hl:bs.length≤fs.length+1) (h:(passF bs fs).2=true):(passF bs fs).1.length=bs.length:=by
  unfold passF at h ⊢
  split
  · exact pass_len hl
  · rename_i hn; rw [if_neg hn] at h; cases h
theorem passF_bd {bs:List Rg} {fs:List Pf} (hb:∀ r∈bs,Bd 10000 r) (hf:∀ f∈fs,Fd f.x) (hl:bs.length≤fs.length+1) (hs:bs.length≤90):∀ r∈(passF bs fs).1,Bd 1000000 r:=by
  intro r hr
  unfold passF at hr
  split at hr
  · obtain ⟨q,hq,he⟩:=List.getElem_of_mem (show r∈passAll bs fs from hr)
    have hlen:=pass_len hl
    exact (pass_bd hb hf hl q r (by rw [List.getElem?_eq_getElem hq,he])).mono (by omega)
  · cases hr
theorem fd_map {l:List Ld} {b:Bool} (h:∀ x∈l,Fd x):∀ f∈l.map (Pf.mk b),Fd f.x:=fun f hf=>by
  obtain ⟨x,hx,rfl⟩:=List.mem_map.1 hf
  exact h x hx
theorem stoodF_len {p:Pl} {cs:List Ld} (h:(stoodF p cs).2=true):(stoodF p cs).1.length=cs.length+1:=by
  have hb:=boundsF_len p cs
  unfold stoodF at h ⊢
  split
  · rename_i h1
    rw [if_pos h1] at h
    have:=passF_len (by rw [List.length_reverse,List.length_reverse,List.length_map]; omega) h1
    rw [passF_len (by rw [List.length_reverse,List.length_map,this,List.length_reverse]; omega) h,List.length_reverse,this,List.length_reverse,hb]
  · rename_i h1; rw [if_neg h1] at h; cases h

set_option maxHeartbeats 1600000 in
theorem stood_c (w0:World) (pl:Pl) (pA1:Option Addr) (pn1 pc1:Nat) (pA2:Option Addr) (pn2 pc2:Nat) (pA3:Option Addr) (pn3 pc3:Nat) (cs:List Ld) (pA4:Option Addr) (pn4 pc4:Nat) (hSc:ScIn w0 pl pA1 pn1 pc1 pA2 pn2 pc2 pA3 pn3 pc3 cs pA4 pn4 pc4) (hok:ScOk pl cs):Does Tryz.prog 102 [.agg #[.int .i64 pl.lo,.int .i64 pl.hi,.slice pA1 pn1 pc1,.slice pA2 pn2 pc2,.slice pA3 pn3 pc3,.int .i64 pl.geese,.slice pA4 pn4 pc4]] w0 fun v w=>∃ v1,v=.tuple #[v1,.bool (stoodF pl cs).2]∧Gives 2 23 none (stoodF pl cs).1.length (flat eRg (stoodF pl cs).1) w0 v1 w:=by
 have hm1:=hSc.p.m1; have hm2:=hSc.p.m2; have hm3:=hSc.p.m3; have hm4:=hSc.m4; have hk4:=hSc.k4; have hz1:=hSc.z1; have hz2:=hSc.z2; have hz3:=hSc.z3; have hz4:=hSc.z4
 refine calls_of (n:=53) Tryz.func102 rfl Tryz.ntmps102 rfl ?_
 have hI:=Inv.start w0
 refine wp_seq (rgn rfl (seq_c (s_boxI hI [iv pl.lo,iv pl.hi,.slice pA1 pn1 pc1,.slice pA2 pn2 pc2,.slice pA3 pn3 pc3,iv pl.geese,.slice pA4 pn4 pc4] rfl ?_)))
 intro b1 w hI
 refine pu (.slice none 0 0) rfl (pu (.bool false) rfl (seq_nil (wp_seq (rgn rfl (pu (.slice none 0 0) rfl (pu (.slice none 0 0) rfl (seq_nil (wp_seq (wp_seq ?_)))))))))
 refine rgn rfl (pu (.pointer (some ⟨b1,6,none⟩)) rfl (seq_c (s_load1 hI 0 (.slice pA4 pn4 pc4) Tryz.isAgg24 rfl rfl rfl ?_)))
 refine pu (iv ((pn4:Nat):Int)) (by kernel_rfl) (pu (iv 0) rfl (seq_nil (wp_block ?_)))
 have hI:=hI.nilRow 188
 have hI:=hI.nilRow 188
 refine wp_loop (fun m ρ w=>∃ (k:Nat) (gg0:Option Nat) (cc0:Nat) (ccl0:List Value) (gg1:Option Nat) (cc1:Nat) (ccl1:List Value),Agree ρ [(1,.pointer (some ⟨b1,0,none⟩)),(4,slv gg0 k cc0),(5,slv gg1 k cc1),(13,.slice pA4 pn4 pc4),(14,iv (pn4:Int)),(15,iv (k:Int))]∧Inv []  w0 w [(gg1,blk ccl1 188),(gg0,blk ccl0 188),(some b1,blk [iv pl.lo,iv pl.hi,.slice pA1 pn1 pc1,.slice pA2 pn2 pc2,.slice pA3 pn3 pc3,iv pl.geese,.slice pA4 pn4 pc4] 116)]∧(k≤pn4)∧(Row 1 gg0 (k) cc0 ccl0 (flat ePf ((cs.take k).map (Pf.mk true))))∧(Row 1 gg1 (k) cc1 ccl1 (flat ePf ((cs.take k).map (Pf.mk false))))∧m=pn4 - k) (m:=pn4 - 0) ⟨0,none,0,[],none,0,[],⟨rfl,rfl,rfl,rfl,rfl,rfl,trivial⟩,hI.pickL [0,1,2] (by decide) rfl,(by omega),(Row.nil_ 1),(Row.nil_ 1),rfl⟩ ?_
 rintro m ρ w ⟨k,gg0,cc0,ccl0,gg1,cc1,ccl1,hag,hI,hk,hrr0,hrr1,hm⟩
 obtain ⟨ρ,rfl⟩:=hag.form; clear hag
 refine wp_seq (rgn rfl (seq_c (s_lss rfl rfl ?_ ?_)))
 ·intro h1
  refine seq_nil (wp_seq (wp_condT rfl (wp_skip (wp_seq (wp_block ?_)))))
  refine wp_seq (rgn rfl ?_)
  obtain ⟨x2,hx3⟩:=get_lt (l:=cs) (i:=k) (by omega)
  obtain ⟨b4,o5,hA6,hb7,he8⟩:=hSc.e4.at_ eLd_len (by decide) hx3
  refine seq_c (s_indexA k Tryz.underlying24 Tryz.sizeOf30 rfl hA6 rfl rfl (by omega) ?_)
  refine seq_c (s_loadBK hI [iv x2.src,iv x2.hr,iv x2.lo,iv x2.hi,iv x2.kn,iv x2.un] Tryz.isAgg30 Tryz.sizeOf30 rfl rfl hb7 (by simp) he8 ?_)
  refine seq_c (s_allocI hI [iv 0,iv 0,iv 0,iv 0,iv 0,iv 0] Tryz.zeroValue30 rfl ?_)
  intro b9 w hI
  refine seq_c (s_store hI 0 6 [iv x2.src,iv x2.hr,iv x2.lo,iv x2.hi,iv x2.kn,iv x2.un] Tryz.sizeOf30 rfl rfl rfl rfl rfl (Nat.le_of_ble_eq_true rfl) ?_)
  intro w hI
  refine seq_nil (wp_seq (rgn rfl (seq_c (s_loadK hI 0 6 [iv x2.src,iv x2.hr,iv x2.lo,iv x2.hi,iv x2.kn,iv x2.un] Tryz.isAgg30 Tryz.sizeOf30 rfl rfl rfl rfl ?_))))
  refine pu (.agg #[iv x2.src,iv x2.hr,iv x2.lo,iv x2.hi,iv x2.kn,iv x2.un]) (by kernel_rfl) (seq_c (s_allocI hI [iv 0,iv 0,iv 0,iv 0,iv 0,iv 0] Tryz.zeroValue183 rfl ?_))
  intro b10 w hI
  refine seq_c (s_store hI 0 6 [iv x2.src,iv x2.hr,iv x2.lo,iv x2.hi,iv x2.kn,iv x2.un] Tryz.sizeOf183 rfl rfl rfl rfl rfl (Nat.le_of_ble_eq_true rfl) ?_)
  intro w hI
  refine seq_nil (wp_seq (rgn rfl (pu (slv gg0 k cc0) rfl (seq_c (s_loadK hI 0 6 [iv x2.src,iv x2.hr,iv x2.lo,iv x2.hi,iv x2.kn,iv x2.un] Tryz.isAgg183 Tryz.sizeOf183 rfl rfl rfl rfl ?_)))))
  refine pu (.func (.func 148) #[.agg #[iv x2.src,iv x2.hr,iv x2.lo,iv x2.hi,iv x2.kn,iv x2.un]] #[]) (by kernel_rfl) (seq_c (s_new hI [.func (.func 148) #[.agg #[iv x2.src,iv x2.hr,iv x2.lo,iv x2.hi,iv x2.kn,iv x2.un]] #[]] 188 (fun b=>slv (some b) 1 1) (by kernel_rfl) ?_))
  intro b11 w hI
  refine seq_c (s_app hI Tryz.underlying181 (z:=.nilFunc) (k:=1) (bytes:=8) rfl rfl rfl 4 rfl rfl hrr0 [.func (.func 148) #[.agg #[iv x2.src,iv x2.hr,iv x2.lo,iv x2.hi,iv x2.kn,iv x2.un]] #[]] rfl rfl (hI.cells 0 (off:=0) rfl (fun j u h=>by rw [Nat.zero_add]; exact h)) (by simp [Value.oneCell']) (by omega) (by omega) ?_)
  intro g12 c13 cl14 w hI r15
  have r15:Row 1 g12 (k+1) c13 cl14 (flat ePf (((cs.take k).map (Pf.mk true))++[(⟨true,x2⟩:Pf)])):=r15.snoc _ rfl
  refine pu (slv g12 (k+1) c13) rfl (seq_nil (rgn rfl (pu (slv gg1 k cc1) rfl (seq_c (s_loadK hI 1 6 [iv x2.src,iv x2.hr,iv x2.lo,iv x2.hi,iv x2.kn,iv x2.un] Tryz.isAgg183 Tryz.sizeOf183 rfl rfl rfl rfl ?_)))))
  refine pu (.func (.func 149) #[.agg #[iv x2.src,iv x2.hr,iv x2.lo,iv x2.hi,iv x2.kn,iv x2.un]] #[]) (by kernel_rfl) (seq_c (s_new hI [.func (.func 149) #[.agg #[iv x2.src,iv x2.hr,iv x2.lo,iv x2.hi,iv x2.kn,iv x2.un]] #[]] 188 (fun b=>slv (some b) 1 1) (by kernel_rfl) ?_))
  intro b16 w hI
  refine seq_c (s_app hI Tryz.underlying181 (z:=.nilFunc) (k:=1) (bytes:=8) rfl rfl rfl 4 rfl rfl hrr1 [.func (.func 149) #[.agg #[iv x2.src,iv x2.hr,iv x2.lo,iv x2.hi,iv x2.kn,iv x2.un]] #[]] rfl rfl (hI.cells 0 (off:=0) rfl (fun j u h=>by rw [Nat.zero_add]; exact h)) (by simp [Value.oneCell']) (by omega) (by omega) ?_)
  intro g17 c18 cl19 w hI r20
  have r20:Row 1 g17 (k+1) c18 cl19 (flat ePf (((cs.take k).map (Pf.mk false))++[(⟨false,x2⟩:Pf)])):=r20.snoc _ rfl
  refine pu (slv g17 (k+1) c18) rfl (seq_nil (rgn rfl (seq_c (s_add rfl rfl (by omega) ?_))))
  refine pu (iv ((k:Int)+1)) rfl (seq_nil ?_)
  exact ⟨rfl,_,(by omega),⟨k+1,g12,c13,cl14,g17,c18,cl19,⟨rfl,rfl,rfl,rfl,rfl,rfl,trivial⟩,hI.pickL [4,5,6] (by decide) rfl,(by omega),(r15.to (by rw [take_get hx3]; simp) (by omega)),(r20.to (by rw [take_get hx3]; simp) (by omega)),rfl⟩⟩
 ·intro h2
  refine seq_nil (wp_seq (wp_condF rfl (wp_exit ?_)))
  refine wp_seq (rgn rfl (seq_c (s_loadK hI 2 7 [iv pl.lo,iv pl.hi,.slice pA1 pn1 pc1,.slice pA2 pn2 pc2,.slice pA3 pn3 pc3,iv pl.geese,.slice pA4 pn4 pc4] Tryz.isAgg116 Tryz.sizeOf116 rfl rfl rfl rfl ?_)))
  have hkk:pn4=k:=by omega
  subst hkk
  have hq4:=hrr0.to (Y:=cs.map (Pf.mk true)) (m:=pn4) (by rw [List.take_of_length_le (by omega)]) (by omega)
  have hq5:=hrr1.to (Y:=cs.map (Pf.mk false)) (m:=pn4) (by rw [List.take_of_length_le (by omega)]) (by omega)
  have hbl:=boundsF_len pl cs
  refine seq_c (s_callNew hI 150 [.agg #[iv pl.lo,iv pl.hi,.slice pA1 pn1 pc1,.slice pA2 pn2 pc2,.slice pA3 pn3 pc3,iv pl.geese,.slice pA4 pn4 pc4]] (by kernel_rfl) (bounds_c _ pl pA1 pn1 pc1 pA2 pn2 pc2 pA3 pn3 pc3 cs pA4 pn4 pc4 (hSc.inv0 hI)) ?_)
  intro g21 c22 cl23 w hI r24
  have r24:Row 2 g21 (boundsF pl cs).length c22 cl23 (flat eRg (boundsF pl cs)):=r24
  refine pu (slv g21 (boundsF pl cs).length c22) rfl (seq_nil (wp_seq (rgn rfl (pu (slv g21 (boundsF pl cs).length c22) rfl (seq_c (s_callTurns hI 151 [slv g21 (boundsF pl cs).length c22] 0 rfl (by kernel_rfl) (ReverseRanges_c _ g21 (boundsF pl cs).length c22 cl23 (boundsF pl cs) (hI.hasg 0 rfl) r24 (by omega)) ?_))))))
  intro cl25 w hI r26
  have r26:Row 2 g21 (boundsF pl cs).length c22 cl25 (flat eRg (boundsF pl cs).reverse):=r26
  refine seq_nil (wp_seq (rgn rfl (pu (slv gg0 pn4 cc0) rfl (seq_c (s_callTurns hI 152 [slv gg0 pn4 cc0] 3 rfl (by kernel_rfl) (ReversePassings_c _ gg0 pn4 cc0 ccl0 (cs.map (Pf.mk true)) (hI.hasg 3 rfl) hq4 (by omega)) ?_)))))
  intro cl27 w hI r28
  have r28:Row 1 gg0 (pn4) cc0 cl27 (flat ePf ((cs.map (Pf.mk true)).reverse)):=r28
  refine seq_nil (wp_seq (rgn rfl (pu (slv g21 (boundsF pl cs).length c22) rfl (pu (slv gg0 pn4 cc0) rfl ?_))))
  rcases Bool.eq_false_or_eq_true ((passF (boundsF pl cs).reverse ((cs.map (Pf.mk true)).reverse)).2) with h3 | h3
  ·
   refine seq_c (s_callNewF hI 153 [slv g21 (boundsF pl cs).length c22,slv gg0 pn4 cc0] (fun v1=>.tuple #[v1,.bool true]) (by kernel_rfl) (Does.mono (passOn_c _ (boundsF pl cs).reverse (g21.map fun b=>⟨b,0,none⟩) (boundsF pl cs).length c22 ((cs.map (Pf.mk true)).reverse) (gg0.map fun b=>⟨b,0,none⟩) pn4 cc0 (r26.n_eq eRg_len (by decide)) (r28.n_eq ePf_len (by decide)) (by omega) (by omega) (by omega) (by omega) (hI.rowCells 1 rfl r26) (hI.rowCells 0 rfl r28) (fun r hr=>(boundsF_bd hok r (List.mem_reverse.1 hr)).mono (by decide)) (fun f hf=>fd_map hok.ld f (List.mem_reverse.1 hf))) (fun v w' ⟨v1,e1,e2⟩=>⟨v1,by rw [e1,h3],e2⟩)) ?_)
   intro g29 c30 cl31 w hI r32
   have r32:Row 2 g29 ((passF (boundsF pl cs).reverse ((cs.map (Pf.mk true)).reverse)).1.length) c30 cl31 (flat eRg ((passF (boundsF pl cs).reverse ((cs.map (Pf.mk true)).reverse)).1)):=r32
   refine pu (.tuple #[slv g29 ((passF (boundsF pl cs).reverse ((cs.map (Pf.mk true)).reverse)).1.length) c30,.bool true]) rfl (pu (slv g29 ((passF (boundsF pl cs).reverse ((cs.map (Pf.mk true)).reverse)).1.length) c30) rfl (pu (.bool true) rfl (pu (slv g29 ((passF (boundsF pl cs).reverse ((cs.map (Pf.mk true)).reverse)).1.length) c30) rfl (pu (.bool true) rfl (seq_nil (wp_seq (wp_seq (rgn rfl (pu (.bool true) rfl ?_)))))))))
   refine pu (.bool false) rfl (seq_nil (wp_condF rfl (wp_skip (wp_seq (rgn rfl (pu (slv g29 ((passF (boundsF pl cs).reverse ((cs.map (Pf.mk true)).reverse)).1.length) c30) rfl ?_))))))
   have hpl:=passF_len (by simp; omega) h3; rw [List.length_reverse] at hpl
   refine seq_c (s_callTurns hI 151 [slv g29 ((passF (boundsF pl cs).reverse ((cs.map (Pf.mk true)).reverse)).1.length) c30] 0 rfl (by kernel_rfl) (ReverseRanges_c _ g29 ((passF (boundsF pl cs).reverse ((cs.map (Pf.mk true)).reverse)).1.length) c30 cl31 ((passF (boundsF pl cs).reverse ((cs.map (Pf.mk true)).reverse)).1) (hI.hasg 0 rfl) r32 (by omega)) ?_)
   intro cl33 w hI r34
   have r34:Row 2 g29 ((passF (boundsF pl cs).reverse ((cs.map (Pf.mk true)).reverse)).1.length) c30 cl33 (flat eRg (((passF (boundsF pl cs).reverse ((cs.map (Pf.mk true)).reverse)).1).reverse)):=r34
   refine seq_nil (wp_seq (rgn rfl (pu (slv g29 ((passF (boundsF pl cs).reverse ((cs.map (Pf.mk true)).reverse)).1.length) c30) rfl (pu (slv gg1 pn4 cc1) rfl ?_))))
   rcases Bool.eq_false_or_eq_true ((passF (((passF (boundsF pl cs).reverse ((cs.map (Pf.mk true)).reverse)).1).reverse) (cs.map (Pf.mk false))).2) with h4 | h4
   ·
    refine seq_c (s_callNewF hI 153 [slv g29 ((passF (boundsF pl cs).reverse ((cs.map (Pf.mk true)).reverse)).1.length) c30,slv gg1 pn4 cc1] (fun v1=>.tuple #[v1,.bool true]) (by kernel_rfl) (Does.mono (passOn_c _ (((passF (boundsF pl cs).reverse ((cs.map (Pf.mk true)).reverse)).1).reverse) (g29.map fun b=>⟨b,0,none⟩) ((passF (boundsF pl cs).reverse ((cs.map (Pf.mk true)).reverse)).1.length) c30 (cs.map (Pf.mk false)) (gg1.map fun b=>⟨b,0,none⟩) pn4 cc1 (r34.n_eq eRg_len (by decide)) (hq5.n_eq ePf_len (by decide)) (by omega) (by omega) (by omega) (by omega) (hI.rowCells 0 rfl r34) (hI.rowCells 5 rfl hq5) (fun r hr=>passF_bd (fun r hr=>boundsF_bd hok r (List.mem_reverse.1 hr)) (fun f hf=>fd_map hok.ld f (List.mem_reverse.1 hf)) (by simp; omega) (by simp; omega) r (List.mem_reverse.1 hr)) (fd_map hok.ld)) (fun v w' ⟨v1,e1,e2⟩=>⟨v1,by rw [e1,h4],e2⟩)) ?_)
    intro g35 c36 cl37 w hI r38
    have r38:Row 2 g35 ((passF (((passF (boundsF pl cs).reverse ((cs.map (Pf.mk true)).reverse)).1).reverse) (cs.map (Pf.mk false))).1.length) c36 cl37 (flat eRg ((passF (((passF (boundsF pl cs).reverse ((cs.map (Pf.mk true)).reverse)).1).reverse) (cs.map (Pf.mk false))).1)):=r38
    refine pu (slv g35 ((passF (((passF (boundsF pl cs).reverse ((cs.map (Pf.mk true)).reverse)).1).reverse) (cs.map (Pf.mk false))).1.length) c36) rfl (pu (.bool true) rfl (pu (slv g35 ((passF (((passF (boundsF pl cs).reverse ((cs.map (Pf.mk true)).reverse)).1).reverse) (cs.map (Pf.mk false))).1.length) c36) rfl (pu (.bool true) rfl (seq_nil (wp_ret ?_)))))
    have e:stoodF pl cs=passF (passF (boundsF pl cs).reverse (cs.map (Pf.mk true)).reverse).1.reverse (cs.map (Pf.mk false)):=by rw [stoodF,if_pos h3]
    exact ⟨.tuple #[slv g35 ((passF (((passF (boundsF pl cs).reverse ((cs.map (Pf.mk true)).reverse)).1).reverse) (cs.map (Pf.mk false))).1.length) c36,.bool true],Ret.r2 rfl rfl rfl,(by rw [e,h4]; exact ⟨slv g35 ((passF (((passF (boundsF pl cs).reverse ((cs.map (Pf.mk true)).reverse)).1).reverse) (cs.map (Pf.mk false))).1.length) c36,rfl,g35,c36,cl37,rfl,hI.pickL [0] (by decide) rfl,r38⟩)⟩
   ·
    refine seq_c (s_callNewF hI 153 [slv g29 ((passF (boundsF pl cs).reverse ((cs.map (Pf.mk true)).reverse)).1.length) c30,slv gg1 pn4 cc1] (fun v1=>.tuple #[v1,.bool false]) (by kernel_rfl) (Does.mono (passOn_c _ (((passF (boundsF pl cs).reverse ((cs.map (Pf.mk true)).reverse)).1).reverse) (g29.map fun b=>⟨b,0,none⟩) ((passF (boundsF pl cs).reverse ((cs.map (Pf.mk true)).reverse)).1.length) c30 (cs.map (Pf.mk false)) (gg1.map fun b=>⟨b,0,none⟩) pn4 cc1 (r34.n_eq eRg_len (by decide)) (hq5.n_eq ePf_len (by decide)) (by omega) (by omega) (by omega) (by omega) (hI.rowCells 0 rfl r34) (hI.rowCells 5 rfl hq5) (fun r hr=>passF_bd (fun r hr=>boundsF_bd hok r (List.mem_reverse.1 hr)) (fun f hf=>fd_map hok.ld f (List.mem_reverse.1 hf)) (by simp; omega) (by simp; omega) r (List.mem_reverse.1 hr)) (fd_map hok.ld)) (fun v w' ⟨v1,e1,e2⟩=>⟨v1,by rw [e1,h4],e2⟩)) ?_)
    intro g39 c40 cl41 w hI r42
    have r42:Row 2 g39 ((passF (((passF (boundsF pl cs).reverse ((cs.map (Pf.mk true)).reverse)).1).reverse) (cs.map (Pf.mk false))).1.length) c40 cl41 (flat eRg ((passF (((passF (boundsF pl cs).reverse ((cs.map (Pf.mk true)).reverse)).1).reverse) (cs.map (Pf.mk false))).1)):=r42
    refine pu (slv g39 ((passF (((passF (boundsF pl cs).reverse ((cs.map (Pf.mk true)).reverse)).1).reverse) (cs.map (Pf.mk false))).1.length) c40) rfl (pu (.bool false) rfl (pu (slv g39 ((passF (((passF (boundsF pl cs).reverse ((cs.map (Pf.mk true)).reverse)).1).reverse) (cs.map (Pf.mk false))).1.length) c40) rfl (pu (.bool false) rfl (seq_nil (wp_ret ?_)))))
    have e:stoodF pl cs=passF (passF (boundsF pl cs).reverse (cs.map (Pf.mk true)).reverse).1.reverse (cs.map (Pf.mk false)):=by rw [stoodF,if_pos h3]
    exact ⟨.tuple #[slv g39 ((passF (((passF (boundsF pl cs).reverse ((cs.map (Pf.mk true)).reverse)).1).reverse) (cs.map (Pf.mk false))).1.length) c40,.bool false],Ret.r2 rfl rfl rfl,(by rw [e,h4]; exact ⟨slv g39 ((passF (((passF (boundsF pl cs).reverse ((cs.map (Pf.mk true)).reverse)).1).reverse) (cs.map (Pf.mk false))).1.length) c40,rfl,g39,c40,cl41,rfl,hI.pickL [0] (by decide) rfl,r42⟩)⟩
  ·
   refine seq_c (s_callNewF hI 153 [slv g21 (boundsF pl cs).length c22,slv gg0 pn4 cc0] (fun v1=>.tuple #[v1,.bool false]) (by kernel_rfl) (Does.mono (passOn_c _ (boundsF pl cs).reverse (g21.map fun b=>⟨b,0,none⟩) (boundsF pl cs).length c22 ((cs.map (Pf.mk true)).reverse) (gg0.map fun b=>⟨b,0,none⟩) pn4 cc0 (r26.n_eq eRg_len (by decide)) (r28.n_eq ePf_len (by decide)) (by omega) (by omega) (by omega) (by omega) (hI.rowCells 1 rfl r26) (hI.rowCells 0 rfl r28) (fun r hr=>(boundsF_bd hok r (List.mem_reverse.1 hr)).mono (by decide)) (fun f hf=>fd_map hok.ld f (List.mem_reverse.1 hf))) (fun v w' ⟨v1,e1,e2⟩=>⟨v1,by rw [e1,h3],e2⟩)) ?_)
   intro g43 c44 cl45 w hI r46
   have r46:Row 2 g43 ((passF (boundsF pl cs).reverse ((cs.map (Pf.mk true)).reverse)).1.length) c44 cl45 (flat eRg ((passF (boundsF pl cs).reverse ((cs.map (Pf.mk true)).reverse)).1)):=r46
   refine pu (.tuple #[slv g43 ((passF (boundsF pl cs).reverse ((cs.map (Pf.mk true)).reverse)).1.length) c44,.bool false]) rfl (pu (slv g43 ((passF (boundsF pl cs).reverse ((cs.map (Pf.mk true)).reverse)).1.length) c44) rfl (pu (.bool false) rfl (pu (slv g43 ((passF (boundsF pl cs).reverse ((cs.map (Pf.mk true)).reverse)).1.length) c44) rfl (pu (.bool false) rfl (seq_nil (wp_seq (wp_seq (rgn rfl (pu (.bool false) rfl ?_)))))))))
   refine pu (.bool true) rfl (seq_nil (wp_condT rfl (wp_seq (rgn rfl (pu (.slice none 0 0) rfl (pu (.bool false) rfl (seq_nil (wp_ret ?_))))))))
   have hI:=hI.nilRow 23
   have e:stoodF pl cs=([],false):=by rw [stoodF,if_neg (by rw [h3]; decide)]
   exact ⟨.tuple #[.slice none 0 0,.bool false],Ret.r2 rfl rfl rfl,(by rw [e]; exact ⟨.slice none 0 0,rfl,none,0,[],rfl,hI.pickL [0] (by decide) rfl,Row.nil_ 2⟩)⟩

end Go.K
