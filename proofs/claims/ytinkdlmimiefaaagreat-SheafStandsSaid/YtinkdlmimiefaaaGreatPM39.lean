import Derived.Test.YtinkdlmimiefaaaGreatProg
import Derived.Test.YtinkdlmimiefaaaGreatPM36
import Derived.Test.YtinkdlmimiefaaaGreatPG10
namespace Go.K
open Go.Proofs.Tryz
open Go.Proofs Go.RowKit
set_option linter.unusedVariables false
set_option linter.unusedSimpArgs false
set_option maxRecDepth 100000
attribute [local irreducible] Seq cw cx fl opX

def GivesCart (e0:Int) (l:List Int) (w0:World) (v:Value) (w:World):Prop:=∃ g c cl,v=.agg #[.int .i64 e0,slv g l.length c]∧Inv []  w0 w [(g,blk cl 3)]∧Row 1 g l.length c cl (al dv l)
theorem s_callCart {P:Program} {ρ:Env} {B:List Nat} {w w0:World} {L:List (Option Nat × Obj)} {R:Value→World→Prop} (hI:Inv B w0 w L) {o:Oper} (f:FuncId) (args:List Value) {e0:Int} {l:List Int} (F:Value→Value) (h:(execOp (ev ρ) o).run P w=.ok (.enter f args.toArray) w)
    (hc:bn P f args w fun v w'=>∃ v1,v=F v1∧GivesCart e0 l w v1 w') (kk:∀ g c cl w',Inv B w0 w' ((g,blk cl 3) :: L)→Row 1 g l.length c cl (al dv l)→R (F (.agg #[.int .i64 e0,slv g l.length c])) w'):cw P o ρ w R :=
  co f args h hc fun v w' ⟨v1,hv,g,c,cl,hv1,hN,hr⟩=>by
    subst hv; subst hv1
    exact kk g c cl w' (hI.join hN) hr
def NumOf (cs:List Ld) (ts:List Int) (N:Int→Int):Prop:=∀ (i:Nat) (x:Ld) (a b:Int),cs[i]?=some x→ts[i]?=some a→ts[i+1]?=some b→N x.src=a - b
theorem set_step {E T:List Int} {k:Nat} {v:Int} (h:∀ i,i < k→E[i]?=T[i]?) (hk:k < E.length) (hv:T[k]?=some v):∀ i,i < k+1→(E.set k v)[i]?=T[i]?:=fun i hi=>by
  by_cases e:k=i
  · subst e
    rw [List.getElem?_set_self hk,hv]
  rw [List.getElem?_set_ne e]
  exact h i (by omega)
theorem ends_at {most:Bool} {S:List Rg} {k:Nat} {x:Rg} (hx:S[k]?=some x):(ez most S)[k]?=some (if most then x.hi else x.lo):=by rw [ez,List.getElem?_map,hx]; rfl
theorem ends_len (most:Bool) (S:List Rg):(ez most S).length=S.length:=by rw [ez,List.length_map]
theorem ends_bd {p:Pl} {cs:List Ld} (hok:ScOk p cs) (hs:(ay p cs).2=true) (most:Bool):∀ t∈ez most (ay p cs).1,-10000≤t∧t≤10000:=fun t ht=>by
  obtain ⟨K,h⟩:=stood_shape hs
  rw [ez,List.mem_map] at ht
  obtain ⟨s,hsm,rfl⟩:=ht
  obtain ⟨i,hi,e⟩:=List.getElem_of_mem hsm
  obtain ⟨k,hk,k1,k2⟩:=h.sk i s (by rw [List.getElem?_eq_getElem hi,e])
  obtain ⟨b,hb,b1,b2⟩:=h.kb i k hk
  have hB:=je hok b (bz hb)
  have:=h.ord s hsm
  have q1:=hB.a
  have q2:=hB.d
  split <;> omega
def soundC (p:Pl) (dy:Int):Bool × Int:=if fi p dy=0 then ((ay (ae p dy) (ax p dy)).2,0) else (false,fi p dy)

set_option maxHeartbeats 1600000 in
theorem cartingOf_c (w0:World) (pl:Pl) (o:Option Addr) (f q:Nat) (B:Option Addr) (C D:Nat) (E:Option Addr) (F G:Nat) (cs:List Ld) (r:Option Addr) (d s:Nat) (hSc:ScIn w0 pl o f q B C D E F G cs r d s) (tA:Option Addr) (tn tc:Nat) (ts:List Int) (hT:bi w0 tA (al dv ts)) (htn:tn=ts.length) (hlen:tn=d+1) (htb:∀ t∈ts,-10000≤t∧t≤10000) (N:Int→Int) (hNt:NumOf cs ts N) (hall:∀ x∈pl.loads,x∈cs):bn Tryz.prog 111 [.agg #[.int .i64 pl.lo,.int .i64 pl.hi,.slice o f q,.slice B C D,.slice E F G,.int .i64 pl.geese,.slice r d s],.slice tA tn tc] w0 fun v w=>GivesCart (ts.getD 0 0) (pl.loads.map fun x=>N x.src) w0 v w:=by
 have hm1:=hSc.p.m1; have hm2:=hSc.p.m2; have hm3:=hSc.p.m3; have hm4:=hSc.m4; have hk4:=hSc.k4; have hz1:=hSc.z1; have hz2:=hSc.z2; have hz3:=hSc.z3; have hz4:=hSc.z4
 refine az (n:=57) func111 rfl ntmps111 rfl ?_
 have hI:=Inv.start w0
 refine ab (rgn rfl (ac (ca hI [iv pl.lo,iv pl.hi,.slice o f q,.slice B C D,.slice E F G,iv pl.geese,.slice r d s] rfl fun b1 w hI=>ac (bh hI [iv 0,.slice none 0 0] zeroValue57 rfl fun b2 w hI=>aa (ab (rgn rfl (ac (s_makeMap hI fun b3 w hI=>pu (.map (some b3)) rfl (aa (ab (ab (rgn rfl (pu (.pointer (some ⟨b1,6,none⟩)) rfl (ac (ag hI 2 (.slice r d s) isAgg24 rfl rfl rfl ?_)))))))))))))))
 refine pu (iv ((d:Nat):Int)) (by kernel_rfl) (pu (iv 0) rfl (aa (au ?_)))
 refine cb (fun m ρ w=>∃ (k:Nat) (es1:List En) (ck1:Nat) (M:Int→Int),cd ρ [(1,.slice tA tn tc),(2,.pointer (some ⟨b1,0,none⟩)),(4,.pointer (some ⟨b2,0,none⟩)),(5,.map (some b3)),(13,.slice r d s),(14,iv (d:Int)),(15,iv (k:Int))]∧Inv []  w0 w [(some b3,fp es1 ck1),(some b2,blk [iv 0,.slice none 0 0] 57),(some b1,blk [iv pl.lo,iv pl.hi,.slice o f q,.slice B C D,.slice E F G,iv pl.geese,.slice r d s] 116)]∧(k≤d)∧(MOk es1 ck1)∧(∀ j,(el es1 j).getD (iv 0)=iv (M j))∧(∀ i z,i < k→cs[i]?=some z→M z.src=N z.src)∧m=d - k) (m:=d - 0) ⟨0,[],0,(fun _=>0),⟨rfl,rfl,rfl,rfl,rfl,rfl,rfl,trivial⟩,hI.pk [0,1,2] rfl rfl,(by omega),⟨List.nodup_nil,List.nodup_nil,fun e he=>by cases he⟩,(fun _=>rfl),(fun i z h=>absurd h (by omega)),rfl⟩ ?_
 rintro m ρ w ⟨k,es1,ck1,M,hag,hI,hk,ho1,hM1,hMk,hm⟩
 obtain ⟨ρ,rfl⟩:=hag.form; clear hag
 refine ab (rgn rfl (ac (cm rfl rfl ?_ ?_)))
 ·intro h1
  refine aa (ab (ah rfl (ak (ab (au ?_)))))
  refine ab (rgn rfl (pu (iv (k:Int)) rfl ?_))
  obtain ⟨x4,hx5⟩:=bq (l:=cs) (i:=k) (by omega)
  obtain ⟨b6,o7,hA8,hb9,T⟩:=hSc.e4.at_ bf (by decide) hx5
  refine ac (cn k underlying24 sizeOf30 rfl hA8 rfl rfl (by omega) ?_)
  refine ac (ef hI [iv x4.src,iv x4.hr,iv x4.lo,iv x4.hi,iv x4.kn,iv x4.un] isAgg30 sizeOf30 rfl rfl hb9 (by simp) T ?_)
  refine ac (bh hI [iv 0,iv 0,iv 0,iv 0,iv 0,iv 0] zeroValue30 rfl fun U w hI=>pu (iv (k:Int)) rfl (ac (aq hI 0 6 [iv x4.src,iv x4.hr,iv x4.lo,iv x4.hi,iv x4.kn,iv x4.un] sizeOf30 rfl rfl rfl rfl rfl (Nat.le_of_ble_eq_true rfl) fun w hI=>aa ?_)))
  replace hI:=hI.pk [0,2,3,1] rfl rfl
  refine dh hI [0,1,2] (by decide) rfl rfl rfl fun hsub=>alp 0 (.map (some b3)) hsub rfl (by kernel_rfl) (fun _=>rfl) ?_
  refine alp 1 (.pointer (some ⟨U,0,none⟩)) hsub rfl (by kernel_rfl) (fun _=>rfl) ?_
  refine ap 2 (iv x4.src) hsub rfl (by kernel_rfl) (fun w hI=>ag hI 0 (iv x4.src) isAgg3 rfl rfl rfl ⟨rfl,Below.refl _ _⟩) ?_
  refine alp 3 (.slice tA tn tc) hsub rfl (by kernel_rfl) (fun _=>rfl) ?_
  refine alp 4 (iv (k:Int)) hsub rfl (by kernel_rfl) (fun _=>rfl) ?_
  obtain ⟨y,I⟩:=bq (l:=ts) (i:=k) (by omega)
  obtain ⟨V,W,X,Y,Z⟩:=hT.at_ cy (by decide) I
  refine ap 5 (.pointer (some ⟨V,W+k * 1,none⟩)) hsub rfl (by kernel_rfl) (fun w hI=>cn k underlying41 sizeOf3 rfl X rfl rfl (by omega) ⟨rfl,Below.refl _ _⟩) ?_
  refine ap 6 (iv y) hsub rfl (by kernel_rfl) (fun w hI=>dj hI (iv y) isAgg3 rfl Y (by simp) (Z 0 _ rfl) ⟨rfl,Below.refl _ _⟩) ?_
  refine alp 7 (.slice tA tn tc) hsub rfl (by kernel_rfl) (fun _=>rfl) ?_
  refine alp 8 (iv (k:Int)) hsub rfl (by kernel_rfl) (fun _=>rfl) ?_
  refine ap 9 (iv ((k:Int)+1)) hsub rfl (by kernel_rfl) (fun w hI=>cj rfl rfl (by omega) ⟨rfl,Below.refl _ _⟩) ?_
  obtain ⟨A,J⟩:=bq (l:=ts) (i:=k+1) (by omega)
  obtain ⟨a0,a1,a2,a3,a4⟩:=hT.at_ cy (by decide) J
  refine ap 10 (.pointer (some ⟨a0,a1+(k+1) * 1,none⟩)) hsub rfl (by kernel_rfl) (fun w hI=>cn (k+1) underlying41 sizeOf3 rfl a2 rfl (by omega) (by omega) ⟨rfl,Below.refl _ _⟩) ?_
  refine ap 11 (iv A) hsub rfl (by kernel_rfl) (fun w hI=>dj hI (iv A) isAgg3 rfl a3 (by simp) (a4 0 _ rfl) ⟨rfl,Below.refl _ _⟩) ?_
  refine ap 12 (iv (y - A)) hsub rfl (by kernel_rfl) (fun w hI=>dm rfl rfl (by have hz1:=htb _ (bz I); have hz2:=htb _ (bz J); omega) ⟨rfl,Below.refl _ _⟩) ?_
  refine bc [13] (by kernel_rfl) rfl (cz fun w hI=>dg rfl (ii hI underlying142 underlying3 3 rfl rfl rfl rfl ho1 fun Q a5 w hI a6 hg29=>⟨_,hI,dc (fun _ h=>h.pk [0,1,2] rfl rfl) ?_⟩))
  intro hsub
  have hN30:∀ j,(el Q j).getD (iv 0)=iv ((fun j=>if j=x4.src then y - A else M j) j):=fun j=>by rw [hg29 j]; show _=Value.int .i64 (if j=x4.src then y - A else M j); by_cases hj:j=x4.src; (rw [if_pos hj,if_pos hj]; rfl); (rw [if_neg hj,if_neg hj]; exact hM1 j)
  refine cp rfl (fun w hI=>?_)
  refine rgn rfl (ac (cj rfl rfl (by omega) ?_))
  refine pu (iv ((k:Int)+1)) rfl (aa ?_)
  exact ⟨rfl,_,(by omega),⟨k+1,Q,a5,(fun j=>if j=x4.src then y - A else M j),⟨rfl,rfl,rfl,rfl,rfl,rfl,rfl,trivial⟩,hI.pk [3,1,2] rfl rfl,(by omega),a6,hN30,(num_step hMk hx5 (hNt _ _ _ _ hx5 I J)),rfl⟩⟩
 intro h2
 refine aa (ab (ai rfl (bw ?_)))
 refine ab (rgn rfl (pu (.slice tA tn tc) rfl ?_))
 obtain ⟨g,R⟩:=bq (l:=ts) (i:=0) (by omega)
 obtain ⟨aE,aF,a7,a8,a9⟩:=hT.at_ cy (by decide) R
 refine ac (cn 0 underlying41 sizeOf3 rfl a7 rfl rfl (by omega) ?_)
 refine ac (dj hI (iv g) isAgg3 rfl a8 (by simp) (a9 0 _ rfl) ?_)
 refine pu (.agg #[iv g,.slice none 0 0]) (by kernel_rfl) (ac (bh hI [iv 0,.slice none 0 0] zeroValue57 rfl fun H w hI=>ac (aq hI 0 2 [iv g,.slice none 0 0] sizeOf57 rfl rfl rfl rfl rfl (Nat.le_of_ble_eq_true rfl) fun w hI=>aa (ab (ab (rgn rfl (pu (.pointer (some ⟨b1,0,none⟩)) rfl (pu (.pointer (some ⟨b1,2,none⟩)) rfl (ac (ag hI 3 (.slice o f q) isAgg24 rfl rfl rfl ?_))))))))))
 refine pu (iv ((f:Nat):Int)) (by kernel_rfl) (pu (iv 0) rfl (aa (au ?_)))
 have hMl:∀ x∈pl.loads,M x.src=N x.src:=fun x hx=>by obtain ⟨i,hi,e⟩:=List.getElem_of_mem (hall x hx); exact hMk i x (by omega) (by rw [List.getElem?_eq_getElem hi,e])
 have hI:=hI.nilRow 3
 refine cb (fun m ρ w=>∃ (j:Nat) (gg0:Option Nat) (cc0:Nat) (ccl0:List Value),cd ρ [(4,.pointer (some ⟨b2,0,none⟩)),(5,.map (some b3)),(8,.pointer (some ⟨H,0,none⟩)),(40,.slice o f q),(41,iv (f:Int)),(42,iv (j:Int))]∧Inv []  w0 w [(gg0,blk ccl0 3),(some H,blk [iv g,slv gg0 j cc0] 57),(some b3,fp es1 ck1),(some b2,blk [iv 0,.slice none 0 0] 57),(some b1,blk [iv pl.lo,iv pl.hi,.slice o f q,.slice B C D,.slice E F G,iv pl.geese,.slice r d s] 116)]∧(j≤f)∧(Row 1 gg0 (j) cc0 ccl0 (al dv ((pl.loads.take j).map (fun x:Ld=>N x.src))))∧m=f - j) (m:=f - 0) ⟨0,none,0,[],⟨rfl,rfl,rfl,rfl,rfl,rfl,trivial⟩,hI.pk [0,1,2,3,4] rfl rfl,(by omega),(Row.nil_ 1),rfl⟩ ?_
 rintro m ρ w ⟨j,gg0,cc0,ccl0,hag,hI,hj,hrr0,hm⟩
 obtain ⟨ρ,rfl⟩:=hag.form; clear hag
 refine ab (rgn rfl (ac (cm rfl rfl ?_ ?_)))
 ·intro h3
  refine aa (ab (ah rfl (ak (ab (au ?_)))))
  refine ab (rgn rfl ?_)
  obtain ⟨a,K⟩:=bq (l:=pl.loads) (i:=j) (by omega)
  obtain ⟨aG,aH,aA,aB,aC⟩:=hSc.p.c1.at_ bf (by decide) K
  refine ac (cn j underlying24 sizeOf30 rfl aA rfl rfl (by omega) ?_)
  refine ac (ef hI [iv a.src,iv a.hr,iv a.lo,iv a.hi,iv a.kn,iv a.un] isAgg30 sizeOf30 rfl rfl aB (by simp) aC ?_)
  refine ac (bh hI [iv 0,iv 0,iv 0,iv 0,iv 0,iv 0] zeroValue30 rfl fun aD w hI=>ac (aq hI 0 6 [iv a.src,iv a.hr,iv a.lo,iv a.hi,iv a.kn,iv a.un] sizeOf30 rfl rfl rfl rfl rfl (Nat.le_of_ble_eq_true rfl) fun w hI=>aa (rgn rfl (pu (.pointer (some ⟨H,1,none⟩)) rfl (ac (ag hI 2 (slv gg0 j cc0) isAgg41 rfl rfl rfl ?_))))))
  refine pu (.map (some b3)) rfl (pu (.pointer (some ⟨aD,0,none⟩)) rfl (ac (ag hI 0 (iv a.src) isAgg3 rfl rfl rfl ?_)))
  refine ac (s_lookup hI (iv (M a.src)) underlying142 underlying3 zeroValue3 3 rfl rfl rfl (hM1 _) ?_)
  refine ac (fu hI [iv (M a.src)] 3 (fun b=>slv (some b) 1 1) (by kernel_rfl) fun aI w hI=>ac (s_app hI underlying41 (z:=iv 0) (k:=1) (bytes:=8) rfl rfl rfl 2 rfl rfl hrr0 [iv (M a.src)] rfl rfl (hI.cells 0 (off:=0) rfl (fun j u h=>by rw [Nat.zero_add]; exact h)) (by simp [Value.oneCell']) (by omega) (by omega) ?_))
  intro L O S w hI P
  have P:Row 1 L (j+1) O S (al dv (((pl.loads.take j).map (fun x:Ld=>N x.src))++[M a.src])):=P.snoc _ rfl
  refine pu (.pointer (some ⟨H,1,none⟩)) rfl (ac (aq hI 3 1 [slv L (j+1) O] sizeOf41 rfl rfl rfl rfl rfl (Nat.le_of_ble_eq_true rfl) fun w hI=>aa (rgn rfl (ac (cj rfl rfl (by omega) ?_)))))
  refine pu (iv ((j:Int)+1)) rfl (aa ?_)
  exact ⟨rfl,_,(by omega),⟨j+1,L,O,S,⟨rfl,rfl,rfl,rfl,rfl,rfl,trivial⟩,hI.pk [2,3,4,5,6] rfl rfl,(by omega),(P.to (by rw [fe K,List.map_append,hMl _ (bz K)]; rfl) rfl),rfl⟩⟩
 intro h4
 refine aa (ab (ai rfl (bw ?_)))
 refine ab (rgn rfl (ac (ar hI 1 2 [iv g,slv gg0 j cc0] isAgg57 sizeOf57 rfl rfl rfl rfl ?_)))
 refine ac (aq hI 3 2 [iv g,slv gg0 j cc0] sizeOf57 rfl rfl rfl rfl rfl (Nat.le_of_ble_eq_true rfl) fun w hI=>aa (aj ?_))
 have hjl:j=(pl.loads.map fun x:Ld=>N x.src).length:=by rw [List.length_map]; omega
 have he0:ts.getD 0 0=g:=by rw [List.getD_eq_getElem?_getD,R]; rfl
 exact ⟨.agg #[iv g,slv gg0 j cc0],Ret.c rfl rfl (ce hI 3 2 [iv g,slv gg0 j cc0] isAgg57 sizeOf57 rfl rfl rfl),⟨gg0,cc0,ccl0,(by rw [he0,hjl]),hI.pk [0] rfl rfl,(hrr0.to (by rw [List.take_of_length_le (by omega)]) hjl)⟩⟩

set_option maxHeartbeats 1600000 in
theorem Attain_c (w0:World) (pl:Pl) (f:Option Addr) (g y:Nat) (j:Option Addr) (o A:Nat) (p:Option Addr) (r B:Nat) (hP:gz w0 pl f g j o p r) (h dy:Int) (most:Bool) (hhour:ec pl h dy=0) (N:Int→Int) (hN:(ay (ae pl dy) (ax pl dy)).2=true→NumOf (ax pl dy) (ez most (ay (ae pl dy) (ax pl dy)).1) N):bn Tryz.prog 44 [.agg #[.int .i64 pl.lo,.int .i64 pl.hi,.slice f g y,.slice j o A,.slice p r B,.int .i64 pl.geese],.int .i64 h,.int .i64 dy,.bool most] w0 fun v w=>((ay (ae pl dy) (ax pl dy)).2=true∧∃ v1,v=.tuple #[v1,.int .i64 0]∧GivesCart ((ez most (ay (ae pl dy) (ax pl dy)).1).getD 0 0) ((ae pl dy).loads.map fun x=>N x.src) w0 v1 w)∨((ay (ae pl dy) (ax pl dy)).2=false∧v=.tuple #[.agg #[.int .i64 0,.slice none 0 0],.int .i64 14]∧Below w0.heap.size w0 w):=by
 have hm1:=hP.m1; have hm2:=hP.m2; have hm3:=hP.m3
 refine az (n:=61) func44 rfl ntmps44 rfl ?_
 have hI:=Inv.start w0
 refine ab (rgn rfl (ac (ca hI [iv pl.lo,iv pl.hi,.slice f g y,.slice j o A,.slice p r B,iv pl.geese] rfl fun b1 w hI=>ac (bh hI [iv 0,.slice none 0 0] zeroValue57 rfl fun b2 w hI=>pu (iv 0) rfl (aa (ab (ab (rgn rfl (ac (ar hI 1 6 [iv pl.lo,iv pl.hi,.slice f g y,.slice j o A,.slice p r B,iv pl.geese] isAgg28 sizeOf28 rfl rfl rfl rfl ?_))))))))))
 refine pu (iv h) rfl (pu (iv dy) rfl (ac (bg hI 97 [.agg #[iv pl.lo,iv pl.hi,.slice f g y,.slice j o A,.slice p r B,iv pl.geese],iv h,iv dy] (iv (ec pl h dy)) (by kernel_rfl) (checkHour_c _ pl f g y j o A p r B (hP.inv0 hI) h dy) fun w hI=>pu (iv (ec pl h dy)) rfl (aa (ab (rgn rfl (pu (iv (ec pl h dy)) rfl (ac (de rfl rfl ?_ ?_)))))))))
 ·intro h1
  refine aa (ah rfl (ab (rgn rfl (pu (.agg #[iv 0,.slice none 0 0]) (by kernel_rfl) (pu (iv (ec pl h dy)) rfl (ac (aq hI 0 2 [iv 0,.slice none 0 0] sizeOf57 rfl rfl rfl rfl rfl (Nat.le_of_ble_eq_true rfl) fun w hI=>pu (iv (ec pl h dy)) rfl (aa (aj ?_)))))))))
  exact ⟨.tuple #[.agg #[iv 0,.slice none 0 0],iv (ec pl h dy)],Ret.ct rfl rfl (ce hI 0 2 [iv 0,.slice none 0 0] isAgg57 sizeOf57 rfl rfl rfl) rfl,(absurd hhour h1)⟩
 intro h2
 refine aa (ai rfl (ak (ab (rgn rfl (ac (ar hI 1 6 [iv pl.lo,iv pl.hi,.slice f g y,.slice j o A,.slice p r B,iv pl.geese] isAgg28 sizeOf28 rfl rfl rfl rfl ?_))))))
 refine pu (iv dy) rfl ?_
 have hsl:=jn pl dy; obtain ⟨hsl1,hsl2,hsl3⟩:=hsl; have hsc:=ij pl dy; have hok_:=eo (ip hhour).1; have hok1:=hok_.s1; have hok2:=hok_.s2; have hok3:=hok_.s3
 refine ac (jh hI (q:=ae pl dy) (cs:=ax pl dy) 86 [.agg #[iv pl.lo,iv pl.hi,.slice f g y,.slice j o A,.slice p r B,iv pl.geese],iv dy] (by kernel_rfl) (kc _ pl f g y j o A p r B (hP.inv0 hI) (eo (ip hhour).1) dy) fun g3 c4 cl5 g7 c8 cl9 d s O e u P w hI r6 Q R E=>ac (bh hI [iv 0,iv 0,.slice none 0 0,.slice none 0 0,.slice none 0 0,iv 0,.slice none 0 0] zeroValue116 rfl fun I w hI=>ac (aq hI 0 7 [iv (ae pl dy).lo,iv (ae pl dy).hi,slv g3 (ae pl dy).loads.length c4,slv g7 (ae pl dy).stands.length c8,slv d (ae pl dy).spells.length s,iv (ae pl dy).geese,slv e (ax pl dy).length u] sizeOf116 rfl rfl rfl rfl rfl (Nat.le_of_ble_eq_true rfl) fun w hI=>aa (ab (rgn rfl (ac (ar hI 0 7 [iv (ae pl dy).lo,iv (ae pl dy).hi,slv g3 (ae pl dy).loads.length c4,slv g7 (ae pl dy).stands.length c8,slv d (ae pl dy).spells.length s,iv (ae pl dy).geese,slv e (ax pl dy).length u] isAgg116 sizeOf116 rfl rfl rfl rfl ?_)))))))
 rcases Bool.eq_false_or_eq_true ((ay (ae pl dy) (ax pl dy)).2) with h3 | h3
 ·
  refine ac (fy hI 102 [.agg #[iv (ae pl dy).lo,iv (ae pl dy).hi,slv g3 (ae pl dy).loads.length c4,slv g7 (ae pl dy).stands.length c8,slv d (ae pl dy).spells.length s,iv (ae pl dy).geese,slv e (ax pl dy).length u]] (fun v1=>.tuple #[v1,.bool true]) (by kernel_rfl) (bn.mono (stood_c _ (ae pl dy) (g3.map fun b=>⟨b,0,none⟩) (ae pl dy).loads.length c4 (g7.map fun b=>⟨b,0,none⟩) (ae pl dy).stands.length c8 (d.map fun b=>⟨b,0,none⟩) (ae pl dy).spells.length s (ax pl dy) (e.map fun b=>⟨b,0,none⟩) (ax pl dy).length u ⟨⟨(hI.rowCells 1 rfl r6),rfl,(hI.rowCells 2 rfl Q),rfl,(hI.rowCells 3 rfl R),rfl,(by omega),(by omega),(by omega)⟩,(hI.rowCells 4 rfl E),rfl,E.cap,(by omega),(by omega),(by omega),(by omega)⟩ (scn_ok (ip hhour).1 dy)) (fun v w' ⟨v1,e1,e2⟩=>⟨v1,by rw [e1,h3],e2⟩)) ?_)
  intro C D J w hI S
  have S:Row 2 C ((ay (ae pl dy) (ax pl dy)).1.length) D J (al eRg ((ay (ae pl dy) (ax pl dy)).1)):=S
  have hsl:=ji h3
  refine pu (.tuple #[slv C ((ay (ae pl dy) (ax pl dy)).1.length) D,.bool true]) rfl (pu (slv C ((ay (ae pl dy) (ax pl dy)).1.length) D) rfl (pu (.bool true) rfl (pu (slv C ((ay (ae pl dy) (ax pl dy)).1.length) D) rfl (pu (.bool true) rfl (aa (ab (ab (rgn rfl (pu (.bool true) rfl ?_)))))))))
  refine pu (.bool false) rfl (aa (ai rfl (ak (ab (rgn rfl (pu (slv C ((ay (ae pl dy) (ax pl dy)).1.length) D) rfl (pu (iv (((ay (ae pl dy) (ax pl dy)).1.length:Nat):Int)) (by kernel_rfl) ?_)))))))
  have hso:(ay (ae pl dy) (ax pl dy)).2=true:=by assumption
  refine ac (s_makeRowM hI (enc:=dv) cy (by decide) (0:Int) underlying41 (z:=iv 0) (k:=1) (bytes:=8) rfl rfl ((ay (ae pl dy) (ax pl dy)).1.length) rfl rfl (by omega) (by decide) fun bm clm w hI hrm=>pu (slv (some bm) ((ay (ae pl dy) (ax pl dy)).1.length) ((ay (ae pl dy) (ax pl dy)).1.length)) rfl (aa (ab (ab (rgn rfl (pu (slv C ((ay (ae pl dy) (ax pl dy)).1.length) D) rfl (pu (iv (((ay (ae pl dy) (ax pl dy)).1.length:Nat):Int)) (by kernel_rfl) (pu (iv 0) rfl (aa (au ?_))))))))))
  refine cb (fun m ρ w=>∃ (k:Nat) (ccl:List Value) (EL:List Int),cd ρ [(3,.bool most),(8,.pointer (some ⟨b2,0,none⟩)),(11,.pointer (some ⟨I,0,none⟩)),(14,slv (some bm) ((ay (ae pl dy) (ax pl dy)).1.length) ((ay (ae pl dy) (ax pl dy)).1.length)),(39,slv C ((ay (ae pl dy) (ax pl dy)).1.length) D),(40,iv ((ay (ae pl dy) (ax pl dy)).1.length:Int)),(41,iv (k:Int))]∧Inv []  w0 w [(some bm,blk ccl 3),(C,blk J 23),(some I,blk [iv (ae pl dy).lo,iv (ae pl dy).hi,slv g3 (ae pl dy).loads.length c4,slv g7 (ae pl dy).stands.length c8,slv d (ae pl dy).spells.length s,iv (ae pl dy).geese,slv e (ax pl dy).length u] 116),(g3,blk cl5 30),(g7,blk cl9 31),(d,blk O 33),(e,blk P 30),(some b2,blk [iv 0,.slice none 0 0] 57),(some b1,blk [iv pl.lo,iv pl.hi,.slice f g y,.slice j o A,.slice p r B,iv pl.geese] 28)]∧(k≤(ay (ae pl dy) (ax pl dy)).1.length)∧(EL.length=(ay (ae pl dy) (ax pl dy)).1.length)∧(∀ i,i < k→EL[i]?=(ez most (ay (ae pl dy) (ax pl dy)).1)[i]?)∧(Row 1 (some bm) ((ay (ae pl dy) (ax pl dy)).1.length) ((ay (ae pl dy) (ax pl dy)).1.length) ccl (al dv EL))∧m=(ay (ae pl dy) (ax pl dy)).1.length - k) (m:=(ay (ae pl dy) (ax pl dy)).1.length - 0) ⟨0,clm,List.replicate ((ay (ae pl dy) (ax pl dy)).1.length) (0:Int),⟨rfl,rfl,rfl,rfl,rfl,rfl,rfl,trivial⟩,hI.pk [0,1,2,3,4,5,6,7,8] rfl rfl,(by omega),List.length_replicate,(fun i h=>absurd h (by omega)),hrm,rfl⟩ ?_
  rintro m ρ w ⟨k,ccl,EL,hag,hI,hk,hEn,hEL,hrr,hm⟩
  obtain ⟨ρ,rfl⟩:=hag.form; clear hag
  refine ab (rgn rfl (ac (cm rfl rfl ?_ ?_)))
  ·intro h4
   refine aa (ab (ah rfl (ak (ab (au ?_)))))
   refine ab (rgn rfl (pu (iv (k:Int)) rfl ?_))
   obtain ⟨a,T⟩:=bq (l:=(ay (ae pl dy) (ax pl dy)).1) (i:=k) (by omega)
   obtain ⟨W,rfl,a1⟩:=S.at_ da (by decide) T
   refine ac (be k underlying130 sizeOf23 rfl rfl rfl (by omega) ?_)
   refine ac (cq hI 1 [iv a.lo,iv a.hi] isAgg23 sizeOf23 rfl rfl rfl a1 ?_)
   refine ac (bh hI [iv 0,iv 0] zeroValue23 rfl fun K w hI=>pu (iv (k:Int)) rfl (ac (aq hI 0 2 [iv a.lo,iv a.hi] sizeOf23 rfl rfl rfl rfl rfl (Nat.le_of_ble_eq_true rfl) fun w hI=>aa (ab (rgn rfl (pu (slv (some bm) ((ay (ae pl dy) (ax pl dy)).1.length) ((ay (ae pl dy) (ax pl dy)).1.length)) rfl (pu (iv (k:Int)) rfl (pu (.pointer (some ⟨K,0,none⟩)) rfl (ac (ag hI 0 (iv a.lo) isAgg3 rfl rfl rfl ?_))))))))))
   obtain ⟨a5,a2⟩:=bq (l:=EL) (i:=k) (by omega)
   have a6:=hrr.atS cy (by decide) a2
   refine ac (be k underlying41 sizeOf3 rfl rfl rfl (by omega) ?_)
   refine ac (aq hI 1 1 [iv a.lo] sizeOf3 rfl rfl rfl rfl rfl (hrr.room (by omega)) ?_)
   intro w hI
   have F:=hrr.put cy (by decide) k a.lo (by omega)
   obtain ⟨U,hcl⟩:∃ z,z=putCells ccl (k * 1) (dv a.lo):=⟨_,rfl⟩
   rw [← hcl] at F
   have hI:Inv []  w0 w [(some K,blk [iv a.lo,iv a.hi] 23),(some bm,blk U 3),(some W,blk J 23),(some I,blk [iv (ae pl dy).lo,iv (ae pl dy).hi,slv g3 (ae pl dy).loads.length c4,slv g7 (ae pl dy).stands.length c8,slv d (ae pl dy).spells.length s,iv (ae pl dy).geese,slv e (ax pl dy).length u] 116),(g3,blk cl5 30),(g7,blk cl9 31),(d,blk O 33),(e,blk P 30),(some b2,blk [iv 0,.slice none 0 0] 57),(some b1,blk [iv pl.lo,iv pl.hi,.slice f g y,.slice j o A,.slice p r B,iv pl.geese] 28)]:=by rw [hcl]; exact hI
   clear hcl
   refine aa (ab (rgn rfl (pu (.bool most) rfl (aa (wp_cond (t:=most) rfl ?_ ?_)))))
   ·intro h5
    refine rgn rfl (pu (slv (some bm) ((ay (ae pl dy) (ax pl dy)).1.length) ((ay (ae pl dy) (ax pl dy)).1.length)) rfl (pu (iv (k:Int)) rfl (pu (.pointer (some ⟨K,1,none⟩)) rfl (ac (ag hI 0 (iv a.hi) isAgg3 rfl rfl rfl ?_)))))
    obtain ⟨a7,a3⟩:=bq (l:=(EL).set k a.lo) (i:=k) (by first | omega | (simp only [List.length_set]; omega))
    have a8:=F.atS cy (by decide) a3
    refine ac (be k underlying41 sizeOf3 rfl rfl rfl (by omega) ?_)
    refine ac (aq hI 1 1 [iv a.hi] sizeOf3 rfl rfl rfl rfl rfl (F.room (by omega)) ?_)
    intro w hI
    have X:=F.put cy (by decide) k a.hi (by omega)
    obtain ⟨Y,hcl⟩:∃ z,z=putCells U (k * 1) (dv a.hi):=⟨_,rfl⟩
    rw [← hcl] at X
    have hI:Inv []  w0 w [(some K,blk [iv a.lo,iv a.hi] 23),(some bm,blk Y 3),(some W,blk J 23),(some I,blk [iv (ae pl dy).lo,iv (ae pl dy).hi,slv g3 (ae pl dy).loads.length c4,slv g7 (ae pl dy).stands.length c8,slv d (ae pl dy).spells.length s,iv (ae pl dy).geese,slv e (ax pl dy).length u] 116),(g3,blk cl5 30),(g7,blk cl9 31),(d,blk O 33),(e,blk P 30),(some b2,blk [iv 0,.slice none 0 0] 57),(some b1,blk [iv pl.lo,iv pl.hi,.slice f g y,.slice j o A,.slice p r B,iv pl.geese] 28)]:=by rw [hcl]; exact hI
    clear hcl
    refine aa (rgn rfl (ac (cj rfl rfl (by omega) ?_)))
    refine pu (iv ((k:Int)+1)) rfl (aa ?_)
    have hss:((EL).set k a.lo).set k a.hi=EL.set k a.hi:=List.set_set _
    exact ⟨rfl,_,(by omega),⟨k+1,Y,EL.set k a.hi,⟨rfl,rfl,rfl,rfl,rfl,rfl,rfl,trivial⟩,hI.pk [1,2,3,4,5,6,7,8,9] rfl rfl,(by omega),(by rw [List.length_set]; exact hEn),(set_step hEL (by omega) (by rw [ends_at T,h5]; rfl)),(X.to hss rfl),rfl⟩⟩
   intro h6
   refine ak (rgn rfl (ac (cj rfl rfl (by omega) ?_)))
   refine pu (iv ((k:Int)+1)) rfl (aa ?_)
   exact ⟨rfl,_,(by omega),⟨k+1,U,EL.set k a.lo,⟨rfl,rfl,rfl,rfl,rfl,rfl,rfl,trivial⟩,hI.pk [1,2,3,4,5,6,7,8,9] rfl rfl,(by omega),(by rw [List.length_set]; exact hEn),(set_step hEL (by omega) (by rw [ends_at T,h6]; rfl)),(F.to rfl rfl),rfl⟩⟩
  intro h7
  refine aa (ab (ai rfl (bw ?_)))
  refine ab (rgn rfl (ac (ar hI 2 7 [iv (ae pl dy).lo,iv (ae pl dy).hi,slv g3 (ae pl dy).loads.length c4,slv g7 (ae pl dy).stands.length c8,slv d (ae pl dy).spells.length s,iv (ae pl dy).geese,slv e (ax pl dy).length u] isAgg116 sizeOf116 rfl rfl rfl rfl ?_)))
  refine pu (slv (some bm) ((ay (ae pl dy) (ax pl dy)).1.length) ((ay (ae pl dy) (ax pl dy)).1.length)) rfl ?_
  have hEE:EL=ez most (ay (ae pl dy) (ax pl dy)).1:=List.ext_getElem? fun i=>by rcases Nat.lt_or_ge i (ay (ae pl dy) (ax pl dy)).1.length with h1 | h1; (exact hEL i (by omega)); (rw [List.getElem?_eq_none (by omega),List.getElem?_eq_none (by rw [ends_len]; omega)])
  rw [hEE] at hrr
  have hel:=ends_len most (ay (ae pl dy) (ax pl dy)).1
  have hall:∀ x∈(ae pl dy).loads,x∈ax pl dy:=fun x hx=>iw.2 hx
  refine ac (s_callCart hI (e0:=(ez most (ay (ae pl dy) (ax pl dy)).1).getD 0 0) (l:=(ae pl dy).loads.map (fun x:Ld=>N x.src)) 111 [.agg #[iv (ae pl dy).lo,iv (ae pl dy).hi,slv g3 (ae pl dy).loads.length c4,slv g7 (ae pl dy).stands.length c8,slv d (ae pl dy).spells.length s,iv (ae pl dy).geese,slv e (ax pl dy).length u],slv (some bm) ((ay (ae pl dy) (ax pl dy)).1.length) ((ay (ae pl dy) (ax pl dy)).1.length)] (fun v1=>v1) (by kernel_rfl) (bn.mono (cartingOf_c _ (ae pl dy) (g3.map fun b=>⟨b,0,none⟩) (ae pl dy).loads.length c4 (g7.map fun b=>⟨b,0,none⟩) (ae pl dy).stands.length c8 (d.map fun b=>⟨b,0,none⟩) (ae pl dy).spells.length s (ax pl dy) (e.map fun b=>⟨b,0,none⟩) (ax pl dy).length u ⟨⟨(hI.rowCells 3 rfl r6),rfl,(hI.rowCells 4 rfl Q),rfl,(hI.rowCells 5 rfl R),rfl,(by omega),(by omega),(by omega)⟩,(hI.rowCells 6 rfl E),rfl,E.cap,(by omega),(by omega),(by omega),(by omega)⟩ ((some bm).map fun b=>⟨b,0,none⟩) ((ay (ae pl dy) (ax pl dy)).1.length) ((ay (ae pl dy) (ax pl dy)).1.length) (ez most (ay (ae pl dy) (ax pl dy)).1) ((hI.rowCells 0 rfl hrr)) (by omega) (by omega) (ends_bd (scn_ok (ip hhour).1 dy) hso most) N (hN hso) hall) fun v w h=>⟨v,rfl,h⟩) ?_)
  intro G H Z w hI V
  have V:Row 1 G (((ae pl dy).loads.map (fun x:Ld=>N x.src)).length) H Z (al dv ((ae pl dy).loads.map (fun x:Ld=>N x.src))):=V
  refine ac (aq hI 8 2 [iv ((ez most (ay (ae pl dy) (ax pl dy)).1).getD 0 0),slv G (((ae pl dy).loads.map (fun x:Ld=>N x.src)).length) H] sizeOf57 rfl rfl rfl rfl rfl (Nat.le_of_ble_eq_true rfl) fun w hI=>pu (iv 0) rfl (aa (aj ?_)))
  exact ⟨.tuple #[.agg #[iv ((ez most (ay (ae pl dy) (ax pl dy)).1).getD 0 0),slv G (((ae pl dy).loads.map (fun x:Ld=>N x.src)).length) H],iv 0],Ret.ct rfl rfl (ce hI 8 2 [iv ((ez most (ay (ae pl dy) (ax pl dy)).1).getD 0 0),slv G (((ae pl dy).loads.map (fun x:Ld=>N x.src)).length) H] isAgg57 sizeOf57 rfl rfl rfl) rfl,(.inl ⟨hso,_,rfl,G,H,Z,rfl,hI.pk [0] rfl rfl,V⟩)⟩
 refine ac (fy hI 102 [.agg #[iv (ae pl dy).lo,iv (ae pl dy).hi,slv g3 (ae pl dy).loads.length c4,slv g7 (ae pl dy).stands.length c8,slv d (ae pl dy).spells.length s,iv (ae pl dy).geese,slv e (ax pl dy).length u]] (fun v1=>.tuple #[v1,.bool false]) (by kernel_rfl) (bn.mono (stood_c _ (ae pl dy) (g3.map fun b=>⟨b,0,none⟩) (ae pl dy).loads.length c4 (g7.map fun b=>⟨b,0,none⟩) (ae pl dy).stands.length c8 (d.map fun b=>⟨b,0,none⟩) (ae pl dy).spells.length s (ax pl dy) (e.map fun b=>⟨b,0,none⟩) (ax pl dy).length u ⟨⟨(hI.rowCells 1 rfl r6),rfl,(hI.rowCells 2 rfl Q),rfl,(hI.rowCells 3 rfl R),rfl,(by omega),(by omega),(by omega)⟩,(hI.rowCells 4 rfl E),rfl,E.cap,(by omega),(by omega),(by omega),(by omega)⟩ (scn_ok (ip hhour).1 dy)) (fun v w' ⟨v1,e1,e2⟩=>⟨v1,by rw [e1,h3],e2⟩)) ?_)
 intro L M a4 w hI a0
 have a0:Row 2 L ((ay (ae pl dy) (ax pl dy)).1.length) M a4 (al eRg ((ay (ae pl dy) (ax pl dy)).1)):=a0
 refine pu (.tuple #[slv L ((ay (ae pl dy) (ax pl dy)).1.length) M,.bool false]) rfl (pu (slv L ((ay (ae pl dy) (ax pl dy)).1.length) M) rfl (pu (.bool false) rfl (pu (slv L ((ay (ae pl dy) (ax pl dy)).1.length) M) rfl (pu (.bool false) rfl (aa (ab (ab (rgn rfl (pu (.bool false) rfl ?_)))))))))
 refine pu (.bool true) rfl (aa (ah rfl (ab (rgn rfl (pu (.agg #[iv 0,.slice none 0 0]) (by kernel_rfl) (ac (aq hI 6 2 [iv 0,.slice none 0 0] sizeOf57 rfl rfl rfl rfl rfl (Nat.le_of_ble_eq_true rfl) fun w hI=>pu (iv 14) rfl (aa (aj ?_)))))))))
 exact ⟨.tuple #[.agg #[iv 0,.slice none 0 0],iv 14],Ret.ct rfl rfl (ce hI 6 2 [iv 0,.slice none 0 0] isAgg57 sizeOf57 rfl rfl rfl) rfl,(.inr ⟨by assumption,rfl,hI.below⟩)⟩


end Go.K
