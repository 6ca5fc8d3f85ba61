import Derived.Test.YtinkdlmimiefaaaGreatProg
import Derived.Test.YtinkdlmimiefaaaGreatPM36
import Derived.Test.YtinkdlmimiefaaaGreatPKK1
namespace Go.K
open Go.Proofs.Tryz
open Go.Proofs Go.RowKit
set_option linter.unusedVariables false
set_option linter.unusedSimpArgs false
set_option maxRecDepth 100000
attribute [local irreducible] Seq cw cx fl opX

def trueB (q:Pl) (cs:List Ld) (s:Int) (ts:List Int) (N:Int→Int):Bool :=
  decide (ts.length=q.loads.length) && inB s q.lo q.hi && (q.loads.zip ts).all (fun x=>inB x.2 x.1.lo x.1.hi) && q.stands.all (fun x=>inB (fg cs N s x.hr) x.lo x.hi) && decide (0≤fg cs N s 99999)
theorem jk {q:Pl} {cs:List Ld} {s:Int} {ts:List Int} {N:Int→Int} (h:trueB q cs s ts N=true):ts.length=q.loads.length∧inB s q.lo q.hi=true∧(∀ (i:Nat) (x:Ld) (t:Int),q.loads[i]?=some x→ts[i]?=some t→inB t x.lo x.hi=true)∧(∀ x∈q.stands,inB (fg cs N s x.hr) x.lo x.hi=true)∧0≤fg cs N s 99999:=by
  simp only [trueB,Bool.and_eq_true,decide_eq_true_eq,List.all_eq_true] at h
  exact ⟨h.1.1.1.1,h.1.1.1.2,fun i x t hx ht=>h.1.1.2 (x,t) (bz (i:=i) (by rw [List.getElem?_zip_eq_some]; exact ⟨hx,ht⟩)),h.1.2,h.2⟩
def AnyTruth (v:Value):Prop:=∃ (n0 n1:Int) (A1:Option Addr) (m1 k1:Nat) (A2:Option Addr) (m2 k2:Nat) (A3:Option Addr) (m3 k3:Nat) (n2:Int) (A4:Option Addr) (m4 k4:Nat) (n3:Int) (mb:Option Nat),v=.tuple #[.agg #[.int .i64 n0,.int .i64 n1,.slice A1 m1 k1,.slice A2 m2 k2,.slice A3 m3 k3,.int .i64 n2,.slice A4 m4 k4,.int .i64 n3,.map mb],.bool false]
theorem inB_bd {n lo hi:Int} (h:0≤lo∧hi≤10000) (hb:inB n lo hi=true):0≤n∧n≤10000:=by
  simp only [inB,Bool.and_eq_true,decide_eq_true_eq] at hb
  omega
theorem in_stepT {l:List Ld} {ts:List Int} {k:Nat} {x:Ld} {y:Int} (h:∀ i z t,i < k→l[i]?=some z→ts[i]?=some t→inB t z.lo z.hi=true) (hx:l[k]?=some x) (hy:ts[k]?=some y) (hb:inB y x.lo x.hi=true):∀ i z t,i < k+1→l[i]?=some z→ts[i]?=some t→inB t z.lo z.hi=true:=fun i z t hi hz ht=>by
  rcases Nat.lt_or_ge i k with h1 | h1
  · exact h i z t h1 hz ht
  rw [show i=k by omega] at hz ht
  rw [hx] at hz; rw [hy] at ht
  injection hz with hz; injection ht with ht
  subst hz ht; exact hb
theorem st_stepT {l:List Ld} {F:Ld→Bool} {k:Nat} {x:Ld} (h:∀ i z,i < k→l[i]?=some z→F z=true) (hx:l[k]?=some x) (hb:F x=true):∀ i z,i < k+1→l[i]?=some z→F z=true:=fun i z hi hz=>by
  rcases Nat.lt_or_ge i k with h1 | h1
  · exact h i z h1 hz
  rw [show i=k by omega,hx] at hz
  injection hz with hz
  subst hz; exact hb
theorem nb_of {l:List Ld} {ts:List Int} {N:Int→Int} {k:Nat} (hfd:∀ x∈l,0≤x.lo∧x.hi≤10000) (hlen:ts.length=l.length) (hNt:∀ (i:Nat) (x:Ld) (t:Int),l[i]?=some x→ts[i]?=some t→N x.src=t) (h:∀ i z t,i < k→l[i]?=some z→ts[i]?=some t→inB t z.lo z.hi=true) (hk:l.length≤k):∀ x∈l,0≤N x.src∧N x.src≤10000:=fun x hx=>by
  obtain ⟨i,hi,e⟩:=List.getElem_of_mem hx
  have h1:l[i]?=some x:=by rw [List.getElem?_eq_getElem hi,e]
  have h2:ts[i]?=some ts[i]:=List.getElem?_eq_getElem (by omega)
  rw [hNt i x _ h1 h2]
  exact inB_bd (hfd x hx) (h i x _ (by omega) h1 h2)
theorem trueB_of {q:Pl} {cs:List Ld} {s:Int} {ts:List Int} {N:Int→Int} {k k2:Nat} (hlen:ts.length=q.loads.length) (hs:inB s q.lo q.hi=true) (h:∀ i z t,i < k→q.loads[i]?=some z→ts[i]?=some t→inB t z.lo z.hi=true) (hk:q.loads.length≤k) (h2:∀ i z,i < k2→q.stands[i]?=some z→inB (fg cs N s z.hr) z.lo z.hi=true) (hk2:q.stands.length≤k2) (h0:0≤fg cs N s 99999):trueB q cs s ts N=true:=by
  simp only [trueB,Bool.and_eq_true,decide_eq_true_eq,List.all_eq_true]
  refine ⟨⟨⟨⟨hlen,hs⟩,fun x hx=>?_⟩,fun x hx=>?_⟩,h0⟩
  · obtain ⟨i,hi,e⟩:=List.getElem_of_mem hx
    rw [List.getElem_zip] at e
    subst e
    rw [List.length_zip] at hi
    exact h i _ _ (by omega) (List.getElem?_eq_getElem (by omega)) (List.getElem?_eq_getElem (by omega))
  obtain ⟨i,hi,e⟩:=List.getElem_of_mem hx
  exact h2 i x (by omega) (by rw [List.getElem?_eq_getElem hi,e])

set_option maxHeartbeats 1600000 in
theorem truthG_c (w0:World) (pl:Pl) (f:Option Addr) (a g:Nat) (o:Option Addr) (d q:Nat) (r:Option Addr) (u y:Nat) (cs:List Ld) (A:Option Addr) (B C:Nat) (hSc:ScIn w0 pl f a g o d q r u y cs A B C) (s:Int) (tA:Option Addr) (tn tc:Nat) (ts:List Int) (hT:bi w0 tA (al dv ts)) (htn:tn=ts.length) (htx:ts.length≤9223372036854775807) (N:Int→Int) (hpl:0≤pl.lo∧pl.hi≤10000) (hfd:∀ x∈pl.loads,0≤x.lo∧x.hi≤10000) (hcs:∀ x∈cs,x∈pl.loads) (hNt:∀ (i:Nat) (x:Ld) (t:Int),pl.loads[i]?=some x→ts[i]?=some t→N x.src=t):bn Tryz.prog 106 [.agg #[.int .i64 pl.lo,.int .i64 pl.hi,.slice f a g,.slice o d q,.slice r u y,.int .i64 pl.geese,.slice A B C],.agg #[.int .i64 s,.slice tA tn tc]] w0 fun v w=>(trueB pl cs s ts N=true∧GivesTruth [.int .i64 pl.lo,.int .i64 pl.hi,.slice f a g,.slice o d q,.slice r u y,.int .i64 pl.geese,.slice A B C] s pl.loads N w0 v w)∨(trueB pl cs s ts N=false∧AnyTruth v∧Below w0.heap.size w0 w):=by
 have hm1:=hSc.p.m1; have hm2:=hSc.p.m2; have hm3:=hSc.p.m3; have hm4:=hSc.m4; have hk4:=hSc.k4; have hz1:=hSc.z1; have hz2:=hSc.z2; have hz3:=hSc.z3; have hz4:=hSc.z4
 refine az (n:=85) func106 rfl ntmps106 rfl ?_
 have hI:=Inv.start w0
 refine ab (rgn rfl (ac (ca hI [iv pl.lo,iv pl.hi,.slice f a g,.slice o d q,.slice r u y,iv pl.geese,.slice A B C] rfl fun b1 w hI=>ac (ca hI [iv s,.slice tA tn tc] rfl fun b2 w hI=>ac (bh hI [iv 0,iv 0,.slice none 0 0,.slice none 0 0,.slice none 0 0,iv 0,.slice none 0 0,iv 0,.map none] zeroValue144 rfl fun b3 w hI=>pu (.bool false) rfl (aa (ab (ab (rgn rfl (pu (.pointer (some ⟨b2,0,none⟩)) rfl (ac (ag hI 1 (iv s) isAgg3 rfl rfl rfl ?_))))))))))))
 refine pu (.pointer (some ⟨b1,0,none⟩)) rfl (pu (.pointer (some ⟨b1,0,none⟩)) rfl (ac (ar hI 2 2 [iv pl.lo,iv pl.hi] isAgg23 sizeOf23 rfl rfl rfl rfl ?_)))
 refine ac (fc hI 154 [iv s,.agg #[iv pl.lo,iv pl.hi]] (inB s pl.lo pl.hi) (by kernel_rfl) (inRange_c s pl.lo pl.hi _) ?_ ?_)
 ·intro h1 w hI
  refine pu (.bool false) rfl (pu (.bool false) rfl (puo (.pointer (some ⟨b2,1,none⟩)) ⟨rfl,rfl⟩ (aw rfl (ag hI 1 (.slice tA tn tc) isAgg41 rfl rfl rfl ?_))))
  refine puo (iv ((tn:Nat):Int)) ⟨rfl,(by kernel_rfl)⟩ (puo (.pointer (some ⟨b1,0,none⟩)) ⟨rfl,rfl⟩ (puo (.pointer (some ⟨b1,2,none⟩)) ⟨rfl,rfl⟩ (aw rfl (ag hI 2 (.slice f a g) isAgg24 rfl rfl rfl ?_))))
  refine puo (iv ((a:Nat):Int)) ⟨rfl,(by kernel_rfl)⟩ (aw rfl (de rfl rfl ?_ ?_))
  ·intro h2
   refine pu (.bool true) rfl (aa (ah rfl (ab (rgn rfl (pu (.agg #[iv 0,iv 0,.slice none 0 0,.slice none 0 0,.slice none 0 0,iv 0,.slice none 0 0,iv 0,.map none]) (by kernel_rfl) (ac (aq hI 0 9 [iv 0,iv 0,.slice none 0 0,.slice none 0 0,.slice none 0 0,iv 0,.slice none 0 0,iv 0,.map none] sizeOf144 rfl rfl rfl rfl rfl (Nat.le_of_ble_eq_true rfl) fun w hI=>pu (.bool false) rfl (aa (aj ?_)))))))))
   exact ⟨.tuple #[.agg #[iv 0,iv 0,.slice none 0 0,.slice none 0 0,.slice none 0 0,iv 0,.slice none 0 0,iv 0,.map none],.bool false],Ret.ct rfl rfl (ce hI 0 9 [iv 0,iv 0,.slice none 0 0,.slice none 0 0,.slice none 0 0,iv 0,.slice none 0 0,iv 0,.map none] isAgg144 sizeOf144 rfl rfl rfl) rfl,(.inr ⟨Bool.eq_false_iff.2 fun hT=>(by have h1:=(jk hT).1; omega),⟨_,_,_,_,_,_,_,_,_,_,_,_,_,_,_,_,_,rfl⟩,hI.below⟩)⟩
  intro h3
  refine pu (.bool false) rfl (aa (ai rfl (ak (ab (rgn rfl (ac (ar hI 2 7 [iv pl.lo,iv pl.hi,.slice f a g,.slice o d q,.slice r u y,iv pl.geese,.slice A B C] isAgg116 sizeOf116 rfl rfl rfl rfl ?_)))))))
  refine pu (.pointer (some ⟨b2,0,none⟩)) rfl (ac (ag hI 1 (iv s) isAgg3 rfl rfl rfl ?_))
  refine ac (s_makeMap hI fun b4 w hI=>pu (.agg #[iv pl.lo,iv pl.hi,.slice f a g,.slice o d q,.slice r u y,iv pl.geese,.slice A B C,iv s,.map (some b4)]) (by kernel_rfl) (ac (bh hI [iv 0,iv 0,.slice none 0 0,.slice none 0 0,.slice none 0 0,iv 0,.slice none 0 0,iv 0,.map none] zeroValue144 rfl fun b5 w hI=>ac (aq hI 0 9 [iv pl.lo,iv pl.hi,.slice f a g,.slice o d q,.slice r u y,iv pl.geese,.slice A B C,iv s,.map (some b4)] sizeOf144 rfl rfl rfl rfl rfl (Nat.le_of_ble_eq_true rfl) fun w hI=>aa (ab (ab (rgn rfl (pu (.pointer (some ⟨b1,0,none⟩)) rfl (pu (.pointer (some ⟨b1,2,none⟩)) rfl (ac (ag hI 4 (.slice f a g) isAgg24 rfl rfl rfl ?_)))))))))))
  refine pu (iv ((a:Nat):Int)) (by kernel_rfl) (pu (iv 0) rfl (aa (au ?_)))
  have hs:0≤s∧s≤10000:=inB_bd hpl h1
  have hlen:tn=pl.loads.length:=by omega
  refine cb (fun m ρ w=>∃ (k:Nat) (es1:List En) (ck1:Nat) (M:Int→Int),cd ρ [(2,.pointer (some ⟨b1,0,none⟩)),(3,.pointer (some ⟨b2,0,none⟩)),(4,.pointer (some ⟨b3,0,none⟩)),(6,.pointer (some ⟨b5,0,none⟩)),(36,.slice f a g),(37,iv (a:Int)),(38,iv (k:Int))]∧Inv []  w0 w [(some b5,blk [iv pl.lo,iv pl.hi,.slice f a g,.slice o d q,.slice r u y,iv pl.geese,.slice A B C,iv s,.map (some b4)] 144),(some b4,fp es1 ck1),(some b3,blk [iv 0,iv 0,.slice none 0 0,.slice none 0 0,.slice none 0 0,iv 0,.slice none 0 0,iv 0,.map none] 144),(some b2,blk [iv s,.slice tA tn tc] 57),(some b1,blk [iv pl.lo,iv pl.hi,.slice f a g,.slice o d q,.slice r u y,iv pl.geese,.slice A B C] 116)]∧(k≤a)∧(MOk es1 ck1)∧(∀ j,(el es1 j).getD (iv 0)=iv (M j))∧(∀ i z,i < k→pl.loads[i]?=some z→M z.src=N z.src)∧(∀ i z t,i < k→pl.loads[i]?=some z→ts[i]?=some t→inB t z.lo z.hi=true)∧m=a - k) (m:=a - 0) ⟨0,[],0,(fun _=>0),⟨rfl,rfl,rfl,rfl,rfl,rfl,rfl,trivial⟩,hI.pk [0,1,2,3,4] rfl rfl,(by omega),⟨List.nodup_nil,List.nodup_nil,fun e he=>by cases he⟩,(fun _=>rfl),(fun i z h=>absurd h (by omega)),(fun i z t h=>absurd h (by omega)),rfl⟩ ?_
  rintro m ρ w ⟨k,es1,ck1,M,hag,hI,hk,ho1,hM1,hMk,hin,hm⟩
  obtain ⟨ρ,rfl⟩:=hag.form; clear hag
  refine ab (rgn rfl (ac (cm rfl rfl ?_ ?_)))
  ·intro h4
   refine aa (ab (ah rfl (ak (ab (au ?_)))))
   refine ab (rgn rfl (pu (iv (k:Int)) rfl ?_))
   obtain ⟨x6,hx7⟩:=bq (l:=pl.loads) (i:=k) (by omega)
   obtain ⟨b8,o9,S,T,U⟩:=hSc.p.c1.at_ bf (by decide) hx7
   refine ac (cn k underlying24 sizeOf30 rfl S rfl rfl (by omega) ?_)
   refine ac (ef hI [iv x6.src,iv x6.hr,iv x6.lo,iv x6.hi,iv x6.kn,iv x6.un] isAgg30 sizeOf30 rfl rfl T (by simp) U ?_)
   refine ac (bh hI [iv 0,iv 0,iv 0,iv 0,iv 0,iv 0] zeroValue30 rfl fun H w hI=>pu (iv (k:Int)) rfl (ac (aq hI 0 6 [iv x6.src,iv x6.hr,iv x6.lo,iv x6.hi,iv x6.kn,iv x6.un] sizeOf30 rfl rfl rfl rfl rfl (Nat.le_of_ble_eq_true rfl) fun w hI=>aa (ab (ab (dh hI [0,1,2,3,4,5] (by decide) rfl rfl rfl fun hsub=>alp 0 (.pointer (some ⟨b2,1,none⟩)) hsub rfl (by kernel_rfl) (fun _=>rfl) ?_))))))
   refine ap 1 (.slice tA tn tc) hsub rfl (by kernel_rfl) (fun w hI=>ag hI 4 (.slice tA tn tc) isAgg41 rfl rfl rfl br) ?_
   refine alp 2 (iv (k:Int)) hsub rfl (by kernel_rfl) (fun _=>rfl) ?_
   obtain ⟨D,E⟩:=bq (l:=ts) (i:=k) (by omega)
   obtain ⟨I,J,K,L,O⟩:=hT.at_ cy (by decide) E
   refine ap 3 (.pointer (some ⟨I,J+k * 1,none⟩)) hsub rfl (by kernel_rfl) (fun w hI=>cn k underlying41 sizeOf3 rfl K rfl rfl (by omega) br) ?_
   refine ap 4 (iv D) hsub rfl (by kernel_rfl) (fun w hI=>dj hI (iv D) isAgg3 rfl L (by simp) (O 0 _ rfl) br) ?_
   refine alp 5 (.pointer (some ⟨H,2,none⟩)) hsub rfl (by kernel_rfl) (fun _=>rfl) ?_
   refine ap 6 (.agg #[iv x6.lo,iv x6.hi]) hsub rfl (by kernel_rfl) (fun w hI=>ar hI 0 2 [iv x6.lo,iv x6.hi] isAgg23 sizeOf23 rfl rfl rfl rfl br) ?_
   rcases Bool.eq_false_or_eq_true (inB D x6.lo x6.hi) with h5 | h5
   ·refine ap 7 (.bool true) hsub rfl (by kernel_rfl) (fun w hI=>co 154 [iv D,.agg #[iv x6.lo,iv x6.hi]] (by kernel_rfl) (inRange_c D x6.lo x6.hi _) (fun v' w' h=>⟨h.1.trans (congrArg Value.bool h5),h.2⟩)) ?_
    refine alp 8 (.bool false) hsub rfl (by kernel_rfl) (fun _=>rfl) ?_
    refine cp rfl (fun w hI=>?_)
    refine ai rfl (ak ?_)
    replace hI:=hI.pk [0,1,3,4,5,2] rfl rfl
    refine dh hI [0,1,2,3,4] (by decide) rfl rfl rfl fun hsub=>alp 0 (.pointer (some ⟨b5,8,none⟩)) hsub rfl (by kernel_rfl) (fun _=>rfl) ?_
    refine ap 1 (.map (some b4)) hsub rfl (by kernel_rfl) (fun w hI=>ag hI 1 (.map (some b4)) isAgg142 rfl rfl rfl br) ?_
    refine alp 2 (.pointer (some ⟨H,0,none⟩)) hsub rfl (by kernel_rfl) (fun _=>rfl) ?_
    refine ap 3 (iv x6.src) hsub rfl (by kernel_rfl) (fun w hI=>ag hI 0 (iv x6.src) isAgg3 rfl rfl rfl br) ?_
    refine alp 4 (.pointer (some ⟨b2,1,none⟩)) hsub rfl (by kernel_rfl) (fun _=>rfl) ?_
    refine ap 5 (.slice tA tn tc) hsub rfl (by kernel_rfl) (fun w hI=>ag hI 3 (.slice tA tn tc) isAgg41 rfl rfl rfl br) ?_
    refine alp 6 (iv (k:Int)) hsub rfl (by kernel_rfl) (fun _=>rfl) ?_
    refine ap 7 (.pointer (some ⟨I,J+k * 1,none⟩)) hsub rfl (by kernel_rfl) (fun w hI=>cn k underlying41 sizeOf3 rfl K rfl rfl (by omega) br) ?_
    refine ap 8 (iv D) hsub rfl (by kernel_rfl) (fun w hI=>dj hI (iv D) isAgg3 rfl L (by simp) (O 0 _ rfl) br) ?_
    refine bc [9] (by kernel_rfl) rfl (cz fun w hI=>dg rfl (ii hI underlying142 underlying3 5 rfl rfl rfl rfl ho1 fun P V w hI W hg24=>⟨_,hI,dc (fun _ h=>h.pk [0,1,2,3,4] rfl rfl) ?_⟩))
    intro hsub
    have hN25:∀ j,(el P j).getD (iv 0)=iv ((fun j=>if j=x6.src then D else M j) j):=fun j=>by rw [hg24 j]; show _=Value.int .i64 (if j=x6.src then D else M j); by_cases hj:j=x6.src; (rw [if_pos hj,if_pos hj]; rfl); (rw [if_neg hj,if_neg hj]; exact hM1 j)
    refine cp rfl (fun w hI=>?_)
    refine rgn rfl (ac (cj rfl rfl (by omega) ?_))
    refine pu (iv ((k:Int)+1)) rfl (aa ?_)
    exact ⟨rfl,_,(by omega),⟨k+1,P,V,(fun j=>if j=x6.src then D else M j),⟨rfl,rfl,rfl,rfl,rfl,rfl,rfl,trivial⟩,hI.pk [1,5,2,3,4] rfl rfl,(by omega),W,hN25,(num_step hMk hx7 (hNt _ _ _ hx7 E)),(in_stepT hin hx7 E h5),rfl⟩⟩
   refine ap 7 (.bool false) hsub rfl (by kernel_rfl) (fun w hI=>co 154 [iv D,.agg #[iv x6.lo,iv x6.hi]] (by kernel_rfl) (inRange_c D x6.lo x6.hi _) (fun v' w' h=>⟨h.1.trans (congrArg Value.bool h5),h.2⟩)) ?_
   refine alp 8 (.bool true) hsub rfl (by kernel_rfl) (fun _=>rfl) ?_
   refine cp rfl (fun w hI=>?_)
   refine ah rfl (ab (rgn rfl (pu (.agg #[iv 0,iv 0,.slice none 0 0,.slice none 0 0,.slice none 0 0,iv 0,.slice none 0 0,iv 0,.map none]) (by kernel_rfl) (ac (aq hI 3 9 [iv 0,iv 0,.slice none 0 0,.slice none 0 0,.slice none 0 0,iv 0,.slice none 0 0,iv 0,.map none] sizeOf144 rfl rfl rfl rfl rfl (Nat.le_of_ble_eq_true rfl) fun w hI=>pu (.bool false) rfl (aa (aj ?_)))))))
   exact ⟨.tuple #[.agg #[iv 0,iv 0,.slice none 0 0,.slice none 0 0,.slice none 0 0,iv 0,.slice none 0 0,iv 0,.map none],.bool false],Ret.ct rfl rfl (ce hI 3 9 [iv 0,iv 0,.slice none 0 0,.slice none 0 0,.slice none 0 0,iv 0,.slice none 0 0,iv 0,.map none] isAgg144 sizeOf144 rfl rfl rfl) rfl,(.inr ⟨Bool.eq_false_iff.2 fun hT=>Bool.noConfusion (h5.symm.trans ((jk hT).2.2.1 _ _ _ hx7 E)),⟨_,_,_,_,_,_,_,_,_,_,_,_,_,_,_,_,_,rfl⟩,hI.below⟩)⟩
  intro h6
  refine aa (ab (ai rfl (bw ?_)))
  refine ab (ab (rgn rfl (pu (.pointer (some ⟨b1,0,none⟩)) rfl (pu (.pointer (some ⟨b1,3,none⟩)) rfl (ac (ag hI 4 (.slice o d q) isAgg25 rfl rfl rfl ?_))))))
  refine pu (iv ((d:Nat):Int)) (by kernel_rfl) (pu (iv 0) rfl (aa (au ?_)))
  have hNb:∀ x∈pl.loads,0≤N x.src∧N x.src≤10000:=nb_of hfd (by omega) hNt hin (by omega)
  have hMl:∀ x∈pl.loads,M x.src=N x.src:=fun x hx=>by obtain ⟨i,hi,e⟩:=List.getElem_of_mem hx; exact hMk i x (by omega) (by rw [List.getElem?_eq_getElem hi,e])
  have hMcs:∀ x∈cs,M x.src=N x.src:=fun x hx=>hMl x (hcs x hx)
  have hMb:∀ x∈cs,0≤M x.src∧M x.src≤10000:=fun x hx=>by rw [hMcs x hx]; exact hNb x (hcs x hx)
  refine cb (fun m ρ w=>∃ (k2:Nat),cd ρ [(4,.pointer (some ⟨b3,0,none⟩)),(6,.pointer (some ⟨b5,0,none⟩)),(65,.slice o d q),(66,iv (d:Int)),(67,iv (k2:Int))]∧Inv []  w0 w [(some b5,blk [iv pl.lo,iv pl.hi,.slice f a g,.slice o d q,.slice r u y,iv pl.geese,.slice A B C,iv s,.map (some b4)] 144),(some b4,fp es1 ck1),(some b3,blk [iv 0,iv 0,.slice none 0 0,.slice none 0 0,.slice none 0 0,iv 0,.slice none 0 0,iv 0,.map none] 144),(some b2,blk [iv s,.slice tA tn tc] 57),(some b1,blk [iv pl.lo,iv pl.hi,.slice f a g,.slice o d q,.slice r u y,iv pl.geese,.slice A B C] 116)]∧(k2≤d)∧(∀ i z,i < k2→pl.stands[i]?=some z→inB (fg cs N s z.hr) z.lo z.hi=true)∧m=d - k2) (m:=d - 0) ⟨0,⟨rfl,rfl,rfl,rfl,rfl,trivial⟩,hI.pk [0,1,2,3,4] rfl rfl,(by omega),(fun i z h=>absurd h (by omega)),rfl⟩ ?_
  rintro m ρ w ⟨k2,hag,hI,hk2,hsk,hm⟩
  obtain ⟨ρ,rfl⟩:=hag.form; clear hag
  refine ab (rgn rfl (ac (cm rfl rfl ?_ ?_)))
  ·intro h7
   refine aa (ab (ah rfl (ak (ab (au ?_)))))
   refine ab (rgn rfl ?_)
   obtain ⟨b,G⟩:=bq (l:=pl.stands) (i:=k2) (by omega)
   obtain ⟨a1,a2,X,Y,Z⟩:=hSc.p.c2.at_ bf (by decide) G
   refine ac (cn k2 underlying25 sizeOf31 rfl X rfl rfl (by omega) ?_)
   refine ac (ef hI [iv b.src,iv b.hr,iv b.lo,iv b.hi,iv b.kn,iv b.un] isAgg31 sizeOf31 rfl rfl Y (by simp) Z ?_)
   refine ac (bh hI [iv 0,iv 0,iv 0,iv 0,iv 0,iv 0] zeroValue31 rfl fun Q w hI=>ac (aq hI 0 6 [iv b.src,iv b.hr,iv b.lo,iv b.hi,iv b.kn,iv b.un] sizeOf31 rfl rfl rfl rfl rfl (Nat.le_of_ble_eq_true rfl) fun w hI=>aa (ab (dh hI [0,1,2,3,4,5] (by decide) rfl rfl rfl fun hsub=>ap 0 (.agg #[iv pl.lo,iv pl.hi,.slice f a g,.slice o d q,.slice r u y,iv pl.geese,.slice A B C,iv s,.map (some b4)]) hsub rfl (by kernel_rfl) (fun w hI=>ar hI 1 9 [iv pl.lo,iv pl.hi,.slice f a g,.slice o d q,.slice r u y,iv pl.geese,.slice A B C,iv s,.map (some b4)] isAgg144 sizeOf144 rfl rfl rfl rfl br) ?_))))
   refine alp 1 (.pointer (some ⟨Q,1,none⟩)) hsub rfl (by kernel_rfl) (fun _=>rfl) ?_
   refine ap 2 (iv b.hr) hsub rfl (by kernel_rfl) (fun w hI=>ag hI 0 (iv b.hr) isAgg3 rfl rfl rfl br) ?_
   refine ap 3 (iv (fg cs M s b.hr)) hsub rfl (by kernel_rfl) (fun w hI=>co 107 [.agg #[iv pl.lo,iv pl.hi,.slice f a g,.slice o d q,.slice r u y,iv pl.geese,.slice A B C,iv s,.map (some b4)],iv b.hr] (by kernel_rfl) (left_c _ pl f a g o d q r u y cs A B C (hSc.inv0 hI) b4 ck1 es1 M (hI.has 2 _ _ rfl).1 hM1 s b.hr hs hMb) (fun v' w' h=>h)) ?_
   refine alp 4 (.pointer (some ⟨Q,2,none⟩)) hsub rfl (by kernel_rfl) (fun _=>rfl) ?_
   refine ap 5 (.agg #[iv b.lo,iv b.hi]) hsub rfl (by kernel_rfl) (fun w hI=>ar hI 0 2 [iv b.lo,iv b.hi] isAgg23 sizeOf23 rfl rfl rfl rfl br) ?_
   rcases Bool.eq_false_or_eq_true (inB (fg cs M s b.hr) b.lo b.hi) with h8 | h8
   ·refine ap 6 (.bool true) hsub rfl (by kernel_rfl) (fun w hI=>co 154 [iv (fg cs M s b.hr),.agg #[iv b.lo,iv b.hi]] (by kernel_rfl) (inRange_c (fg cs M s b.hr) b.lo b.hi _) (fun v' w' h=>⟨h.1.trans (congrArg Value.bool h8),h.2⟩)) ?_
    refine alp 7 (.bool false) hsub rfl (by kernel_rfl) (fun _=>rfl) ?_
    refine cp rfl (fun w hI=>?_)
    refine ai rfl (ak (rgn rfl (ac (cj rfl rfl (by omega) ?_))))
    refine pu (iv ((k2:Int)+1)) rfl (aa ?_)
    exact ⟨rfl,_,(by omega),⟨k2+1,⟨rfl,rfl,rfl,rfl,rfl,trivial⟩,hI.pk [1,2,3,4,5] rfl rfl,(by omega),(st_stepT (F:=fun z=>inB (fg cs N s z.hr) z.lo z.hi) hsk G (by rw [← gx hMcs]; exact h8)),rfl⟩⟩
   refine ap 6 (.bool false) hsub rfl (by kernel_rfl) (fun w hI=>co 154 [iv (fg cs M s b.hr),.agg #[iv b.lo,iv b.hi]] (by kernel_rfl) (inRange_c (fg cs M s b.hr) b.lo b.hi _) (fun v' w' h=>⟨h.1.trans (congrArg Value.bool h8),h.2⟩)) ?_
   refine alp 7 (.bool true) hsub rfl (by kernel_rfl) (fun _=>rfl) ?_
   refine cp rfl (fun w hI=>?_)
   refine ah rfl (ab (rgn rfl (pu (.agg #[iv 0,iv 0,.slice none 0 0,.slice none 0 0,.slice none 0 0,iv 0,.slice none 0 0,iv 0,.map none]) (by kernel_rfl) (ac (aq hI 3 9 [iv 0,iv 0,.slice none 0 0,.slice none 0 0,.slice none 0 0,iv 0,.slice none 0 0,iv 0,.map none] sizeOf144 rfl rfl rfl rfl rfl (Nat.le_of_ble_eq_true rfl) fun w hI=>pu (.bool false) rfl (aa (aj ?_)))))))
   exact ⟨.tuple #[.agg #[iv 0,iv 0,.slice none 0 0,.slice none 0 0,.slice none 0 0,iv 0,.slice none 0 0,iv 0,.map none],.bool false],Ret.ct rfl rfl (ce hI 3 9 [iv 0,iv 0,.slice none 0 0,.slice none 0 0,.slice none 0 0,iv 0,.slice none 0 0,iv 0,.map none] isAgg144 sizeOf144 rfl rfl rfl) rfl,(.inr ⟨Bool.eq_false_iff.2 fun hT=>(by rw [gx hMcs,(jk hT).2.2.2.1 _ (bz G)] at h8; cases h8),⟨_,_,_,_,_,_,_,_,_,_,_,_,_,_,_,_,_,rfl⟩,hI.below⟩)⟩
  intro h9
  refine aa (ab (ai rfl (bw ?_)))
  refine ab ?_
  replace hI:=hI.pk [0,1,3,4,2] rfl rfl
  refine dh hI [0,1,2,3] (by decide) rfl rfl rfl fun hsub=>ap 0 (.agg #[iv pl.lo,iv pl.hi,.slice f a g,.slice o d q,.slice r u y,iv pl.geese,.slice A B C,iv s,.map (some b4)]) hsub rfl (by kernel_rfl) (fun w hI=>ar hI 0 9 [iv pl.lo,iv pl.hi,.slice f a g,.slice o d q,.slice r u y,iv pl.geese,.slice A B C,iv s,.map (some b4)] isAgg144 sizeOf144 rfl rfl rfl rfl br) ?_
  refine ap 1 (.agg #[iv pl.lo,iv pl.hi,.slice f a g,.slice o d q,.slice r u y,iv pl.geese,.slice A B C,iv s,.map (some b4)]) hsub rfl (by kernel_rfl) (fun w hI=>ar hI 0 9 [iv pl.lo,iv pl.hi,.slice f a g,.slice o d q,.slice r u y,iv pl.geese,.slice A B C,iv s,.map (some b4)] isAgg144 sizeOf144 rfl rfl rfl rfl br) ?_
  refine ap 2 (iv (fg cs M s 99999)) hsub rfl (by kernel_rfl) (fun w hI=>co 107 [.agg #[iv pl.lo,iv pl.hi,.slice f a g,.slice o d q,.slice r u y,iv pl.geese,.slice A B C,iv s,.map (some b4)],iv 99999] (by kernel_rfl) (left_c _ pl f a g o d q r u y cs A B C (hSc.inv0 hI) b4 ck1 es1 M (hI.has 1 _ _ rfl).1 hM1 s 99999 hs hMb) (fun v' w' h=>h)) ?_
  by_cases R:0≤(fg cs M s 99999)
  ·refine ap 3 (.bool true) hsub rfl (by kernel_rfl) (fun w hI=>iq rfl rfl (fun _=>br) (fun h=>absurd R h)) ?_
   refine bc [4] (by kernel_rfl) rfl (cz fun w hI=>dg rfl (aq hI 4 9 [iv pl.lo,iv pl.hi,.slice f a g,.slice o d q,.slice r u y,iv pl.geese,.slice A B C,iv s,.map (some b4)] sizeOf144 rfl rfl rfl rfl rfl (Nat.le_of_ble_eq_true rfl) fun w hI=>⟨_,hI,dc (fun _ h=>h.pk [0,1,2,3] rfl rfl) ?_⟩))
   intro hsub
   refine alp 5 (.bool true) hsub rfl (by kernel_rfl) (fun _=>rfl) ?_
   refine cp rfl (fun w hI=>?_)
   refine aj ?_
   exact ⟨.tuple #[.agg #[iv pl.lo,iv pl.hi,.slice f a g,.slice o d q,.slice r u y,iv pl.geese,.slice A B C,iv s,.map (some b4)],.bool true],Ret.ct rfl rfl (ce hI 4 9 [iv pl.lo,iv pl.hi,.slice f a g,.slice o d q,.slice r u y,iv pl.geese,.slice A B C,iv s,.map (some b4)] isAgg144 sizeOf144 rfl rfl rfl) rfl,(.inl ⟨trueB_of (by omega) h1 hin (by omega) hsk (by omega) (by rw [← gx hMcs]; omega),b4,es1,ck1,M,rfl,hI.pk [1] rfl rfl,hM1,hMl⟩)⟩
  refine ap 3 (.bool false) hsub rfl (by kernel_rfl) (fun w hI=>iq rfl rfl (fun h=>absurd h R) (fun _=>br)) ?_
  refine bc [4] (by kernel_rfl) rfl (cz fun w hI=>dg rfl (aq hI 4 9 [iv pl.lo,iv pl.hi,.slice f a g,.slice o d q,.slice r u y,iv pl.geese,.slice A B C,iv s,.map (some b4)] sizeOf144 rfl rfl rfl rfl rfl (Nat.le_of_ble_eq_true rfl) fun w hI=>⟨_,hI,dc (fun _ h=>h.pk [0,1,2,3] rfl rfl) ?_⟩))
  intro hsub
  refine alp 5 (.bool false) hsub rfl (by kernel_rfl) (fun _=>rfl) ?_
  refine cp rfl (fun w hI=>?_)
  refine aj ?_
  exact ⟨.tuple #[.agg #[iv pl.lo,iv pl.hi,.slice f a g,.slice o d q,.slice r u y,iv pl.geese,.slice A B C,iv s,.map (some b4)],.bool false],Ret.ct rfl rfl (ce hI 4 9 [iv pl.lo,iv pl.hi,.slice f a g,.slice o d q,.slice r u y,iv pl.geese,.slice A B C,iv s,.map (some b4)] isAgg144 sizeOf144 rfl rfl rfl) rfl,(.inr ⟨Bool.eq_false_iff.2 fun hT=>(by have h1:=(jk hT).1; have h2:=(jk hT).2.2.2.2; try rw [← gx hMcs] at h2; omega),⟨_,_,_,_,_,_,_,_,_,_,_,_,_,_,_,_,_,rfl⟩,hI.below⟩)⟩
 intro a0 w hI
 refine pu (.bool true) rfl (pu (.bool true) rfl (sf 8 rfl (pu (.bool true) rfl (aa (ah rfl (ab (rgn rfl (pu (.agg #[iv 0,iv 0,.slice none 0 0,.slice none 0 0,.slice none 0 0,iv 0,.slice none 0 0,iv 0,.map none]) (by kernel_rfl) (ac (aq hI 0 9 [iv 0,iv 0,.slice none 0 0,.slice none 0 0,.slice none 0 0,iv 0,.slice none 0 0,iv 0,.map none] sizeOf144 rfl rfl rfl rfl rfl (Nat.le_of_ble_eq_true rfl) fun w hI=>pu (.bool false) rfl (aa (aj ?_))))))))))))
 exact ⟨.tuple #[.agg #[iv 0,iv 0,.slice none 0 0,.slice none 0 0,.slice none 0 0,iv 0,.slice none 0 0,iv 0,.map none],.bool false],Ret.ct rfl rfl (ce hI 0 9 [iv 0,iv 0,.slice none 0 0,.slice none 0 0,.slice none 0 0,iv 0,.slice none 0 0,iv 0,.map none] isAgg144 sizeOf144 rfl rfl rfl) rfl,(.inr ⟨Bool.eq_false_iff.2 fun hT=>Bool.noConfusion (a0.symm.trans (jk hT).2.1),⟨_,_,_,_,_,_,_,_,_,_,_,_,_,_,_,_,_,rfl⟩,hI.below⟩)⟩

theorem trueB_at {q:Pl} {cs:List Ld} {s:Int} {ts:List Int} {N:Int→Int} (hpl:0≤q.lo∧q.hi≤10000) (hfd:∀ x∈q.loads,0≤x.lo∧x.hi≤10000) (hcs:∀ x∈cs,x∈q.loads) (hNt:∀ (i:Nat) (x:Ld) (t:Int),q.loads[i]?=some x→ts[i]?=some t→N x.src=t) (h:trueB q cs s ts N=true):TrueAt q cs s ts N :=
  have ⟨h1,h2,h3,h4,h5⟩:=jk h
  ⟨h1,inB_bd hpl h2,hcs,fun x hx=>nb_of (k:=q.loads.length) hfd h1 hNt (fun i z t _=>h3 i z t) (Nat.le_refl _) x (hcs x hx),hNt,h2,h3,h4,h5⟩
structure AskAt (q:Pl) (cs:List Ld) (ts:List Int) (N:Int→Int):Prop where
  pl:0≤q.lo∧q.hi≤10000
  fd:∀ x∈q.loads,0≤x.lo∧x.hi≤10000
  cin:∀ x∈cs,x∈q.loads
  nt:∀ (i:Nat) (x:Ld) (t:Int),q.loads[i]?=some x→ts[i]?=some t→N x.src=t
theorem jm {P:Program} {ρ:Env} {B:List Nat} {w w0:World} {L:List (Option Nat × Obj)} {R:Value→World→Prop} (hI:Inv B w0 w L) {o:Oper} (f:FuncId) (args:List Value) {sc:List Value} {s:Int} {l:List Ld} {N:Int→Int} {tb:Bool} (h:(execOp (ev ρ) o).run P w=.ok (.enter f args.toArray) w)
    (hc:bn P f args w fun v w'=>(tb=true∧GivesTruth sc s l N w v w')∨(tb=false∧AnyTruth v∧Below w.heap.size w w'))
    (kk1:tb=true→∀ (mb:Nat) (es:List En) (ck:Nat) (M:Int→Int) w',Inv B w0 w' ((some mb,fp es ck) :: L)→(∀ j,(el es j).getD (.int .i64 0)=.int .i64 (M j))→(∀ x∈l,M x.src=N x.src)→R (.tuple #[.agg (sc++[Value.int .i64 s,Value.map (some mb)]).toArray,.bool true]) w')
    (kk2:tb=false→∀ (n0 n1:Int) (A1:Option Addr) (m1 k1:Nat) (A2:Option Addr) (m2 k2:Nat) (A3:Option Addr) (m3 k3:Nat) (n2:Int) (A4:Option Addr) (m4 k4:Nat) (n3:Int) (mb:Option Nat) w',Inv B w0 w' L→R (.tuple #[.agg #[.int .i64 n0,.int .i64 n1,.slice A1 m1 k1,.slice A2 m2 k2,.slice A3 m3 k3,.int .i64 n2,.slice A4 m4 k4,.int .i64 n3,.map mb],.bool false]) w'):cw P o ρ w R :=
  co f args h hc fun v w' hh=>by
    rcases hh with ⟨ht,mb,es,ck,M,hv,hN,h1,h2⟩ | ⟨hf,⟨n0,n1,A1,m1,k1,A2,m2,k2,A3,m3,k3,n2,A4,m4,k4,n3,mb,hv⟩,hb⟩
    · subst hv
      exact kk1 ht mb es ck M w' (hI.join hN) h1 h2
    subst hv
    exact kk2 hf n0 n1 A1 m1 k1 A2 m2 k2 A3 m3 k3 n2 A4 m4 k4 n3 mb w' (hI.call hb)

set_option maxHeartbeats 1600000 in
theorem CheckCartingG_c (w0:World) (pl:Pl) (a:Option Addr) (d p:Nat) (e:Option Addr) (f r:Nat) (g:Option Addr) (i t:Nat) (hP:gz w0 pl a d e f g i) (dy:Int) (s:Int) (tA:Option Addr) (tn tc:Nat) (ts:List Int) (hT:bi w0 tA (al dv ts)) (htn:tn=ts.length) (htx:ts.length≤9223372036854775807) (N:Int→Int) (hFA:fi pl dy=0→AskAt (ae pl dy) (ax pl dy) ts N):bn Tryz.prog 42 [.agg #[.int .i64 pl.lo,.int .i64 pl.hi,.slice a d p,.slice e f r,.slice g i t,.int .i64 pl.geese],.int .i64 dy,.agg #[.int .i64 s,.slice tA tn tc]] w0 fun v w=>v=.int .i64 (if fi pl dy=0 then if trueB (ae pl dy) (ax pl dy) s ts N=true then 0 else 16 else fi pl dy)∧Below w0.heap.size w0 w:=by
 have hm1:=hP.m1; have hm2:=hP.m2; have hm3:=hP.m3
 refine az (n:=26) func42 rfl ntmps42 rfl ?_
 have hI:=Inv.start w0
 refine ab (rgn rfl (ac (ca hI [iv pl.lo,iv pl.hi,.slice a d p,.slice e f r,.slice g i t,iv pl.geese] rfl fun b1 w hI=>ac (ca hI [iv s,.slice tA tn tc] rfl fun b2 w hI=>pu (iv 0) rfl (aa (ab (ab (rgn rfl (ac (ar hI 1 6 [iv pl.lo,iv pl.hi,.slice a d p,.slice e f r,.slice g i t,iv pl.geese] isAgg28 sizeOf28 rfl rfl rfl rfl ?_))))))))))
 refine pu (iv dy) rfl (ac (bg hI 85 [.agg #[iv pl.lo,iv pl.hi,.slice a d p,.slice e f r,.slice g i t,iv pl.geese],iv dy] (iv (fi pl dy)) (by kernel_rfl) (checkDay_c _ pl a d p e f r g i t (hP.inv0 hI) dy) fun w hI=>pu (iv (fi pl dy)) rfl (aa (ab (rgn rfl (pu (iv (fi pl dy)) rfl (ac (de rfl rfl ?_ ?_))))))))
 ·intro h1
  refine aa (ah rfl (ab (rgn rfl (pu (iv (fi pl dy)) rfl (pu (iv (fi pl dy)) rfl (aa (aj ?_)))))))
  exact ⟨iv (fi pl dy),Ret.r1 rfl rfl,⟨by simp only [h1,if_true,if_false,Bool.false_eq_true],hI.below⟩⟩
 intro h2
 refine aa (ai rfl (ak (ab (ab (dh hI [0,1] (by decide) rfl rfl rfl fun hsub=>ap 0 (.agg #[iv pl.lo,iv pl.hi,.slice a d p,.slice e f r,.slice g i t,iv pl.geese]) hsub rfl (by kernel_rfl) (fun w hI=>ar hI 1 6 [iv pl.lo,iv pl.hi,.slice a d p,.slice e f r,.slice g i t,iv pl.geese] isAgg28 sizeOf28 rfl rfl rfl rfl br) ?_)))))
 refine alp 1 (iv dy) hsub rfl (by kernel_rfl) (fun _=>rfl) ?_
 refine ap 3 (.agg #[iv s,.slice tA tn tc]) hsub rfl (by kernel_rfl) (fun w hI=>ar hI 0 2 [iv s,.slice tA tn tc] isAgg57 sizeOf57 rfl rfl rfl rfl br) ?_
 refine bc [2,8] (by kernel_rfl) rfl (each2 ?_ ?_)
 ·intro w hI
  have hsl:=jn pl dy; obtain ⟨hsl1,hsl2,hsl3⟩:=hsl; have hsc:=ij pl dy; have hok_:=eo (ik h2).1; have hok1:=hok_.s1; have hok2:=hok_.s2; have hok3:=hok_.s3
  refine dg rfl (jh hI (q:=ae pl dy) (cs:=ax pl dy) 86 [.agg #[iv pl.lo,iv pl.hi,.slice a d p,.slice e f r,.slice g i t,iv pl.geese],iv dy] (by kernel_rfl) (kc _ pl a d p e f r g i t (hP.inv0 hI) (eo (ik h2).1) dy) fun g3 c4 cl5 g7 c8 cl9 j k b3 m o b4 w hI r6 aV aW E=>⟨_,hI,dc (fun _ h=>h.pk [4,5] rfl rfl) ?_⟩)
  intro hsub
  refine bc [4,8] (by kernel_rfl) rfl (each2 ?_ ?_)
  ·intro w hI
   have hQ:=hFA h2
   refine dg rfl (jm hI (sc:=[iv (ae pl dy).lo,iv (ae pl dy).hi,slv g3 (ae pl dy).loads.length c4,slv g7 (ae pl dy).stands.length c8,slv j (ae pl dy).spells.length k,iv (ae pl dy).geese,slv m (ax pl dy).length o]) (s:=s) (l:=(ae pl dy).loads) (N:=N) 106 [.agg #[iv (ae pl dy).lo,iv (ae pl dy).hi,slv g3 (ae pl dy).loads.length c4,slv g7 (ae pl dy).stands.length c8,slv j (ae pl dy).spells.length k,iv (ae pl dy).geese,slv m (ax pl dy).length o],.agg #[iv s,.slice tA tn tc]] (by kernel_rfl) (truthG_c _ (ae pl dy) (g3.map fun b=>⟨b,0,none⟩) (ae pl dy).loads.length c4 (g7.map fun b=>⟨b,0,none⟩) (ae pl dy).stands.length c8 (j.map fun b=>⟨b,0,none⟩) (ae pl dy).spells.length k (ax pl dy) (m.map fun b=>⟨b,0,none⟩) (ax pl dy).length o ⟨⟨(hI.rowCells 0 rfl r6),rfl,(hI.rowCells 1 rfl aV),rfl,(hI.rowCells 2 rfl aW),rfl,(by omega),(by omega),(by omega)⟩,(hI.rowCells 3 rfl E),rfl,E.cap,(by omega),(by omega),(by omega),(by omega)⟩ s tA tn tc ts (hT.inv0 hI) htn htx N hQ.pl hQ.fd hQ.cin hQ.nt) ?_ ?_)
   ·
    intro hT19 mb20 b5 b6 M23 w hI hN24 b7
    have hTA:=trueB_at hQ.pl hQ.fd hQ.cin hQ.nt hT19
    refine ⟨_,hI,dc (fun _ h=>h.pk [5,6] rfl rfl) ?_⟩
    intro hsub
    refine alp 5 (.tuple #[.agg #[iv (ae pl dy).lo,iv (ae pl dy).hi,slv g3 (ae pl dy).loads.length c4,slv g7 (ae pl dy).stands.length c8,slv j (ae pl dy).spells.length k,iv (ae pl dy).geese,slv m (ax pl dy).length o,iv s,.map (some mb20)],.bool true]) hsub rfl (by kernel_rfl) (fun _=>rfl) ?_
    refine alp 6 (.agg #[iv (ae pl dy).lo,iv (ae pl dy).hi,slv g3 (ae pl dy).loads.length c4,slv g7 (ae pl dy).stands.length c8,slv j (ae pl dy).spells.length k,iv (ae pl dy).geese,slv m (ax pl dy).length o,iv s,.map (some mb20)]) hsub rfl (by kernel_rfl) (fun _=>rfl) ?_
    refine alp 7 (.bool true) hsub rfl (by kernel_rfl) (fun _=>rfl) ?_
    refine bc [8] (by kernel_rfl) rfl (cz fun w hI=>dg rfl (bh hI [iv 0,iv 0,.slice none 0 0,.slice none 0 0,.slice none 0 0,iv 0,.slice none 0 0,iv 0,.map none] zeroValue144 rfl fun b8 w hI=>⟨_,hI,dc (fun _ h=>h.pk [6,7] rfl rfl) ?_⟩))
    intro hsub
    refine bc [9] (by kernel_rfl) rfl (cz fun w hI=>dg rfl (aq hI 0 9 [iv (ae pl dy).lo,iv (ae pl dy).hi,slv g3 (ae pl dy).loads.length c4,slv g7 (ae pl dy).stands.length c8,slv j (ae pl dy).spells.length k,iv (ae pl dy).geese,slv m (ax pl dy).length o,iv s,.map (some mb20)] sizeOf144 rfl rfl rfl rfl rfl (Nat.le_of_ble_eq_true rfl) fun w hI=>⟨_,hI,dc (fun _ h=>h.pk [6,7] rfl rfl) ?_⟩))
    intro hsub
    refine alp 10 (.bool true) hsub rfl (by kernel_rfl) (fun _=>rfl) ?_
    refine cp rfl (fun w hI=>?_)
    refine ab (rgn rfl (pu (.bool true) rfl (pu (.bool false) rfl (aa (ai rfl (ak (ab (rgn rfl (pu (iv 0) rfl ?_)))))))))
    refine aa (aj ?_)
    exact ⟨iv 0,Ret.r1 rfl rfl,⟨by simp only [h2,hT19,if_true,if_false,Bool.false_eq_true],hI.below⟩⟩
   intro hT19 F G H I J K L M O P Q R S T U V W w hI
   refine ⟨_,hI,dc (fun _ h=>h.pk [4,5] rfl rfl) ?_⟩
   intro hsub
   refine alp 5 (.tuple #[.agg #[iv F,iv G,.slice H I J,.slice K L M,.slice O P Q,iv R,.slice S T U,iv V,.map W],.bool false]) hsub rfl (by kernel_rfl) (fun _=>rfl) ?_
   refine alp 6 (.agg #[iv F,iv G,.slice H I J,.slice K L M,.slice O P Q,iv R,.slice S T U,iv V,.map W]) hsub rfl (by kernel_rfl) (fun _=>rfl) ?_
   refine alp 7 (.bool false) hsub rfl (by kernel_rfl) (fun _=>rfl) ?_
   refine bc [8] (by kernel_rfl) rfl (cz fun w hI=>dg rfl (bh hI [iv 0,iv 0,.slice none 0 0,.slice none 0 0,.slice none 0 0,iv 0,.slice none 0 0,iv 0,.map none] zeroValue144 rfl fun b9 w hI=>⟨_,hI,dc (fun _ h=>h.pk [5,6] rfl rfl) ?_⟩))
   intro hsub
   refine bc [9] (by kernel_rfl) rfl (cz fun w hI=>dg rfl (aq hI 0 9 [iv F,iv G,.slice H I J,.slice K L M,.slice O P Q,iv R,.slice S T U,iv V,.map W] sizeOf144 rfl rfl rfl rfl rfl (Nat.le_of_ble_eq_true rfl) fun w hI=>⟨_,hI,dc (fun _ h=>h.pk [5,6] rfl rfl) ?_⟩))
   intro hsub
   refine alp 10 (.bool false) hsub rfl (by kernel_rfl) (fun _=>rfl) ?_
   refine cp rfl (fun w hI=>?_)
   refine ab (rgn rfl (pu (.bool false) rfl (pu (.bool true) rfl (aa (ah rfl (ab (rgn rfl (pu (iv 16) rfl (aa ?_)))))))))
   refine aj ?_
   exact ⟨iv 16,Ret.r1 rfl rfl,⟨by simp only [h2,hT19,if_true,if_false,Bool.false_eq_true],hI.below⟩⟩
  intro w hI
  refine dg rfl (bh hI [iv 0,iv 0,.slice none 0 0,.slice none 0 0,.slice none 0 0,iv 0,.slice none 0 0,iv 0,.map none] zeroValue144 rfl fun bA w hI=>⟨_,hI,dc (fun _ h=>h.pk [5,6] rfl rfl) ?_⟩)
  intro hsub
  refine bc [4] (by kernel_rfl) rfl (cz ?_)
  intro w hI
  have hQ:=hFA h2
  refine dg rfl (jm hI (sc:=[iv (ae pl dy).lo,iv (ae pl dy).hi,slv g3 (ae pl dy).loads.length c4,slv g7 (ae pl dy).stands.length c8,slv j (ae pl dy).spells.length k,iv (ae pl dy).geese,slv m (ax pl dy).length o]) (s:=s) (l:=(ae pl dy).loads) (N:=N) 106 [.agg #[iv (ae pl dy).lo,iv (ae pl dy).hi,slv g3 (ae pl dy).loads.length c4,slv g7 (ae pl dy).stands.length c8,slv j (ae pl dy).spells.length k,iv (ae pl dy).geese,slv m (ax pl dy).length o],.agg #[iv s,.slice tA tn tc]] (by kernel_rfl) (truthG_c _ (ae pl dy) (g3.map fun b=>⟨b,0,none⟩) (ae pl dy).loads.length c4 (g7.map fun b=>⟨b,0,none⟩) (ae pl dy).stands.length c8 (j.map fun b=>⟨b,0,none⟩) (ae pl dy).spells.length k (ax pl dy) (m.map fun b=>⟨b,0,none⟩) (ax pl dy).length o ⟨⟨(hI.rowCells 1 rfl r6),rfl,(hI.rowCells 2 rfl aV),rfl,(hI.rowCells 3 rfl aW),rfl,(by omega),(by omega),(by omega)⟩,(hI.rowCells 4 rfl E),rfl,E.cap,(by omega),(by omega),(by omega),(by omega)⟩ s tA tn tc ts (hT.inv0 hI) htn htx N hQ.pl hQ.fd hQ.cin hQ.nt) ?_ ?_)
  ·
   intro hT46 mb47 bB bC M50 w hI hN51 bD
   have hTA:=trueB_at hQ.pl hQ.fd hQ.cin hQ.nt hT46
   refine ⟨_,hI,dc (fun _ h=>h.pk [6,7] rfl rfl) ?_⟩
   intro hsub
   refine alp 5 (.tuple #[.agg #[iv (ae pl dy).lo,iv (ae pl dy).hi,slv g3 (ae pl dy).loads.length c4,slv g7 (ae pl dy).stands.length c8,slv j (ae pl dy).spells.length k,iv (ae pl dy).geese,slv m (ax pl dy).length o,iv s,.map (some mb47)],.bool true]) hsub rfl (by kernel_rfl) (fun _=>rfl) ?_
   refine alp 6 (.agg #[iv (ae pl dy).lo,iv (ae pl dy).hi,slv g3 (ae pl dy).loads.length c4,slv g7 (ae pl dy).stands.length c8,slv j (ae pl dy).spells.length k,iv (ae pl dy).geese,slv m (ax pl dy).length o,iv s,.map (some mb47)]) hsub rfl (by kernel_rfl) (fun _=>rfl) ?_
   refine alp 7 (.bool true) hsub rfl (by kernel_rfl) (fun _=>rfl) ?_
   refine bc [9] (by kernel_rfl) rfl (cz fun w hI=>dg rfl (aq hI 1 9 [iv (ae pl dy).lo,iv (ae pl dy).hi,slv g3 (ae pl dy).loads.length c4,slv g7 (ae pl dy).stands.length c8,slv j (ae pl dy).spells.length k,iv (ae pl dy).geese,slv m (ax pl dy).length o,iv s,.map (some mb47)] sizeOf144 rfl rfl rfl rfl rfl (Nat.le_of_ble_eq_true rfl) fun w hI=>⟨_,hI,dc (fun _ h=>h.pk [6,7] rfl rfl) ?_⟩))
   intro hsub
   refine alp 10 (.bool true) hsub rfl (by kernel_rfl) (fun _=>rfl) ?_
   refine cp rfl (fun w hI=>?_)
   refine ab (rgn rfl (pu (.bool true) rfl (pu (.bool false) rfl (aa (ai rfl (ak (ab (rgn rfl (pu (iv 0) rfl ?_)))))))))
   refine aa (aj ?_)
   exact ⟨iv 0,Ret.r1 rfl rfl,⟨by simp only [h2,hT46,if_true,if_false,Bool.false_eq_true],hI.below⟩⟩
  intro hT46 X Y Z a0 a1 a2 a3 a4 a5 a6 a7 a8 a9 aA aB aC aD w hI
  refine ⟨_,hI,dc (fun _ h=>h.pk [5,6] rfl rfl) ?_⟩
  intro hsub
  refine alp 5 (.tuple #[.agg #[iv X,iv Y,.slice Z a0 a1,.slice a2 a3 a4,.slice a5 a6 a7,iv a8,.slice a9 aA aB,iv aC,.map aD],.bool false]) hsub rfl (by kernel_rfl) (fun _=>rfl) ?_
  refine alp 6 (.agg #[iv X,iv Y,.slice Z a0 a1,.slice a2 a3 a4,.slice a5 a6 a7,iv a8,.slice a9 aA aB,iv aC,.map aD]) hsub rfl (by kernel_rfl) (fun _=>rfl) ?_
  refine alp 7 (.bool false) hsub rfl (by kernel_rfl) (fun _=>rfl) ?_
  refine bc [9] (by kernel_rfl) rfl (cz fun w hI=>dg rfl (aq hI 0 9 [iv X,iv Y,.slice Z a0 a1,.slice a2 a3 a4,.slice a5 a6 a7,iv a8,.slice a9 aA aB,iv aC,.map aD] sizeOf144 rfl rfl rfl rfl rfl (Nat.le_of_ble_eq_true rfl) fun w hI=>⟨_,hI,dc (fun _ h=>h.pk [5,6] rfl rfl) ?_⟩))
  intro hsub
  refine alp 10 (.bool false) hsub rfl (by kernel_rfl) (fun _=>rfl) ?_
  refine cp rfl (fun w hI=>?_)
  refine ab (rgn rfl (pu (.bool false) rfl (pu (.bool true) rfl (aa (ah rfl (ab (rgn rfl (pu (iv 16) rfl (aa ?_)))))))))
  refine aj ?_
  exact ⟨iv 16,Ret.r1 rfl rfl,⟨by simp only [h2,hT46,if_true,if_false,Bool.false_eq_true],hI.below⟩⟩
 intro w hI
 refine dg rfl (bh hI [iv 0,iv 0,.slice none 0 0,.slice none 0 0,.slice none 0 0,iv 0,.slice none 0 0,iv 0,.map none] zeroValue144 rfl fun bE w hI=>⟨_,hI,dc (fun _ h=>h.pk [1,2] rfl rfl) ?_⟩)
 intro hsub
 refine bc [2] (by kernel_rfl) rfl (cz ?_)
 intro w hI
 have hsl:=jn pl dy; obtain ⟨hsl1,hsl2,hsl3⟩:=hsl; have hsc:=ij pl dy; have hok_:=eo (ik h2).1; have hok1:=hok_.s1; have hok2:=hok_.s2; have hok3:=hok_.s3
 refine dg rfl (jh hI (q:=ae pl dy) (cs:=ax pl dy) 86 [.agg #[iv pl.lo,iv pl.hi,.slice a d p,.slice e f r,.slice g i t,iv pl.geese],iv dy] (by kernel_rfl) (kc _ pl a d p e f r g i t (hP.inv0 hI) (eo (ik h2).1) dy) fun u x bF y z bG A B bH C D bI w hI aY aZ b0 aX=>⟨_,hI,dc (fun _ h=>h.pk [5,6] rfl rfl) ?_⟩)
 intro hsub
 refine bc [4] (by kernel_rfl) rfl (cz ?_)
 intro w hI
 have hQ:=hFA h2
 refine dg rfl (jm hI (sc:=[iv (ae pl dy).lo,iv (ae pl dy).hi,slv u (ae pl dy).loads.length x,slv y (ae pl dy).stands.length z,slv A (ae pl dy).spells.length B,iv (ae pl dy).geese,slv C (ax pl dy).length D]) (s:=s) (l:=(ae pl dy).loads) (N:=N) 106 [.agg #[iv (ae pl dy).lo,iv (ae pl dy).hi,slv u (ae pl dy).loads.length x,slv y (ae pl dy).stands.length z,slv A (ae pl dy).spells.length B,iv (ae pl dy).geese,slv C (ax pl dy).length D],.agg #[iv s,.slice tA tn tc]] (by kernel_rfl) (truthG_c _ (ae pl dy) (u.map fun b=>⟨b,0,none⟩) (ae pl dy).loads.length x (y.map fun b=>⟨b,0,none⟩) (ae pl dy).stands.length z (A.map fun b=>⟨b,0,none⟩) (ae pl dy).spells.length B (ax pl dy) (C.map fun b=>⟨b,0,none⟩) (ax pl dy).length D ⟨⟨(hI.rowCells 0 rfl aY),rfl,(hI.rowCells 1 rfl aZ),rfl,(hI.rowCells 2 rfl b0),rfl,(by omega),(by omega),(by omega)⟩,(hI.rowCells 3 rfl aX),rfl,aX.cap,(by omega),(by omega),(by omega),(by omega)⟩ s tA tn tc ts (hT.inv0 hI) htn htx N hQ.pl hQ.fd hQ.cin hQ.nt) ?_ ?_)
 ·
  intro hT87 mb88 bJ bK M91 w hI hN92 bL
  have hTA:=trueB_at hQ.pl hQ.fd hQ.cin hQ.nt hT87
  refine ⟨_,hI,dc (fun _ h=>h.pk [6,7] rfl rfl) ?_⟩
  intro hsub
  refine alp 5 (.tuple #[.agg #[iv (ae pl dy).lo,iv (ae pl dy).hi,slv u (ae pl dy).loads.length x,slv y (ae pl dy).stands.length z,slv A (ae pl dy).spells.length B,iv (ae pl dy).geese,slv C (ax pl dy).length D,iv s,.map (some mb88)],.bool true]) hsub rfl (by kernel_rfl) (fun _=>rfl) ?_
  refine alp 6 (.agg #[iv (ae pl dy).lo,iv (ae pl dy).hi,slv u (ae pl dy).loads.length x,slv y (ae pl dy).stands.length z,slv A (ae pl dy).spells.length B,iv (ae pl dy).geese,slv C (ax pl dy).length D,iv s,.map (some mb88)]) hsub rfl (by kernel_rfl) (fun _=>rfl) ?_
  refine alp 7 (.bool true) hsub rfl (by kernel_rfl) (fun _=>rfl) ?_
  refine bc [9] (by kernel_rfl) rfl (cz fun w hI=>dg rfl (aq hI 5 9 [iv (ae pl dy).lo,iv (ae pl dy).hi,slv u (ae pl dy).loads.length x,slv y (ae pl dy).stands.length z,slv A (ae pl dy).spells.length B,iv (ae pl dy).geese,slv C (ax pl dy).length D,iv s,.map (some mb88)] sizeOf144 rfl rfl rfl rfl rfl (Nat.le_of_ble_eq_true rfl) fun w hI=>⟨_,hI,dc (fun _ h=>h.pk [6,7] rfl rfl) ?_⟩))
  intro hsub
  refine alp 10 (.bool true) hsub rfl (by kernel_rfl) (fun _=>rfl) ?_
  refine cp rfl (fun w hI=>?_)
  refine ab (rgn rfl (pu (.bool true) rfl (pu (.bool false) rfl (aa (ai rfl (ak (ab (rgn rfl (pu (iv 0) rfl ?_)))))))))
  refine aa (aj ?_)
  exact ⟨iv 0,Ret.r1 rfl rfl,⟨by simp only [h2,hT87,if_true,if_false,Bool.false_eq_true],hI.below⟩⟩
 intro hT87 aE aF aG aH aI aJ aK aL aM aN aO aP aQ aR aS aT aU w hI
 refine ⟨_,hI,dc (fun _ h=>h.pk [5,6] rfl rfl) ?_⟩
 intro hsub
 refine alp 5 (.tuple #[.agg #[iv aE,iv aF,.slice aG aH aI,.slice aJ aK aL,.slice aM aN aO,iv aP,.slice aQ aR aS,iv aT,.map aU],.bool false]) hsub rfl (by kernel_rfl) (fun _=>rfl) ?_
 refine alp 6 (.agg #[iv aE,iv aF,.slice aG aH aI,.slice aJ aK aL,.slice aM aN aO,iv aP,.slice aQ aR aS,iv aT,.map aU]) hsub rfl (by kernel_rfl) (fun _=>rfl) ?_
 refine alp 7 (.bool false) hsub rfl (by kernel_rfl) (fun _=>rfl) ?_
 refine bc [9] (by kernel_rfl) rfl (cz fun w hI=>dg rfl (aq hI 4 9 [iv aE,iv aF,.slice aG aH aI,.slice aJ aK aL,.slice aM aN aO,iv aP,.slice aQ aR aS,iv aT,.map aU] sizeOf144 rfl rfl rfl rfl rfl (Nat.le_of_ble_eq_true rfl) fun w hI=>⟨_,hI,dc (fun _ h=>h.pk [5,6] rfl rfl) ?_⟩))
 intro hsub
 refine alp 10 (.bool false) hsub rfl (by kernel_rfl) (fun _=>rfl) ?_
 refine cp rfl (fun w hI=>?_)
 refine ab (rgn rfl (pu (.bool false) rfl (pu (.bool true) rfl (aa (ah rfl (ab (rgn rfl (pu (iv 16) rfl (aa ?_)))))))))
 refine aj ?_
 exact ⟨iv 16,Ret.r1 rfl rfl,⟨by simp only [h2,hT87,if_true,if_false,Bool.false_eq_true],hI.below⟩⟩

set_option maxHeartbeats 1600000 in
theorem LeftG_c (w0:World) (pl:Pl) (g:Option Addr) (i p:Nat) (j:Option Addr) (k r:Nat) (m:Option Addr) (o t:Nat) (hP:gz w0 pl g i j k m o) (h dy:Int) (s:Int) (tA:Option Addr) (tn tc:Nat) (ts:List Int) (hT:bi w0 tA (al dv ts)) (htn:tn=ts.length) (htx:ts.length≤9223372036854775807) (N:Int→Int) (hFA:ec pl h dy=0→AskAt (ae pl dy) (ax pl dy) ts N):bn Tryz.prog 40 [.agg #[.int .i64 pl.lo,.int .i64 pl.hi,.slice g i p,.slice j k r,.slice m o t,.int .i64 pl.geese],.agg #[.int .i64 s,.slice tA tn tc],.int .i64 h,.int .i64 dy] w0 fun v w=>v=.tuple #[.int .i64 (if ec pl h dy=0 then if trueB (ae pl dy) (ax pl dy) s ts N=true then fg (ax pl dy) N s h else 0 else 0),.int .i64 (if ec pl h dy=0 then if trueB (ae pl dy) (ax pl dy) s ts N=true then 0 else 16 else ec pl h dy)]∧Below w0.heap.size w0 w:=by
 have hm1:=hP.m1; have hm2:=hP.m2; have hm3:=hP.m3
 refine az (n:=33) func40 rfl ntmps40 rfl ?_
 have hI:=Inv.start w0
 refine ab (rgn rfl (ac (ca hI [iv pl.lo,iv pl.hi,.slice g i p,.slice j k r,.slice m o t,iv pl.geese] rfl fun b1 w hI=>ac (ca hI [iv s,.slice tA tn tc] rfl fun b2 w hI=>pu (iv 0) rfl (pu (iv 0) rfl (aa (ab (ab (rgn rfl (ac (ar hI 1 6 [iv pl.lo,iv pl.hi,.slice g i p,.slice j k r,.slice m o t,iv pl.geese] isAgg28 sizeOf28 rfl rfl rfl rfl ?_)))))))))))
 refine pu (iv h) rfl (pu (iv dy) rfl (ac (bg hI 97 [.agg #[iv pl.lo,iv pl.hi,.slice g i p,.slice j k r,.slice m o t,iv pl.geese],iv h,iv dy] (iv (ec pl h dy)) (by kernel_rfl) (checkHour_c _ pl g i p j k r m o t (hP.inv0 hI) h dy) fun w hI=>pu (iv (ec pl h dy)) rfl (aa (ab (rgn rfl (pu (iv (ec pl h dy)) rfl (ac (de rfl rfl ?_ ?_)))))))))
 ·intro h1
  refine aa (ah rfl (ab (rgn rfl (pu (iv (ec pl h dy)) rfl (pu (iv 0) rfl (pu (iv (ec pl h dy)) rfl (aa (aj ?_))))))))
  exact ⟨.tuple #[iv 0,iv (ec pl h dy)],Ret.r2 rfl rfl rfl,⟨by simp only [h1,if_true,if_false,Bool.false_eq_true],hI.below⟩⟩
 intro h2
 refine aa (ai rfl (ak (ab (dh hI [0,1] (by decide) rfl rfl rfl fun hsub=>ap 0 (.agg #[iv pl.lo,iv pl.hi,.slice g i p,.slice j k r,.slice m o t,iv pl.geese]) hsub rfl (by kernel_rfl) (fun w hI=>ar hI 1 6 [iv pl.lo,iv pl.hi,.slice g i p,.slice j k r,.slice m o t,iv pl.geese] isAgg28 sizeOf28 rfl rfl rfl rfl br) ?_))))
 refine alp 1 (iv dy) hsub rfl (by kernel_rfl) (fun _=>rfl) ?_
 refine ap 3 (.agg #[iv s,.slice tA tn tc]) hsub rfl (by kernel_rfl) (fun w hI=>ar hI 0 2 [iv s,.slice tA tn tc] isAgg57 sizeOf57 rfl rfl rfl rfl br) ?_
 refine bc [2,8] (by kernel_rfl) rfl (each2 ?_ ?_)
 ·intro w hI
  have hsl:=jn pl dy; obtain ⟨hsl1,hsl2,hsl3⟩:=hsl; have hsc:=ij pl dy; have hok_:=eo (ip h2).1; have hok1:=hok_.s1; have hok2:=hok_.s2; have hok3:=hok_.s3
  refine dg rfl (jh hI (q:=ae pl dy) (cs:=ax pl dy) 86 [.agg #[iv pl.lo,iv pl.hi,.slice g i p,.slice j k r,.slice m o t,iv pl.geese],iv dy] (by kernel_rfl) (kc _ pl g i p j k r m o t (hP.inv0 hI) (eo (ip h2).1) dy) fun g3 c4 cl5 g7 c8 cl9 a d bD e f bE w hI r6 G H F=>⟨_,hI,dc (fun _ h=>h.pk [4,5] rfl rfl) ?_⟩)
  intro hsub
  refine bc [4,8] (by kernel_rfl) rfl (each2 ?_ ?_)
  ·intro w hI
   have hQ:=hFA h2
   refine dg rfl (jm hI (sc:=[iv (ae pl dy).lo,iv (ae pl dy).hi,slv g3 (ae pl dy).loads.length c4,slv g7 (ae pl dy).stands.length c8,slv a (ae pl dy).spells.length d,iv (ae pl dy).geese,slv e (ax pl dy).length f]) (s:=s) (l:=(ae pl dy).loads) (N:=N) 106 [.agg #[iv (ae pl dy).lo,iv (ae pl dy).hi,slv g3 (ae pl dy).loads.length c4,slv g7 (ae pl dy).stands.length c8,slv a (ae pl dy).spells.length d,iv (ae pl dy).geese,slv e (ax pl dy).length f],.agg #[iv s,.slice tA tn tc]] (by kernel_rfl) (truthG_c _ (ae pl dy) (g3.map fun b=>⟨b,0,none⟩) (ae pl dy).loads.length c4 (g7.map fun b=>⟨b,0,none⟩) (ae pl dy).stands.length c8 (a.map fun b=>⟨b,0,none⟩) (ae pl dy).spells.length d (ax pl dy) (e.map fun b=>⟨b,0,none⟩) (ax pl dy).length f ⟨⟨(hI.rowCells 0 rfl r6),rfl,(hI.rowCells 1 rfl G),rfl,(hI.rowCells 2 rfl H),rfl,(by omega),(by omega),(by omega)⟩,(hI.rowCells 3 rfl F),rfl,F.cap,(by omega),(by omega),(by omega),(by omega)⟩ s tA tn tc ts (hT.inv0 hI) htn htx N hQ.pl hQ.fd hQ.cin hQ.nt) ?_ ?_)
   ·
    intro hT19 mb20 b7 b8 M23 w hI hN24 aZ
    have hTA:=trueB_at hQ.pl hQ.fd hQ.cin hQ.nt hT19
    refine ⟨_,hI,dc (fun _ h=>h.pk [5,6] rfl rfl) ?_⟩
    intro hsub
    refine alp 5 (.tuple #[.agg #[iv (ae pl dy).lo,iv (ae pl dy).hi,slv g3 (ae pl dy).loads.length c4,slv g7 (ae pl dy).stands.length c8,slv a (ae pl dy).spells.length d,iv (ae pl dy).geese,slv e (ax pl dy).length f,iv s,.map (some mb20)],.bool true]) hsub rfl (by kernel_rfl) (fun _=>rfl) ?_
    refine alp 6 (.agg #[iv (ae pl dy).lo,iv (ae pl dy).hi,slv g3 (ae pl dy).loads.length c4,slv g7 (ae pl dy).stands.length c8,slv a (ae pl dy).spells.length d,iv (ae pl dy).geese,slv e (ax pl dy).length f,iv s,.map (some mb20)]) hsub rfl (by kernel_rfl) (fun _=>rfl) ?_
    refine alp 7 (.bool true) hsub rfl (by kernel_rfl) (fun _=>rfl) ?_
    refine bc [8] (by kernel_rfl) rfl (cz fun w hI=>dg rfl (bh hI [iv 0,iv 0,.slice none 0 0,.slice none 0 0,.slice none 0 0,iv 0,.slice none 0 0,iv 0,.map none] zeroValue144 rfl fun bF w hI=>⟨_,hI,dc (fun _ h=>h.pk [6,7] rfl rfl) ?_⟩))
    intro hsub
    refine bc [9] (by kernel_rfl) rfl (cz fun w hI=>dg rfl (aq hI 0 9 [iv (ae pl dy).lo,iv (ae pl dy).hi,slv g3 (ae pl dy).loads.length c4,slv g7 (ae pl dy).stands.length c8,slv a (ae pl dy).spells.length d,iv (ae pl dy).geese,slv e (ax pl dy).length f,iv s,.map (some mb20)] sizeOf144 rfl rfl rfl rfl rfl (Nat.le_of_ble_eq_true rfl) fun w hI=>⟨_,hI,dc (fun _ h=>h.pk [6,7] rfl rfl) ?_⟩))
    intro hsub
    refine alp 10 (.bool true) hsub rfl (by kernel_rfl) (fun _=>rfl) ?_
    refine cp rfl (fun w hI=>?_)
    refine ab (ab (rgn rfl (pu (.bool true) rfl (pu (.bool false) rfl (aa (ai rfl (ak (ab (rgn rfl ?_)))))))))
    refine ac (ar hI 0 9 [iv (ae pl dy).lo,iv (ae pl dy).hi,slv g3 (ae pl dy).loads.length c4,slv g7 (ae pl dy).stands.length c8,slv a (ae pl dy).spells.length d,iv (ae pl dy).geese,slv e (ax pl dy).length f,iv s,.map (some mb20)] isAgg144 sizeOf144 rfl rfl rfl rfl ?_)
    refine pu (iv h) rfl (ac (bg hI 107 [.agg #[iv (ae pl dy).lo,iv (ae pl dy).hi,slv g3 (ae pl dy).loads.length c4,slv g7 (ae pl dy).stands.length c8,slv a (ae pl dy).spells.length d,iv (ae pl dy).geese,slv e (ax pl dy).length f,iv s,.map (some mb20)],iv h] (iv (fg (ax pl dy) M23 s h)) (by kernel_rfl) (left_c _ (ae pl dy) (g3.map fun b=>⟨b,0,none⟩) (ae pl dy).loads.length c4 (g7.map fun b=>⟨b,0,none⟩) (ae pl dy).stands.length c8 (a.map fun b=>⟨b,0,none⟩) (ae pl dy).spells.length d (ax pl dy) (e.map fun b=>⟨b,0,none⟩) (ax pl dy).length f ⟨⟨(hI.rowCells 2 rfl r6),rfl,(hI.rowCells 3 rfl G),rfl,(hI.rowCells 4 rfl H),rfl,(by omega),(by omega),(by omega)⟩,(hI.rowCells 5 rfl F),rfl,F.cap,(by omega),(by omega),(by omega),(by omega)⟩ mb20 b8 b7 M23 (hI.has 1 _ _ rfl).1 hN24 s h hTA.s0 (fun x hx=>by rw [aZ x (hTA.cin x hx)]; exact hTA.nb x hx)) fun w hI=>pu (iv (fg (ax pl dy) M23 s h)) rfl (pu (iv 0) rfl (aa (aj ?_)))))
    exact ⟨.tuple #[iv (fg (ax pl dy) M23 s h),iv 0],Ret.r2 rfl rfl rfl,⟨by simp only [h2,hT19,gx (fun x hx=>aZ x (hTA.cin x hx)),if_true,if_false,Bool.false_eq_true],hI.below⟩⟩
   intro hT19 J K L M O P Q R S T U V W X Y Z a0 w hI
   refine ⟨_,hI,dc (fun _ h=>h.pk [4,5] rfl rfl) ?_⟩
   intro hsub
   refine alp 5 (.tuple #[.agg #[iv J,iv K,.slice L M O,.slice P Q R,.slice S T U,iv V,.slice W X Y,iv Z,.map a0],.bool false]) hsub rfl (by kernel_rfl) (fun _=>rfl) ?_
   refine alp 6 (.agg #[iv J,iv K,.slice L M O,.slice P Q R,.slice S T U,iv V,.slice W X Y,iv Z,.map a0]) hsub rfl (by kernel_rfl) (fun _=>rfl) ?_
   refine alp 7 (.bool false) hsub rfl (by kernel_rfl) (fun _=>rfl) ?_
   refine bc [8] (by kernel_rfl) rfl (cz fun w hI=>dg rfl (bh hI [iv 0,iv 0,.slice none 0 0,.slice none 0 0,.slice none 0 0,iv 0,.slice none 0 0,iv 0,.map none] zeroValue144 rfl fun bG w hI=>⟨_,hI,dc (fun _ h=>h.pk [5,6] rfl rfl) ?_⟩))
   intro hsub
   refine bc [9] (by kernel_rfl) rfl (cz fun w hI=>dg rfl (aq hI 0 9 [iv J,iv K,.slice L M O,.slice P Q R,.slice S T U,iv V,.slice W X Y,iv Z,.map a0] sizeOf144 rfl rfl rfl rfl rfl (Nat.le_of_ble_eq_true rfl) fun w hI=>⟨_,hI,dc (fun _ h=>h.pk [5,6] rfl rfl) ?_⟩))
   intro hsub
   refine alp 10 (.bool false) hsub rfl (by kernel_rfl) (fun _=>rfl) ?_
   refine cp rfl (fun w hI=>?_)
   refine ab (ab (rgn rfl (pu (.bool false) rfl (pu (.bool true) rfl (aa (ah rfl (ab (rgn rfl (pu (iv 0) rfl ?_)))))))))
   refine pu (iv 16) rfl (aa (aj ?_))
   exact ⟨.tuple #[iv 0,iv 16],Ret.r2 rfl rfl rfl,⟨by simp only [h2,hT19,if_true,if_false,Bool.false_eq_true],hI.below⟩⟩
  intro w hI
  refine dg rfl (bh hI [iv 0,iv 0,.slice none 0 0,.slice none 0 0,.slice none 0 0,iv 0,.slice none 0 0,iv 0,.map none] zeroValue144 rfl fun bH w hI=>⟨_,hI,dc (fun _ h=>h.pk [5,6] rfl rfl) ?_⟩)
  intro hsub
  refine bc [4] (by kernel_rfl) rfl (cz ?_)
  intro w hI
  have hQ:=hFA h2
  refine dg rfl (jm hI (sc:=[iv (ae pl dy).lo,iv (ae pl dy).hi,slv g3 (ae pl dy).loads.length c4,slv g7 (ae pl dy).stands.length c8,slv a (ae pl dy).spells.length d,iv (ae pl dy).geese,slv e (ax pl dy).length f]) (s:=s) (l:=(ae pl dy).loads) (N:=N) 106 [.agg #[iv (ae pl dy).lo,iv (ae pl dy).hi,slv g3 (ae pl dy).loads.length c4,slv g7 (ae pl dy).stands.length c8,slv a (ae pl dy).spells.length d,iv (ae pl dy).geese,slv e (ax pl dy).length f],.agg #[iv s,.slice tA tn tc]] (by kernel_rfl) (truthG_c _ (ae pl dy) (g3.map fun b=>⟨b,0,none⟩) (ae pl dy).loads.length c4 (g7.map fun b=>⟨b,0,none⟩) (ae pl dy).stands.length c8 (a.map fun b=>⟨b,0,none⟩) (ae pl dy).spells.length d (ax pl dy) (e.map fun b=>⟨b,0,none⟩) (ax pl dy).length f ⟨⟨(hI.rowCells 1 rfl r6),rfl,(hI.rowCells 2 rfl G),rfl,(hI.rowCells 3 rfl H),rfl,(by omega),(by omega),(by omega)⟩,(hI.rowCells 4 rfl F),rfl,F.cap,(by omega),(by omega),(by omega),(by omega)⟩ s tA tn tc ts (hT.inv0 hI) htn htx N hQ.pl hQ.fd hQ.cin hQ.nt) ?_ ?_)
  ·
   intro hT46 mb47 b9 bA M50 w hI hN51 b0
   have hTA:=trueB_at hQ.pl hQ.fd hQ.cin hQ.nt hT46
   refine ⟨_,hI,dc (fun _ h=>h.pk [6,7] rfl rfl) ?_⟩
   intro hsub
   refine alp 5 (.tuple #[.agg #[iv (ae pl dy).lo,iv (ae pl dy).hi,slv g3 (ae pl dy).loads.length c4,slv g7 (ae pl dy).stands.length c8,slv a (ae pl dy).spells.length d,iv (ae pl dy).geese,slv e (ax pl dy).length f,iv s,.map (some mb47)],.bool true]) hsub rfl (by kernel_rfl) (fun _=>rfl) ?_
   refine alp 6 (.agg #[iv (ae pl dy).lo,iv (ae pl dy).hi,slv g3 (ae pl dy).loads.length c4,slv g7 (ae pl dy).stands.length c8,slv a (ae pl dy).spells.length d,iv (ae pl dy).geese,slv e (ax pl dy).length f,iv s,.map (some mb47)]) hsub rfl (by kernel_rfl) (fun _=>rfl) ?_
   refine alp 7 (.bool true) hsub rfl (by kernel_rfl) (fun _=>rfl) ?_
   refine bc [9] (by kernel_rfl) rfl (cz fun w hI=>dg rfl (aq hI 1 9 [iv (ae pl dy).lo,iv (ae pl dy).hi,slv g3 (ae pl dy).loads.length c4,slv g7 (ae pl dy).stands.length c8,slv a (ae pl dy).spells.length d,iv (ae pl dy).geese,slv e (ax pl dy).length f,iv s,.map (some mb47)] sizeOf144 rfl rfl rfl rfl rfl (Nat.le_of_ble_eq_true rfl) fun w hI=>⟨_,hI,dc (fun _ h=>h.pk [6,7] rfl rfl) ?_⟩))
   intro hsub
   refine alp 10 (.bool true) hsub rfl (by kernel_rfl) (fun _=>rfl) ?_
   refine cp rfl (fun w hI=>?_)
   refine ab (ab (rgn rfl (pu (.bool true) rfl (pu (.bool false) rfl (aa (ai rfl (ak (ab (rgn rfl ?_)))))))))
   refine ac (ar hI 1 9 [iv (ae pl dy).lo,iv (ae pl dy).hi,slv g3 (ae pl dy).loads.length c4,slv g7 (ae pl dy).stands.length c8,slv a (ae pl dy).spells.length d,iv (ae pl dy).geese,slv e (ax pl dy).length f,iv s,.map (some mb47)] isAgg144 sizeOf144 rfl rfl rfl rfl ?_)
   refine pu (iv h) rfl (ac (bg hI 107 [.agg #[iv (ae pl dy).lo,iv (ae pl dy).hi,slv g3 (ae pl dy).loads.length c4,slv g7 (ae pl dy).stands.length c8,slv a (ae pl dy).spells.length d,iv (ae pl dy).geese,slv e (ax pl dy).length f,iv s,.map (some mb47)],iv h] (iv (fg (ax pl dy) M50 s h)) (by kernel_rfl) (left_c _ (ae pl dy) (g3.map fun b=>⟨b,0,none⟩) (ae pl dy).loads.length c4 (g7.map fun b=>⟨b,0,none⟩) (ae pl dy).stands.length c8 (a.map fun b=>⟨b,0,none⟩) (ae pl dy).spells.length d (ax pl dy) (e.map fun b=>⟨b,0,none⟩) (ax pl dy).length f ⟨⟨(hI.rowCells 2 rfl r6),rfl,(hI.rowCells 3 rfl G),rfl,(hI.rowCells 4 rfl H),rfl,(by omega),(by omega),(by omega)⟩,(hI.rowCells 5 rfl F),rfl,F.cap,(by omega),(by omega),(by omega),(by omega)⟩ mb47 bA b9 M50 (hI.has 0 _ _ rfl).1 hN51 s h hTA.s0 (fun x hx=>by rw [b0 x (hTA.cin x hx)]; exact hTA.nb x hx)) fun w hI=>pu (iv (fg (ax pl dy) M50 s h)) rfl (pu (iv 0) rfl (aa (aj ?_)))))
   exact ⟨.tuple #[iv (fg (ax pl dy) M50 s h),iv 0],Ret.r2 rfl rfl rfl,⟨by simp only [h2,hT46,gx (fun x hx=>b0 x (hTA.cin x hx)),if_true,if_false,Bool.false_eq_true],hI.below⟩⟩
  intro hT46 a1 a2 a3 a4 a5 a6 a7 a8 a9 aA aB aC aD aE aF aG aH w hI
  refine ⟨_,hI,dc (fun _ h=>h.pk [5,6] rfl rfl) ?_⟩
  intro hsub
  refine alp 5 (.tuple #[.agg #[iv a1,iv a2,.slice a3 a4 a5,.slice a6 a7 a8,.slice a9 aA aB,iv aC,.slice aD aE aF,iv aG,.map aH],.bool false]) hsub rfl (by kernel_rfl) (fun _=>rfl) ?_
  refine alp 6 (.agg #[iv a1,iv a2,.slice a3 a4 a5,.slice a6 a7 a8,.slice a9 aA aB,iv aC,.slice aD aE aF,iv aG,.map aH]) hsub rfl (by kernel_rfl) (fun _=>rfl) ?_
  refine alp 7 (.bool false) hsub rfl (by kernel_rfl) (fun _=>rfl) ?_
  refine bc [9] (by kernel_rfl) rfl (cz fun w hI=>dg rfl (aq hI 0 9 [iv a1,iv a2,.slice a3 a4 a5,.slice a6 a7 a8,.slice a9 aA aB,iv aC,.slice aD aE aF,iv aG,.map aH] sizeOf144 rfl rfl rfl rfl rfl (Nat.le_of_ble_eq_true rfl) fun w hI=>⟨_,hI,dc (fun _ h=>h.pk [5,6] rfl rfl) ?_⟩))
  intro hsub
  refine alp 10 (.bool false) hsub rfl (by kernel_rfl) (fun _=>rfl) ?_
  refine cp rfl (fun w hI=>?_)
  refine ab (ab (rgn rfl (pu (.bool false) rfl (pu (.bool true) rfl (aa (ah rfl (ab (rgn rfl (pu (iv 0) rfl ?_)))))))))
  refine pu (iv 16) rfl (aa (aj ?_))
  exact ⟨.tuple #[iv 0,iv 16],Ret.r2 rfl rfl rfl,⟨by simp only [h2,hT46,if_true,if_false,Bool.false_eq_true],hI.below⟩⟩
 intro w hI
 refine dg rfl (bh hI [iv 0,iv 0,.slice none 0 0,.slice none 0 0,.slice none 0 0,iv 0,.slice none 0 0,iv 0,.map none] zeroValue144 rfl fun bI w hI=>⟨_,hI,dc (fun _ h=>h.pk [1,2] rfl rfl) ?_⟩)
 intro hsub
 refine bc [2] (by kernel_rfl) rfl (cz ?_)
 intro w hI
 have hsl:=jn pl dy; obtain ⟨hsl1,hsl2,hsl3⟩:=hsl; have hsc:=ij pl dy; have hok_:=eo (ip h2).1; have hok1:=hok_.s1; have hok2:=hok_.s2; have hok3:=hok_.s3
 refine dg rfl (jh hI (q:=ae pl dy) (cs:=ax pl dy) 86 [.agg #[iv pl.lo,iv pl.hi,.slice g i p,.slice j k r,.slice m o t,iv pl.geese],iv dy] (by kernel_rfl) (kc _ pl g i p j k r m o t (hP.inv0 hI) (eo (ip h2).1) dy) fun u y bJ z A bK B C bL D E bM w hI b3 b4 b5 I=>⟨_,hI,dc (fun _ h=>h.pk [5,6] rfl rfl) ?_⟩)
 intro hsub
 refine bc [4] (by kernel_rfl) rfl (cz ?_)
 intro w hI
 have hQ:=hFA h2
 refine dg rfl (jm hI (sc:=[iv (ae pl dy).lo,iv (ae pl dy).hi,slv u (ae pl dy).loads.length y,slv z (ae pl dy).stands.length A,slv B (ae pl dy).spells.length C,iv (ae pl dy).geese,slv D (ax pl dy).length E]) (s:=s) (l:=(ae pl dy).loads) (N:=N) 106 [.agg #[iv (ae pl dy).lo,iv (ae pl dy).hi,slv u (ae pl dy).loads.length y,slv z (ae pl dy).stands.length A,slv B (ae pl dy).spells.length C,iv (ae pl dy).geese,slv D (ax pl dy).length E],.agg #[iv s,.slice tA tn tc]] (by kernel_rfl) (truthG_c _ (ae pl dy) (u.map fun b=>⟨b,0,none⟩) (ae pl dy).loads.length y (z.map fun b=>⟨b,0,none⟩) (ae pl dy).stands.length A (B.map fun b=>⟨b,0,none⟩) (ae pl dy).spells.length C (ax pl dy) (D.map fun b=>⟨b,0,none⟩) (ax pl dy).length E ⟨⟨(hI.rowCells 0 rfl b3),rfl,(hI.rowCells 1 rfl b4),rfl,(hI.rowCells 2 rfl b5),rfl,(by omega),(by omega),(by omega)⟩,(hI.rowCells 3 rfl I),rfl,I.cap,(by omega),(by omega),(by omega),(by omega)⟩ s tA tn tc ts (hT.inv0 hI) htn htx N hQ.pl hQ.fd hQ.cin hQ.nt) ?_ ?_)
 ·
  intro hT87 mb88 bB bC M91 w hI hN92 b6
  have hTA:=trueB_at hQ.pl hQ.fd hQ.cin hQ.nt hT87
  refine ⟨_,hI,dc (fun _ h=>h.pk [6,7] rfl rfl) ?_⟩
  intro hsub
  refine alp 5 (.tuple #[.agg #[iv (ae pl dy).lo,iv (ae pl dy).hi,slv u (ae pl dy).loads.length y,slv z (ae pl dy).stands.length A,slv B (ae pl dy).spells.length C,iv (ae pl dy).geese,slv D (ax pl dy).length E,iv s,.map (some mb88)],.bool true]) hsub rfl (by kernel_rfl) (fun _=>rfl) ?_
  refine alp 6 (.agg #[iv (ae pl dy).lo,iv (ae pl dy).hi,slv u (ae pl dy).loads.length y,slv z (ae pl dy).stands.length A,slv B (ae pl dy).spells.length C,iv (ae pl dy).geese,slv D (ax pl dy).length E,iv s,.map (some mb88)]) hsub rfl (by kernel_rfl) (fun _=>rfl) ?_
  refine alp 7 (.bool true) hsub rfl (by kernel_rfl) (fun _=>rfl) ?_
  refine bc [9] (by kernel_rfl) rfl (cz fun w hI=>dg rfl (aq hI 5 9 [iv (ae pl dy).lo,iv (ae pl dy).hi,slv u (ae pl dy).loads.length y,slv z (ae pl dy).stands.length A,slv B (ae pl dy).spells.length C,iv (ae pl dy).geese,slv D (ax pl dy).length E,iv s,.map (some mb88)] sizeOf144 rfl rfl rfl rfl rfl (Nat.le_of_ble_eq_true rfl) fun w hI=>⟨_,hI,dc (fun _ h=>h.pk [6,7] rfl rfl) ?_⟩))
  intro hsub
  refine alp 10 (.bool true) hsub rfl (by kernel_rfl) (fun _=>rfl) ?_
  refine cp rfl (fun w hI=>?_)
  refine ab (ab (rgn rfl (pu (.bool true) rfl (pu (.bool false) rfl (aa (ai rfl (ak (ab (rgn rfl ?_)))))))))
  refine ac (ar hI 5 9 [iv (ae pl dy).lo,iv (ae pl dy).hi,slv u (ae pl dy).loads.length y,slv z (ae pl dy).stands.length A,slv B (ae pl dy).spells.length C,iv (ae pl dy).geese,slv D (ax pl dy).length E,iv s,.map (some mb88)] isAgg144 sizeOf144 rfl rfl rfl rfl ?_)
  refine pu (iv h) rfl (ac (bg hI 107 [.agg #[iv (ae pl dy).lo,iv (ae pl dy).hi,slv u (ae pl dy).loads.length y,slv z (ae pl dy).stands.length A,slv B (ae pl dy).spells.length C,iv (ae pl dy).geese,slv D (ax pl dy).length E,iv s,.map (some mb88)],iv h] (iv (fg (ax pl dy) M91 s h)) (by kernel_rfl) (left_c _ (ae pl dy) (u.map fun b=>⟨b,0,none⟩) (ae pl dy).loads.length y (z.map fun b=>⟨b,0,none⟩) (ae pl dy).stands.length A (B.map fun b=>⟨b,0,none⟩) (ae pl dy).spells.length C (ax pl dy) (D.map fun b=>⟨b,0,none⟩) (ax pl dy).length E ⟨⟨(hI.rowCells 1 rfl b3),rfl,(hI.rowCells 2 rfl b4),rfl,(hI.rowCells 3 rfl b5),rfl,(by omega),(by omega),(by omega)⟩,(hI.rowCells 4 rfl I),rfl,I.cap,(by omega),(by omega),(by omega),(by omega)⟩ mb88 bC bB M91 (hI.has 0 _ _ rfl).1 hN92 s h hTA.s0 (fun x hx=>by rw [b6 x (hTA.cin x hx)]; exact hTA.nb x hx)) fun w hI=>pu (iv (fg (ax pl dy) M91 s h)) rfl (pu (iv 0) rfl (aa (aj ?_)))))
  exact ⟨.tuple #[iv (fg (ax pl dy) M91 s h),iv 0],Ret.r2 rfl rfl rfl,⟨by simp only [h2,hT87,gx (fun x hx=>b6 x (hTA.cin x hx)),if_true,if_false,Bool.false_eq_true],hI.below⟩⟩
 intro hT87 aI aJ aK aL aM aN aO aP aQ aR aS aT aU aV aW aX aY w hI
 refine ⟨_,hI,dc (fun _ h=>h.pk [5,6] rfl rfl) ?_⟩
 intro hsub
 refine alp 5 (.tuple #[.agg #[iv aI,iv aJ,.slice aK aL aM,.slice aN aO aP,.slice aQ aR aS,iv aT,.slice aU aV aW,iv aX,.map aY],.bool false]) hsub rfl (by kernel_rfl) (fun _=>rfl) ?_
 refine alp 6 (.agg #[iv aI,iv aJ,.slice aK aL aM,.slice aN aO aP,.slice aQ aR aS,iv aT,.slice aU aV aW,iv aX,.map aY]) hsub rfl (by kernel_rfl) (fun _=>rfl) ?_
 refine alp 7 (.bool false) hsub rfl (by kernel_rfl) (fun _=>rfl) ?_
 refine bc [9] (by kernel_rfl) rfl (cz fun w hI=>dg rfl (aq hI 4 9 [iv aI,iv aJ,.slice aK aL aM,.slice aN aO aP,.slice aQ aR aS,iv aT,.slice aU aV aW,iv aX,.map aY] sizeOf144 rfl rfl rfl rfl rfl (Nat.le_of_ble_eq_true rfl) fun w hI=>⟨_,hI,dc (fun _ h=>h.pk [5,6] rfl rfl) ?_⟩))
 intro hsub
 refine alp 10 (.bool false) hsub rfl (by kernel_rfl) (fun _=>rfl) ?_
 refine cp rfl (fun w hI=>?_)
 refine ab (ab (rgn rfl (pu (.bool false) rfl (pu (.bool true) rfl (aa (ah rfl (ab (rgn rfl (pu (iv 0) rfl ?_)))))))))
 refine pu (iv 16) rfl (aa (aj ?_))
 exact ⟨.tuple #[iv 0,iv 16],Ret.r2 rfl rfl rfl,⟨by simp only [h2,hT87,if_true,if_false,Bool.false_eq_true],hI.below⟩⟩

end Go.K
