import Derived.Test.YtinkdlmimiefaaaGreatProg
import Derived.Test.YtinkdlmimiefaaaGreatPM36
import Derived.Test.YtinkdlmimiefaaaGreatPKK1
namespace Go.K
open Go.Proofs.Tryz
open Go.Proofs Go.RowKit
set_option linter.unusedVariables false
set_option linter.unusedSimpArgs false
set_option maxRecDepth 100000
attribute [local irreducible] Seq cw cx fl opX

def trueB (q:Pl) (cs:List Ld) (s:Int) (ts:List Int) (N:Int→Int):Bool :=
  decide (ts.length=q.loads.length) && inB s q.lo q.hi && (q.loads.zip ts).all (fun x=>inB x.2 x.1.lo x.1.hi) && q.stands.all (fun x=>inB (fg cs N s x.hr) x.lo x.hi) && decide (0≤fg cs N s 99999)
theorem jk {q:Pl} {cs:List Ld} {s:Int} {ts:List Int} {N:Int→Int} (h:trueB q cs s ts N=true):ts.length=q.loads.length∧inB s q.lo q.hi=true∧(∀ (i:Nat) (x:Ld) (t:Int),q.loads[i]?=some x→ts[i]?=some t→inB t x.lo x.hi=true)∧(∀ x∈q.stands,inB (fg cs N s x.hr) x.lo x.hi=true)∧0≤fg cs N s 99999:=by
  simp only [trueB,Bool.and_eq_true,decide_eq_true_eq,List.all_eq_true] at h
  exact ⟨h.1.1.1.1,h.1.1.1.2,fun i x t hx ht=>h.1.1.2 (x,t) (bz (i:=i) (by rw [List.getElem?_zip_eq_some]; exact ⟨hx,ht⟩)),h.1.2,h.2⟩
def AnyTruth (v:Value):Prop:=∃ (n0 n1:Int) (A1:Option Addr) (m1 k1:Nat) (A2:Option Addr) (m2 k2:Nat) (A3:Option Addr) (m3 k3:Nat) (n2:Int) (A4:Option Addr) (m4 k4:Nat) (n3:Int) (mb:Option Nat),v=.tuple #[.agg (qn9 n0 n1 A1 m1 k1 A2 m2 k2 A3 m3 k3 n2 A4 m4 k4 n3 mb).toArray,.bool false]
theorem inB_bd {n lo hi:Int} (h:0≤lo∧hi≤10000) (hb:inB n lo hi=true):0≤n∧n≤10000:=by
  simp only [inB,Bool.and_eq_true,decide_eq_true_eq] at hb
  omega
theorem in_stepT {l:List Ld} {ts:List Int} {k:Nat} {x:Ld} {y:Int} (h:∀ i z t,i < k→l[i]?=some z→ts[i]?=some t→inB t z.lo z.hi=true) (hx:l[k]?=some x) (hy:ts[k]?=some y) (hb:inB y x.lo x.hi=true):∀ i z t,i < k+1→l[i]?=some z→ts[i]?=some t→inB t z.lo z.hi=true:=fun i z t hi hz ht=>by
  rcases Nat.lt_or_ge i k with h1 | h1
  · exact h i z t h1 hz ht
  rw [show i=k by omega] at hz ht
  rw [hx] at hz; rw [hy] at ht
  injection hz with hz; injection ht with ht
  subst hz ht; exact hb
theorem st_stepT {l:List Ld} {F:Ld→Bool} {k:Nat} {x:Ld} (h:∀ i z,i < k→l[i]?=some z→F z=true) (hx:l[k]?=some x) (hb:F x=true):∀ i z,i < k+1→l[i]?=some z→F z=true:=fun i z hi hz=>by
  rcases Nat.lt_or_ge i k with h1 | h1
  · exact h i z h1 hz
  rw [show i=k by omega,hx] at hz
  injection hz with hz
  subst hz; exact hb
theorem nb_of {l:List Ld} {ts:List Int} {N:Int→Int} {k:Nat} (hfd:∀ x∈l,0≤x.lo∧x.hi≤10000) (hlen:ts.length=l.length) (hNt:∀ (i:Nat) (x:Ld) (t:Int),l[i]?=some x→ts[i]?=some t→N x.src=t) (h:∀ i z t,i < k→l[i]?=some z→ts[i]?=some t→inB t z.lo z.hi=true) (hk:l.length≤k):∀ x∈l,0≤N x.src∧N x.src≤10000:=fun x hx=>by
  obtain ⟨i,hi,e⟩:=List.getElem_of_mem hx
  have h1:l[i]?=some x:=by rw [List.getElem?_eq_getElem hi,e]
  have h2:ts[i]?=some ts[i]:=List.getElem?_eq_getElem (by omega)
  rw [hNt i x _ h1 h2]
  exact inB_bd (hfd x hx) (h i x _ (by omega) h1 h2)
theorem trueB_of {q:Pl} {cs:List Ld} {s:Int} {ts:List Int} {N:Int→Int} {k k2:Nat} (hlen:ts.length=q.loads.length) (hs:inB s q.lo q.hi=true) (h:∀ i z t,i < k→q.loads[i]?=some z→ts[i]?=some t→inB t z.lo z.hi=true) (hk:q.loads.length≤k) (h2:∀ i z,i < k2→q.stands[i]?=some z→inB (fg cs N s z.hr) z.lo z.hi=true) (hk2:q.stands.length≤k2) (h0:0≤fg cs N s 99999):trueB q cs s ts N=true:=by
  simp only [trueB,Bool.and_eq_true,decide_eq_true_eq,List.all_eq_true]
  refine ⟨⟨⟨⟨hlen,hs⟩,fun x hx=>?_⟩,fun x hx=>?_⟩,h0⟩
  · obtain ⟨i,hi,e⟩:=List.getElem_of_mem hx
    rw [List.getElem_zip] at e
    subst e
    rw [List.length_zip] at hi
    exact h i _ _ (by omega) (List.getElem?_eq_getElem (by omega)) (List.getElem?_eq_getElem (by omega))
  obtain ⟨i,hi,e⟩:=List.getElem_of_mem hx
  exact h2 i x (by omega) (by rw [List.getElem?_eq_getElem hi,e])

set_option maxHeartbeats 1600000 in
theorem truthG_c (w0:World) (pl:Pl) (f:Option Addr) (a g:Nat) (o:Option Addr) (d q:Nat) (r:Option Addr) (u y:Nat) (cs:List Ld) (A:Option Addr) (B C:Nat) (hSc:ScIn w0 pl f a g o d q r u y cs A B C) (s:Int) (tA:Option Addr) (tn tc:Nat) (ts:List Int) (hT:bi w0 tA (al dv ts)) (htn:tn=ts.length) (htx:ts.length≤9223372036854775807) (N:Int→Int) (hpl:0≤pl.lo∧pl.hi≤10000) (hfd:∀ x∈pl.loads,0≤x.lo∧x.hi≤10000) (hcs:∀ x∈cs,x∈pl.loads) (hNt:∀ (i:Nat) (x:Ld) (t:Int),pl.loads[i]?=some x→ts[i]?=some t→N x.src=t):bn Tryz.prog 106 [.agg (qn7 pl.lo pl.hi f a g o d q r u y pl.geese A B C).toArray,.agg #[.int .i64 s,.slice tA tn tc]] w0 fun v w=>(trueB pl cs s ts N=true∧GivesTruth (qn7 pl.lo pl.hi f a g o d q r u y pl.geese A B C) s pl.loads N w0 v w)∨(trueB pl cs s ts N=false∧AnyTruth v∧Below w0.heap.size w0 w):=by
 have hm1:=hSc.p.m1; have hm2:=hSc.p.m2; have hm3:=hSc.p.m3; have hm4:=hSc.m4; have hk4:=hSc.k4; have hz1:=hSc.z1; have hz2:=hSc.z2; have hz3:=hSc.z3; have hz4:=hSc.z4
 refine az (n:=85) func106 rfl ntmps106 rfl ?_
 have hI:=Inv.start w0
 refine ab (rgn (by kernel_rfl) (ac (ca hI (qn7 pl.lo pl.hi f a g o d q r u y pl.geese A B C) rfl fun b1 w hI=>ac (ca hI [iv s,.slice tA tn tc] rfl fun b2 w hI=>ac (bh hI (qn9 0 0 none 0 0 none 0 0 none 0 0 0 none 0 0 0 none) zeroValue144 rfl fun b3 w hI=>pu kf (by kernel_rfl) (aa (ab (ab (rgn (by kernel_rfl) (pu (.pointer (some ⟨b2,0,none⟩)) (by kernel_rfl) (ac (ag hI 1 (iv s) isAgg3 rfl rfl rfl ?_))))))))))))
 refine pu (.pointer (some ⟨b1,0,none⟩)) (by kernel_rfl) (pu (.pointer (some ⟨b1,0,none⟩)) (by kernel_rfl) (ac (ar hI 2 2 [iv pl.lo,iv pl.hi] isAgg23 sizeOf23 rfl rfl rfl rfl ?_)))
 refine ac (fc hI 154 [iv s,.agg #[iv pl.lo,iv pl.hi]] (inB s pl.lo pl.hi) (by kernel_rfl) (inRange_c s pl.lo pl.hi _) ?_ ?_)
 ·intro h1 w hI
  refine pu kf (by kernel_rfl) (pu kf (by kernel_rfl) (puo (.pointer (some ⟨b2,1,none⟩)) ⟨(by kernel_rfl),(by kernel_rfl)⟩ (aw (by kernel_rfl) (ag hI 1 (.slice tA tn tc) isAgg41 rfl rfl rfl ?_))))
  refine puo (iv ((tn:Nat):Int)) ⟨(by kernel_rfl),(by kernel_rfl)⟩ (puo (.pointer (some ⟨b1,0,none⟩)) ⟨(by kernel_rfl),(by kernel_rfl)⟩ (puo (.pointer (some ⟨b1,2,none⟩)) ⟨(by kernel_rfl),(by kernel_rfl)⟩ (aw (by kernel_rfl) (ag hI 2 (.slice f a g) isAgg24 rfl rfl rfl ?_))))
  refine puo (iv ((a:Nat):Int)) ⟨(by kernel_rfl),(by kernel_rfl)⟩ (aw (by kernel_rfl) (de rfl rfl ?_ ?_))
  ·intro h2
   refine pu kg (by kernel_rfl) (aa (ah rfl (ab (rgn (by kernel_rfl) (pu (.agg (qn9 0 0 none 0 0 none 0 0 none 0 0 0 none 0 0 0 none).toArray) (by kernel_rfl) (ac (aq hI 0 9 (qn9 0 0 none 0 0 none 0 0 none 0 0 0 none 0 0 0 none) sizeOf144 rfl rfl rfl rfl rfl (kh rfl) fun w hI=>pu kf (by kernel_rfl) (aa (aj ?_)))))))))
   exact ⟨.tuple #[.agg (qn9 0 0 none 0 0 none 0 0 none 0 0 0 none 0 0 0 none).toArray,.bool false],Ret.ct rfl rfl (ce hI 0 9 (qn9 0 0 none 0 0 none 0 0 none 0 0 0 none 0 0 0 none) isAgg144 sizeOf144 rfl rfl rfl) rfl,(.inr ⟨Bool.eq_false_iff.2 fun hT=>(by have h1:=(jk hT).1; omega),⟨_,_,_,_,_,_,_,_,_,_,_,_,_,_,_,_,_,rfl⟩,hI.below⟩)⟩
  intro h3
  refine pu kf (by kernel_rfl) (aa (ai rfl (ak (ab (rgn (by kernel_rfl) (ac (ar hI 2 7 (qn7 pl.lo pl.hi f a g o d q r u y pl.geese A B C) isAgg116 sizeOf116 rfl rfl rfl rfl ?_)))))))
  refine pu (.pointer (some ⟨b2,0,none⟩)) (by kernel_rfl) (ac (ag hI 1 (iv s) isAgg3 rfl rfl rfl ?_))
  refine ac (s_makeMap hI fun b4 w hI=>pu (.agg (qn9 pl.lo pl.hi f a g o d q r u y pl.geese A B C s (some b4)).toArray) (by kernel_rfl) (ac (bh hI (qn9 0 0 none 0 0 none 0 0 none 0 0 0 none 0 0 0 none) zeroValue144 rfl fun b5 w hI=>ac (aq hI 0 9 (qn9 pl.lo pl.hi f a g o d q r u y pl.geese A B C s (some b4)) sizeOf144 rfl rfl rfl rfl rfl (kh rfl) fun w hI=>aa (ab (ab (rgn (by kernel_rfl) (pu (.pointer (some ⟨b1,0,none⟩)) (by kernel_rfl) (pu (.pointer (some ⟨b1,2,none⟩)) (by kernel_rfl) (ac (ag hI 4 (.slice f a g) isAgg24 rfl rfl rfl ?_)))))))))))
  refine pu (iv ((a:Nat):Int)) (by kernel_rfl) (pu (iv 0) (by kernel_rfl) (aa (au ?_)))
  have hs:0≤s∧s≤10000:=inB_bd hpl h1
  have hlen:tn=pl.loads.length:=by omega
  refine cb (fun m ρ w=>∃ (k:Nat) (es1:List En) (ck1:Nat) (M:Int→Int),cd ρ [(2,.pointer (some ⟨b1,0,none⟩)),(3,.pointer (some ⟨b2,0,none⟩)),(4,.pointer (some ⟨b3,0,none⟩)),(6,.pointer (some ⟨b5,0,none⟩)),(36,.slice f a g),(37,iv (a:Int)),(38,iv (k:Int))]∧Inv []  w0 w [(some b5,blk (qn9 pl.lo pl.hi f a g o d q r u y pl.geese A B C s (some b4)) 144),(some b4,fp es1 ck1),(some b3,blk (qn9 0 0 none 0 0 none 0 0 none 0 0 0 none 0 0 0 none) 144),(some b2,blk [iv s,.slice tA tn tc] 57),(some b1,blk (qn7 pl.lo pl.hi f a g o d q r u y pl.geese A B C) 116)]∧(k≤a)∧(MOk es1 ck1)∧(∀ j,(el es1 j).getD (iv 0)=iv (M j))∧(∀ i z,i < k→pl.loads[i]?=some z→M z.src=N z.src)∧(∀ i z t,i < k→pl.loads[i]?=some z→ts[i]?=some t→inB t z.lo z.hi=true)∧m=a - k) (m:=a - 0) ⟨0,[],0,(fun _=>0),⟨rfl,rfl,rfl,rfl,rfl,rfl,rfl,trivial⟩,hI.pk [0,1,2,3,4] rfl rfl,(by omega),⟨List.nodup_nil,List.nodup_nil,fun e he=>by cases he⟩,(fun _=>rfl),(fun i z h=>absurd h (by omega)),(fun i z t h=>absurd h (by omega)),rfl⟩ ?_
  rintro m ρ w ⟨k,es1,ck1,M,hag,hI,hk,ho1,hM1,hMk,hin,hm⟩
  obtain ⟨ρ,rfl⟩:=hag.form; clear hag
  refine ab (rgn (by kernel_rfl) (ac (cm rfl rfl ?_ ?_)))
  ·intro h4
   refine aa (ab (ah rfl (ak (ab (au ?_)))))
   refine ab (rgn (by kernel_rfl) (pu (iv (k:Int)) (by kernel_rfl) ?_))
   obtain ⟨x6,hx7⟩:=bq (l:=pl.loads) (i:=k) (by omega)
   obtain ⟨b8,o9,S,T,U⟩:=hSc.p.c1.at_ bf (by decide) hx7
   refine ac (cn k underlying24 sizeOf30 rfl S rfl rfl (by omega) ?_)
   refine ac (ef hI (eLd x6) isAgg30 sizeOf30 rfl rfl T (by simp) U ?_)
   refine ac (bh hI [iv 0,iv 0,iv 0,iv 0,iv 0,iv 0] zeroValue30 rfl fun H w hI=>pu (iv (k:Int)) (by kernel_rfl) (ac (aq hI 0 6 (eLd x6) sizeOf30 rfl rfl rfl rfl rfl (kh rfl) fun w hI=>aa (ab (ab (dh hI [0,1,2,3,4,5] (by decide) rfl (by kernel_rfl) (by kernel_rfl) fun hsub=>alp 0 (.pointer (some ⟨b2,1,none⟩)) hsub rfl (by kernel_rfl) (fun _=>(by kernel_rfl)) ?_))))))
   refine ap 1 (.slice tA tn tc) hsub rfl (by kernel_rfl) (fun w hI=>ag hI 4 (.slice tA tn tc) isAgg41 rfl rfl rfl br) ?_
   refine alp 2 (iv (k:Int)) hsub rfl (by kernel_rfl) (fun _=>(by kernel_rfl)) ?_
   obtain ⟨D,E⟩:=bq (l:=ts) (i:=k) (by omega)
   obtain ⟨I,J,K,L,O⟩:=hT.at_ cy (by decide) E
   refine ap 3 (.pointer (some ⟨I,J+k * 1,none⟩)) hsub rfl (by kernel_rfl) (fun w hI=>cn k underlying41 sizeOf3 rfl K rfl rfl (by omega) br) ?_
   refine ap 4 (iv D) hsub rfl (by kernel_rfl) (fun w hI=>dj hI (iv D) isAgg3 rfl L (by simp) (O 0 _ rfl) br) ?_
   refine alp 5 (.pointer (some ⟨H,2,none⟩)) hsub rfl (by kernel_rfl) (fun _=>(by kernel_rfl)) ?_
   refine ap 6 (.agg #[iv x6.lo,iv x6.hi]) hsub rfl (by kernel_rfl) (fun w hI=>ar hI 0 2 [iv x6.lo,iv x6.hi] isAgg23 sizeOf23 rfl rfl rfl rfl br) ?_
   rcases Bool.eq_false_or_eq_true (inB D x6.lo x6.hi) with h5 | h5
   ·refine ap 7 kg hsub rfl (by kernel_rfl) (fun w hI=>co 154 [iv D,.agg #[iv x6.lo,iv x6.hi]] (by kernel_rfl) (inRange_c D x6.lo x6.hi _) (fun v' w' h=>⟨h.1.trans (congrArg Value.bool h5),h.2⟩)) ?_
    refine alp 8 kf hsub rfl (by kernel_rfl) (fun _=>(by kernel_rfl)) ?_
    refine cp (by kernel_rfl) (fun w hI=>?_)
    refine ai rfl (ak ?_)
    replace hI:=hI.pk [0,1,3,4,5,2] rfl rfl
    refine dh hI [0,1,2,3,4] (by decide) rfl (by kernel_rfl) (by kernel_rfl) fun hsub=>alp 0 (.pointer (some ⟨b5,8,none⟩)) hsub rfl (by kernel_rfl) (fun _=>(by kernel_rfl)) ?_
    refine ap 1 (.map (some b4)) hsub rfl (by kernel_rfl) (fun w hI=>ag hI 1 (.map (some b4)) isAgg142 rfl rfl rfl br) ?_
    refine alp 2 (.pointer (some ⟨H,0,none⟩)) hsub rfl (by kernel_rfl) (fun _=>(by kernel_rfl)) ?_
    refine ap 3 (iv x6.src) hsub rfl (by kernel_rfl) (fun w hI=>ag hI 0 (iv x6.src) isAgg3 rfl rfl rfl br) ?_
    refine alp 4 (.pointer (some ⟨b2,1,none⟩)) hsub rfl (by kernel_rfl) (fun _=>(by kernel_rfl)) ?_
    refine ap 5 (.slice tA tn tc) hsub rfl (by kernel_rfl) (fun w hI=>ag hI 3 (.slice tA tn tc) isAgg41 rfl rfl rfl br) ?_
    refine alp 6 (iv (k:Int)) hsub rfl (by kernel_rfl) (fun _=>(by kernel_rfl)) ?_
    refine ap 7 (.pointer (some ⟨I,J+k * 1,none⟩)) hsub rfl (by kernel_rfl) (fun w hI=>cn k underlying41 sizeOf3 rfl K rfl rfl (by omega) br) ?_
    refine ap 8 (iv D) hsub rfl (by kernel_rfl) (fun w hI=>dj hI (iv D) isAgg3 rfl L (by simp) (O 0 _ rfl) br) ?_
    refine bc [9] (by kernel_rfl) rfl (cz fun w hI=>dg rfl (ii hI underlying142 underlying3 5 rfl rfl rfl rfl ho1 fun P V w hI W hg24=>⟨_,hI,dc (fun _ h=>h.pk [0,1,2,3,4] rfl rfl) ?_⟩))
    intro hsub
    have hN25:∀ j,(el P j).getD (iv 0)=iv ((fun j=>if j=x6.src then D else M j) j):=fun j=>by rw [hg24 j]; show _=Value.int .i64 (if j=x6.src then D else M j); by_cases hj:j=x6.src; (rw [if_pos hj,if_pos hj]; rfl); (rw [if_neg hj,if_neg hj]; exact hM1 j)
    refine cp (by kernel_rfl) (fun w hI=>?_)
    refine rgn (by kernel_rfl) (ac (cj rfl rfl (by omega) ?_))
    refine pu (iv ((k:Int)+1)) (by kernel_rfl) (aa ?_)
    exact ⟨rfl,_,(by omega),⟨k+1,P,V,(fun j=>if j=x6.src then D else M j),⟨rfl,rfl,rfl,rfl,rfl,rfl,rfl,trivial⟩,hI.pk [1,5,2,3,4] rfl rfl,(by omega),W,hN25,(num_step hMk hx7 (hNt _ _ _ hx7 E)),(in_stepT hin hx7 E h5),rfl⟩⟩
   refine ap 7 kf hsub rfl (by kernel_rfl) (fun w hI=>co 154 [iv D,.agg #[iv x6.lo,iv x6.hi]] (by kernel_rfl) (inRange_c D x6.lo x6.hi _) (fun v' w' h=>⟨h.1.trans (congrArg Value.bool h5),h.2⟩)) ?_
   refine alp 8 kg hsub rfl (by kernel_rfl) (fun _=>(by kernel_rfl)) ?_
   refine cp (by kernel_rfl) (fun w hI=>?_)
   refine ah rfl (ab (rgn (by kernel_rfl) (pu (.agg (qn9 0 0 none 0 0 none 0 0 none 0 0 0 none 0 0 0 none).toArray) (by kernel_rfl) (ac (aq hI 3 9 (qn9 0 0 none 0 0 none 0 0 none 0 0 0 none 0 0 0 none) sizeOf144 rfl rfl rfl rfl rfl (kh rfl) fun w hI=>pu kf (by kernel_rfl) (aa (aj ?_)))))))
   exact ⟨.tuple #[.agg (qn9 0 0 none 0 0 none 0 0 none 0 0 0 none 0 0 0 none).toArray,.bool false],Ret.ct rfl rfl (ce hI 3 9 (qn9 0 0 none 0 0 none 0 0 none 0 0 0 none 0 0 0 none) isAgg144 sizeOf144 rfl rfl rfl) rfl,(.inr ⟨Bool.eq_false_iff.2 fun hT=>Bool.noConfusion (h5.symm.trans ((jk hT).2.2.1 _ _ _ hx7 E)),⟨_,_,_,_,_,_,_,_,_,_,_,_,_,_,_,_,_,rfl⟩,hI.below⟩)⟩
  intro h6
  refine aa (ab (ai rfl (bw ?_)))
  refine ab (ab (rgn (by kernel_rfl) (pu (.pointer (some ⟨b1,0,none⟩)) (by kernel_rfl) (pu (.pointer (some ⟨b1,3,none⟩)) (by kernel_rfl) (ac (ag hI 4 (.slice o d q) isAgg25 rfl rfl rfl ?_))))))
  refine pu (iv ((d:Nat):Int)) (by kernel_rfl) (pu (iv 0) (by kernel_rfl) (aa (au ?_)))
  have hNb:∀ x∈pl.loads,0≤N x.src∧N x.src≤10000:=nb_of hfd (by omega) hNt hin (by omega)
  have hMl:∀ x∈pl.loads,M x.src=N x.src:=fun x hx=>by obtain ⟨i,hi,e⟩:=List.getElem_of_mem hx; exact hMk i x (by omega) (by rw [List.getElem?_eq_getElem hi,e])
  have hMcs:∀ x∈cs,M x.src=N x.src:=fun x hx=>hMl x (hcs x hx)
  have hMb:∀ x∈cs,0≤M x.src∧M x.src≤10000:=fun x hx=>by rw [hMcs x hx]; exact hNb x (hcs x hx)
  refine cb (fun m ρ w=>∃ (k2:Nat),cd ρ [(4,.pointer (some ⟨b3,0,none⟩)),(6,.pointer (some ⟨b5,0,none⟩)),(65,.slice o d q),(66,iv (d:Int)),(67,iv (k2:Int))]∧Inv []  w0 w [(some b5,blk (qn9 pl.lo pl.hi f a g o d q r u y pl.geese A B C s (some b4)) 144),(some b4,fp es1 ck1),(some b3,blk (qn9 0 0 none 0 0 none 0 0 none 0 0 0 none 0 0 0 none) 144),(some b2,blk [iv s,.slice tA tn tc] 57),(some b1,blk (qn7 pl.lo pl.hi f a g o d q r u y pl.geese A B C) 116)]∧(k2≤d)∧(∀ i z,i < k2→pl.stands[i]?=some z→inB (fg cs N s z.hr) z.lo z.hi=true)∧m=d - k2) (m:=d - 0) ⟨0,⟨rfl,rfl,rfl,rfl,rfl,trivial⟩,hI.pk [0,1,2,3,4] rfl rfl,(by omega),(fun i z h=>absurd h (by omega)),rfl⟩ ?_
  rintro m ρ w ⟨k2,hag,hI,hk2,hsk,hm⟩
  obtain ⟨ρ,rfl⟩:=hag.form; clear hag
  refine ab (rgn (by kernel_rfl) (ac (cm rfl rfl ?_ ?_)))
  ·intro h7
   refine aa (ab (ah rfl (ak (ab (au ?_)))))
   refine ab (rgn (by kernel_rfl) ?_)
   obtain ⟨b,G⟩:=bq (l:=pl.stands) (i:=k2) (by omega)
   obtain ⟨a1,a2,X,Y,Z⟩:=hSc.p.c2.at_ bf (by decide) G
   refine ac (cn k2 underlying25 sizeOf31 rfl X rfl rfl (by omega) ?_)
   refine ac (ef hI (eLd b) isAgg31 sizeOf31 rfl rfl Y (by simp) Z ?_)
   refine ac (bh hI [iv 0,iv 0,iv 0,iv 0,iv 0,iv 0] zeroValue31 rfl fun Q w hI=>ac (aq hI 0 6 (eLd b) sizeOf31 rfl rfl rfl rfl rfl (kh rfl) fun w hI=>aa (ab (dh hI [0,1,2,3,4,5] (by decide) rfl (by kernel_rfl) (by kernel_rfl) fun hsub=>ap 0 (.agg (qn9 pl.lo pl.hi f a g o d q r u y pl.geese A B C s (some b4)).toArray) hsub rfl (by kernel_rfl) (fun w hI=>ar hI 1 9 (qn9 pl.lo pl.hi f a g o d q r u y pl.geese A B C s (some b4)) isAgg144 sizeOf144 rfl rfl rfl rfl br) ?_))))
   refine alp 1 (.pointer (some ⟨Q,1,none⟩)) hsub rfl (by kernel_rfl) (fun _=>(by kernel_rfl)) ?_
   refine ap 2 (iv b.hr) hsub rfl (by kernel_rfl) (fun w hI=>ag hI 0 (iv b.hr) isAgg3 rfl rfl rfl br) ?_
   refine ap 3 (iv (fg cs M s b.hr)) hsub rfl (by kernel_rfl) (fun w hI=>co 107 [.agg (qn9 pl.lo pl.hi f a g o d q r u y pl.geese A B C s (some b4)).toArray,iv b.hr] (by kernel_rfl) (left_c _ pl f a g o d q r u y cs A B C (hSc.inv0 hI) b4 ck1 es1 M (hI.has 2 _ _ rfl).1 hM1 s b.hr hs hMb) (fun v' w' h=>h)) ?_
   refine alp 4 (.pointer (some ⟨Q,2,none⟩)) hsub rfl (by kernel_rfl) (fun _=>(by kernel_rfl)) ?_
   refine ap 5 (.agg #[iv b.lo,iv b.hi]) hsub rfl (by kernel_rfl) (fun w hI=>ar hI 0 2 [iv b.lo,iv b.hi] isAgg23 sizeOf23 rfl rfl rfl rfl br) ?_
   rcases Bool.eq_false_or_eq_true (inB (fg cs M s b.hr) b.lo b.hi) with h8 | h8
   ·refine ap 6 kg hsub rfl (by kernel_rfl) (fun w hI=>co 154 [iv (fg cs M s b.hr),.agg #[iv b.lo,iv b.hi]] (by kernel_rfl) (inRange_c (fg cs M s b.hr) b.lo b.hi _) (fun v' w' h=>⟨h.1.trans (congrArg Value.bool h8),h.2⟩)) ?_
    refine alp 7 kf hsub rfl (by kernel_rfl) (fun _=>(by kernel_rfl)) ?_
    refine cp (by kernel_rfl) (fun w hI=>?_)
    refine ai rfl (ak (rgn (by kernel_rfl) (ac (cj rfl rfl (by omega) ?_))))
    refine pu (iv ((k2:Int)+1)) (by kernel_rfl) (aa ?_)
    exact ⟨rfl,_,(by omega),⟨k2+1,⟨rfl,rfl,rfl,rfl,rfl,trivial⟩,hI.pk [1,2,3,4,5] rfl rfl,(by omega),(st_stepT (F:=fun z=>inB (fg cs N s z.hr) z.lo z.hi) hsk G (by rw [← gx hMcs]; exact h8)),rfl⟩⟩
   refine ap 6 kf hsub rfl (by kernel_rfl) (fun w hI=>co 154 [iv (fg cs M s b.hr),.agg #[iv b.lo,iv b.hi]] (by kernel_rfl) (inRange_c (fg cs M s b.hr) b.lo b.hi _) (fun v' w' h=>⟨h.1.trans (congrArg Value.bool h8),h.2⟩)) ?_
   refine alp 7 kg hsub rfl (by kernel_rfl) (fun _=>(by kernel_rfl)) ?_
   refine cp (by kernel_rfl) (fun w hI=>?_)
   refine ah rfl (ab (rgn (by kernel_rfl) (pu (.agg (qn9 0 0 none 0 0 none 0 0 none 0 0 0 none 0 0 0 none).toArray) (by kernel_rfl) (ac (aq hI 3 9 (qn9 0 0 none 0 0 none 0 0 none 0 0 0 none 0 0 0 none) sizeOf144 rfl rfl rfl rfl rfl (kh rfl) fun w hI=>pu kf (by kernel_rfl) (aa (aj ?_)))))))
   exact ⟨.tuple #[.agg (qn9 0 0 none 0 0 none 0 0 none 0 0 0 none 0 0 0 none).toArray,.bool false],Ret.ct rfl rfl (ce hI 3 9 (qn9 0 0 none 0 0 none 0 0 none 0 0 0 none 0 0 0 none) isAgg144 sizeOf144 rfl rfl rfl) rfl,(.inr ⟨Bool.eq_false_iff.2 fun hT=>(by rw [gx hMcs,(jk hT).2.2.2.1 _ (bz G)] at h8; cases h8),⟨_,_,_,_,_,_,_,_,_,_,_,_,_,_,_,_,_,rfl⟩,hI.below⟩)⟩
  intro h9
  refine aa (ab (ai rfl (bw ?_)))
  refine ab ?_
  replace hI:=hI.pk [0,1,3,4,2] rfl rfl
  refine dh hI [0,1,2,3] (by decide) rfl (by kernel_rfl) (by kernel_rfl) fun hsub=>ap 0 (.agg (qn9 pl.lo pl.hi f a g o d q r u y pl.geese A B C s (some b4)).toArray) hsub rfl (by kernel_rfl) (fun w hI=>ar hI 0 9 (qn9 pl.lo pl.hi f a g o d q r u y pl.geese A B C s (some b4)) isAgg144 sizeOf144 rfl rfl rfl rfl br) ?_
  refine ap 1 (.agg (qn9 pl.lo pl.hi f a g o d q r u y pl.geese A B C s (some b4)).toArray) hsub rfl (by kernel_rfl) (fun w hI=>ar hI 0 9 (qn9 pl.lo pl.hi f a g o d q r u y pl.geese A B C s (some b4)) isAgg144 sizeOf144 rfl rfl rfl rfl br) ?_
  refine ap 2 (iv (fg cs M s 99999)) hsub rfl (by kernel_rfl) (fun w hI=>co 107 [.agg (qn9 pl.lo pl.hi f a g o d q r u y pl.geese A B C s (some b4)).toArray,iv 99999] (by kernel_rfl) (left_c _ pl f a g o d q r u y cs A B C (hSc.inv0 hI) b4 ck1 es1 M (hI.has 1 _ _ rfl).1 hM1 s 99999 hs hMb) (fun v' w' h=>h)) ?_
  by_cases R:0≤(fg cs M s 99999)
  ·refine ap 3 kg hsub rfl (by kernel_rfl) (fun w hI=>iq rfl rfl (fun _=>br) (fun h=>absurd R h)) ?_
   refine bc [4] (by kernel_rfl) rfl (cz fun w hI=>dg rfl (aq hI 4 9 (qn9 pl.lo pl.hi f a g o d q r u y pl.geese A B C s (some b4)) sizeOf144 rfl rfl rfl rfl rfl (kh rfl) fun w hI=>⟨_,hI,dc (fun _ h=>h.pk [0,1,2,3] rfl rfl) ?_⟩))
   intro hsub
   refine alp 5 kg hsub rfl (by kernel_rfl) (fun _=>(by kernel_rfl)) ?_
   refine cp (by kernel_rfl) (fun w hI=>?_)
   refine aj ?_
   exact ⟨.tuple #[.agg (qn9 pl.lo pl.hi f a g o d q r u y pl.geese A B C s (some b4)).toArray,.bool true],Ret.ct rfl rfl (ce hI 4 9 (qn9 pl.lo pl.hi f a g o d q r u y pl.geese A B C s (some b4)) isAgg144 sizeOf144 rfl rfl rfl) rfl,(.inl ⟨trueB_of (by omega) h1 hin (by omega) hsk (by omega) (by rw [← gx hMcs]; omega),b4,es1,ck1,M,rfl,hI.pk [1] rfl rfl,hM1,hMl⟩)⟩
  refine ap 3 kf hsub rfl (by kernel_rfl) (fun w hI=>iq rfl rfl (fun h=>absurd h R) (fun _=>br)) ?_
  refine bc [4] (by kernel_rfl) rfl (cz fun w hI=>dg rfl (aq hI 4 9 (qn9 pl.lo pl.hi f a g o d q r u y pl.geese A B C s (some b4)) sizeOf144 rfl rfl rfl rfl rfl (kh rfl) fun w hI=>⟨_,hI,dc (fun _ h=>h.pk [0,1,2,3] rfl rfl) ?_⟩))
  intro hsub
  refine alp 5 kf hsub rfl (by kernel_rfl) (fun _=>(by kernel_rfl)) ?_
  refine cp (by kernel_rfl) (fun w hI=>?_)
  refine aj ?_
  exact ⟨.tuple #[.agg (qn9 pl.lo pl.hi f a g o d q r u y pl.geese A B C s (some b4)).toArray,.bool false],Ret.ct rfl rfl (ce hI 4 9 (qn9 pl.lo pl.hi f a g o d q r u y pl.geese A B C s (some b4)) isAgg144 sizeOf144 rfl rfl rfl) rfl,(.inr ⟨Bool.eq_false_iff.2 fun hT=>(by have h1:=(jk hT).1; have h2:=(jk hT).2.2.2.2; try rw [← gx hMcs] at h2; omega),⟨_,_,_,_,_,_,_,_,_,_,_,_,_,_,_,_,_,rfl⟩,hI.below⟩)⟩
 intro a0 w hI
 refine pu kg (by kernel_rfl) (pu kg (by kernel_rfl) (sf 8 (by kernel_rfl) (pu kg (by kernel_rfl) (aa (ah rfl (ab (rgn (by kernel_rfl) (pu (.agg (qn9 0 0 none 0 0 none 0 0 none 0 0 0 none 0 0 0 none).toArray) (by kernel_rfl) (ac (aq hI 0 9 (qn9 0 0 none 0 0 none 0 0 none 0 0 0 none 0 0 0 none) sizeOf144 rfl rfl rfl rfl rfl (kh rfl) fun w hI=>pu kf (by kernel_rfl) (aa (aj ?_))))))))))))
 exact ⟨.tuple #[.agg (qn9 0 0 none 0 0 none 0 0 none 0 0 0 none 0 0 0 none).toArray,.bool false],Ret.ct rfl rfl (ce hI 0 9 (qn9 0 0 none 0 0 none 0 0 none 0 0 0 none 0 0 0 none) isAgg144 sizeOf144 rfl rfl rfl) rfl,(.inr ⟨Bool.eq_false_iff.2 fun hT=>Bool.noConfusion (a0.symm.trans (jk hT).2.1),⟨_,_,_,_,_,_,_,_,_,_,_,_,_,_,_,_,_,rfl⟩,hI.below⟩)⟩

theorem trueB_at {q:Pl} {cs:List Ld} {s:Int} {ts:List Int} {N:Int→Int} (hpl:0≤q.lo∧q.hi≤10000) (hfd:∀ x∈q.loads,0≤x.lo∧x.hi≤10000) (hcs:∀ x∈cs,x∈q.loads) (hNt:∀ (i:Nat) (x:Ld) (t:Int),q.loads[i]?=some x→ts[i]?=some t→N x.src=t) (h:trueB q cs s ts N=true):TrueAt q cs s ts N :=
  have ⟨h1,h2,h3,h4,h5⟩:=jk h
  ⟨h1,inB_bd hpl h2,hcs,fun x hx=>nb_of (k:=q.loads.length) hfd h1 hNt (fun i z t _=>h3 i z t) (Nat.le_refl _) x (hcs x hx),hNt,h2,h3,h4,h5⟩
structure AskAt (q:Pl) (cs:List Ld) (ts:List Int) (N:Int→Int):Prop where
  pl:0≤q.lo∧q.hi≤10000
  fd:∀ x∈q.loads,0≤x.lo∧x.hi≤10000
  cin:∀ x∈cs,x∈q.loads
  nt:∀ (i:Nat) (x:Ld) (t:Int),q.loads[i]?=some x→ts[i]?=some t→N x.src=t
theorem truthT_c (w0:World) (pl:Pl) (a:Option Addr) (b d:Nat) (e:Option Addr) (f g:Nat) (j:Option Addr) (k l:Nat) (cs:List Ld) (m:Option Addr) (n o:Nat) (hSc:ScIn w0 pl a b d e f g j k l cs m n o) (s:Int) (tA:Option Addr) (tn tc:Nat) (ts:List Int) (hT:bi w0 tA (al dv ts)) (htn:tn=ts.length) (htx:ts.length≤9223372036854775807) (N:Int→Int) (hpl:0≤pl.lo∧pl.hi≤10000) (hfd:∀ x∈pl.loads,0≤x.lo∧x.hi≤10000) (hcs:∀ x∈cs,x∈pl.loads) (hNt:∀ (i:Nat) (x:Ld) (t:Int),pl.loads[i]?=some x→ts[i]?=some t→N x.src=t) (hb:trueB pl cs s ts N=true):bn Tryz.prog 106 [.agg (qn7 pl.lo pl.hi a b d e f g j k l pl.geese m n o).toArray,.agg #[.int .i64 s,.slice tA tn tc]] w0 fun v w=>GivesTruth (qn7 pl.lo pl.hi a b d e f g j k l pl.geese m n o) s pl.loads N w0 v w :=
  bn.mono (truthG_c w0 pl a b d e f g j k l cs m n o hSc s tA tn tc ts hT htn htx N hpl hfd hcs hNt) fun v w h=>h.elim (fun h=>h.2) fun h=>Bool.noConfusion (hb.symm.trans h.1)

theorem truthF_c (w0:World) (pl:Pl) (a:Option Addr) (b d:Nat) (e:Option Addr) (f g:Nat) (j:Option Addr) (k l:Nat) (cs:List Ld) (m:Option Addr) (n o:Nat) (hSc:ScIn w0 pl a b d e f g j k l cs m n o) (s:Int) (tA:Option Addr) (tn tc:Nat) (ts:List Int) (hT:bi w0 tA (al dv ts)) (htn:tn=ts.length) (htx:ts.length≤9223372036854775807) (N:Int→Int) (hpl:0≤pl.lo∧pl.hi≤10000) (hfd:∀ x∈pl.loads,0≤x.lo∧x.hi≤10000) (hcs:∀ x∈cs,x∈pl.loads) (hNt:∀ (i:Nat) (x:Ld) (t:Int),pl.loads[i]?=some x→ts[i]?=some t→N x.src=t) (hb:trueB pl cs s ts N=false):bn Tryz.prog 106 [.agg (qn7 pl.lo pl.hi a b d e f g j k l pl.geese m n o).toArray,.agg #[.int .i64 s,.slice tA tn tc]] w0 fun v w=>AnyTruth v∧Below w0.heap.size w0 w :=
  bn.mono (truthG_c w0 pl a b d e f g j k l cs m n o hSc s tA tn tc ts hT htn htx N hpl hfd hcs hNt) fun v w h=>h.elim (fun h=>Bool.noConfusion (hb.symm.trans h.1)) fun h=>h.2

set_option maxHeartbeats 1600000 in
theorem TrulyT_c (w0:World) (pl:Pl) (i:Option Addr) (k t:Nat) (m:Option Addr) (o u:Nat) (p:Option Addr) (r y:Nat) (hP:gz w0 pl i k m o p r) (h dy:Int) (hhour:ec pl h dy=0) (s:Int) (tA:Option Addr) (tn tc:Nat) (ts:List Int) (hT:bi w0 tA (al dv ts)) (htn:tn=ts.length) (htx:ts.length≤9223372036854775807) (N:Int→Int) (hQ:AskAt (ae pl dy) (ax pl dy) ts N) (hb:trueB (ae pl dy) (ax pl dy) s ts N=true):bn Tryz.prog 53 [.agg (qn6 pl.lo pl.hi i k t m o u p r y pl.geese).toArray,.agg #[.int .i64 s,.slice tA tn tc],.int .i64 h,.int .i64 dy] w0 fun v w=>v=.tuple #[.bool (trulyF (ae pl dy) (ax pl dy) N s h),.int .i64 0]∧Below w0.heap.size w0 w:=by
 have hm1:=hP.m1; have hm2:=hP.m2; have hm3:=hP.m3
 have hTA:=trueB_at hQ.pl hQ.fd hQ.cin hQ.nt hb
 have hln:=hTA.len
 refine az (n:=57) func53 rfl ntmps53 rfl ?_
 have hI:=Inv.start w0
 refine ab (rgn (by kernel_rfl) (ac (ca hI (qn6 pl.lo pl.hi i k t m o u p r y pl.geese) rfl fun b1 w hI=>ac (ca hI [iv s,.slice tA tn tc] rfl fun b2 w hI=>pu kf (by kernel_rfl) (pu (iv 0) (by kernel_rfl) (aa (ab (ab (rgn (by kernel_rfl) (ac (ar hI 1 6 (qn6 pl.lo pl.hi i k t m o u p r y pl.geese) isAgg28 sizeOf28 rfl rfl rfl rfl ?_)))))))))))
 refine pu (iv h) (by kernel_rfl) (pu (iv dy) (by kernel_rfl) (ac (bg hI 97 [.agg (qn6 pl.lo pl.hi i k t m o u p r y pl.geese).toArray,iv h,iv dy] (iv (ec pl h dy)) (by kernel_rfl) (checkHour_c _ pl i k t m o u p r y (hP.inv0 hI) h dy) fun w hI=>pu (iv (ec pl h dy)) (by kernel_rfl) (aa (ab (rgn (by kernel_rfl) (pu (iv (ec pl h dy)) (by kernel_rfl) (ac (de rfl rfl ?_ ?_)))))))))
 ·intro h1
  refine aa (ah rfl (ab (rgn (by kernel_rfl) (pu (iv (ec pl h dy)) (by kernel_rfl) (pu kf (by kernel_rfl) (pu (iv (ec pl h dy)) (by kernel_rfl) (aa (aj ?_))))))))
  exact ⟨.tuple #[.bool false,iv (ec pl h dy)],Ret.r2 rfl rfl rfl,(absurd hhour h1)⟩
 intro h2
 refine aa (ai rfl (ak (wp_cut (fun ρ w=>∃ (D:Nat) (mb19:Nat) (E:List En) (O:Nat) (M22:Int→Int) (g3:Option Nat) (c4:Nat) (cl5:List Value) (g7:Option Nat) (c8:Nat) (cl9:List Value) (a:Option Nat) (e:Nat) (P:List Value) (d:Option Nat) (f:Nat) (Q:List Value),cd ρ [(2,iv h),(11,.pointer (some ⟨D,0,none⟩)),(12,.bool true)]∧Inv []  w0 w [(some D,blk [iv (ae pl dy).lo,iv (ae pl dy).hi,slv g3 (ae pl dy).loads.length c4,slv g7 (ae pl dy).stands.length c8,slv a (ae pl dy).spells.length e,iv (ae pl dy).geese,slv d (ax pl dy).length f,iv s,.map (some mb19)] 144),(some mb19,fp E O),(g3,blk cl5 30),(g7,blk cl9 31),(a,blk P 33),(d,blk Q 30),(some b2,blk [iv s,.slice tA tn tc] 57),(some b1,blk (qn6 pl.lo pl.hi i k t m o u p r y pl.geese) 28)]∧(∀ j,(el E j).getD (iv 0)=iv (M22 j))∧(∀ x∈(ae pl dy).loads,M22 x.src=N x.src)∧(Row 6 g3 (ae pl dy).loads.length c4 cl5 (al eLd (ae pl dy).loads))∧(Row 6 g7 (ae pl dy).stands.length c8 cl9 (al eLd (ae pl dy).stands))∧(Row 6 a (ae pl dy).spells.length e P (al eSp (ae pl dy).spells))∧(Row 6 d (ax pl dy).length f Q (al eLd (ax pl dy)))) ?_ ?_)))
 ·
  refine dh hI [0,1] (by decide) rfl (by kernel_rfl) (by kernel_rfl) fun hsub=>ap 0 (.agg (qn6 pl.lo pl.hi i k t m o u p r y pl.geese).toArray) hsub rfl (by kernel_rfl) (fun w hI=>ar hI 1 6 (qn6 pl.lo pl.hi i k t m o u p r y pl.geese) isAgg28 sizeOf28 rfl rfl rfl rfl br) ?_
  refine alp 1 (iv dy) hsub rfl (by kernel_rfl) (fun _=>(by kernel_rfl)) ?_
  refine ap 3 (.agg #[iv s,.slice tA tn tc]) hsub rfl (by kernel_rfl) (fun w hI=>ar hI 0 2 [iv s,.slice tA tn tc] isAgg57 sizeOf57 rfl rfl rfl rfl br) ?_
  refine bc [2,8] (by kernel_rfl) rfl (each2 ?_ ?_)
  ·intro w hI
   have hsl:=jn pl dy; obtain ⟨hsl1,hsl2,hsl3⟩:=hsl; have hsc:=ij pl dy; have hok_:=eo (ip hhour).1; have hok1:=hok_.s1; have hok2:=hok_.s2; have hok3:=hok_.s3
   refine dg rfl (jh hI (q:=ae pl dy) (cs:=ax pl dy) 86 [.agg (qn6 pl.lo pl.hi i k t m o u p r y pl.geese).toArray,iv dy] (by kernel_rfl) (sceneOf_c _ pl i k t m o u p r y (hP.inv0 hI) (eo (ip hhour).1) dy) fun g3 c4 cl5 g7 c8 cl9 a e P d f Q w hI r6 A B g=>⟨_,hI,dc (fun _ h=>h.pk [4,5] rfl rfl) ?_⟩)
   intro hsub
   refine bc [4,8] (by kernel_rfl) rfl (each2 ?_ ?_)
   ·intro w hI
    refine dg rfl (s_callTruth hI (sc:=(qs7 (ae pl dy) g3 c4 g7 c8 a e d (ax pl dy) f)) (s:=s) (l:=(ae pl dy).loads) (N:=N) 106 [.agg (qs7 (ae pl dy) g3 c4 g7 c8 a e d (ax pl dy) f).toArray,.agg #[iv s,.slice tA tn tc]] (by kernel_rfl) (truthT_c _ (ae pl dy) (g3.map fun b=>⟨b,0,none⟩) (ae pl dy).loads.length c4 (g7.map fun b=>⟨b,0,none⟩) (ae pl dy).stands.length c8 (a.map fun b=>⟨b,0,none⟩) (ae pl dy).spells.length e (ax pl dy) (d.map fun b=>⟨b,0,none⟩) (ax pl dy).length f ⟨⟨(hI.rowCells 0 rfl r6),rfl,(hI.rowCells 1 rfl A),rfl,(hI.rowCells 2 rfl B),rfl,(by omega),(by omega),(by omega)⟩,(hI.rowCells 3 rfl g),rfl,g.cap,(by omega),(by omega),(by omega),(by omega)⟩ s tA tn tc ts (hT.inv0 hI) htn htx N hQ.pl hQ.fd hQ.cin hQ.nt hb) fun mb19 E O M22 w hI hN23 C=>⟨_,hI,dc (fun _ h=>h.pk [5,6] rfl rfl) ?_⟩)
    intro hsub
    refine alp 5 (.tuple #[.agg #[iv (ae pl dy).lo,iv (ae pl dy).hi,slv g3 (ae pl dy).loads.length c4,slv g7 (ae pl dy).stands.length c8,slv a (ae pl dy).spells.length e,iv (ae pl dy).geese,slv d (ax pl dy).length f,iv s,.map (some mb19)],.bool true]) hsub rfl (by kernel_rfl) (fun _=>(by kernel_rfl)) ?_
    refine alp 6 (.agg #[iv (ae pl dy).lo,iv (ae pl dy).hi,slv g3 (ae pl dy).loads.length c4,slv g7 (ae pl dy).stands.length c8,slv a (ae pl dy).spells.length e,iv (ae pl dy).geese,slv d (ax pl dy).length f,iv s,.map (some mb19)]) hsub rfl (by kernel_rfl) (fun _=>(by kernel_rfl)) ?_
    refine alp 7 kg hsub rfl (by kernel_rfl) (fun _=>(by kernel_rfl)) ?_
    refine bc [8] (by kernel_rfl) rfl (cz fun w hI=>dg rfl (bh hI (qn9 0 0 none 0 0 none 0 0 none 0 0 0 none 0 0 0 none) zeroValue144 rfl fun D w hI=>⟨_,hI,dc (fun _ h=>h.pk [6,7] rfl rfl) ?_⟩))
    intro hsub
    refine bc [9] (by kernel_rfl) rfl (cz fun w hI=>dg rfl (aq hI 0 9 [iv (ae pl dy).lo,iv (ae pl dy).hi,slv g3 (ae pl dy).loads.length c4,slv g7 (ae pl dy).stands.length c8,slv a (ae pl dy).spells.length e,iv (ae pl dy).geese,slv d (ax pl dy).length f,iv s,.map (some mb19)] sizeOf144 rfl rfl rfl rfl rfl (kh rfl) fun w hI=>⟨_,hI,dc (fun _ h=>h.pk [6,7] rfl rfl) ?_⟩))
    intro hsub
    refine alp 10 kg hsub rfl (by kernel_rfl) (fun _=>(by kernel_rfl)) ?_
    refine cp (by kernel_rfl) (fun w hI=>?_)
    exact ⟨rfl,D,mb19,E,O,M22,g3,c4,cl5,g7,c8,cl9,a,e,P,d,f,Q,⟨rfl,rfl,rfl,trivial⟩,hI.pk [0,1,2,3,4,5,6,7] rfl rfl,hN23,C,r6,A,B,g⟩
   intro w hI
   refine dg rfl (bh hI (qn9 0 0 none 0 0 none 0 0 none 0 0 0 none 0 0 0 none) zeroValue144 rfl fun V w hI=>⟨_,hI,dc (fun _ h=>h.pk [5,6] rfl rfl) ?_⟩)
   intro hsub
   refine bc [4] (by kernel_rfl) rfl (cz fun w hI=>dg rfl (s_callTruth hI (sc:=(qs7 (ae pl dy) g3 c4 g7 c8 a e d (ax pl dy) f)) (s:=s) (l:=(ae pl dy).loads) (N:=N) 106 [.agg (qs7 (ae pl dy) g3 c4 g7 c8 a e d (ax pl dy) f).toArray,.agg #[iv s,.slice tA tn tc]] (by kernel_rfl) (truthT_c _ (ae pl dy) (g3.map fun b=>⟨b,0,none⟩) (ae pl dy).loads.length c4 (g7.map fun b=>⟨b,0,none⟩) (ae pl dy).stands.length c8 (a.map fun b=>⟨b,0,none⟩) (ae pl dy).spells.length e (ax pl dy) (d.map fun b=>⟨b,0,none⟩) (ax pl dy).length f ⟨⟨(hI.rowCells 1 rfl r6),rfl,(hI.rowCells 2 rfl A),rfl,(hI.rowCells 3 rfl B),rfl,(by omega),(by omega),(by omega)⟩,(hI.rowCells 4 rfl g),rfl,g.cap,(by omega),(by omega),(by omega),(by omega)⟩ s tA tn tc ts (hT.inv0 hI) htn htx N hQ.pl hQ.fd hQ.cin hQ.nt hb) fun mb27 W X M30 w hI hN31 Y=>⟨_,hI,dc (fun _ h=>h.pk [6,7] rfl rfl) ?_⟩))
   intro hsub
   refine alp 5 (.tuple #[.agg #[iv (ae pl dy).lo,iv (ae pl dy).hi,slv g3 (ae pl dy).loads.length c4,slv g7 (ae pl dy).stands.length c8,slv a (ae pl dy).spells.length e,iv (ae pl dy).geese,slv d (ax pl dy).length f,iv s,.map (some mb27)],.bool true]) hsub rfl (by kernel_rfl) (fun _=>(by kernel_rfl)) ?_
   refine alp 6 (.agg #[iv (ae pl dy).lo,iv (ae pl dy).hi,slv g3 (ae pl dy).loads.length c4,slv g7 (ae pl dy).stands.length c8,slv a (ae pl dy).spells.length e,iv (ae pl dy).geese,slv d (ax pl dy).length f,iv s,.map (some mb27)]) hsub rfl (by kernel_rfl) (fun _=>(by kernel_rfl)) ?_
   refine alp 7 kg hsub rfl (by kernel_rfl) (fun _=>(by kernel_rfl)) ?_
   refine bc [9] (by kernel_rfl) rfl (cz fun w hI=>dg rfl (aq hI 1 9 [iv (ae pl dy).lo,iv (ae pl dy).hi,slv g3 (ae pl dy).loads.length c4,slv g7 (ae pl dy).stands.length c8,slv a (ae pl dy).spells.length e,iv (ae pl dy).geese,slv d (ax pl dy).length f,iv s,.map (some mb27)] sizeOf144 rfl rfl rfl rfl rfl (kh rfl) fun w hI=>⟨_,hI,dc (fun _ h=>h.pk [6,7] rfl rfl) ?_⟩))
   intro hsub
   refine alp 10 kg hsub rfl (by kernel_rfl) (fun _=>(by kernel_rfl)) ?_
   refine cp (by kernel_rfl) (fun w hI=>?_)
   exact ⟨rfl,V,mb27,W,X,M30,g3,c4,cl5,g7,c8,cl9,a,e,P,d,f,Q,⟨rfl,rfl,rfl,trivial⟩,hI.pk [1,0,2,3,4,5,6,7] rfl rfl,hN31,Y,r6,A,B,g⟩
  intro w hI
  refine dg rfl (bh hI (qn9 0 0 none 0 0 none 0 0 none 0 0 0 none 0 0 0 none) zeroValue144 rfl fun Z w hI=>⟨_,hI,dc (fun _ h=>h.pk [1,2] rfl rfl) ?_⟩)
  intro hsub
  refine bc [2] (by kernel_rfl) rfl (cz ?_)
  intro w hI
  have hsl:=jn pl dy; obtain ⟨hsl1,hsl2,hsl3⟩:=hsl; have hsc:=ij pl dy; have hok_:=eo (ip hhour).1; have hok1:=hok_.s1; have hok2:=hok_.s2; have hok3:=hok_.s3
  refine dg rfl (jh hI (q:=ae pl dy) (cs:=ax pl dy) 86 [.agg (qn6 pl.lo pl.hi i k t m o u p r y pl.geese).toArray,iv dy] (by kernel_rfl) (sceneOf_c _ pl i k t m o u p r y (hP.inv0 hI) (eo (ip hhour).1) dy) fun F G a0 H I a1 J K a2 L M a3 w hI S T U R=>⟨_,hI,dc (fun _ h=>h.pk [5,6] rfl rfl) ?_⟩)
  intro hsub
  refine bc [4] (by kernel_rfl) rfl (cz fun w hI=>dg rfl (s_callTruth hI (sc:=(qs7 (ae pl dy) F G H I J K L (ax pl dy) M)) (s:=s) (l:=(ae pl dy).loads) (N:=N) 106 [.agg (qs7 (ae pl dy) F G H I J K L (ax pl dy) M).toArray,.agg #[iv s,.slice tA tn tc]] (by kernel_rfl) (truthT_c _ (ae pl dy) (F.map fun b=>⟨b,0,none⟩) (ae pl dy).loads.length G (H.map fun b=>⟨b,0,none⟩) (ae pl dy).stands.length I (J.map fun b=>⟨b,0,none⟩) (ae pl dy).spells.length K (ax pl dy) (L.map fun b=>⟨b,0,none⟩) (ax pl dy).length M ⟨⟨(hI.rowCells 0 rfl S),rfl,(hI.rowCells 1 rfl T),rfl,(hI.rowCells 2 rfl U),rfl,(by omega),(by omega),(by omega)⟩,(hI.rowCells 3 rfl R),rfl,R.cap,(by omega),(by omega),(by omega),(by omega)⟩ s tA tn tc ts (hT.inv0 hI) htn htx N hQ.pl hQ.fd hQ.cin hQ.nt hb) fun mb50 a4 a5 M53 w hI hN54 a6=>⟨_,hI,dc (fun _ h=>h.pk [6,7] rfl rfl) ?_⟩))
  intro hsub
  refine alp 5 (.tuple #[.agg #[iv (ae pl dy).lo,iv (ae pl dy).hi,slv F (ae pl dy).loads.length G,slv H (ae pl dy).stands.length I,slv J (ae pl dy).spells.length K,iv (ae pl dy).geese,slv L (ax pl dy).length M,iv s,.map (some mb50)],.bool true]) hsub rfl (by kernel_rfl) (fun _=>(by kernel_rfl)) ?_
  refine alp 6 (.agg #[iv (ae pl dy).lo,iv (ae pl dy).hi,slv F (ae pl dy).loads.length G,slv H (ae pl dy).stands.length I,slv J (ae pl dy).spells.length K,iv (ae pl dy).geese,slv L (ax pl dy).length M,iv s,.map (some mb50)]) hsub rfl (by kernel_rfl) (fun _=>(by kernel_rfl)) ?_
  refine alp 7 kg hsub rfl (by kernel_rfl) (fun _=>(by kernel_rfl)) ?_
  refine bc [9] (by kernel_rfl) rfl (cz fun w hI=>dg rfl (aq hI 5 9 [iv (ae pl dy).lo,iv (ae pl dy).hi,slv F (ae pl dy).loads.length G,slv H (ae pl dy).stands.length I,slv J (ae pl dy).spells.length K,iv (ae pl dy).geese,slv L (ax pl dy).length M,iv s,.map (some mb50)] sizeOf144 rfl rfl rfl rfl rfl (kh rfl) fun w hI=>⟨_,hI,dc (fun _ h=>h.pk [6,7] rfl rfl) ?_⟩))
  intro hsub
  refine alp 10 kg hsub rfl (by kernel_rfl) (fun _=>(by kernel_rfl)) ?_
  refine cp (by kernel_rfl) (fun w hI=>?_)
  exact ⟨rfl,Z,mb50,a4,a5,M53,F,G,a0,H,I,a1,J,K,a2,L,M,a3,⟨rfl,rfl,rfl,trivial⟩,hI.pk [5,0,1,2,3,4,6,7] rfl rfl,hN54,a6,S,T,U,R⟩
 rintro ρ w ⟨D,mb19,E,O,M22,g3,c4,cl5,g7,c8,cl9,a,e,P,d,f,Q,hag,hI,hN23,C,r6,A,B,g⟩
 obtain ⟨ρ,rfl⟩:=hag.form; clear hag
 have hsl:=jn pl dy; obtain ⟨hsl1,hsl2,hsl3⟩:=hsl; have hsc:=ij pl dy; have hok_:=eo (ip hhour).1; have hok1:=hok_.s1; have hok2:=hok_.s2; have hok3:=hok_.s3
 refine ab (ab (rgn (by kernel_rfl) (pu kg (by kernel_rfl) (pu kf (by kernel_rfl) (aa (ai rfl (ak (ab (ab ?_)))))))))
 refine rgn (by kernel_rfl) (pu (.pointer (some ⟨D,0,none⟩)) (by kernel_rfl) (ac (ar hI 0 7 (qs7 (ae pl dy) g3 c4 g7 c8 a e d (ax pl dy) f) isAgg116 sizeOf116 rfl rfl rfl rfl ?_)))
 refine pu (iv h) (by kernel_rfl) (ac (fc hI 116 [.agg (qs7 (ae pl dy) g3 c4 g7 c8 a e d (ax pl dy) f).toArray,iv h] (shutF (ae pl dy) h) (by kernel_rfl) (shut_c _ (ae pl dy) (g3.map fun b=>⟨b,0,none⟩) (ae pl dy).loads.length c4 (g7.map fun b=>⟨b,0,none⟩) (ae pl dy).stands.length c8 (a.map fun b=>⟨b,0,none⟩) (ae pl dy).spells.length e (ax pl dy) (d.map fun b=>⟨b,0,none⟩) (ax pl dy).length f ⟨⟨(hI.rowCells 2 rfl r6),rfl,(hI.rowCells 3 rfl A),rfl,(hI.rowCells 4 rfl B),rfl,(by omega),(by omega),(by omega)⟩,(hI.rowCells 5 rfl g),rfl,g.cap,(by omega),(by omega),(by omega),(by omega)⟩ h (isHour_bd (ip hhour).2.1)) ?_ ?_))
 ·intro h3 w hI
  refine pu kg (by kernel_rfl) (sf 4 (by kernel_rfl) (pu kg (by kernel_rfl) (aa (ah rfl (ab (rgn (by kernel_rfl) (pu kf (by kernel_rfl) (pu (iv 0) (by kernel_rfl) (aa ?_)))))))))
  refine aj ?_
  have hsm:∀ z,fg (ax pl dy) M22 s z=fg (ax pl dy) N s z:=fun z=>gx (fun x hx=>C x (hTA.cin x hx)) s z
  simp only [hsm] at *
  exact ⟨.tuple #[.bool false,iv 0],Ret.r2 rfl rfl rfl,⟨by simp_all [trulyF],hI.below⟩⟩
 intro h4 w hI
 refine pu kf (by kernel_rfl) (aw (by kernel_rfl) (ar hI 0 9 [iv (ae pl dy).lo,iv (ae pl dy).hi,slv g3 (ae pl dy).loads.length c4,slv g7 (ae pl dy).stands.length c8,slv a (ae pl dy).spells.length e,iv (ae pl dy).geese,slv d (ax pl dy).length f,iv s,.map (some mb19)] isAgg144 sizeOf144 rfl rfl rfl rfl ?_))
 refine puo (iv h) ⟨(by kernel_rfl),(by kernel_rfl)⟩ (aw (by kernel_rfl) (bg hI 107 [.agg #[iv (ae pl dy).lo,iv (ae pl dy).hi,slv g3 (ae pl dy).loads.length c4,slv g7 (ae pl dy).stands.length c8,slv a (ae pl dy).spells.length e,iv (ae pl dy).geese,slv d (ax pl dy).length f,iv s,.map (some mb19)],iv h] (iv (fg (ax pl dy) M22 s h)) (by kernel_rfl) (left_c _ (ae pl dy) (g3.map fun b=>⟨b,0,none⟩) (ae pl dy).loads.length c4 (g7.map fun b=>⟨b,0,none⟩) (ae pl dy).stands.length c8 (a.map fun b=>⟨b,0,none⟩) (ae pl dy).spells.length e (ax pl dy) (d.map fun b=>⟨b,0,none⟩) (ax pl dy).length f ⟨⟨(hI.rowCells 2 rfl r6),rfl,(hI.rowCells 3 rfl A),rfl,(hI.rowCells 4 rfl B),rfl,(by omega),(by omega),(by omega)⟩,(hI.rowCells 5 rfl g),rfl,g.cap,(by omega),(by omega),(by omega),(by omega)⟩ mb19 O E M22 (hI.has 1 _ _ rfl).1 hN23 s h hTA.s0 (fun x hx=>by rw [C x (hTA.cin x hx)]; exact hTA.nb x hx)) fun w hI=>aw (by kernel_rfl) (fh rfl rfl ?_ ?_)))
 ·intro h5
  refine pu kg (by kernel_rfl) (aa (ah rfl (ab (rgn (by kernel_rfl) (pu kf (by kernel_rfl) (pu (iv 0) (by kernel_rfl) (aa (aj ?_))))))))
  have hsm:∀ z,fg (ax pl dy) M22 s z=fg (ax pl dy) N s z:=fun z=>gx (fun x hx=>C x (hTA.cin x hx)) s z
  simp only [hsm] at *
  exact ⟨.tuple #[.bool false,iv 0],Ret.r2 rfl rfl rfl,⟨by simp_all [trulyF],hI.below⟩⟩
 intro h6
 refine pu kf (by kernel_rfl) (aa (ai rfl (ak (ab (rgn (by kernel_rfl) (pu (.pointer (some ⟨D,0,none⟩)) (by kernel_rfl) (ac (ar hI 0 7 (qs7 (ae pl dy) g3 c4 g7 c8 a e d (ax pl dy) f) isAgg116 sizeOf116 rfl rfl rfl rfl ?_))))))))
 refine pu (iv h) (by kernel_rfl) ?_
 rcases Bool.eq_false_or_eq_true ((ki (ae pl dy) h).2) with h7 | h7
 ·
  refine ac (bg hI 119 [.agg (qs7 (ae pl dy) g3 c4 g7 c8 a e d (ax pl dy) f).toArray,iv h] (.tuple #[iv ((ki (ae pl dy) h).1),.bool true]) (by kernel_rfl) (bn.mono (geese_c _ (ae pl dy) (g3.map fun b=>⟨b,0,none⟩) (ae pl dy).loads.length c4 (g7.map fun b=>⟨b,0,none⟩) (ae pl dy).stands.length c8 (a.map fun b=>⟨b,0,none⟩) (ae pl dy).spells.length e (ax pl dy) (d.map fun b=>⟨b,0,none⟩) (ax pl dy).length f ⟨⟨(hI.rowCells 2 rfl r6),rfl,(hI.rowCells 3 rfl A),rfl,(hI.rowCells 4 rfl B),rfl,(by omega),(by omega),(by omega)⟩,(hI.rowCells 5 rfl g),rfl,g.cap,(by omega),(by omega),(by omega),(by omega)⟩ h (isHour_bd (ip hhour).2.1) ⟨((ek pl).1 (ip hhour).1).g0,((ek pl).1 (ip hhour).1).g1⟩) (fun v w' h=>⟨h.1.trans (by first | (rw [h7]; done) | (rw [h7]; rfl)),h.2⟩)) fun w hI=>pu (.tuple #[iv ((ki (ae pl dy) h).1),.bool true]) (by kernel_rfl) (pu (iv ((ki (ae pl dy) h).1)) (by kernel_rfl) (pu kg (by kernel_rfl) (pu (iv ((ki (ae pl dy) h).1)) (by kernel_rfl) (pu kg (by kernel_rfl) (aa (ab (rgn (by kernel_rfl) (pu kg (by kernel_rfl) (pu kf (by kernel_rfl) ?_))))))))))
  refine pu kf (by kernel_rfl) (aw (by kernel_rfl) (ar hI 0 9 [iv (ae pl dy).lo,iv (ae pl dy).hi,slv g3 (ae pl dy).loads.length c4,slv g7 (ae pl dy).stands.length c8,slv a (ae pl dy).spells.length e,iv (ae pl dy).geese,slv d (ax pl dy).length f,iv s,.map (some mb19)] isAgg144 sizeOf144 rfl rfl rfl rfl ?_))
  refine puo (iv ((ki (ae pl dy) h).1)) ⟨(by kernel_rfl),(by kernel_rfl)⟩ (aw (by kernel_rfl) (bg hI 107 [.agg #[iv (ae pl dy).lo,iv (ae pl dy).hi,slv g3 (ae pl dy).loads.length c4,slv g7 (ae pl dy).stands.length c8,slv a (ae pl dy).spells.length e,iv (ae pl dy).geese,slv d (ax pl dy).length f,iv s,.map (some mb19)],iv ((ki (ae pl dy) h).1)] (iv (fg (ax pl dy) M22 s ((ki (ae pl dy) h).1))) (by kernel_rfl) (left_c _ (ae pl dy) (g3.map fun b=>⟨b,0,none⟩) (ae pl dy).loads.length c4 (g7.map fun b=>⟨b,0,none⟩) (ae pl dy).stands.length c8 (a.map fun b=>⟨b,0,none⟩) (ae pl dy).spells.length e (ax pl dy) (d.map fun b=>⟨b,0,none⟩) (ax pl dy).length f ⟨⟨(hI.rowCells 2 rfl r6),rfl,(hI.rowCells 3 rfl A),rfl,(hI.rowCells 4 rfl B),rfl,(by omega),(by omega),(by omega)⟩,(hI.rowCells 5 rfl g),rfl,g.cap,(by omega),(by omega),(by omega),(by omega)⟩ mb19 O E M22 (hI.has 1 _ _ rfl).1 hN23 s ((ki (ae pl dy) h).1) hTA.s0 (fun x hx=>by rw [C x (hTA.cin x hx)]; exact hTA.nb x hx)) fun w hI=>aw (by kernel_rfl) (fh rfl rfl ?_ ?_)))
  ·intro h8
   refine pu kg (by kernel_rfl) (pu kg (by kernel_rfl) (pu (iv 0) (by kernel_rfl) (aa (aj ?_))))
   have hsm:∀ z,fg (ax pl dy) M22 s z=fg (ax pl dy) N s z:=fun z=>gx (fun x hx=>C x (hTA.cin x hx)) s z
   simp only [hsm] at *
   exact ⟨.tuple #[.bool true,iv 0],Ret.r2 rfl rfl rfl,⟨by simp_all [trulyF],hI.below⟩⟩
  intro h9
  refine pu kf (by kernel_rfl) (pu kf (by kernel_rfl) (pu (iv 0) (by kernel_rfl) (aa (aj ?_))))
  have hsm:∀ z,fg (ax pl dy) M22 s z=fg (ax pl dy) N s z:=fun z=>gx (fun x hx=>C x (hTA.cin x hx)) s z
  simp only [hsm] at *
  exact ⟨.tuple #[.bool false,iv 0],Ret.r2 rfl rfl rfl,⟨by simp_all [trulyF],hI.below⟩⟩
 refine ac (bg hI 119 [.agg (qs7 (ae pl dy) g3 c4 g7 c8 a e d (ax pl dy) f).toArray,iv h] (.tuple #[iv ((ki (ae pl dy) h).1),.bool false]) (by kernel_rfl) (bn.mono (geese_c _ (ae pl dy) (g3.map fun b=>⟨b,0,none⟩) (ae pl dy).loads.length c4 (g7.map fun b=>⟨b,0,none⟩) (ae pl dy).stands.length c8 (a.map fun b=>⟨b,0,none⟩) (ae pl dy).spells.length e (ax pl dy) (d.map fun b=>⟨b,0,none⟩) (ax pl dy).length f ⟨⟨(hI.rowCells 2 rfl r6),rfl,(hI.rowCells 3 rfl A),rfl,(hI.rowCells 4 rfl B),rfl,(by omega),(by omega),(by omega)⟩,(hI.rowCells 5 rfl g),rfl,g.cap,(by omega),(by omega),(by omega),(by omega)⟩ h (isHour_bd (ip hhour).2.1) ⟨((ek pl).1 (ip hhour).1).g0,((ek pl).1 (ip hhour).1).g1⟩) (fun v w' h=>⟨h.1.trans (by first | (rw [h7]; done) | (rw [h7]; rfl)),h.2⟩)) fun w hI=>pu (.tuple #[iv ((ki (ae pl dy) h).1),.bool false]) (by kernel_rfl) (pu (iv ((ki (ae pl dy) h).1)) (by kernel_rfl) (pu kf (by kernel_rfl) (pu (iv ((ki (ae pl dy) h).1)) (by kernel_rfl) (pu kf (by kernel_rfl) (aa (ab (rgn (by kernel_rfl) (pu kf (by kernel_rfl) (pu kg (by kernel_rfl) ?_))))))))))
 refine pu kg (by kernel_rfl) (sf 4 (by kernel_rfl) (pu kg (by kernel_rfl) (pu kg (by kernel_rfl) (pu (iv 0) (by kernel_rfl) (aa (aj ?_))))))
 have hsm:∀ z,fg (ax pl dy) M22 s z=fg (ax pl dy) N s z:=fun z=>gx (fun x hx=>C x (hTA.cin x hx)) s z
 simp only [hsm] at *
 exact ⟨.tuple #[.bool true,iv 0],Ret.r2 rfl rfl rfl,⟨by simp_all [trulyF],hI.below⟩⟩

theorem s_callTruthF {P:Program} {ρ:Env} {B:List Nat} {w w0:World} {L:List (Option Nat × Obj)} {R:Value→World→Prop} (hI:Inv B w0 w L) {o:Oper} (f:FuncId) (args:List Value) (h:(execOp (ev ρ) o).run P w=.ok (.enter f args.toArray) w)
    (hc:bn P f args w fun v w'=>AnyTruth v∧Below w.heap.size w w') (kk:∀ (n0 n1:Int) (A1:Option Addr) (m1 k1:Nat) (A2:Option Addr) (m2 k2:Nat) (A3:Option Addr) (m3 k3:Nat) (n2:Int) (A4:Option Addr) (m4 k4:Nat) (n3:Int) (mb:Option Nat) w',Inv B w0 w' L→R (.tuple #[.agg (qn9 n0 n1 A1 m1 k1 A2 m2 k2 A3 m3 k3 n2 A4 m4 k4 n3 mb).toArray,.bool false]) w'):cw P o ρ w R :=
  co f args h hc fun v w' ⟨⟨n0,n1,A1,m1,k1,A2,m2,k2,A3,m3,k3,n2,A4,m4,k4,n3,mb,hv⟩,hb⟩=>by
    subst hv
    exact kk n0 n1 A1 m1 k1 A2 m2 k2 A3 m3 k3 n2 A4 m4 k4 n3 mb w' (hI.call hb)

set_option maxHeartbeats 1600000 in
theorem TrulyF_c (w0:World) (pl:Pl) (a:Option Addr) (d j:Nat) (e:Option Addr) (f k:Nat) (g:Option Addr) (i l:Nat) (hP:gz w0 pl a d e f g i) (h dy:Int) (s:Int) (tA:Option Addr) (tn tc:Nat) (ts:List Int) (hT:bi w0 tA (al dv ts)) (htn:tn=ts.length) (htx:ts.length≤9223372036854775807) (N:Int→Int) (hFA:ec pl h dy=0→AskAt (ae pl dy) (ax pl dy) ts N∧trueB (ae pl dy) (ax pl dy) s ts N=false):bn Tryz.prog 53 [.agg (qn6 pl.lo pl.hi a d j e f k g i l pl.geese).toArray,.agg #[.int .i64 s,.slice tA tn tc],.int .i64 h,.int .i64 dy] w0 fun v w=>v=.tuple #[.bool false,.int .i64 (if ec pl h dy=0 then 16 else ec pl h dy)]∧Below w0.heap.size w0 w:=by
 have hm1:=hP.m1; have hm2:=hP.m2; have hm3:=hP.m3
 refine az (n:=57) func53 rfl ntmps53 rfl ?_
 have hI:=Inv.start w0
 refine ab (rgn (by kernel_rfl) (ac (ca hI (qn6 pl.lo pl.hi a d j e f k g i l pl.geese) rfl fun b1 w hI=>ac (ca hI [iv s,.slice tA tn tc] rfl fun b2 w hI=>pu kf (by kernel_rfl) (pu (iv 0) (by kernel_rfl) (aa (ab (ab (rgn (by kernel_rfl) (ac (ar hI 1 6 (qn6 pl.lo pl.hi a d j e f k g i l pl.geese) isAgg28 sizeOf28 rfl rfl rfl rfl ?_)))))))))))
 refine pu (iv h) (by kernel_rfl) (pu (iv dy) (by kernel_rfl) (ac (bg hI 97 [.agg (qn6 pl.lo pl.hi a d j e f k g i l pl.geese).toArray,iv h,iv dy] (iv (ec pl h dy)) (by kernel_rfl) (checkHour_c _ pl a d j e f k g i l (hP.inv0 hI) h dy) fun w hI=>pu (iv (ec pl h dy)) (by kernel_rfl) (aa (ab (rgn (by kernel_rfl) (pu (iv (ec pl h dy)) (by kernel_rfl) (ac (de rfl rfl ?_ ?_)))))))))
 ·intro h1
  refine aa (ah rfl (ab (rgn (by kernel_rfl) (pu (iv (ec pl h dy)) (by kernel_rfl) (pu kf (by kernel_rfl) (pu (iv (ec pl h dy)) (by kernel_rfl) (aa (aj ?_))))))))
  exact ⟨.tuple #[.bool false,iv (ec pl h dy)],Ret.r2 rfl rfl rfl,⟨by rw [if_neg h1],hI.below⟩⟩
 intro h2
 refine aa (ai rfl (ak (ab (dh hI [0,1] (by decide) rfl (by kernel_rfl) (by kernel_rfl) fun hsub=>ap 0 (.agg (qn6 pl.lo pl.hi a d j e f k g i l pl.geese).toArray) hsub rfl (by kernel_rfl) (fun w hI=>ar hI 1 6 (qn6 pl.lo pl.hi a d j e f k g i l pl.geese) isAgg28 sizeOf28 rfl rfl rfl rfl br) ?_))))
 refine alp 1 (iv dy) hsub rfl (by kernel_rfl) (fun _=>(by kernel_rfl)) ?_
 refine ap 3 (.agg #[iv s,.slice tA tn tc]) hsub rfl (by kernel_rfl) (fun w hI=>ar hI 0 2 [iv s,.slice tA tn tc] isAgg57 sizeOf57 rfl rfl rfl rfl br) ?_
 refine bc [2,8] (by kernel_rfl) rfl (each2 ?_ ?_)
 ·intro w hI
  have hsl:=jn pl dy; obtain ⟨hsl1,hsl2,hsl3⟩:=hsl; have hsc:=ij pl dy; have hok_:=eo (ip h2).1; have hok1:=hok_.s1; have hok2:=hok_.s2; have hok3:=hok_.s3
  refine dg rfl (jh hI (q:=ae pl dy) (cs:=ax pl dy) 86 [.agg (qn6 pl.lo pl.hi a d j e f k g i l pl.geese).toArray,iv dy] (by kernel_rfl) (sceneOf_c _ pl a d j e f k g i l (hP.inv0 hI) (eo (ip h2).1) dy) fun g3 c4 cl5 g7 c8 cl9 m o aZ p r b0 w hI r6 aM aN t=>⟨_,hI,dc (fun _ h=>h.pk [4,5] rfl rfl) ?_⟩)
  intro hsub
  refine bc [4,8] (by kernel_rfl) rfl (each2 ?_ ?_)
  ·intro w hI
   have hQ:=hFA h2
   refine dg rfl (s_callTruthF hI 106 [.agg (qs7 (ae pl dy) g3 c4 g7 c8 m o p (ax pl dy) r).toArray,.agg #[iv s,.slice tA tn tc]] (by kernel_rfl) (truthF_c _ (ae pl dy) (g3.map fun b=>⟨b,0,none⟩) (ae pl dy).loads.length c4 (g7.map fun b=>⟨b,0,none⟩) (ae pl dy).stands.length c8 (m.map fun b=>⟨b,0,none⟩) (ae pl dy).spells.length o (ax pl dy) (p.map fun b=>⟨b,0,none⟩) (ax pl dy).length r ⟨⟨(hI.rowCells 0 rfl r6),rfl,(hI.rowCells 1 rfl aM),rfl,(hI.rowCells 2 rfl aN),rfl,(by omega),(by omega),(by omega)⟩,(hI.rowCells 3 rfl t),rfl,t.cap,(by omega),(by omega),(by omega),(by omega)⟩ s tA tn tc ts (hT.inv0 hI) htn htx N hQ.1.pl hQ.1.fd hQ.1.cin hQ.1.nt hQ.2) fun u x y z A B C D E F G H I J K L M w hI=>⟨_,hI,dc (fun _ h=>h.pk [4,5] rfl rfl) ?_⟩)
   intro hsub
   refine alp 5 (.tuple #[.agg (qn9 u x y z A B C D E F G H I J K L M).toArray,.bool false]) hsub rfl (by kernel_rfl) (fun _=>(by kernel_rfl)) ?_
   refine alp 6 (.agg (qn9 u x y z A B C D E F G H I J K L M).toArray) hsub rfl (by kernel_rfl) (fun _=>(by kernel_rfl)) ?_
   refine alp 7 kf hsub rfl (by kernel_rfl) (fun _=>(by kernel_rfl)) ?_
   refine bc [8] (by kernel_rfl) rfl (cz fun w hI=>dg rfl (bh hI (qn9 0 0 none 0 0 none 0 0 none 0 0 0 none 0 0 0 none) zeroValue144 rfl fun b3 w hI=>⟨_,hI,dc (fun _ h=>h.pk [5,6] rfl rfl) ?_⟩))
   intro hsub
   refine bc [9] (by kernel_rfl) rfl (cz fun w hI=>dg rfl (aq hI 0 9 (qn9 u x y z A B C D E F G H I J K L M) sizeOf144 rfl rfl rfl rfl rfl (kh rfl) fun w hI=>⟨_,hI,dc (fun _ h=>h.pk [5,6] rfl rfl) ?_⟩))
   intro hsub
   refine alp 10 kf hsub rfl (by kernel_rfl) (fun _=>(by kernel_rfl)) ?_
   refine cp (by kernel_rfl) (fun w hI=>?_)
   refine ab (ab (rgn (by kernel_rfl) (pu kf (by kernel_rfl) (pu kg (by kernel_rfl) (aa (ah rfl (ab (rgn (by kernel_rfl) (pu kf (by kernel_rfl) ?_)))))))))
   refine pu (iv 16) (by kernel_rfl) (aa (aj ?_))
   exact ⟨.tuple #[.bool false,iv 16],Ret.r2 rfl rfl rfl,⟨by rw [if_pos h2],hI.below⟩⟩
  intro w hI
  refine dg rfl (bh hI (qn9 0 0 none 0 0 none 0 0 none 0 0 0 none 0 0 0 none) zeroValue144 rfl fun b4 w hI=>⟨_,hI,dc (fun _ h=>h.pk [5,6] rfl rfl) ?_⟩)
  intro hsub
  refine bc [4] (by kernel_rfl) rfl (cz ?_)
  intro w hI
  have hQ:=hFA h2
  refine dg rfl (s_callTruthF hI 106 [.agg (qs7 (ae pl dy) g3 c4 g7 c8 m o p (ax pl dy) r).toArray,.agg #[iv s,.slice tA tn tc]] (by kernel_rfl) (truthF_c _ (ae pl dy) (g3.map fun b=>⟨b,0,none⟩) (ae pl dy).loads.length c4 (g7.map fun b=>⟨b,0,none⟩) (ae pl dy).stands.length c8 (m.map fun b=>⟨b,0,none⟩) (ae pl dy).spells.length o (ax pl dy) (p.map fun b=>⟨b,0,none⟩) (ax pl dy).length r ⟨⟨(hI.rowCells 1 rfl r6),rfl,(hI.rowCells 2 rfl aM),rfl,(hI.rowCells 3 rfl aN),rfl,(by omega),(by omega),(by omega)⟩,(hI.rowCells 4 rfl t),rfl,t.cap,(by omega),(by omega),(by omega),(by omega)⟩ s tA tn tc ts (hT.inv0 hI) htn htx N hQ.1.pl hQ.1.fd hQ.1.cin hQ.1.nt hQ.2) fun O P Q R S T U V W X Y Z a0 a1 a2 a3 a4 w hI=>⟨_,hI,dc (fun _ h=>h.pk [5,6] rfl rfl) ?_⟩)
  intro hsub
  refine alp 5 (.tuple #[.agg (qn9 O P Q R S T U V W X Y Z a0 a1 a2 a3 a4).toArray,.bool false]) hsub rfl (by kernel_rfl) (fun _=>(by kernel_rfl)) ?_
  refine alp 6 (.agg (qn9 O P Q R S T U V W X Y Z a0 a1 a2 a3 a4).toArray) hsub rfl (by kernel_rfl) (fun _=>(by kernel_rfl)) ?_
  refine alp 7 kf hsub rfl (by kernel_rfl) (fun _=>(by kernel_rfl)) ?_
  refine bc [9] (by kernel_rfl) rfl (cz fun w hI=>dg rfl (aq hI 0 9 (qn9 O P Q R S T U V W X Y Z a0 a1 a2 a3 a4) sizeOf144 rfl rfl rfl rfl rfl (kh rfl) fun w hI=>⟨_,hI,dc (fun _ h=>h.pk [5,6] rfl rfl) ?_⟩))
  intro hsub
  refine alp 10 kf hsub rfl (by kernel_rfl) (fun _=>(by kernel_rfl)) ?_
  refine cp (by kernel_rfl) (fun w hI=>?_)
  refine ab (ab (rgn (by kernel_rfl) (pu kf (by kernel_rfl) (pu kg (by kernel_rfl) (aa (ah rfl (ab (rgn (by kernel_rfl) (pu kf (by kernel_rfl) ?_)))))))))
  refine pu (iv 16) (by kernel_rfl) (aa (aj ?_))
  exact ⟨.tuple #[.bool false,iv 16],Ret.r2 rfl rfl rfl,⟨by rw [if_pos h2],hI.below⟩⟩
 intro w hI
 refine dg rfl (bh hI (qn9 0 0 none 0 0 none 0 0 none 0 0 0 none 0 0 0 none) zeroValue144 rfl fun b5 w hI=>⟨_,hI,dc (fun _ h=>h.pk [1,2] rfl rfl) ?_⟩)
 intro hsub
 refine bc [2] (by kernel_rfl) rfl (cz ?_)
 intro w hI
 have hsl:=jn pl dy; obtain ⟨hsl1,hsl2,hsl3⟩:=hsl; have hsc:=ij pl dy; have hok_:=eo (ip h2).1; have hok1:=hok_.s1; have hok2:=hok_.s2; have hok3:=hok_.s3
 refine dg rfl (jh hI (q:=ae pl dy) (cs:=ax pl dy) 86 [.agg (qn6 pl.lo pl.hi a d j e f k g i l pl.geese).toArray,iv dy] (by kernel_rfl) (sceneOf_c _ pl a d j e f k g i l (hP.inv0 hI) (eo (ip h2).1) dy) fun aO c57 b6 aP aQ b7 aR aS b8 aT aU b9 w hI aW aX aY aV=>⟨_,hI,dc (fun _ h=>h.pk [5,6] rfl rfl) ?_⟩)
 intro hsub
 refine bc [4] (by kernel_rfl) rfl (cz ?_)
 intro w hI
 have hQ:=hFA h2
 refine dg rfl (s_callTruthF hI 106 [.agg (qs7 (ae pl dy) aO c57 aP aQ aR aS aT (ax pl dy) aU).toArray,.agg #[iv s,.slice tA tn tc]] (by kernel_rfl) (truthF_c _ (ae pl dy) (aO.map fun b=>⟨b,0,none⟩) (ae pl dy).loads.length c57 (aP.map fun b=>⟨b,0,none⟩) (ae pl dy).stands.length aQ (aR.map fun b=>⟨b,0,none⟩) (ae pl dy).spells.length aS (ax pl dy) (aT.map fun b=>⟨b,0,none⟩) (ax pl dy).length aU ⟨⟨(hI.rowCells 0 rfl aW),rfl,(hI.rowCells 1 rfl aX),rfl,(hI.rowCells 2 rfl aY),rfl,(by omega),(by omega),(by omega)⟩,(hI.rowCells 3 rfl aV),rfl,aV.cap,(by omega),(by omega),(by omega),(by omega)⟩ s tA tn tc ts (hT.inv0 hI) htn htx N hQ.1.pl hQ.1.fd hQ.1.cin hQ.1.nt hQ.2) fun a5 a6 a7 a8 a9 aA aB aC aD aE aF aG aH aI aJ aK aL w hI=>⟨_,hI,dc (fun _ h=>h.pk [5,6] rfl rfl) ?_⟩)
 intro hsub
 refine alp 5 (.tuple #[.agg (qn9 a5 a6 a7 a8 a9 aA aB aC aD aE aF aG aH aI aJ aK aL).toArray,.bool false]) hsub rfl (by kernel_rfl) (fun _=>(by kernel_rfl)) ?_
 refine alp 6 (.agg (qn9 a5 a6 a7 a8 a9 aA aB aC aD aE aF aG aH aI aJ aK aL).toArray) hsub rfl (by kernel_rfl) (fun _=>(by kernel_rfl)) ?_
 refine alp 7 kf hsub rfl (by kernel_rfl) (fun _=>(by kernel_rfl)) ?_
 refine bc [9] (by kernel_rfl) rfl (cz fun w hI=>dg rfl (aq hI 4 9 (qn9 a5 a6 a7 a8 a9 aA aB aC aD aE aF aG aH aI aJ aK aL) sizeOf144 rfl rfl rfl rfl rfl (kh rfl) fun w hI=>⟨_,hI,dc (fun _ h=>h.pk [5,6] rfl rfl) ?_⟩))
 intro hsub
 refine alp 10 kf hsub rfl (by kernel_rfl) (fun _=>(by kernel_rfl)) ?_
 refine cp (by kernel_rfl) (fun w hI=>?_)
 refine ab (ab (rgn (by kernel_rfl) (pu kf (by kernel_rfl) (pu kg (by kernel_rfl) (aa (ah rfl (ab (rgn (by kernel_rfl) (pu kf (by kernel_rfl) ?_)))))))))
 refine pu (iv 16) (by kernel_rfl) (aa (aj ?_))
 exact ⟨.tuple #[.bool false,iv 16],Ret.r2 rfl rfl rfl,⟨by rw [if_pos h2],hI.below⟩⟩

end Go.K
