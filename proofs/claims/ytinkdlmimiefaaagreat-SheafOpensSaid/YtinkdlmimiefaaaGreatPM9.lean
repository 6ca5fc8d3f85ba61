import Derived.Test.YtinkdlmimiefaaaGreatProg
import Derived.Test.YtinkdlmimiefaaaGreatPM5a
import Derived.Test.YtinkdlmimiefaaaGreatPKK2
namespace Go.K
open Go.Proofs.Tryz
open Go.Proofs Go.RowKit
set_option linter.unusedVariables false
set_option linter.unusedSimpArgs false
set_option maxRecDepth 100000
attribute [local irreducible] Seq cw cx fl opX

def AtI (A AA:Option Addr) {α:Type} (cs:List α) (i k:Nat):Prop:=cs.drop i≠[]→∃ b off,A=some ⟨b,off,none⟩∧AA=some ⟨b,off+i * k,none⟩
theorem AtI.start {α:Type} {enc:α→List Value} {k:Nat} (hk:∀ x,(enc x).length=k) (hk0:0 < k) {w:World} {A:Option Addr} {cs:List α} (hC:bi w A (al enc cs)):AtI A A cs 0 k:=fun h=>by
  cases cs with
  | nil=>exact absurd rfl h
  | cons x l =>
    obtain ⟨b,off,hA,_⟩:=hC (by rw [dt hk,List.length_cons,Nat.add_mul]; omega)
    exact ⟨b,off,hA,by rw [hA,Nat.zero_mul,Nat.add_zero]⟩
theorem AtI.cells {α:Type} {enc:α→List Value} {k:Nat} (hk:∀ x,(enc x).length=k) (hk0:0 < k) {w:World} {A AA:Option Addr} {cs:List α} {i:Nat} (h:AtI A AA cs i k) (hC:bi w A (al enc cs)):bi w AA (al enc (cs.drop i)):=fun hx=>by
  have hne:cs.drop i≠[]:=by intro e; rw [e] at hx; simp [al] at hx
  obtain ⟨b,off,hA,hAA⟩:=h hne
  have hlen:0 < (al enc cs).length:=by
    rw [dt hk]
    cases cs with
    | nil=>simp at hne
    | cons x l=>rw [List.length_cons,Nat.add_mul]; omega
  obtain ⟨b',off',hA',hlt,hc⟩:=hC hlen
  rw [hA] at hA'; injection hA' with hA'; injection hA' with e1 e2; subst e1; subst e2
  refine ⟨b,off+i * k,hAA,hlt,fun j u hj=>?_⟩
  rw [Nat.add_assoc]
  refine hc _ u ?_
  rw [← flat_drop hk,List.getElem?_drop] at hj
  exact hj
theorem AtI.step {α:Type} {k:Nat} {A AA:Option Addr} {cs:List α} {i j c:Nat} (h:AtI A AA cs i k) (hj:j+i < cs.length→j < c):AtI A (sub AA c j k) cs (i+j) k:=fun hne=>by
  have hl:i+j < cs.length:=by
    rcases Nat.lt_or_ge (i+j) cs.length with hlt | hge
    · exact hlt
    exact absurd (List.drop_eq_nil_of_le hge) hne
  obtain ⟨b,off,hA,hAA⟩:=h (by
    intro e
    have:=List.length_drop (i:=i) (l:=cs)
    rw [e] at this; simp at this; omega)
  have hc:=hj (by omega)
  refine ⟨b,off,hA,?_⟩
  rw [hAA,sub,if_neg (by omega)]
  show some ((Addr.mk b (off+i * k) none).add (j * k))=_
  rw [jl,Nat.add_mul,Nat.add_assoc]

theorem grp_of {cs:List Ld} {i j:Nat} {h:Int} (hall:∀ q y,q < j→(cs.drop i)[q]?=some y→y.hr=h):∀ q y,i≤q→q < i+j→cs[q]?=some y→y.hr=h:=fun q y h1 h2 h3=>by
  refine hall (q - i) y (by omega) ?_
  rw [List.getElem?_drop,show i+(q - i)=q by omega]; exact h3


theorem byHour_c (w0:World) (lo hi ge:Int) (V1 V2 V3:Value) (A:Option Addr) (n c:Nat) (cs:List Ld) (l:Nat) (J:Nat→World→Prop) (Jx:World→Prop) (hn:n=cs.length) (hmax:n≤100000) (hcap:n≤c) (h0:J 0 w0) (hbel:∀ i W W',J i W→Below W.heap.size W W'→J i W') (hread:∀ i W,J i W→bi W A (al eLd cs)) (hY:∀ i m h A2 c2 W,J i W→0 < m→i+m≤n→(∀ q y,i≤q→q < i+m→cs[q]?=some y→y.hr=h)→AtI A A2 cs i 6→cx Tryz.prog (yfn l) [.int .i64 h,.slice A2 m c2] W fun v W'=>(v=.bool true∧J (i+m) W')∨(v=.bool false∧Jx W')):bn Tryz.prog 113 [.agg #[.int .i64 lo,.int .i64 hi,V1,V2,V3,.int .i64 ge,.slice A n c],yfn l] w0 fun v w=>J n w∨Jx w:=by
 refine az (n:=41) func113 rfl ntmps113 rfl ?_
 have hI:=Inv.start w0
 refine ab (rgn rfl (ac (ca hI [iv lo,iv hi,V1,V2,V3,iv ge,.slice A n c] rfl fun b1 w hI=>aa (ab (rgn rfl (pu (.pointer (some ⟨b1,6,none⟩)) rfl (ac (ag hI 0 (.slice A n c) isAgg24 rfl rfl rfl ?_))))))))
 refine pu (.slice A n c) rfl (aa (au ?_))
 obtain ⟨wc,hwc⟩:∃ z,z=w:=⟨_,rfl⟩
 have hJ:J 0 wc:=by rw [hwc]; exact hbel 0 w0 w h0 hI.below
 have hI:Inv []  wc w []:=by rw [hwc]; exact Inv.start w
 refine cb (fun m ρ w=>∃ (i:Nat) (AA:Option Addr) (k:Nat) (cc:Nat) (wc:World),cd ρ [(1,yfn l),(4,.slice AA k cc)]∧Inv []  wc w []∧(i+k=n)∧(k≤cc)∧(i+cc=c)∧(J i wc)∧(AtI A AA cs i 6)∧m=k) (m:=n) ⟨0,A,n,c,wc,⟨rfl,rfl,trivial⟩,hI.pk [] rfl rfl,(by omega),hcap,(by omega),hJ,(AtI.start bf (by decide) (hread 0 wc hJ)),rfl⟩ ?_
 rintro m ρ w ⟨i,AA,k,cc,wc,hag,hI,hik,hkc,hic,hJ,hAt,hm⟩
 obtain ⟨ρ,rfl⟩:=hag.form; clear hag
 have hC:bi wc AA (al eLd (cs.drop i)):=hAt.cells bf (by decide) (hread i wc hJ)
 have hdl:(cs.drop i).length=k:=by rw [List.length_drop]; omega
 refine ab (ab (rgn rfl (pu (.slice AA k cc) rfl (pu (iv ((k:Nat):Int)) (by kernel_rfl) (ac (fh rfl rfl ?_ ?_))))))
 ·intro h1
  refine aa (ah rfl (ak (au ?_)))
  refine ab (rgn rfl (pu (.slice AA k cc) rfl ?_))
  obtain ⟨x2,hx3⟩:=bq (l:=cs.drop i) (i:=0) (by omega)
  obtain ⟨b4,o5,hA6,hb7,he8⟩:=hC.at_ bf (by decide) hx3
  refine ac (cn 0 underlying24 sizeOf30 rfl hA6 rfl rfl (by omega) ?_)
  refine pu (.pointer (some ⟨b4,o5+0 * 6+1,none⟩)) rfl (ac (dj hI (iv x2.hr) isAgg3 rfl hb7 (by simp) (he8 1 _ rfl) ?_))
  refine pu (iv x2.hr) rfl (pu (iv 1) rfl (aa (ab (au ?_))))
  refine cb (fun m ρ w=>∃ (j:Nat),cd ρ [(1,yfn l),(4,.slice AA k cc),(5,iv x2.hr),(6,iv (j:Int))]∧Inv []  wc w []∧(1≤j)∧(j≤k)∧(∀ q y,q < j→(cs.drop i)[q]?=some y→y.hr=x2.hr)∧m=k - j) (m:=k - 1) ⟨1,⟨rfl,rfl,rfl,rfl,trivial⟩,hI.pk [] rfl rfl,(by omega),(by omega),(fun q y hq hy=>by have hq0:q=0:=(by omega); subst hq0; rw [hx3] at hy; injection hy with hy; rw [hy]),rfl⟩ ?_
  rintro m ρ w ⟨j,hag,hI,hj0,hjk,hall,hm⟩
  obtain ⟨ρ,rfl⟩:=hag.form; clear hag
  refine ab (ab (rgn rfl (pu (iv (j:Int)) rfl (pu (.slice AA k cc) rfl (pu (iv ((k:Nat):Int)) (by kernel_rfl) (ac (cm rfl rfl ?_ ?_)))))))
  ·intro h2
   refine pu kg rfl (puo (.slice AA k cc) ⟨rfl,rfl⟩ (puo (iv (j:Int)) ⟨rfl,rfl⟩ ?_))
   obtain ⟨x9,a⟩:=bq (l:=cs.drop i) (i:=j) (by omega)
   obtain ⟨b,d,e,f,g⟩:=hC.at_ bf (by decide) a
   refine aw rfl (cn j underlying24 sizeOf30 rfl e rfl rfl (by omega) ?_)
   refine puo (.pointer (some ⟨b,d+j * 6+1,none⟩)) ⟨rfl,rfl⟩ (aw rfl (dj hI (iv x9.hr) isAgg3 rfl f (by simp) (g 1 _ rfl) ?_))
   refine puo (iv x2.hr) ⟨rfl,rfl⟩ (aw rfl (di rfl rfl ?_ ?_))
   ·intro h3
    refine pu kg rfl (aa (ah rfl (ak (au ?_))))
    refine rgn rfl (pu (iv (j:Int)) rfl (ac (cj rfl rfl (by omega) ?_)))
    refine pu (iv ((j:Int)+1)) rfl (aa ?_)
    exact ⟨rfl,_,(by omega),⟨j+1,⟨rfl,rfl,rfl,rfl,trivial⟩,hI.pk [] rfl rfl,(by omega),(by omega),(all_step (Q:=fun _ y=>y.hr=x2.hr) hall a (by assumption)),rfl⟩⟩
   intro h4
   refine pu kf rfl (aa (ai rfl (bw ?_)))
   refine ab (ab (rgn rfl (pu (yfn l) rfl (pu (iv x2.hr) rfl (pu (.slice AA k cc) rfl (pu (iv (j:Int)) rfl (ac (s_sliceHi j underlying24 sizeOf30 rfl rfl (by omega) ?_))))))))
   refine ac (im [iv x2.hr,.slice AA j cc] rfl (by kernel_rfl) (hY i j x2.hr AA cc w (hbel i wc w hJ hI.below) (by omega) (by omega) (grp_of hall) hAt) ?_)
   rintro v w (⟨rfl,hJ⟩ | ⟨rfl,hJx⟩)
   ·
    obtain ⟨wd,hwd⟩:∃ z,z=w:=⟨_,rfl⟩
    have hI:Inv []  wd w []:=by rw [hwd]; exact Inv.start w
    rw [← hwd] at hJ
    refine pu kf rfl (aa (ai rfl (ak (rgn rfl (pu (.slice AA k cc) rfl (pu (iv (j:Int)) rfl (ac (ka j underlying24 sizeOf30 rfl rfl (by omega) (by omega) ?_))))))))
    refine pu (.slice (sub AA cc j 6) (k - j) (cc - j)) rfl (aa ?_)
    exact ⟨rfl,_,(by omega),⟨i+j,sub AA cc j 6,k - j,cc - j,wd,⟨rfl,rfl,trivial⟩,hI.pk [] rfl rfl,(by omega),(by omega),(by omega),hJ,(hAt.step (by omega)),rfl⟩⟩
   refine pu kg rfl (aa (ah rfl (aj ?_)))
   exact ⟨.tuple #[],Ret.r0 rfl , .inr hJx⟩
  intro h5
  refine pu kf rfl (of_ rfl (of_ rfl (of_ rfl (of_ rfl (of_ rfl (of_ rfl (of_ rfl (pu kf rfl (aa ?_)))))))))
  refine ai rfl (bw ?_)
  refine ab (ab (rgn rfl (pu (yfn l) rfl (pu (iv x2.hr) rfl (pu (.slice AA k cc) rfl (pu (iv (j:Int)) rfl (ac (s_sliceHi j underlying24 sizeOf30 rfl rfl (by omega) ?_))))))))
  refine ac (im [iv x2.hr,.slice AA j cc] rfl (by kernel_rfl) (hY i j x2.hr AA cc w (hbel i wc w hJ hI.below) (by omega) (by omega) (grp_of hall) hAt) ?_)
  rintro v w (⟨rfl,hJ⟩ | ⟨rfl,hJx⟩)
  ·
   obtain ⟨wd,hwd⟩:∃ z,z=w:=⟨_,rfl⟩
   have hI:Inv []  wd w []:=by rw [hwd]; exact Inv.start w
   rw [← hwd] at hJ
   refine pu kf rfl (aa (ai rfl (ak (rgn rfl (pu (.slice AA k cc) rfl (pu (iv (j:Int)) rfl (ac (ka j underlying24 sizeOf30 rfl rfl (by omega) (by omega) ?_))))))))
   refine pu (.slice (sub AA cc j 6) (k - j) (cc - j)) rfl (aa ?_)
   exact ⟨rfl,_,(by omega),⟨i+j,sub AA cc j 6,k - j,cc - j,wd,⟨rfl,rfl,trivial⟩,hI.pk [] rfl rfl,(by omega),(by omega),(by omega),hJ,(hAt.step (by omega)),rfl⟩⟩
  refine pu kg rfl (aa (ah rfl (aj ?_)))
  exact ⟨.tuple #[],Ret.r0 rfl , .inr hJx⟩
 intro h6
 refine aa (ai rfl (bw ?_))
 exact ⟨.tuple #[],Ret.r0 rfl , .inl (by rw [show n=i by omega]; exact hbel i wc w hJ hI.below)⟩

def dz (cs:List Ld) (h:Int):Nat:=(cs.takeWhile fun x=>decide (x.hr≤h)).length
theorem cart_all {h:Int}:∀ {cs:List Ld} {n:Nat},(∀ q y,q < n→cs[q]?=some y→y.hr≤h)→n=cs.length→dz cs h=n
  | [],n,_,hn=>hn.symm
  | x :: cs,n,hall,hn=>by
    have h0:=hall 0 x (by rw [hn]; simp) rfl
    have ih:=cart_all (cs:=cs) (n:=cs.length) (fun q y hq hy=>hall (q+1) y (by rw [hn]; simpa using hq) (by simpa using hy)) rfl
    unfold dz at ih ⊢
    rw [List.takeWhile_cons,if_pos (by simpa using h0),List.length_cons,ih,hn,List.length_cons]
theorem cart_stop {h:Int}:∀ {cs:List Ld} {i:Nat} {y:Ld},(∀ q y,q < i→cs[q]?=some y→y.hr≤h)→cs[i]?=some y→h < y.hr→dz cs h=i
  | [],i,y,_,hy,_=>by simp at hy
  | x :: cs,0,y,_,hy,hh=>by
    simp only [List.getElem?_cons_zero,Option.some.injEq] at hy
    subst hy
    unfold dz
    rw [List.takeWhile_cons,if_neg (by simpa using hh)]; rfl
  | x :: cs,i+1,y,hall,hy,hh=>by
    have h0:=hall 0 x (by omega) rfl
    have ih:=cart_stop (cs:=cs) (i:=i) (y:=y) (fun q y hq hy=>hall (q+1) y (by omega) (by simpa using hy)) (by simpa using hy) hh
    unfold dz at ih ⊢
    rw [List.takeWhile_cons,if_pos (by simpa using h0),List.length_cons,ih]
theorem cart_le (cs:List Ld) (h:Int):dz cs h≤cs.length:=by
  unfold dz
  exact (List.takeWhile_sublist _).length_le
theorem grp_all {cs:List Ld} {h hh:Int} {i m:Nat} (hin:∀ q y,q < i→cs[q]?=some y→y.hr≤h) (hgrp:∀ q y,i≤q→q < i+m→cs[q]?=some y→y.hr=hh) (hle:¬ h < hh):∀ q y,q < i+m→cs[q]?=some y→y.hr≤h:=fun q y hq hy=>by
  rcases Nat.lt_or_ge q i with h1 | h1
  · exact hin q y h1 hy
  have:=hgrp q y h1 hq hy; omega
theorem grp_one {cs:List Ld} {h hh:Int} {i m:Nat} (hgrp:∀ q y,i≤q→q < i+m→cs[q]?=some y→y.hr=hh) (hm:0 < m) (hl:i < cs.length) (hlt:h < hh):∃ y,cs[i]?=some y∧h < y.hr:=by
  obtain ⟨y,hy⟩:=bq hl
  exact ⟨y,hy,by rw [hgrp i y (Nat.le_refl _) (by omega) hy]; exact hlt⟩


theorem cartedBy_c (w0:World) (lo hi ge:Int) (V1 V2 V3:Value) (A:Option Addr) (n c:Nat) (cs:List Ld) (h:Int) (hn:n=cs.length) (hmax:n≤100000) (hcap:n≤c) (hC:bi w0 A (al eLd cs)):bn Tryz.prog 115 [.agg #[.int .i64 lo,.int .i64 hi,V1,V2,V3,.int .i64 ge,.slice A n c],.int .i64 h] w0 fun v w=>v=.int .i64 ((dz cs h:Nat):Int)∧Below w0.heap.size w0 w:=by
 refine az (n:=20) func115 rfl ntmps115 rfl ?_
 have hI:=Inv.start w0
 refine ab (rgn rfl (ac (ca hI [iv lo,iv hi,V1,V2,V3,iv ge,.slice A n c] rfl fun b1 w hI=>ac (ca hI [iv h] rfl fun b2 w hI=>pu (iv 0) rfl (aa (ab (rgn rfl (ac (bh hI [iv 0] zeroValue3 rfl fun b3 w hI=>ac (aq hI 0 1 [iv 0] sizeOf3 rfl rfl rfl rfl rfl (kh rfl) fun w hI=>aa (ab (ab (rgn rfl (ac (ar hI 2 7 [iv lo,iv hi,V1,V2,V3,iv ge,.slice A n c] isAgg116 sizeOf116 rfl rfl rfl rfl ?_)))))))))))))))
 refine pu (.func (.func 113) #[.agg #[iv lo,iv hi,V1,V2,V3,iv ge,.slice A n c]] #[]) (by kernel_rfl) (aa (au ?_))
 refine wp_rangeFunc hI (first := #[.agg #[iv lo,iv hi,V1,V2,V3,iv ge,.slice A n c]]) (cap := #[]) rfl 113 (fun y=>[.agg #[iv lo,iv hi,V1,V2,V3,iv ge,.slice A n c],y]) (fun l W=>by kernel_rfl) fun rcq4 lqq4 w hpsq4 hasq4 hboq4 hofq4 hI=>bn.mono (byHour_c w lo hi ge (V1) (V2) (V3) A n c cs lqq4 (fun (i:Nat) (W:World)=>∃ (vv:Int),Inv []  w0 W [(some lqq4,rcq4.at .ready none),(some rcq4.defers,.deferred (some [])),(some b3,blk [iv vv] 3),(some b2,blk [iv h] 3),(some b1,blk [iv lo,iv hi,V1,V2,V3,iv ge,.slice A n c] 116)]∧(vv=((i:Nat):Int))∧(∀ q y,q < i→cs[q]?=some y→y.hr≤h)) (fun (W:World)=>∃ (i:Nat) (vv:Int),Inv []  w0 W [(some lqq4,rcq4.at .done (some (.exit 0))),(some rcq4.defers,.deferred (some [])),(some b3,blk [iv vv] 3),(some b2,blk [iv h] 3),(some b1,blk [iv lo,iv hi,V1,V2,V3,iv ge,.slice A n c] 116)]∧(vv=((i:Nat):Int))∧(∀ q y,q < i→cs[q]?=some y→y.hr≤h)∧(∃ y,cs[i]?=some y∧h < y.hr)) hn (by omega) hcap ⟨0,hI.pk [0,1,2,3,4] rfl rfl,rfl,(fun q y hq _=>absurd hq (by omega))⟩ (fun i W W' ⟨vv,hj,hr⟩ hb=>⟨vv,hj.call hb,hr⟩) (fun i W ⟨vv,hj,hr⟩=>hC.inv0 hj) ?_) ?_
 ·rintro i m hh A2 c2 w ⟨vv,hI,hv,hin⟩ hm0 him hgrp hat
  refine callV_yield hI hofq4 [10,11] hpsq4 rfl (by decide) ?_
  rw [hasq4]
  refine ab (rgn rfl (pu (iv hh) rfl (aa (rgn rfl (pu (.slice A2 m c2) rfl (aa (⟨rfl,_,hI,?_⟩)))))))
  intro w hI
  rw [hboq4]
  refine au ?_
  refine ab (ab (rgn rfl (pu (iv hh) rfl (ac (ag hI 3 (iv h) isAgg3 rfl rfl rfl ?_)))))
  refine ac (fh rfl rfl ?_ ?_)
  ·intro h1
   refine aa (ah rfl (bw ?_))
   exact ⟨_,hI.pk [0,1,2,3,4] rfl rfl,fun w hI=>.inr ⟨rfl,i,vv,hI,hv,hin,(grp_one hgrp (by omega) (by omega) (by assumption))⟩⟩
  intro h2
  refine aa (ai rfl (ak (rgn rfl (ac (ag hI 2 (iv vv) isAgg3 rfl rfl rfl ?_)))))
  refine pu (.slice A2 m c2) rfl (pu (iv ((m:Nat):Int)) (by kernel_rfl) (ac (cj rfl rfl (by omega) ?_)))
  refine ac (aq hI 2 1 [iv (vv+(m:Int))] sizeOf3 rfl rfl rfl rfl rfl (kh rfl) fun w hI=>aa ?_)
  exact ⟨_,hI.pk [0,1,2,3,4] rfl rfl,fun w hI=>.inl ⟨rfl,vv+(m:Int),hI,(by omega),(grp_all hin hgrp (by assumption))⟩⟩
 rintro _ w (⟨vv,hI,hv,hin⟩ | ⟨ix,vv,hI,hv,hin,hex⟩)
 ·
  refine ⟨_,.inl ⟨hI,fun w hI=>?_⟩⟩
  refine ab (rgn rfl (ac (ag hI 2 (iv vv) isAgg3 rfl rfl rfl ?_)))
  refine pu (iv vv) rfl (aa (aj (LeaveE.mark (D:=rcq4.defers) (hI.pk [1,0,2,3,4] rfl rfl) fun w hI=>⟨iv vv,Ret.r1 rfl rfl,⟨by rw [hv,cart_all hin hn],hI.below⟩⟩)))
 refine ⟨_,.inr ⟨.exit 0,hI,fun w hI=>?_⟩⟩
 refine bw ?_
 refine ab (rgn rfl (ac (ag hI 2 (iv vv) isAgg3 rfl rfl rfl ?_)))
 refine pu (iv vv) rfl (aa (aj (LeaveE.mark (D:=rcq4.defers) (hI.pk [1,0,2,3,4] rfl rfl) fun w hI=>⟨iv vv,Ret.r1 rfl rfl,⟨by obtain ⟨y,hy,hlt⟩:=hex; rw [hv,cart_stop hin hy hlt],hI.below⟩⟩)))

end Go.K
