import Derived.Test.YtinkdlmimiefaaaGreatProg
import Derived.Test.YtinkdlmimiefaaaGreatPM12
namespace Go.K
open Go.Proofs.Tryz
open Go.Proofs Go.RowKit
set_option linter.unusedVariables false
set_option linter.unusedSimpArgs false
set_option maxRecDepth 100000
attribute [local irreducible] Seq cw cx fl opX

section steps
variable {P:Program} {ρ:Env} {w:World} {R:Value→World→Prop} {d:Option Nat} {ty:TypeId} {pos:String} {af:Array Edge} {gd:Option (Nat × Bool)}
theorem s_rem24 {T Ty:TypeId} {x:Operand} {a:Int} (ha:ev ρ x=.int .i64 a) (h:0≤a∧a≤1000000) (k:R (.int .i64 (a % 24)) w) :
    cw P ⟨d,.binOp .rem T x (.const (.int .i64 24)) Ty,ty,pos,af,gd⟩ ρ w R:=by
  refine kl (.int .i64 (a % 24)) ?_ k
  have:execOp (ev ρ) ⟨d,.binOp .rem T x (.const (.int .i64 24)) Ty,ty,pos,af,gd⟩=(do pure (.value (← (do eqGuard .rem T x (.const (.int .i64 24)) (ev ρ x) (.int .i64 24); binOp .rem T (ev ρ x) (.int .i64 24))))):=rfl
  rw [this,ha,show a % 24=a.tmod 24 by rw [Int.tmod_eq_emod_of_nonneg h.1]]
  rfl
end steps
def ep (p:Pl) (cs:List Ld) (h:Int):Rg × Bool:=if (ay p cs).2 then ((ay p cs).1.getD (dz cs h) ⟨0,0⟩,true) else (⟨0,0⟩,false)
def placeF (cs:List Ld) (s:Int):Int × Bool:=if 0≤idxI (fun x:Ld=>decide (x.src=s)) cs then (idxI (fun x:Ld=>decide (x.src=s)) cs,true) else (0,false)
def shutF (p:Pl) (h:Int):Bool:=decide (h % 24 < 8) || decide (19≤h % 24) || p.spells.any fun x=>decide (x.fr≤h) && decide (h≤x.to)
def ki (p:Pl) (h:Int):Int × Bool:=(h - 24 * p.geese,decide (0 < p.geese) && decide (0≤h - 24 * p.geese))
def kj (p:Pl) (h lo hi:Int):Pl:={ p with stands:=p.stands++[⟨0,h,lo,hi,0,0⟩] }


theorem sound_c (w0:World) (pl:Pl) (a:Option Addr) (b d:Nat) (e:Option Addr) (f g:Nat) (h:Option Addr) (i j:Nat) (cs:List Ld) (k:Option Addr) (l m:Nat) (hSc:ScIn w0 pl a b d e f g h i j cs k l m) (hok:ScOk pl cs):bn Tryz.prog 87 [.agg (qn7 pl.lo pl.hi a b d e f g h i j pl.geese k l m).toArray] w0 fun v w=>v=.bool (ay pl cs).2∧Below w0.heap.size w0 w:=by
 have hm1:=hSc.p.m1; have hm2:=hSc.p.m2; have hm3:=hSc.p.m3; have hm4:=hSc.m4; have hk4:=hSc.k4; have hz1:=hSc.z1; have hz2:=hSc.z2; have hz3:=hSc.z3; have hz4:=hSc.z4
 refine az (n:=11) func87 rfl ntmps87 rfl ?_
 have hI:=Inv.start w0
 refine ab (rgn rfl (ac (ca hI (qn7 pl.lo pl.hi a b d e f g h i j pl.geese k l m) rfl fun b1 w hI=>pu kf rfl (aa (ab (rgn rfl (ac (ar hI 0 7 (qn7 pl.lo pl.hi a b d e f g h i j pl.geese k l m) isAgg116 sizeOf116 rfl rfl rfl rfl ?_))))))))
 rcases Bool.eq_false_or_eq_true (ay pl cs).2 with h1 | h1
 ·
  refine ac (fy hI 102 [.agg (qn7 pl.lo pl.hi a b d e f g h i j pl.geese k l m).toArray] (fun v1=>.tuple #[v1,.bool true]) (by kernel_rfl) (bn.mono (stood_c _ pl a b d e f g h i j cs k l m (hSc.inv0 hI) hok) (fun v w' ⟨v1,e1,e2⟩=>⟨v1,by rw [e1,h1],e2⟩)) ?_)
  intro g2 c3 cl4 w hI r5
  have r5:Row 2 g2 (ay pl cs).1.length c3 cl4 (al eRg (ay pl cs).1):=r5
  have hsl:=stoodF_len h1
  refine pu (.tuple #[slv g2 (ay pl cs).1.length c3,.bool true]) rfl (pu (slv g2 (ay pl cs).1.length c3) rfl (pu kg rfl (pu (slv g2 (ay pl cs).1.length c3) rfl (pu kg rfl (aa (ab (rgn rfl (pu kg rfl (pu kg rfl ?_)))))))))
  refine aa (aj ?_)
  exact ⟨.bool true,Ret.r1 rfl rfl,⟨by rw [h1],hI.below⟩⟩
 refine ac (fy hI 102 [.agg (qn7 pl.lo pl.hi a b d e f g h i j pl.geese k l m).toArray] (fun v1=>.tuple #[v1,.bool false]) (by kernel_rfl) (bn.mono (stood_c _ pl a b d e f g h i j cs k l m (hSc.inv0 hI) hok) (fun v w' ⟨v1,e1,e2⟩=>⟨v1,by rw [e1,h1],e2⟩)) ?_)
 intro g6 c7 cl8 w hI r9
 have r9:Row 2 g6 (ay pl cs).1.length c7 cl8 (al eRg (ay pl cs).1):=r9
 refine pu (.tuple #[slv g6 (ay pl cs).1.length c7,.bool false]) rfl (pu (slv g6 (ay pl cs).1.length c7) rfl (pu kf rfl (pu (slv g6 (ay pl cs).1.length c7) rfl (pu kf rfl (aa (ab (rgn rfl (pu kf rfl (pu kf rfl ?_)))))))))
 refine aa (aj ?_)
 exact ⟨.bool false,Ret.r1 rfl rfl,⟨by rw [h1],hI.below⟩⟩


theorem stoodAt_c (w0:World) (pl:Pl) (a:Option Addr) (b d:Nat) (e:Option Addr) (f g:Nat) (j:Option Addr) (k m:Nat) (cs:List Ld) (o:Option Addr) (q r:Nat) (hSc:ScIn w0 pl a b d e f g j k m cs o q r) (hok:ScOk pl cs) (h:Int):bn Tryz.prog 98 [.agg (qn7 pl.lo pl.hi a b d e f g j k m pl.geese o q r).toArray,.int .i64 h] w0 fun v w=>v=.tuple #[.agg (eRg (ep pl cs h).1).toArray,.bool (ep pl cs h).2]∧Below w0.heap.size w0 w:=by
 have hm1:=hSc.p.m1; have hm2:=hSc.p.m2; have hm3:=hSc.p.m3; have hm4:=hSc.m4; have hk4:=hSc.k4; have hz1:=hSc.z1; have hz2:=hSc.z2; have hz3:=hSc.z3; have hz4:=hSc.z4
 refine az (n:=22) func98 rfl ntmps98 rfl ?_
 have hI:=Inv.start w0
 refine ab (rgn rfl (ac (ca hI (qn7 pl.lo pl.hi a b d e f g j k m pl.geese o q r) rfl fun b1 w hI=>ac (bh hI [iv 0,iv 0] zeroValue23 rfl fun b2 w hI=>pu kf rfl (aa (ab (rgn rfl (ac (ar hI 1 7 (qn7 pl.lo pl.hi a b d e f g j k m pl.geese o q r) isAgg116 sizeOf116 rfl rfl rfl rfl ?_)))))))))
 rcases Bool.eq_false_or_eq_true (ay pl cs).2 with h1 | h1
 ·
  refine ac (fy hI 102 [.agg (qn7 pl.lo pl.hi a b d e f g j k m pl.geese o q r).toArray] (fun v1=>.tuple #[v1,.bool true]) (by kernel_rfl) (bn.mono (stood_c _ pl a b d e f g j k m cs o q r (hSc.inv0 hI) hok) (fun v w' ⟨v1,e1,e2⟩=>⟨v1,by rw [e1,h1],e2⟩)) ?_)
  intro g3 c4 cl5 w hI r6
  have r6:Row 2 g3 (ay pl cs).1.length c4 cl5 (al eRg (ay pl cs).1):=r6
  have hsl:=stoodF_len h1
  refine pu (.tuple #[slv g3 (ay pl cs).1.length c4,.bool true]) rfl (pu (slv g3 (ay pl cs).1.length c4) rfl (pu kg rfl (pu (slv g3 (ay pl cs).1.length c4) rfl (pu kg rfl (aa (ab (ab (rgn rfl (pu kg rfl ?_)))))))))
  refine pu kf rfl (aa (ai rfl (ak (ab (rgn rfl (pu (slv g3 (ay pl cs).1.length c4) rfl (ac (ar hI 2 7 (qn7 pl.lo pl.hi a b d e f g j k m pl.geese o q r) isAgg116 sizeOf116 rfl rfl rfl rfl ?_))))))))
  refine pu (iv h) rfl ?_
  have hcl9:=cart_le cs h
  refine ac (bg hI 115 [.agg (qn7 pl.lo pl.hi a b d e f g j k m pl.geese o q r).toArray,iv h] (iv ((dz cs h:Nat):Int)) (by kernel_rfl) (cartedBy_c _ pl.lo pl.hi pl.geese (.slice a b d) (.slice e f g) (.slice j k m) o q r cs h hSc.m4 (by omega) hSc.k4 (hSc.e4.inv0 hI)) ?_)
  intro w hI
  obtain ⟨x7,hx8⟩:=bq (l:=(ay pl cs).1) (i:=dz cs h) (by omega)
  obtain ⟨b9,rfl,x⟩:=r6.at_ da (by decide) hx8
  refine ac (be (dz cs h) underlying130 sizeOf23 rfl rfl rfl (by omega) ?_)
  refine ac (cq hI 0 [iv x7.lo,iv x7.hi] isAgg23 sizeOf23 rfl rfl rfl x ?_)
  refine ac (aq hI 1 2 [iv x7.lo,iv x7.hi] sizeOf23 rfl rfl rfl rfl rfl (kh rfl) fun w hI=>pu kg rfl (aa (aj ?_)))
  exact ⟨.tuple #[.agg #[iv x7.lo,iv x7.hi],.bool true],Ret.ct rfl rfl (ce hI 1 2 [iv x7.lo,iv x7.hi] isAgg23 sizeOf23 rfl rfl rfl) rfl,⟨by rw [ep,if_pos h1,List.getD_eq_getElem?_getD,hx8]; rfl,hI.below⟩⟩
 refine ac (fy hI 102 [.agg (qn7 pl.lo pl.hi a b d e f g j k m pl.geese o q r).toArray] (fun v1=>.tuple #[v1,.bool false]) (by kernel_rfl) (bn.mono (stood_c _ pl a b d e f g j k m cs o q r (hSc.inv0 hI) hok) (fun v w' ⟨v1,e1,e2⟩=>⟨v1,by rw [e1,h1],e2⟩)) ?_)
 intro s t y w hI u
 have u:Row 2 s (ay pl cs).1.length t y (al eRg (ay pl cs).1):=u
 refine pu (.tuple #[slv s (ay pl cs).1.length t,.bool false]) rfl (pu (slv s (ay pl cs).1.length t) rfl (pu kf rfl (pu (slv s (ay pl cs).1.length t) rfl (pu kf rfl (aa (ab (ab (rgn rfl (pu kf rfl ?_)))))))))
 refine pu kg rfl (aa (ah rfl (ab (rgn rfl (pu (.agg #[iv 0,iv 0]) (by kernel_rfl) (ac (aq hI 1 2 [iv 0,iv 0] sizeOf23 rfl rfl rfl rfl rfl (kh rfl) fun w hI=>pu kf rfl (aa (aj ?_)))))))))
 exact ⟨.tuple #[.agg #[iv 0,iv 0],.bool false],Ret.ct rfl rfl (ce hI 1 2 [iv 0,iv 0] isAgg23 sizeOf23 rfl rfl rfl) rfl,⟨by rw [ep,if_neg (by rw [h1]; decide)]; rfl,hI.below⟩⟩


theorem place_c (w0:World) (pl:Pl) (f:Option Addr) (g j:Nat) (o:Option Addr) (q r:Nat) (t:Option Addr) (u y:Nat) (cs:List Ld) (b:Option Addr) (a d:Nat) (hSc:ScIn w0 pl f g j o q r t u y cs b a d) (s:Int):bn Tryz.prog 101 [.agg (qn7 pl.lo pl.hi f g j o q r t u y pl.geese b a d).toArray,.int .i64 s] w0 fun v w=>v=.tuple #[.int .i64 (placeF cs s).1,.bool (placeF cs s).2]∧Below w0.heap.size w0 w:=by
 have hm1:=hSc.p.m1; have hm2:=hSc.p.m2; have hm3:=hSc.p.m3; have hm4:=hSc.m4; have hk4:=hSc.k4; have hz1:=hSc.z1; have hz2:=hSc.z2; have hz3:=hSc.z3; have hz4:=hSc.z4
 refine az (n:=22) func101 rfl ntmps101 rfl ?_
 have hI:=Inv.start w0
 refine ab (rgn rfl (ac (ca hI (qn7 pl.lo pl.hi f g j o q r t u y pl.geese b a d) rfl fun b1 w hI=>pu (iv 0) rfl (pu kf rfl (aa (ab (ab (rgn rfl (pu (.pointer (some ⟨b1,6,none⟩)) rfl (ac (ag hI 0 (.slice b a d) isAgg24 rfl rfl rfl ?_)))))))))))
 refine pu (iv ((a:Nat):Int)) (by kernel_rfl) (pu (iv 0) rfl (aa (au ?_)))
 refine cb (fun m ρ w=>∃ (k:Nat),cd ρ [(1,iv s),(9,.slice b a d),(10,iv (a:Int)),(11,iv (k:Int))]∧Inv []  w0 w [(some b1,blk (qn7 pl.lo pl.hi f g j o q r t u y pl.geese b a d) 116)]∧(k≤a)∧(∀ i x,i < k→cs[i]?=some x→(fun x:Ld=>decide (x.src=s)) x=false)∧m=a - k) (m:=a - 0) ⟨0,⟨rfl,rfl,rfl,rfl,trivial⟩,hI.pk [0] rfl rfl,(by omega),(fun i x h=>absurd h (by omega)),rfl⟩ ?_
 rintro m ρ w ⟨k,hag,hI,hk,hp,hm⟩
 obtain ⟨ρ,rfl⟩:=hag.form; clear hag
 refine ab (rgn rfl (ac (cm rfl rfl ?_ ?_)))
 ·intro h1
  refine aa (ab (ah rfl (ak (ab (au ?_)))))
  refine ab (rgn rfl (pu (iv (k:Int)) rfl ?_))
  obtain ⟨x2,hx3⟩:=bq (l:=cs) (i:=k) (by omega)
  obtain ⟨b4,o5,hA6,hb7,he8⟩:=hSc.e4.at_ bf (by decide) hx3
  refine ac (cn k underlying24 sizeOf30 rfl hA6 rfl rfl (by omega) ?_)
  refine ac (ef hI (eLd x2) isAgg30 sizeOf30 rfl rfl hb7 (by simp) he8 ?_)
  refine ac (bh hI [iv 0,iv 0,iv 0,iv 0,iv 0,iv 0] zeroValue30 rfl fun b9 w hI=>pu (iv (k:Int)) rfl (ac (aq hI 0 6 (eLd x2) sizeOf30 rfl rfl rfl rfl rfl (kh rfl) fun w hI=>aa (ab (rgn rfl (pu (.pointer (some ⟨b9,0,none⟩)) rfl (ac (ag hI 0 (iv x2.src) isAgg3 rfl rfl rfl ?_))))))))
  refine pu (iv s) rfl (ac (di rfl rfl ?_ ?_))
  ·intro h2
   refine aa (ah rfl (ab (rgn rfl (pu (iv (k:Int)) rfl (pu (iv (k:Int)) rfl (pu kg rfl (aa (aj ?_))))))))
   exact ⟨.tuple #[iv (k:Int),.bool true],Ret.r2 rfl rfl rfl,⟨by have e:=idx_hit hp hx3 (decide_eq_true (by assumption)); rw [placeF,e,if_pos (by omega)],hI.below⟩⟩
  intro h3
  refine aa (ai rfl (ak (rgn rfl (ac (cj rfl rfl (by omega) ?_)))))
  refine pu (iv ((k:Int)+1)) rfl (aa ?_)
  exact ⟨rfl,_,(by omega),⟨k+1,⟨rfl,rfl,rfl,rfl,trivial⟩,hI.pk [1] rfl rfl,(by omega),(idx_step hp hx3 (decide_eq_false (by assumption))),rfl⟩⟩
 intro h4
 refine aa (ab (ai rfl (bw ?_)))
 refine ab (rgn rfl (pu (iv 0) rfl (pu kf rfl (aa (aj ?_)))))
 exact ⟨.tuple #[iv 0,.bool false],Ret.r2 rfl rfl rfl,⟨by have e:=idx_none (k:=k) hp (by omega); rw [placeF,e,if_neg (by omega)],hI.below⟩⟩


theorem shut1_c (w0:World) (y:Sp) (x:Int) (b:Nat) (hb:w0.heap[b]?=some (blk [.int .i64 x] 3)):bn Tryz.prog 157 [.agg (eSp y).toArray,.pointer (some ⟨b,0,none⟩)] w0 fun v w=>v=.bool (decide (y.fr≤x) && decide (x≤y.to))∧Below w0.heap.size w0 w:=by
 refine az (n:=14) func157 rfl ntmps157 rfl ?_
 have hI:=Inv.start w0
 refine ab (rgn rfl (ac (ca hI (eSp y) rfl fun b1 w hI=>pu kf rfl (aa (ab (rgn rfl (pu (.pointer (some ⟨b1,2,none⟩)) rfl (ac (ag hI 0 (iv y.fr) isAgg3 rfl rfl rfl ?_)))))))))
 refine ac (dj hI (iv x) isAgg3 rfl (iz hb) (by simp) (io hb rfl) ?_)
 refine ac (fq rfl rfl ?_ ?_)
 ·intro h1
  refine pu kg rfl (aw rfl (dj hI (iv x) isAgg3 rfl (iz hb) (by simp) (io hb rfl) ?_))
  refine puo (.pointer (some ⟨b1,3,none⟩)) ⟨rfl,rfl⟩ (aw rfl (ag hI 0 (iv y.to) isAgg3 rfl rfl rfl ?_))
  refine aw rfl (fq rfl rfl ?_ ?_)
  ·intro h2
   refine pu kg rfl (pu kg rfl (aa (aj ?_)))
   exact ⟨.bool true,Ret.r1 rfl rfl,⟨by refine congrArg Value.bool ?_; first | (simp_all; done) | (simp_all; omega),hI.below⟩⟩
  intro h3
  refine pu kf rfl (pu kf rfl (aa (aj ?_)))
  exact ⟨.bool false,Ret.r1 rfl rfl,⟨by refine congrArg Value.bool ?_; first | (simp_all; done) | (simp_all; omega),hI.below⟩⟩
 intro h4
 refine pu kf rfl (of_ rfl (of_ rfl (of_ rfl (of_ rfl (pu kf rfl (pu kf rfl (aa (aj ?_))))))))
 exact ⟨.bool false,Ret.r1 rfl rfl,⟨by refine congrArg Value.bool ?_; first | (simp_all; done) | (simp_all; omega),hI.below⟩⟩


theorem shut_c (w0:World) (pl:Pl) (e:Option Addr) (f g:Nat) (i:Option Addr) (j k:Nat) (a:Option Addr) (b d:Nat) (cs:List Ld) (l:Option Addr) (m o:Nat) (hSc:ScIn w0 pl e f g i j k a b d cs l m o) (h:Int) (hh:0≤h∧h≤100000):bn Tryz.prog 116 [.agg (qn7 pl.lo pl.hi e f g i j k a b d pl.geese l m o).toArray,.int .i64 h] w0 fun v w=>v=.bool (shutF pl h)∧Below w0.heap.size w0 w:=by
 have hm1:=hSc.p.m1; have hm2:=hSc.p.m2; have hm3:=hSc.p.m3; have hm4:=hSc.m4; have hk4:=hSc.k4; have hz1:=hSc.z1; have hz2:=hSc.z2; have hz3:=hSc.z3; have hz4:=hSc.z4
 refine az (n:=19) func116 rfl ntmps116 rfl ?_
 have hI:=Inv.start w0
 refine ab (rgn rfl (ac (ca hI (qn7 pl.lo pl.hi e f g i j k a b d pl.geese l m o) rfl fun b1 w hI=>ac (ca hI [iv h] rfl fun b2 w hI=>pu kf rfl (aa (ab (rgn rfl (ac (ag hI 0 (iv h) isAgg3 rfl rfl rfl ?_)))))))))
 refine ac (s_rem24 rfl (by omega) ?_)
 refine pu (iv (h % 24)) rfl (aa (ab (ab (rgn rfl (pu (iv (h % 24)) rfl (ac (cm rfl rfl ?_ ?_)))))))
 ·intro h1
  refine pu kg rfl (of_ rfl (of_ rfl (pu kg rfl (aa (ah rfl (ab (rgn rfl (pu kg rfl (aa ?_)))))))))
  refine aj ?_
  exact ⟨.bool true,Ret.r1 rfl rfl,⟨by refine congrArg Value.bool ?_; simp [shutF,h1] <;> omega,hI.below⟩⟩
 intro h2
 refine pu kf rfl (puo (iv (h % 24)) ⟨rfl,rfl⟩ (aw rfl (iq rfl rfl ?_ ?_)))
 ·intro h3
  refine pu kg rfl (aa (ah rfl (ab (rgn rfl (pu kg rfl (aa (aj ?_)))))))
  exact ⟨.bool true,Ret.r1 rfl rfl,⟨by refine congrArg Value.bool ?_; simp [shutF,h2,h3] <;> omega,hI.below⟩⟩
 intro h4
 refine pu kf rfl (aa (ai rfl (ak (ab (rgn rfl (pu (.pointer (some ⟨b1,0,none⟩)) rfl (pu (.pointer (some ⟨b1,4,none⟩)) rfl (ac (ag hI 1 (.slice a b d) isAgg26 rfl rfl rfl ?_)))))))))
 refine pu (.func (.func 157) #[] #[.pointer (some ⟨b2,0,none⟩)]) (by kernel_rfl) (ac (bg hI 156 [.slice a b d,.func (.func 157) #[] #[.pointer (some ⟨b2,0,none⟩)]] (.bool ((pl.spells).any (fun y:Sp=>decide (y.fr≤h) && decide (h≤y.to)))) (by kernel_rfl) (ContainsSpell_c _ pl.spells a b d (.func (.func 157) #[] #[.pointer (some ⟨b2,0,none⟩)]) (fun y:Sp=>decide (y.fr≤h) && decide (h≤y.to)) hSc.p.m3 (by omega) (hSc.p.c3.inv0 hI) (fun w1 hb y _=>cx.of (args':=[.agg (eSp y).toArray,.pointer (some ⟨b2,0,none⟩)]) rfl (shut1_c w1 y h b2 (jy hb (hI.has 0 _ _ rfl).1)))) fun w hI=>pu (.bool ((pl.spells).any (fun y:Sp=>decide (y.fr≤h) && decide (h≤y.to)))) rfl (aa (aj ?_))))
 exact ⟨.bool ((pl.spells).any (fun y:Sp=>decide (y.fr≤h) && decide (h≤y.to))),Ret.r1 rfl rfl,⟨by refine congrArg Value.bool ?_; rw [shutF,decide_eq_false (p:=h % 24 < 8) (by assumption),decide_eq_false (p:=19≤h % 24) (by assumption)]; rfl,hI.below⟩⟩


theorem geese_c (w0:World) (pl:Pl) (a:Option Addr) (b d:Nat) (e:Option Addr) (f g:Nat) (i:Option Addr) (j k:Nat) (cs:List Ld) (l:Option Addr) (m o:Nat) (hSc:ScIn w0 pl a b d e f g i j k cs l m o) (h:Int) (hh:0≤h∧h≤100000) (hg:0≤pl.geese∧pl.geese≤60):bn Tryz.prog 119 [.agg (qn7 pl.lo pl.hi a b d e f g i j k pl.geese l m o).toArray,.int .i64 h] w0 fun v w=>v=.tuple #[.int .i64 (ki pl h).1,.bool (ki pl h).2]∧Below w0.heap.size w0 w:=by
 have hm1:=hSc.p.m1; have hm2:=hSc.p.m2; have hm3:=hSc.p.m3; have hm4:=hSc.m4; have hk4:=hSc.k4; have hz1:=hSc.z1; have hz2:=hSc.z2; have hz3:=hSc.z3; have hz4:=hSc.z4
 refine az (n:=22) func119 rfl ntmps119 rfl ?_
 have hI:=Inv.start w0
 refine ab (rgn rfl (ac (ca hI (qn7 pl.lo pl.hi a b d e f g i j k pl.geese l m o) rfl fun b1 w hI=>pu (iv 0) rfl (pu kf rfl (aa (ab (rgn rfl (pu (iv h) rfl (pu (.pointer (some ⟨b1,0,none⟩)) rfl (pu (.pointer (some ⟨b1,5,none⟩)) rfl (ac (ag hI 0 (iv pl.geese) isAgg3 rfl rfl rfl ?_))))))))))))
 refine ac (s_mul rfl rfl (by omega) ?_)
 refine ac (dm rfl rfl (by omega) ?_)
 refine pu (iv (h - (24 * pl.geese))) rfl (aa (ab (rgn rfl (pu (iv (h - (24 * pl.geese))) rfl (pu (.pointer (some ⟨b1,0,none⟩)) rfl (pu (.pointer (some ⟨b1,5,none⟩)) rfl (ac (ag hI 0 (iv pl.geese) isAgg3 rfl rfl rfl ?_))))))))
 refine ac (fh rfl rfl ?_ ?_)
 ·intro h1
  refine pu kg rfl (puo (iv (h - (24 * pl.geese))) ⟨rfl,rfl⟩ (aw rfl (iq rfl rfl ?_ ?_)))
  ·intro h2
   refine pu kg rfl (pu (iv (h - (24 * pl.geese))) rfl (pu kg rfl (aa (aj ?_))))
   exact ⟨.tuple #[iv (h - (24 * pl.geese)),.bool true],Ret.r2 rfl rfl rfl,⟨by simp [ki]; omega,hI.below⟩⟩
  intro h3
  refine pu kf rfl (pu (iv (h - (24 * pl.geese))) rfl (pu kf rfl (aa (aj ?_))))
  exact ⟨.tuple #[iv (h - (24 * pl.geese)),.bool false],Ret.r2 rfl rfl rfl,⟨by simp [ki]; omega,hI.below⟩⟩
 intro h4
 refine pu kf rfl (of_ rfl (of_ rfl (pu kf rfl (pu (iv (h - (24 * pl.geese))) rfl (pu kf rfl (aa (aj ?_)))))))
 exact ⟨.tuple #[iv (h - (24 * pl.geese)),.bool false],Ret.r2 rfl rfl rfl,⟨by simp [ki]; omega,hI.below⟩⟩

set_option maxHeartbeats 800000 in
theorem with_c (w0:World) (pl:Pl) (d:Option Addr) (e f:Nat) (r:Option Addr) (a s:Nat) (g:Option Addr) (i l:Nat) (cs:List Ld) (m:Option Addr) (o q:Nat) (hSc:ScIn w0 pl d e f r a s g i l cs m o q) (h rlo rhi:Int):bn Tryz.prog 118 [.agg (qn7 pl.lo pl.hi d e f r a s g i l pl.geese m o q).toArray,.int .i64 h,.agg #[.int .i64 rlo,.int .i64 rhi]] w0 fun v w=>∃ v1,v=.agg #[.int .i64 pl.lo,.int .i64 pl.hi,.slice d e f,v1,.slice g i l,.int .i64 pl.geese,.slice m o q]∧Gives 6 31 none (a+1) (al eLd (kj pl h rlo rhi).stands) w0 v1 w:=by
 have hm1:=hSc.p.m1; have hm2:=hSc.p.m2; have hm3:=hSc.p.m3; have hm4:=hSc.m4; have hk4:=hSc.k4; have hz1:=hSc.z1; have hz2:=hSc.z2; have hz3:=hSc.z3; have hz4:=hSc.z4
 refine az (n:=19) func118 rfl ntmps118 rfl ?_
 have hI:=Inv.start w0
 refine ab (rgn rfl (ac (ca hI (qn7 pl.lo pl.hi d e f r a s g i l pl.geese m o q) rfl fun b1 w hI=>ac (ca hI [iv rlo,iv rhi] rfl fun b2 w hI=>ac (bh hI (qn7 0 0 none 0 0 none 0 0 none 0 0 0 none 0 0) zeroValue116 rfl fun b3 w hI=>aa (ab ?_))))))
 replace hI:=hI.pk [0,1,2] rfl rfl
 refine dh hI [0,1] (by decide) rfl rfl rfl fun hsub=>alp 0 (.pointer (some ⟨b1,0,none⟩)) hsub rfl (by kernel_rfl) (fun _=>rfl) ?_
 refine alp 1 (.pointer (some ⟨b1,3,none⟩)) hsub rfl (by kernel_rfl) (fun _=>rfl) ?_
 refine alp 4 (iv h) hsub rfl (by kernel_rfl) (fun _=>rfl) ?_
 refine ap 5 (.agg #[iv rlo,iv rhi]) hsub rfl (by kernel_rfl) (fun w hI=>ar hI 1 2 [iv rlo,iv rhi] isAgg23 sizeOf23 rfl rfl rfl rfl br) ?_
 refine alp 6 (.agg #[iv 0,iv h,iv rlo,iv rhi,iv 0,iv 0]) hsub rfl (by kernel_rfl) (fun _=>(by kernel_rfl)) ?_
 refine bc [2,7] (by kernel_rfl) rfl (each2 ?_ ?_)
 ·intro w hI
  refine dg rfl (ag hI 2 (.slice r a s) isAgg25 rfl rfl rfl ?_)
  refine ⟨_,hI,dc (fun _ h=>h.pk [0,1] rfl rfl) ?_⟩
  intro hsub
  refine bc [3,7] (by kernel_rfl) rfl (each2 ?_ ?_)
  ·intro w hI
   refine dg rfl (gj hI 124 [.slice r a s] (by kernel_rfl) (jr _ pl.stands r a s hSc.p.m2 (by omega) (hSc.p.c2.inv0 hI)) fun g4 c5 cl6 w hI r7=>⟨_,hI,dc (fun _ h=>h.pk [1,2] rfl rfl) ?_⟩)
   intro hsub
   have r7:Row 6 g4 (a) c5 cl6 (al eLd (pl.stands)):=r7
   refine bc [7] (by kernel_rfl) rfl (cz fun w hI=>dg rfl (fu hI [iv 0,iv h,iv rlo,iv rhi,iv 0,iv 0] 31 (fun b=>slv (some b) 1 1) (by kernel_rfl) fun b8 w hI=>⟨_,hI,dc (fun _ h=>h.pk [2,3] rfl rfl) ?_⟩))
   intro hsub
   refine bc [8] (by kernel_rfl) rfl (cz fun w hI=>dg rfl (s_app hI underlying25 (z:=.agg #[iv 0,iv 0,iv 0,iv 0,iv 0,iv 0]) (k:=6) (bytes:=48) rfl rfl rfl 1 rfl rfl r7 [iv 0,iv h,iv rlo,iv rhi,iv 0,iv 0] rfl rfl (hI.cells 0 (off:=0) rfl (fun j u h=>by rw [Nat.zero_add]; exact h)) (by simp [Value.oneCell']) (by omega) (by omega) fun g9 t G w hI B=>⟨_,hI,dc (fun _ h=>h.pk [2,3] rfl rfl) ?_⟩))
   intro hsub
   have B:Row 6 g9 (a+1) t G (al eLd (pl.stands++[(⟨0,h,rlo,rhi,0,0⟩:Ld)])):=B.snoc _ rfl
   refine alp 9 (.pointer (some ⟨b1,0,none⟩)) hsub rfl (by kernel_rfl) (fun _=>rfl) ?_
   refine alp 10 (.pointer (some ⟨b1,3,none⟩)) hsub rfl (by kernel_rfl) (fun _=>rfl) ?_
   refine bc [11] (by kernel_rfl) rfl (cz fun w hI=>dg rfl (aq hI 4 1 [slv g9 (a+1) t] sizeOf25 rfl rfl rfl rfl rfl (kh rfl) fun w hI=>⟨_,hI,dc (fun _ h=>h.pk [2,3] rfl rfl) ?_⟩))
   intro hsub
   refine cp rfl (fun w hI=>?_)
   refine ab (rgn rfl (ac (ar hI 4 7 [iv pl.lo,iv pl.hi,.slice d e f,slv g9 (a+1) t,.slice g i l,iv pl.geese,.slice m o q] isAgg116 sizeOf116 rfl rfl rfl rfl ?_)))
   refine ac (aq hI 2 7 [iv pl.lo,iv pl.hi,.slice d e f,slv g9 (a+1) t,.slice g i l,iv pl.geese,.slice m o q] sizeOf116 rfl rfl rfl rfl rfl (kh rfl) fun w hI=>aa (aj ?_))
   exact ⟨.agg #[iv pl.lo,iv pl.hi,.slice d e f,slv g9 (a+1) t,.slice g i l,iv pl.geese,.slice m o q],Ret.c rfl rfl (ce hI 2 7 [iv pl.lo,iv pl.hi,.slice d e f,slv g9 (a+1) t,.slice g i l,iv pl.geese,.slice m o q] isAgg116 sizeOf116 rfl rfl rfl),⟨slv g9 (a+1) t,rfl,g9,t,G,rfl,hI.pk [1] rfl rfl,B⟩⟩
  intro w hI
  refine dg rfl (fu hI [iv 0,iv h,iv rlo,iv rhi,iv 0,iv 0] 31 (fun b=>slv (some b) 1 1) (by kernel_rfl) fun O w hI=>⟨_,hI,dc (fun _ h=>h.pk [1,2] rfl rfl) ?_⟩)
  intro hsub
  refine bc [3] (by kernel_rfl) rfl (cz fun w hI=>dg rfl (gj hI 124 [.slice r a s] (by kernel_rfl) (jr _ pl.stands r a s hSc.p.m2 (by omega) (hSc.p.c2.inv0 hI)) fun J K L w hI C=>⟨_,hI,dc (fun _ h=>h.pk [2,3] rfl rfl) ?_⟩))
  intro hsub
  have C:Row 6 J (a) K L (al eLd (pl.stands)):=C
  refine bc [8] (by kernel_rfl) rfl (cz fun w hI=>dg rfl (s_app hI underlying25 (z:=.agg #[iv 0,iv 0,iv 0,iv 0,iv 0,iv 0]) (k:=6) (bytes:=48) rfl rfl rfl 0 rfl rfl C [iv 0,iv h,iv rlo,iv rhi,iv 0,iv 0] rfl rfl (hI.cells 1 (off:=0) rfl (fun j u h=>by rw [Nat.zero_add]; exact h)) (by simp [Value.oneCell']) (by omega) (by omega) fun x y H w hI D=>⟨_,hI,dc (fun _ h=>h.pk [2,3] rfl rfl) ?_⟩))
  intro hsub
  have D:Row 6 x (a+1) y H (al eLd (pl.stands++[(⟨0,h,rlo,rhi,0,0⟩:Ld)])):=D.snoc _ rfl
  refine alp 9 (.pointer (some ⟨b1,0,none⟩)) hsub rfl (by kernel_rfl) (fun _=>rfl) ?_
  refine alp 10 (.pointer (some ⟨b1,3,none⟩)) hsub rfl (by kernel_rfl) (fun _=>rfl) ?_
  refine bc [11] (by kernel_rfl) rfl (cz fun w hI=>dg rfl (aq hI 4 1 [slv x (a+1) y] sizeOf25 rfl rfl rfl rfl rfl (kh rfl) fun w hI=>⟨_,hI,dc (fun _ h=>h.pk [2,3] rfl rfl) ?_⟩))
  intro hsub
  refine cp rfl (fun w hI=>?_)
  refine ab (rgn rfl (ac (ar hI 4 7 [iv pl.lo,iv pl.hi,.slice d e f,slv x (a+1) y,.slice g i l,iv pl.geese,.slice m o q] isAgg116 sizeOf116 rfl rfl rfl rfl ?_)))
  refine ac (aq hI 2 7 [iv pl.lo,iv pl.hi,.slice d e f,slv x (a+1) y,.slice g i l,iv pl.geese,.slice m o q] sizeOf116 rfl rfl rfl rfl rfl (kh rfl) fun w hI=>aa (aj ?_))
  exact ⟨.agg #[iv pl.lo,iv pl.hi,.slice d e f,slv x (a+1) y,.slice g i l,iv pl.geese,.slice m o q],Ret.c rfl rfl (ce hI 2 7 [iv pl.lo,iv pl.hi,.slice d e f,slv x (a+1) y,.slice g i l,iv pl.geese,.slice m o q] isAgg116 sizeOf116 rfl rfl rfl),⟨slv x (a+1) y,rfl,x,y,H,rfl,hI.pk [0] rfl rfl,D⟩⟩
 intro w hI
 refine dg rfl (fu hI [iv 0,iv h,iv rlo,iv rhi,iv 0,iv 0] 31 (fun b=>slv (some b) 1 1) (by kernel_rfl) fun P w hI=>⟨_,hI,dc (fun _ h=>h.pk [1,2] rfl rfl) ?_⟩)
 intro hsub
 refine bc [2] (by kernel_rfl) rfl (cz fun w hI=>dg rfl (ag hI 3 (.slice r a s) isAgg25 rfl rfl rfl ?_))
 refine ⟨_,hI,dc (fun _ h=>h.pk [1,2] rfl rfl) ?_⟩
 intro hsub
 refine bc [3] (by kernel_rfl) rfl (cz fun w hI=>dg rfl (gj hI 124 [.slice r a s] (by kernel_rfl) (jr _ pl.stands r a s hSc.p.m2 (by omega) (hSc.p.c2.inv0 hI)) fun M c24 N w hI E=>⟨_,hI,dc (fun _ h=>h.pk [2,3] rfl rfl) ?_⟩))
 intro hsub
 have E:Row 6 M (a) c24 N (al eLd (pl.stands)):=E
 refine bc [8] (by kernel_rfl) rfl (cz fun w hI=>dg rfl (s_app hI underlying25 (z:=.agg #[iv 0,iv 0,iv 0,iv 0,iv 0,iv 0]) (k:=6) (bytes:=48) rfl rfl rfl 0 rfl rfl E [iv 0,iv h,iv rlo,iv rhi,iv 0,iv 0] rfl rfl (hI.cells 1 (off:=0) rfl (fun j u h=>by rw [Nat.zero_add]; exact h)) (by simp [Value.oneCell']) (by omega) (by omega) fun A c28 I w hI F=>⟨_,hI,dc (fun _ h=>h.pk [2,3] rfl rfl) ?_⟩))
 intro hsub
 have F:Row 6 A (a+1) c28 I (al eLd (pl.stands++[(⟨0,h,rlo,rhi,0,0⟩:Ld)])):=F.snoc _ rfl
 refine alp 9 (.pointer (some ⟨b1,0,none⟩)) hsub rfl (by kernel_rfl) (fun _=>rfl) ?_
 refine alp 10 (.pointer (some ⟨b1,3,none⟩)) hsub rfl (by kernel_rfl) (fun _=>rfl) ?_
 refine bc [11] (by kernel_rfl) rfl (cz fun w hI=>dg rfl (aq hI 4 1 [slv A (a+1) c28] sizeOf25 rfl rfl rfl rfl rfl (kh rfl) fun w hI=>⟨_,hI,dc (fun _ h=>h.pk [2,3] rfl rfl) ?_⟩))
 intro hsub
 refine cp rfl (fun w hI=>?_)
 refine ab (rgn rfl (ac (ar hI 4 7 [iv pl.lo,iv pl.hi,.slice d e f,slv A (a+1) c28,.slice g i l,iv pl.geese,.slice m o q] isAgg116 sizeOf116 rfl rfl rfl rfl ?_)))
 refine ac (aq hI 2 7 [iv pl.lo,iv pl.hi,.slice d e f,slv A (a+1) c28,.slice g i l,iv pl.geese,.slice m o q] sizeOf116 rfl rfl rfl rfl rfl (kh rfl) fun w hI=>aa (aj ?_))
 exact ⟨.agg #[iv pl.lo,iv pl.hi,.slice d e f,slv A (a+1) c28,.slice g i l,iv pl.geese,.slice m o q],Ret.c rfl rfl (ce hI 2 7 [iv pl.lo,iv pl.hi,.slice d e f,slv A (a+1) c28,.slice g i l,iv pl.geese,.slice m o q] isAgg116 sizeOf116 rfl rfl rfl),⟨slv A (a+1) c28,rfl,A,c28,I,rfl,hI.pk [0] rfl rfl,F⟩⟩

end Go.K
