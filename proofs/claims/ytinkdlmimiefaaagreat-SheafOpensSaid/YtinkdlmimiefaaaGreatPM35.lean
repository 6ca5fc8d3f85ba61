import Derived.Test.YtinkdlmimiefaaaGreatProg
import Derived.Test.YtinkdlmimiefaaaGreatPM16
namespace Go.K
open Go.Proofs.Tryz
open Go.Proofs Go.RowKit
set_option linter.unusedVariables false
set_option linter.unusedSimpArgs false
set_option maxRecDepth 100000
attribute [local irreducible] Seq cw cx fl opX

def jd (N:Int→Int) (s:Int) (l:List Ld):Int:=l.foldl (fun a x=>a - N x.src) s
theorem subF_step {N:Int→Int} {s:Int} {cs:List Ld} {i j:Nat} {x:Ld} (hx:(cs.drop i)[j]?=some x):jd N s (cs.take (i+(j+1)))=jd N s (cs.take (i+j)) - N x.src:=by
  rw [List.getElem?_drop] at hx
  unfold jd
  rw [← Nat.add_assoc,fe hx,List.foldl_append]
  rfl
def fg (cs:List Ld) (N:Int→Int) (s h:Int):Int:=jd N s (cs.take (dz cs h))
theorem subF_bd {N:Int→Int}:∀ (l:List Ld) {s:Int},(∀ x∈l,0≤N x.src∧N x.src≤10000)→s - 10000 * l.length≤jd N s l∧jd N s l≤s
  | [],s,_=>by simp [jd]
  | x :: l,s,h=>by
    have h1:=h x List.mem_cons_self
    have h2:=subF_bd l (s:=s - N x.src) fun y hy=>h y (List.mem_cons_of_mem _ hy)
    have e:jd N s (x :: l)=jd N (s - N x.src) l:=rfl
    rw [e,List.length_cons]
    omega
theorem subF_same {N M:Int→Int}:∀ (l:List Ld) (s:Int),(∀ x∈l,M x.src=N x.src)→jd M s l=jd N s l
  | [],_,_=>rfl
  | x :: l,s,h=>by
    have e:∀ K:Int→Int,jd K s (x :: l)=jd K (s - K x.src) l:=fun _=>rfl
    rw [e,e,h x List.mem_cons_self]
    exact subF_same l _ fun y hy=>h y (List.mem_cons_of_mem _ hy)
theorem gx {N M:Int→Int} {cs:List Ld} (h:∀ x∈cs,M x.src=N x.src) (s hr:Int):fg cs M s hr=fg cs N s hr:=subF_same _ _ fun x hx=>h x (List.mem_of_mem_take hx)
section steps
variable {P:Program} {ρ:Env} {B:List Nat} {w w0:World} {L:List (Option Nat × Obj)} {R:Value→World→Prop} {d:Option Nat} {ty:TypeId} {pos:String} {af:Array Edge} {gd:Option (Nat × Bool)}
theorem s_lookupI (hI:Inv B w0 w L) {T K E:TypeId} {kd:IntKind} {z:Value} {x y:Operand} {b:Nat} {k:Int} {es:List En} {clk:Nat} (v:Value) (hT:P.underlying T=some (.map K E)) (hK:P.underlying K=some (.int kd)) (hz:∀ w,(zeroValue E).run P w=.ok z w)
    (hb:w0.heap[b]?=some (fp es clk)) (hB:¬ b∈B) (hx:ev ρ x=.map (some b)) (hy:ev ρ y=.int .i64 k) (hv:(el es k).getD z=v) (kk:R v w):cw P ⟨d,.lookup T x y false,ty,pos,af,gd⟩ ρ w R:=by
  have hb':w.heap[b]?=some (fp es clk):=(hI.but.block b (iz hb) hB).trans hb
  subst hv
  refine kl _ ?_ kk
  have:execOp (ev ρ) ⟨d,.lookup T x y false,ty,pos,af,gd⟩=(do pure (.value (← Instr.lookup T (ev ρ x) (ev ρ y) false))):=rfl
  rw [this,hx,hy,Sem.run_bind,run_lookup hT hK hz k hb']
  rfl
end steps

set_option maxHeartbeats 1600000 in
theorem left_c (w0:World) (pl:Pl) (a:Option Addr) (b d:Nat) (e:Option Addr) (f g:Nat) (k:Option Addr) (o r:Nat) (cs:List Ld) (t:Option Addr) (u z:Nat) (hSc:ScIn w0 pl a b d e f g k o r cs t u z) (mb ck:Nat) (es:List En) (N:Int→Int) (hmap:w0.heap[mb]?=some (fp es ck)) (hN:∀ j,(el es j).getD (.int .i64 0)=.int .i64 (N j)) (s h:Int) (hs:0≤s∧s≤10000) (hNb:∀ x∈cs,0≤N x.src∧N x.src≤10000):bn Tryz.prog 107 [.agg (qn9 pl.lo pl.hi a b d e f g k o r pl.geese t u z s (some mb)).toArray,.int .i64 h] w0 fun v w=>v=.int .i64 (fg cs N s h)∧Below w0.heap.size w0 w:=by
 have hm1:=hSc.p.m1; have hm2:=hSc.p.m2; have hm3:=hSc.p.m3; have hm4:=hSc.m4; have hk4:=hSc.k4; have hz1:=hSc.z1; have hz2:=hSc.z2; have hz3:=hSc.z3; have hz4:=hSc.z4
 refine az (n:=35) func107 rfl ntmps107 rfl ?_
 have hI:=Inv.start w0
 refine ab (rgn rfl (ac (ca hI (qn9 pl.lo pl.hi a b d e f g k o r pl.geese t u z s (some mb)) rfl fun b1 w hI=>ac (ca hI [iv h] rfl fun b2 w hI=>pu (iv 0) rfl (aa (ab (rgn rfl (pu (.pointer (some ⟨b1,7,none⟩)) rfl (ac (ag hI 1 (iv s) isAgg3 rfl rfl rfl ?_))))))))))
 refine ac (bh hI [iv 0] zeroValue3 rfl fun b3 w hI=>ac (aq hI 0 1 [iv s] sizeOf3 rfl rfl rfl rfl rfl (kh rfl) fun w hI=>aa (ab (ab (rgn rfl (pu (.pointer (some ⟨b1,0,none⟩)) rfl (ac (ar hI 2 7 (qn7 pl.lo pl.hi a b d e f g k o r pl.geese t u z) isAgg116 sizeOf116 rfl rfl rfl rfl ?_))))))))
 refine pu (.func (.func 113) #[.agg (qn7 pl.lo pl.hi a b d e f g k o r pl.geese t u z).toArray] #[]) (by kernel_rfl) (aa (au ?_))
 refine wp_rangeFunc hI (first := #[.agg (qn7 pl.lo pl.hi a b d e f g k o r pl.geese t u z).toArray]) (cap := #[]) rfl 113 (fun y=>[.agg (qn7 pl.lo pl.hi a b d e f g k o r pl.geese t u z).toArray,y]) (fun l W=>by kernel_rfl) fun rcq4 lqq4 w hpsq4 hasq4 hboq4 hofq4 hI=>bn.mono (byHour_c w pl.lo pl.hi pl.geese (.slice a b d) (.slice e f g) (.slice k o r) t u z cs lqq4 (fun (i:Nat) (W:World)=>∃ (vv:Int),Inv []  w0 W [(some lqq4,rcq4.at .ready none),(some rcq4.defers,.deferred (some [])),(some b3,blk [iv vv] 3),(some b2,blk [iv h] 3),(some b1,blk (qn9 pl.lo pl.hi a b d e f g k o r pl.geese t u z s (some mb)) 144)]∧(vv=jd N s (cs.take (i)))∧(∀ q y,q < i→cs[q]?=some y→y.hr≤h)∧(-(10000 * ((i:Nat):Int))≤vv∧vv≤10000)) (fun (W:World)=>∃ (i:Nat) (vv:Int),Inv []  w0 W [(some lqq4,rcq4.at .done (some (.exit 0))),(some rcq4.defers,.deferred (some [])),(some b3,blk [iv vv] 3),(some b2,blk [iv h] 3),(some b1,blk (qn9 pl.lo pl.hi a b d e f g k o r pl.geese t u z s (some mb)) 144)]∧(vv=jd N s (cs.take (i)))∧(∀ q y,q < i→cs[q]?=some y→y.hr≤h)∧(∃ y,cs[i]?=some y∧h < y.hr)) hSc.m4 (by omega) hSc.k4 ⟨s,hI.pk [0,1,2,3,4] rfl rfl,rfl,(fun q y hq _=>absurd hq (by omega)),(by omega)⟩ (fun i W W' ⟨vv,hj,hr⟩ hb=>⟨vv,hj.call hb,hr⟩) (fun i W ⟨vv,hj,hr⟩=>hSc.e4.inv0 hj) ?_) ?_
 ·rintro i mg hh A2 c2 w ⟨vv,hI,hv,hin,hvb⟩ hm0 him hgrp hat
  have hC2:=hat.cells bf (by decide) hSc.e4
  have hd2:(cs.drop i).length=cs.length - i:=List.length_drop
  refine callV_yield hI hofq4 [15,16] hpsq4 rfl (by decide) ?_
  rw [hasq4]
  refine ab (rgn rfl (pu (iv hh) rfl (aa (rgn rfl (pu (.slice A2 mg c2) rfl (aa (⟨rfl,_,hI,?_⟩)))))))
  intro w hI
  rw [hboq4]
  refine au ?_
  refine ab (ab (rgn rfl (pu (iv hh) rfl (ac (ag hI 3 (iv h) isAgg3 rfl rfl rfl ?_)))))
  refine ac (fh rfl rfl ?_ ?_)
  ·intro h1
   refine aa (ah rfl (bw ?_))
   exact ⟨_,hI.pk [0,1,2,3,4] rfl rfl,fun w hI=>.inr ⟨rfl,i,vv,hI,hv,hin,(grp_one hgrp (by omega) (by omega) (by assumption))⟩⟩
  intro h2
  refine aa (ai rfl (ak (ab (rgn rfl (pu (.slice A2 mg c2) rfl (pu (iv ((mg:Nat):Int)) (by kernel_rfl) (pu (iv 0) rfl (aa (au ?_)))))))))
  refine cb (fun m ρ w=>∃ (j:Nat) (v2:Int),cd ρ [(2,.pointer (some ⟨b1,0,none⟩)),(5,.pointer (some ⟨b3,0,none⟩)),(20,.slice A2 mg c2),(21,iv (mg:Int)),(22,iv (j:Int))]∧Inv []  w0 w [(some lqq4,rcq4.at .busy none),(some rcq4.defers,.deferred (some [])),(some b3,blk [iv v2] 3),(some b2,blk [iv h] 3),(some b1,blk (qn9 pl.lo pl.hi a b d e f g k o r pl.geese t u z s (some mb)) 144)]∧(j≤mg)∧(v2=jd N s (cs.take (i+j)))∧(-(10000 * ((i+j:Nat):Int))≤v2∧v2≤10000)∧m=mg - j) (m:=mg - 0) ⟨0,vv,⟨rfl,rfl,rfl,rfl,rfl,trivial⟩,hI.pk [0,1,2,3,4] rfl rfl,(by omega),hv,hvb,rfl⟩ ?_
  rintro m ρ w ⟨j,v2,hag,hI,hj,hv2,hb2,hm⟩
  obtain ⟨ρ,rfl⟩:=hag.form; clear hag
  refine ab (rgn rfl (ac (cm rfl rfl ?_ ?_)))
  ·intro h3
   refine aa (ab (ah rfl (ak (ab (au ?_)))))
   refine ab (rgn rfl ?_)
   obtain ⟨x5,hx6⟩:=bq (l:=(cs.drop i)) (i:=j) (by omega)
   obtain ⟨b7,o8,hA9,A,B⟩:=hC2.at_ bf (by decide) hx6
   refine ac (cn j underlying24 sizeOf30 rfl hA9 rfl rfl (by omega) ?_)
   refine ac (ef hI (eLd x5) isAgg30 sizeOf30 rfl rfl A (by simp) B ?_)
   refine ac (bh hI [iv 0,iv 0,iv 0,iv 0,iv 0,iv 0] zeroValue30 rfl fun C w hI=>ac (aq hI 0 6 (eLd x5) sizeOf30 rfl rfl rfl rfl rfl (kh rfl) fun w hI=>aa (rgn rfl (ac (ag hI 3 (iv v2) isAgg3 rfl rfl rfl ?_)))))
   refine pu (.pointer (some ⟨b1,8,none⟩)) rfl (ac (ag hI 5 (.map (some mb)) isAgg142 rfl rfl rfl ?_))
   refine pu (.pointer (some ⟨C,0,none⟩)) rfl (ac (ag hI 0 (iv x5.src) isAgg3 rfl rfl rfl ?_))
   refine ac (s_lookupI hI (iv (N x5.src)) underlying142 underlying3 zeroValue3 hmap (by simp) rfl rfl (hN _) ?_)
   refine ac (dm rfl rfl (by have hz:=hNb _ (List.mem_of_mem_drop (bz hx6)); omega) ?_)
   refine ac (aq hI 3 1 [iv (v2 - (N x5.src))] sizeOf3 rfl rfl rfl rfl rfl (kh rfl) fun w hI=>aa (rgn rfl (ac (cj rfl rfl (by omega) ?_))))
   refine pu (iv ((j:Int)+1)) rfl (aa ?_)
   exact ⟨rfl,_,(by omega),⟨j+1,v2 - (N x5.src),⟨rfl,rfl,rfl,rfl,rfl,trivial⟩,hI.pk [1,2,3,4,5] rfl rfl,(by omega),(by rw [subF_step hx6,hv2]),(by have hz:=hNb _ (List.mem_of_mem_drop (bz hx6)); omega),rfl⟩⟩
  intro h4
  refine aa (ab (ai rfl (bw ?_)))
  exact ⟨_,hI.pk [0,1,2,3,4] rfl rfl,fun w hI=>.inl ⟨rfl,v2,hI,(by rw [hv2,show j=mg by omega]),(grp_all hin hgrp (by assumption)),(by omega)⟩⟩
 rintro _ w (⟨vv,hI,hv,hin,hvb⟩ | ⟨ix,vv,hI,hv,hin,hex⟩)
 ·
  refine ⟨_,.inl ⟨hI,fun w hI=>?_⟩⟩
  refine ab (rgn rfl (ac (ag hI 2 (iv vv) isAgg3 rfl rfl rfl ?_)))
  refine pu (iv vv) rfl (aa (aj (LeaveE.mark (D:=rcq4.defers) (hI.pk [1,0,2,3,4] rfl rfl) fun w hI=>⟨iv vv,Ret.r1 rfl rfl,⟨by rw [fg,cart_all hin hm4,hv],hI.below⟩⟩)))
 refine ⟨_,.inr ⟨.exit 0,hI,fun w hI=>?_⟩⟩
 refine bw ?_
 refine ab (rgn rfl (ac (ag hI 2 (iv vv) isAgg3 rfl rfl rfl ?_)))
 refine pu (iv vv) rfl (aa (aj (LeaveE.mark (D:=rcq4.defers) (hI.pk [1,0,2,3,4] rfl rfl) fun w hI=>⟨iv vv,Ret.r1 rfl rfl,⟨by obtain ⟨y,hy,hlt⟩:=hex; rw [fg,cart_stop hin hy hlt,hv],hI.below⟩⟩)))

theorem num_step {M N:Int→Int} {l:List Ld} {k:Nat} {x:Ld} {y:Int} (h:∀ i z,i < k→l[i]?=some z→M z.src=N z.src) (hx:l[k]?=some x) (hy:N x.src=y):∀ i z,i < k+1→l[i]?=some z→(if z.src=x.src then y else M z.src)=N z.src:=fun i z hi hz=>by
  by_cases e:z.src=x.src
  · rw [if_pos e,e,hy]
  rw [if_neg e]
  rcases Nat.lt_or_ge i k with h1 | h1
  · exact h i z h1 hz
  rw [show i=k by omega,hx] at hz
  injection hz with hz
  exact absurd (congrArg Ld.src hz.symm) e
def GivesTruth (sc:List Value) (s:Int) (l:List Ld) (N:Int→Int) (w0:World) (v:Value) (w:World):Prop :=
  ∃ (mb:Nat) (es:List En) (ck:Nat) (M:Int→Int),v=.tuple #[.agg (sc++[Value.int .i64 s,Value.map (some mb)]).toArray,.bool true]∧Inv []  w0 w [(some mb,fp es ck)]∧(∀ j,(el es j).getD (.int .i64 0)=.int .i64 (M j))∧∀ x∈l,M x.src=N x.src

end Go.K
