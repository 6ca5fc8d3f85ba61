/- Scenes: what is asked of them. -/
import Derived.Test.YtinkdlmimiefaaaGreatProg
import Derived.Test.YtinkdlmimiefaaaGreatPM12
namespace Go.K
open Go.Proofs Go.RowKit
set_option linter.unusedVariables false
set_option linter.unusedSimpArgs false
set_option maxRecDepth 100000
attribute [local irreducible] Seq Step CallV AnyE opX

section steps
variable {P:Program} {ρ:Env} {w:World} {R:Value→World→Prop} {d:Option Nat} {ty:TypeId} {pos:String} {af:Array Edge} {gd:Option (Nat × Bool)}
theorem s_rem24 {T Ty:TypeId} {x:Operand} {a:Int} (ha:ev ρ x=.int .i64 a) (h:0≤a∧a≤1000000) (k:R (.int .i64 (a % 24)) w) :
    Step P ⟨d,.binOp .rem T x (.const (.int .i64 24)) Ty,ty,pos,af,gd⟩ ρ w R:=by
  refine s_pure (.int .i64 (a % 24)) ?_ k
  have:execOp (ev ρ) ⟨d,.binOp .rem T x (.const (.int .i64 24)) Ty,ty,pos,af,gd⟩=(do pure (.value (← (do eqGuard .rem T x (.const (.int .i64 24)) (ev ρ x) (.int .i64 24); binOp .rem T (ev ρ x) (.int .i64 24))))):=rfl
  rw [this,ha,show a % 24=a.tmod 24 by rw [Int.tmod_eq_emod_of_nonneg h.1]]
  rfl
end steps
def stoodAtF (p:Pl) (cs:List Ld) (h:Int):Rg × Bool:=if (stoodF p cs).2 then ((stoodF p cs).1.getD (cartF cs h) ⟨0,0⟩,true) else (⟨0,0⟩,false)
def placeF (cs:List Ld) (s:Int):Int × Bool:=if 0≤idxI (fun x:Ld=>decide (x.src=s)) cs then (idxI (fun x:Ld=>decide (x.src=s)) cs,true) else (0,false)
def shutF (p:Pl) (h:Int):Bool:=decide (h % 24 < 8) || decide (19≤h % 24) || p.spells.any fun x=>decide (x.fr≤h) && decide (h≤x.to)
def geeseF (p:Pl) (h:Int):Int × Bool:=(h - 24 * p.geese,decide (0 < p.geese) && decide (0≤h - 24 * p.geese))
def withF (p:Pl) (h lo hi:Int):Pl:={ p with stands:=p.stands++[⟨0,h,lo,hi,0,0⟩] }


theorem sound_c (w0:World) (pl:Pl) (pA1:Option Addr) (pn1 pc1:Nat) (pA2:Option Addr) (pn2 pc2:Nat) (pA3:Option Addr) (pn3 pc3:Nat) (cs:List Ld) (pA4:Option Addr) (pn4 pc4:Nat) (hSc:ScIn w0 pl pA1 pn1 pc1 pA2 pn2 pc2 pA3 pn3 pc3 cs pA4 pn4 pc4) (hok:ScOk pl cs):Does Tryz.prog 87 [.agg #[.int .i64 pl.lo,.int .i64 pl.hi,.slice pA1 pn1 pc1,.slice pA2 pn2 pc2,.slice pA3 pn3 pc3,.int .i64 pl.geese,.slice pA4 pn4 pc4]] w0 fun v w=>v=.bool (stoodF pl cs).2∧Below w0.heap.size w0 w:=by
 have hm1:=hSc.p.m1; have hm2:=hSc.p.m2; have hm3:=hSc.p.m3; have hm4:=hSc.m4; have hk4:=hSc.k4; have hz1:=hSc.z1; have hz2:=hSc.z2; have hz3:=hSc.z3; have hz4:=hSc.z4
 refine calls_of (n:=11) Tryz.func87 rfl Tryz.ntmps87 rfl ?_
 have hI:=Inv.start w0
 refine wp_seq (rgn rfl (seq_c (s_boxI hI [iv pl.lo,iv pl.hi,.slice pA1 pn1 pc1,.slice pA2 pn2 pc2,.slice pA3 pn3 pc3,iv pl.geese,.slice pA4 pn4 pc4] rfl ?_)))
 intro b1 w hI
 refine pu (.bool false) rfl (seq_nil (wp_seq (rgn rfl (seq_c (s_loadK hI 0 7 [iv pl.lo,iv pl.hi,.slice pA1 pn1 pc1,.slice pA2 pn2 pc2,.slice pA3 pn3 pc3,iv pl.geese,.slice pA4 pn4 pc4] Tryz.isAgg116 Tryz.sizeOf116 rfl rfl rfl rfl ?_)))))
 rcases Bool.eq_false_or_eq_true (stoodF pl cs).2 with h1 | h1
 ·
  refine seq_c (s_callNewF hI 102 [.agg #[iv pl.lo,iv pl.hi,.slice pA1 pn1 pc1,.slice pA2 pn2 pc2,.slice pA3 pn3 pc3,iv pl.geese,.slice pA4 pn4 pc4]] (fun v1=>.tuple #[v1,.bool true]) (by kernel_rfl) (Does.mono (stood_c _ pl pA1 pn1 pc1 pA2 pn2 pc2 pA3 pn3 pc3 cs pA4 pn4 pc4 (hSc.inv0 hI) hok) (fun v w' ⟨v1,e1,e2⟩=>⟨v1,by rw [e1,h1],e2⟩)) ?_)
  intro g2 c3 cl4 w hI r5
  have r5:Row 2 g2 (stoodF pl cs).1.length c3 cl4 (flat eRg (stoodF pl cs).1):=r5
  have hsl:=stoodF_len h1
  refine pu (.tuple #[slv g2 (stoodF pl cs).1.length c3,.bool true]) rfl (pu (slv g2 (stoodF pl cs).1.length c3) rfl (pu (.bool true) rfl (pu (slv g2 (stoodF pl cs).1.length c3) rfl (pu (.bool true) rfl (seq_nil (wp_seq (rgn rfl (pu (.bool true) rfl (pu (.bool true) rfl ?_)))))))))
  refine seq_nil (wp_ret ?_)
  exact ⟨.bool true,Ret.r1 rfl rfl,⟨by rw [h1],hI.below⟩⟩
 ·
  refine seq_c (s_callNewF hI 102 [.agg #[iv pl.lo,iv pl.hi,.slice pA1 pn1 pc1,.slice pA2 pn2 pc2,.slice pA3 pn3 pc3,iv pl.geese,.slice pA4 pn4 pc4]] (fun v1=>.tuple #[v1,.bool false]) (by kernel_rfl) (Does.mono (stood_c _ pl pA1 pn1 pc1 pA2 pn2 pc2 pA3 pn3 pc3 cs pA4 pn4 pc4 (hSc.inv0 hI) hok) (fun v w' ⟨v1,e1,e2⟩=>⟨v1,by rw [e1,h1],e2⟩)) ?_)
  intro g6 c7 cl8 w hI r9
  have r9:Row 2 g6 (stoodF pl cs).1.length c7 cl8 (flat eRg (stoodF pl cs).1):=r9
  refine pu (.tuple #[slv g6 (stoodF pl cs).1.length c7,.bool false]) rfl (pu (slv g6 (stoodF pl cs).1.length c7) rfl (pu (.bool false) rfl (pu (slv g6 (stoodF pl cs).1.length c7) rfl (pu (.bool false) rfl (seq_nil (wp_seq (rgn rfl (pu (.bool false) rfl (pu (.bool false) rfl ?_)))))))))
  refine seq_nil (wp_ret ?_)
  exact ⟨.bool false,Ret.r1 rfl rfl,⟨by rw [h1],hI.below⟩⟩


theorem stoodAt_c (w0:World) (pl:Pl) (pA1:Option Addr) (pn1 pc1:Nat) (pA2:Option Addr) (pn2 pc2:Nat) (pA3:Option Addr) (pn3 pc3:Nat) (cs:List Ld) (pA4:Option Addr) (pn4 pc4:Nat) (hSc:ScIn w0 pl pA1 pn1 pc1 pA2 pn2 pc2 pA3 pn3 pc3 cs pA4 pn4 pc4) (hok:ScOk pl cs) (h:Int):Does Tryz.prog 98 [.agg #[.int .i64 pl.lo,.int .i64 pl.hi,.slice pA1 pn1 pc1,.slice pA2 pn2 pc2,.slice pA3 pn3 pc3,.int .i64 pl.geese,.slice pA4 pn4 pc4],.int .i64 h] w0 fun v w=>v=.tuple #[.agg (eRg (stoodAtF pl cs h).1).toArray,.bool (stoodAtF pl cs h).2]∧Below w0.heap.size w0 w:=by
 have hm1:=hSc.p.m1; have hm2:=hSc.p.m2; have hm3:=hSc.p.m3; have hm4:=hSc.m4; have hk4:=hSc.k4; have hz1:=hSc.z1; have hz2:=hSc.z2; have hz3:=hSc.z3; have hz4:=hSc.z4
 refine calls_of (n:=22) Tryz.func98 rfl Tryz.ntmps98 rfl ?_
 have hI:=Inv.start w0
 refine wp_seq (rgn rfl (seq_c (s_boxI hI [iv pl.lo,iv pl.hi,.slice pA1 pn1 pc1,.slice pA2 pn2 pc2,.slice pA3 pn3 pc3,iv pl.geese,.slice pA4 pn4 pc4] rfl ?_)))
 intro b1 w hI
 refine seq_c (s_allocI hI [iv 0,iv 0] Tryz.zeroValue23 rfl ?_)
 intro b2 w hI
 refine pu (.bool false) rfl (seq_nil (wp_seq (rgn rfl (seq_c (s_loadK hI 1 7 [iv pl.lo,iv pl.hi,.slice pA1 pn1 pc1,.slice pA2 pn2 pc2,.slice pA3 pn3 pc3,iv pl.geese,.slice pA4 pn4 pc4] Tryz.isAgg116 Tryz.sizeOf116 rfl rfl rfl rfl ?_)))))
 rcases Bool.eq_false_or_eq_true (stoodF pl cs).2 with h1 | h1
 ·
  refine seq_c (s_callNewF hI 102 [.agg #[iv pl.lo,iv pl.hi,.slice pA1 pn1 pc1,.slice pA2 pn2 pc2,.slice pA3 pn3 pc3,iv pl.geese,.slice pA4 pn4 pc4]] (fun v1=>.tuple #[v1,.bool true]) (by kernel_rfl) (Does.mono (stood_c _ pl pA1 pn1 pc1 pA2 pn2 pc2 pA3 pn3 pc3 cs pA4 pn4 pc4 (hSc.inv0 hI) hok) (fun v w' ⟨v1,e1,e2⟩=>⟨v1,by rw [e1,h1],e2⟩)) ?_)
  intro g3 c4 cl5 w hI r6
  have r6:Row 2 g3 (stoodF pl cs).1.length c4 cl5 (flat eRg (stoodF pl cs).1):=r6
  have hsl:=stoodF_len h1
  refine pu (.tuple #[slv g3 (stoodF pl cs).1.length c4,.bool true]) rfl (pu (slv g3 (stoodF pl cs).1.length c4) rfl (pu (.bool true) rfl (pu (slv g3 (stoodF pl cs).1.length c4) rfl (pu (.bool true) rfl (seq_nil (wp_seq (wp_seq (rgn rfl (pu (.bool true) rfl ?_)))))))))
  refine pu (.bool false) rfl (seq_nil (wp_condF rfl (wp_skip (wp_seq (rgn rfl (pu (slv g3 (stoodF pl cs).1.length c4) rfl (seq_c (s_loadK hI 2 7 [iv pl.lo,iv pl.hi,.slice pA1 pn1 pc1,.slice pA2 pn2 pc2,.slice pA3 pn3 pc3,iv pl.geese,.slice pA4 pn4 pc4] Tryz.isAgg116 Tryz.sizeOf116 rfl rfl rfl rfl ?_))))))))
  refine pu (iv h) rfl ?_
  have hcl9:=cart_le cs h
  refine seq_c (s_callv hI 115 [.agg #[iv pl.lo,iv pl.hi,.slice pA1 pn1 pc1,.slice pA2 pn2 pc2,.slice pA3 pn3 pc3,iv pl.geese,.slice pA4 pn4 pc4],iv h] (iv ((cartF cs h:Nat):Int)) (by kernel_rfl) (cartedBy_c _ pl.lo pl.hi pl.geese (.slice pA1 pn1 pc1) (.slice pA2 pn2 pc2) (.slice pA3 pn3 pc3) pA4 pn4 pc4 cs h hSc.m4 (by omega) hSc.k4 (hSc.e4.inv0 hI)) ?_)
  intro w hI
  obtain ⟨x7,hx8⟩:=get_lt (l:=(stoodF pl cs).1) (i:=cartF cs h) (by omega)
  obtain ⟨b9,rfl,he10⟩:=r6.at_ eRg_len (by decide) hx8
  refine seq_c (s_indexR (cartF cs h) Tryz.underlying130 Tryz.sizeOf23 rfl rfl rfl (by omega) ?_)
  refine seq_c (s_loadRK hI 0 [iv x7.lo,iv x7.hi] Tryz.isAgg23 Tryz.sizeOf23 rfl rfl rfl he10 ?_)
  refine seq_c (s_store hI 1 2 [iv x7.lo,iv x7.hi] Tryz.sizeOf23 rfl rfl rfl rfl rfl (Nat.le_of_ble_eq_true rfl) ?_)
  intro w hI
  refine pu (.bool true) rfl (seq_nil (wp_ret ?_))
  exact ⟨.tuple #[.agg #[iv x7.lo,iv x7.hi],.bool true],Ret.ct rfl rfl (run_loadK hI 1 2 [iv x7.lo,iv x7.hi] Tryz.isAgg23 Tryz.sizeOf23 rfl rfl rfl) rfl,⟨by rw [stoodAtF,if_pos h1,List.getD_eq_getElem?_getD,hx8]; rfl,hI.below⟩⟩
 ·
  refine seq_c (s_callNewF hI 102 [.agg #[iv pl.lo,iv pl.hi,.slice pA1 pn1 pc1,.slice pA2 pn2 pc2,.slice pA3 pn3 pc3,iv pl.geese,.slice pA4 pn4 pc4]] (fun v1=>.tuple #[v1,.bool false]) (by kernel_rfl) (Does.mono (stood_c _ pl pA1 pn1 pc1 pA2 pn2 pc2 pA3 pn3 pc3 cs pA4 pn4 pc4 (hSc.inv0 hI) hok) (fun v w' ⟨v1,e1,e2⟩=>⟨v1,by rw [e1,h1],e2⟩)) ?_)
  intro g11 c12 cl13 w hI r14
  have r14:Row 2 g11 (stoodF pl cs).1.length c12 cl13 (flat eRg (stoodF pl cs).1):=r14
  refine pu (.tuple #[slv g11 (stoodF pl cs).1.length c12,.bool false]) rfl (pu (slv g11 (stoodF pl cs).1.length c12) rfl (pu (.bool false) rfl (pu (slv g11 (stoodF pl cs).1.length c12) rfl (pu (.bool false) rfl (seq_nil (wp_seq (wp_seq (rgn rfl (pu (.bool false) rfl ?_)))))))))
  refine pu (.bool true) rfl (seq_nil (wp_condT rfl (wp_seq (rgn rfl (pu (.agg #[iv 0,iv 0]) (by kernel_rfl) (seq_c (s_store hI 1 2 [iv 0,iv 0] Tryz.sizeOf23 rfl rfl rfl rfl rfl (Nat.le_of_ble_eq_true rfl) ?_)))))))
  intro w hI
  refine pu (.bool false) rfl (seq_nil (wp_ret ?_))
  exact ⟨.tuple #[.agg #[iv 0,iv 0],.bool false],Ret.ct rfl rfl (run_loadK hI 1 2 [iv 0,iv 0] Tryz.isAgg23 Tryz.sizeOf23 rfl rfl rfl) rfl,⟨by rw [stoodAtF,if_neg (by rw [h1]; decide)]; rfl,hI.below⟩⟩


theorem place_c (w0:World) (pl:Pl) (pA1:Option Addr) (pn1 pc1:Nat) (pA2:Option Addr) (pn2 pc2:Nat) (pA3:Option Addr) (pn3 pc3:Nat) (cs:List Ld) (pA4:Option Addr) (pn4 pc4:Nat) (hSc:ScIn w0 pl pA1 pn1 pc1 pA2 pn2 pc2 pA3 pn3 pc3 cs pA4 pn4 pc4) (s:Int):Does Tryz.prog 101 [.agg #[.int .i64 pl.lo,.int .i64 pl.hi,.slice pA1 pn1 pc1,.slice pA2 pn2 pc2,.slice pA3 pn3 pc3,.int .i64 pl.geese,.slice pA4 pn4 pc4],.int .i64 s] w0 fun v w=>v=.tuple #[.int .i64 (placeF cs s).1,.bool (placeF cs s).2]∧Below w0.heap.size w0 w:=by
 have hm1:=hSc.p.m1; have hm2:=hSc.p.m2; have hm3:=hSc.p.m3; have hm4:=hSc.m4; have hk4:=hSc.k4; have hz1:=hSc.z1; have hz2:=hSc.z2; have hz3:=hSc.z3; have hz4:=hSc.z4
 refine calls_of (n:=22) Tryz.func101 rfl Tryz.ntmps101 rfl ?_
 have hI:=Inv.start w0
 refine wp_seq (rgn rfl (seq_c (s_boxI hI [iv pl.lo,iv pl.hi,.slice pA1 pn1 pc1,.slice pA2 pn2 pc2,.slice pA3 pn3 pc3,iv pl.geese,.slice pA4 pn4 pc4] rfl ?_)))
 intro b1 w hI
 refine pu (iv 0) rfl (pu (.bool false) rfl (seq_nil (wp_seq (wp_seq (rgn rfl (pu (.pointer (some ⟨b1,6,none⟩)) rfl (seq_c (s_load1 hI 0 (.slice pA4 pn4 pc4) Tryz.isAgg24 rfl rfl rfl ?_))))))))
 refine pu (iv ((pn4:Nat):Int)) (by kernel_rfl) (pu (iv 0) rfl (seq_nil (wp_block ?_)))
 refine wp_loop (fun m ρ w=>∃ (k:Nat),Agree ρ [(1,iv s),(9,.slice pA4 pn4 pc4),(10,iv (pn4:Int)),(11,iv (k:Int))]∧Inv []  w0 w [(some b1,blk [iv pl.lo,iv pl.hi,.slice pA1 pn1 pc1,.slice pA2 pn2 pc2,.slice pA3 pn3 pc3,iv pl.geese,.slice pA4 pn4 pc4] 116)]∧(k≤pn4)∧(∀ i x,i < k→cs[i]?=some x→(fun x:Ld=>decide (x.src=s)) x=false)∧m=pn4 - k) (m:=pn4 - 0) ⟨0,⟨rfl,rfl,rfl,rfl,trivial⟩,hI.pickL [0] (by decide) rfl,(by omega),(fun i x h=>absurd h (by omega)),rfl⟩ ?_
 rintro m ρ w ⟨k,hag,hI,hk,hp,hm⟩
 obtain ⟨ρ,rfl⟩:=hag.form; clear hag
 refine wp_seq (rgn rfl (seq_c (s_lss rfl rfl ?_ ?_)))
 ·intro h1
  refine seq_nil (wp_seq (wp_condT rfl (wp_skip (wp_seq (wp_block ?_)))))
  refine wp_seq (rgn rfl (pu (iv (k:Int)) rfl ?_))
  obtain ⟨x2,hx3⟩:=get_lt (l:=cs) (i:=k) (by omega)
  obtain ⟨b4,o5,hA6,hb7,he8⟩:=hSc.e4.at_ eLd_len (by decide) hx3
  refine seq_c (s_indexA k Tryz.underlying24 Tryz.sizeOf30 rfl hA6 rfl rfl (by omega) ?_)
  refine seq_c (s_loadBK hI [iv x2.src,iv x2.hr,iv x2.lo,iv x2.hi,iv x2.kn,iv x2.un] Tryz.isAgg30 Tryz.sizeOf30 rfl rfl hb7 (by simp) he8 ?_)
  refine seq_c (s_allocI hI [iv 0,iv 0,iv 0,iv 0,iv 0,iv 0] Tryz.zeroValue30 rfl ?_)
  intro b9 w hI
  refine pu (iv (k:Int)) rfl (seq_c (s_store hI 0 6 [iv x2.src,iv x2.hr,iv x2.lo,iv x2.hi,iv x2.kn,iv x2.un] Tryz.sizeOf30 rfl rfl rfl rfl rfl (Nat.le_of_ble_eq_true rfl) ?_))
  intro w hI
  refine seq_nil (wp_seq (rgn rfl (pu (.pointer (some ⟨b9,0,none⟩)) rfl (seq_c (s_load1 hI 0 (iv x2.src) Tryz.isAgg3 rfl rfl rfl ?_)))))
  refine pu (iv s) rfl (seq_c (s_eql rfl rfl ?_ ?_))
  ·intro h2
   refine seq_nil (wp_condT rfl (wp_seq (rgn rfl (pu (iv (k:Int)) rfl (pu (iv (k:Int)) rfl (pu (.bool true) rfl (seq_nil (wp_ret ?_))))))))
   exact ⟨.tuple #[iv (k:Int),.bool true],Ret.r2 rfl rfl rfl,⟨by have e:=idx_hit hp hx3 (decide_eq_true (by assumption)); rw [placeF,e,if_pos (by omega)],hI.below⟩⟩
  ·intro h3
   refine seq_nil (wp_condF rfl (wp_skip (rgn rfl (seq_c (s_add rfl rfl (by omega) ?_)))))
   refine pu (iv ((k:Int)+1)) rfl (seq_nil ?_)
   exact ⟨rfl,_,(by omega),⟨k+1,⟨rfl,rfl,rfl,rfl,trivial⟩,hI.pickL [1] (by decide) rfl,(by omega),(idx_step hp hx3 (decide_eq_false (by assumption))),rfl⟩⟩
 ·intro h4
  refine seq_nil (wp_seq (wp_condF rfl (wp_exit ?_)))
  refine wp_seq (rgn rfl (pu (iv 0) rfl (pu (.bool false) rfl (seq_nil (wp_ret ?_)))))
  exact ⟨.tuple #[iv 0,.bool false],Ret.r2 rfl rfl rfl,⟨by have e:=idx_none (k:=k) hp (by omega); rw [placeF,e,if_neg (by omega)],hI.below⟩⟩


theorem shut1_c (w0:World) (y:Sp) (x:Int) (b:Nat) (hb:w0.heap[b]?=some (blk [.int .i64 x] 3)):Does Tryz.prog 157 [.agg #[.int .i64 y.src,.int .i64 y.kd,.int .i64 y.fr,.int .i64 y.to,.int .i64 y.kn,.int .i64 y.un],.pointer (some ⟨b,0,none⟩)] w0 fun v w=>v=.bool (decide (y.fr≤x) && decide (x≤y.to))∧Below w0.heap.size w0 w:=by
 refine calls_of (n:=14) Tryz.func157 rfl Tryz.ntmps157 rfl ?_
 have hI:=Inv.start w0
 refine wp_seq (rgn rfl (seq_c (s_boxI hI [iv y.src,iv y.kd,iv y.fr,iv y.to,iv y.kn,iv y.un] rfl ?_)))
 intro b1 w hI
 refine pu (.bool false) rfl (seq_nil (wp_seq (rgn rfl (pu (.pointer (some ⟨b1,2,none⟩)) rfl (seq_c (s_load1 hI 0 (iv y.fr) Tryz.isAgg3 rfl rfl rfl ?_))))))
 refine seq_c (s_loadB1 hI (iv x) Tryz.isAgg3 rfl (blk_lt hb) (by simp) (blk_cell hb rfl) ?_)
 refine seq_c (s_leq rfl rfl ?_ ?_)
 ·intro h1
  refine pu (.bool true) rfl (seq_on rfl (s_loadB1 hI (iv x) Tryz.isAgg3 rfl (blk_lt hb) (by simp) (blk_cell hb rfl) ?_))
  refine puo (.pointer (some ⟨b1,3,none⟩)) ⟨rfl,rfl⟩ (seq_on rfl (s_load1 hI 0 (iv y.to) Tryz.isAgg3 rfl rfl rfl ?_))
  refine seq_on rfl (s_leq rfl rfl ?_ ?_)
  ·intro h2
   refine pu (.bool true) rfl (pu (.bool true) rfl (seq_nil (wp_ret ?_)))
   exact ⟨.bool true,Ret.r1 rfl rfl,⟨by refine congrArg Value.bool ?_; first | (simp_all; done) | (simp_all; omega),hI.below⟩⟩
  ·intro h3
   refine pu (.bool false) rfl (pu (.bool false) rfl (seq_nil (wp_ret ?_)))
   exact ⟨.bool false,Ret.r1 rfl rfl,⟨by refine congrArg Value.bool ?_; first | (simp_all; done) | (simp_all; omega),hI.below⟩⟩
 ·intro h4
  refine pu (.bool false) rfl (of_ rfl (of_ rfl (of_ rfl (of_ rfl (pu (.bool false) rfl (pu (.bool false) rfl (seq_nil (wp_ret ?_))))))))
  exact ⟨.bool false,Ret.r1 rfl rfl,⟨by refine congrArg Value.bool ?_; first | (simp_all; done) | (simp_all; omega),hI.below⟩⟩


theorem shut_c (w0:World) (pl:Pl) (pA1:Option Addr) (pn1 pc1:Nat) (pA2:Option Addr) (pn2 pc2:Nat) (pA3:Option Addr) (pn3 pc3:Nat) (cs:List Ld) (pA4:Option Addr) (pn4 pc4:Nat) (hSc:ScIn w0 pl pA1 pn1 pc1 pA2 pn2 pc2 pA3 pn3 pc3 cs pA4 pn4 pc4) (h:Int) (hh:0≤h∧h≤100000):Does Tryz.prog 116 [.agg #[.int .i64 pl.lo,.int .i64 pl.hi,.slice pA1 pn1 pc1,.slice pA2 pn2 pc2,.slice pA3 pn3 pc3,.int .i64 pl.geese,.slice pA4 pn4 pc4],.int .i64 h] w0 fun v w=>v=.bool (shutF pl h)∧Below w0.heap.size w0 w:=by
 have hm1:=hSc.p.m1; have hm2:=hSc.p.m2; have hm3:=hSc.p.m3; have hm4:=hSc.m4; have hk4:=hSc.k4; have hz1:=hSc.z1; have hz2:=hSc.z2; have hz3:=hSc.z3; have hz4:=hSc.z4
 refine calls_of (n:=19) Tryz.func116 rfl Tryz.ntmps116 rfl ?_
 have hI:=Inv.start w0
 refine wp_seq (rgn rfl (seq_c (s_boxI hI [iv pl.lo,iv pl.hi,.slice pA1 pn1 pc1,.slice pA2 pn2 pc2,.slice pA3 pn3 pc3,iv pl.geese,.slice pA4 pn4 pc4] rfl ?_)))
 intro b1 w hI
 refine seq_c (s_boxI hI [iv h] rfl ?_)
 intro b2 w hI
 refine pu (.bool false) rfl (seq_nil (wp_seq (rgn rfl (seq_c (s_load1 hI 0 (iv h) Tryz.isAgg3 rfl rfl rfl ?_)))))
 refine seq_c (s_rem24 rfl (by omega) ?_)
 refine pu (iv (h % 24)) rfl (seq_nil (wp_seq (wp_seq (rgn rfl (pu (iv (h % 24)) rfl (seq_c (s_lss rfl rfl ?_ ?_)))))))
 ·intro h1
  refine pu (.bool true) rfl (of_ rfl (of_ rfl (pu (.bool true) rfl (seq_nil (wp_condT rfl (wp_seq (rgn rfl (pu (.bool true) rfl (seq_nil ?_)))))))))
  refine wp_ret ?_
  exact ⟨.bool true,Ret.r1 rfl rfl,⟨by refine congrArg Value.bool ?_; simp [shutF,h1] <;> omega,hI.below⟩⟩
 ·intro h2
  refine pu (.bool false) rfl (puo (iv (h % 24)) ⟨rfl,rfl⟩ (seq_on rfl (s_geq rfl rfl ?_ ?_)))
  ·intro h3
   refine pu (.bool true) rfl (seq_nil (wp_condT rfl (wp_seq (rgn rfl (pu (.bool true) rfl (seq_nil (wp_ret ?_)))))))
   exact ⟨.bool true,Ret.r1 rfl rfl,⟨by refine congrArg Value.bool ?_; simp [shutF,h2,h3] <;> omega,hI.below⟩⟩
  ·intro h4
   refine pu (.bool false) rfl (seq_nil (wp_condF rfl (wp_skip (wp_seq (rgn rfl (pu (.pointer (some ⟨b1,0,none⟩)) rfl (pu (.pointer (some ⟨b1,4,none⟩)) rfl (seq_c (s_load1 hI 1 (.slice pA3 pn3 pc3) Tryz.isAgg26 rfl rfl rfl ?_)))))))))
   refine pu (.func (.func 157) #[] #[.pointer (some ⟨b2,0,none⟩)]) (by kernel_rfl) (seq_c (s_callv hI 156 [.slice pA3 pn3 pc3,.func (.func 157) #[] #[.pointer (some ⟨b2,0,none⟩)]] (.bool ((pl.spells).any (fun y:Sp=>decide (y.fr≤h) && decide (h≤y.to)))) (by kernel_rfl) (ContainsSpell_c _ pl.spells pA3 pn3 pc3 (.func (.func 157) #[] #[.pointer (some ⟨b2,0,none⟩)]) (fun y:Sp=>decide (y.fr≤h) && decide (h≤y.to)) hSc.p.m3 (by omega) (hSc.p.c3.inv0 hI) (fun w1 hb y _=>CallV.of (args':=[.agg (eSp y).toArray,.pointer (some ⟨b2,0,none⟩)]) rfl (shut1_c w1 y h b2 (below_blk hb (hI.has 0 _ _ rfl).1)))) ?_))
   intro w hI
   refine pu (.bool ((pl.spells).any (fun y:Sp=>decide (y.fr≤h) && decide (h≤y.to)))) rfl (seq_nil (wp_ret ?_))
   exact ⟨.bool ((pl.spells).any (fun y:Sp=>decide (y.fr≤h) && decide (h≤y.to))),Ret.r1 rfl rfl,⟨by refine congrArg Value.bool ?_; rw [shutF,decide_eq_false (p:=h % 24 < 8) (by assumption),decide_eq_false (p:=19≤h % 24) (by assumption)]; rfl,hI.below⟩⟩


theorem geese_c (w0:World) (pl:Pl) (pA1:Option Addr) (pn1 pc1:Nat) (pA2:Option Addr) (pn2 pc2:Nat) (pA3:Option Addr) (pn3 pc3:Nat) (cs:List Ld) (pA4:Option Addr) (pn4 pc4:Nat) (hSc:ScIn w0 pl pA1 pn1 pc1 pA2 pn2 pc2 pA3 pn3 pc3 cs pA4 pn4 pc4) (h:Int) (hh:0≤h∧h≤100000) (hg:0≤pl.geese∧pl.geese≤60):Does Tryz.prog 119 [.agg #[.int .i64 pl.lo,.int .i64 pl.hi,.slice pA1 pn1 pc1,.slice pA2 pn2 pc2,.slice pA3 pn3 pc3,.int .i64 pl.geese,.slice pA4 pn4 pc4],.int .i64 h] w0 fun v w=>v=.tuple #[.int .i64 (geeseF pl h).1,.bool (geeseF pl h).2]∧Below w0.heap.size w0 w:=by
 have hm1:=hSc.p.m1; have hm2:=hSc.p.m2; have hm3:=hSc.p.m3; have hm4:=hSc.m4; have hk4:=hSc.k4; have hz1:=hSc.z1; have hz2:=hSc.z2; have hz3:=hSc.z3; have hz4:=hSc.z4
 refine calls_of (n:=22) Tryz.func119 rfl Tryz.ntmps119 rfl ?_
 have hI:=Inv.start w0
 refine wp_seq (rgn rfl (seq_c (s_boxI hI [iv pl.lo,iv pl.hi,.slice pA1 pn1 pc1,.slice pA2 pn2 pc2,.slice pA3 pn3 pc3,iv pl.geese,.slice pA4 pn4 pc4] rfl ?_)))
 intro b1 w hI
 refine pu (iv 0) rfl (pu (.bool false) rfl (seq_nil (wp_seq (rgn rfl (pu (iv h) rfl (pu (.pointer (some ⟨b1,0,none⟩)) rfl (pu (.pointer (some ⟨b1,5,none⟩)) rfl (seq_c (s_load1 hI 0 (iv pl.geese) Tryz.isAgg3 rfl rfl rfl ?_)))))))))
 refine seq_c (s_mul rfl rfl (by omega) ?_)
 refine seq_c (s_sub rfl rfl (by omega) ?_)
 refine pu (iv (h - (24 * pl.geese))) rfl (seq_nil (wp_seq (rgn rfl (pu (iv (h - (24 * pl.geese))) rfl (pu (.pointer (some ⟨b1,0,none⟩)) rfl (pu (.pointer (some ⟨b1,5,none⟩)) rfl (seq_c (s_load1 hI 0 (iv pl.geese) Tryz.isAgg3 rfl rfl rfl ?_))))))))
 refine seq_c (s_gtr rfl rfl ?_ ?_)
 ·intro h1
  refine pu (.bool true) rfl (puo (iv (h - (24 * pl.geese))) ⟨rfl,rfl⟩ (seq_on rfl (s_geq rfl rfl ?_ ?_)))
  ·intro h2
   refine pu (.bool true) rfl (pu (iv (h - (24 * pl.geese))) rfl (pu (.bool true) rfl (seq_nil (wp_ret ?_))))
   exact ⟨.tuple #[iv (h - (24 * pl.geese)),.bool true],Ret.r2 rfl rfl rfl,⟨by simp [geeseF]; omega,hI.below⟩⟩
  ·intro h3
   refine pu (.bool false) rfl (pu (iv (h - (24 * pl.geese))) rfl (pu (.bool false) rfl (seq_nil (wp_ret ?_))))
   exact ⟨.tuple #[iv (h - (24 * pl.geese)),.bool false],Ret.r2 rfl rfl rfl,⟨by simp [geeseF]; omega,hI.below⟩⟩
 ·intro h4
  refine pu (.bool false) rfl (of_ rfl (of_ rfl (pu (.bool false) rfl (pu (iv (h - (24 * pl.geese))) rfl (pu (.bool false) rfl (seq_nil (wp_ret ?_)))))))
  exact ⟨.tuple #[iv (h - (24 * pl.geese)),.bool false],Ret.r2 rfl rfl rfl,⟨by simp [geeseF]; omega,hI.below⟩⟩

set_option maxHeartbeats 800000 in
theorem with_c (w0:World) (pl:Pl) (pA1:Option Addr) (pn1 pc1:Nat) (pA2:Option Addr) (pn2 pc2:Nat) (pA3:Option Addr) (pn3 pc3:Nat) (cs:List Ld) (pA4:Option Addr) (pn4 pc4:Nat) (hSc:ScIn w0 pl pA1 pn1 pc1 pA2 pn2 pc2 pA3 pn3 pc3 cs pA4 pn4 pc4) (h rlo rhi:Int):Does Tryz.prog 118 [.agg #[.int .i64 pl.lo,.int .i64 pl.hi,.slice pA1 pn1 pc1,.slice pA2 pn2 pc2,.slice pA3 pn3 pc3,.int .i64 pl.geese,.slice pA4 pn4 pc4],.int .i64 h,.agg #[.int .i64 rlo,.int .i64 rhi]] w0 fun v w=>∃ v1,v=.agg #[.int .i64 pl.lo,.int .i64 pl.hi,.slice pA1 pn1 pc1,v1,.slice pA3 pn3 pc3,.int .i64 pl.geese,.slice pA4 pn4 pc4]∧Gives 6 31 none (pn2+1) (flat eLd (withF pl h rlo rhi).stands) w0 v1 w:=by
 have hm1:=hSc.p.m1; have hm2:=hSc.p.m2; have hm3:=hSc.p.m3; have hm4:=hSc.m4; have hk4:=hSc.k4; have hz1:=hSc.z1; have hz2:=hSc.z2; have hz3:=hSc.z3; have hz4:=hSc.z4
 refine calls_of (n:=19) Tryz.func118 rfl Tryz.ntmps118 rfl ?_
 have hI:=Inv.start w0
 refine wp_seq (rgn rfl (seq_c (s_boxI hI [iv pl.lo,iv pl.hi,.slice pA1 pn1 pc1,.slice pA2 pn2 pc2,.slice pA3 pn3 pc3,iv pl.geese,.slice pA4 pn4 pc4] rfl ?_)))
 intro b1 w hI
 refine seq_c (s_boxI hI [iv rlo,iv rhi] rfl ?_)
 intro b2 w hI
 refine seq_c (s_allocI hI [iv 0,iv 0,.slice none 0 0,.slice none 0 0,.slice none 0 0,iv 0,.slice none 0 0] Tryz.zeroValue116 rfl ?_)
 intro b3 w hI
 refine seq_nil (wp_seq ?_)
 replace hI:=hI.pickL [0,1,2] (by decide) rfl
 refine wp_drawn2 hI [0,1] (by decide) rfl rfl rfl ?_
 intro hsub
 refine alp 0 (.pointer (some ⟨b1,0,none⟩)) hsub rfl (by kernel_rfl) (fun _=>rfl) ?_
 refine alp 1 (.pointer (some ⟨b1,3,none⟩)) hsub rfl (by kernel_rfl) (fun _=>rfl) ?_
 refine alp 4 (iv h) hsub rfl (by kernel_rfl) (fun _=>rfl) ?_
 refine al_light 5 (.agg #[iv rlo,iv rhi]) hsub rfl (by kernel_rfl) (fun w hI=>s_loadK hI 1 2 [iv rlo,iv rhi] Tryz.isAgg23 Tryz.sizeOf23 rfl rfl rfl rfl ⟨rfl,Below.refl _ _⟩) ?_
 refine alp 6 (.agg #[iv 0,iv h,iv rlo,iv rhi,iv 0,iv 0]) hsub rfl (by kernel_rfl) (fun _=>(by kernel_rfl)) ?_
 refine any_heavy [2,7] (by kernel_rfl) rfl (each2 ?_ ?_)
 ·intro w hI
  refine ol_c rfl (s_load1 hI 2 (.slice pA2 pn2 pc2) Tryz.isAgg25 rfl rfl rfl ?_)
  refine ⟨_,hI,subk (fun _ h=>h.pickL [0,1] (by decide) rfl) ?_⟩
  intro hsub
  refine any_heavy [3,7] (by kernel_rfl) rfl (each2 ?_ ?_)
  ·intro w hI
   refine ol_c rfl (s_callNew hI 124 [.slice pA2 pn2 pc2] (by kernel_rfl) (CloneStands_c _ pl.stands pA2 pn2 pc2 hSc.p.m2 (by omega) (hSc.p.c2.inv0 hI)) ?_)
   intro g4 c5 cl6 w hI r7
   refine ⟨_,hI,subk (fun _ h=>h.pickL [1,2] (by decide) rfl) ?_⟩
   intro hsub
   have r7:Row 6 g4 (pn2) c5 cl6 (flat eLd (pl.stands)):=r7
   refine any_heavy [7] (by kernel_rfl) rfl (each1 ?_)
   intro w hI
   refine ol_c rfl (s_new hI [iv 0,iv h,iv rlo,iv rhi,iv 0,iv 0] 31 (fun b=>slv (some b) 1 1) (by kernel_rfl) ?_)
   intro b8 w hI
   refine ⟨_,hI,subk (fun _ h=>h.pickL [2,3] (by decide) rfl) ?_⟩
   intro hsub
   refine any_heavy [8] (by kernel_rfl) rfl (each1 ?_)
   intro w hI
   refine ol_c rfl (s_app hI Tryz.underlying25 (z:=.agg #[iv 0,iv 0,iv 0,iv 0,iv 0,iv 0]) (k:=6) (bytes:=48) rfl rfl rfl 1 rfl rfl r7 [iv 0,iv h,iv rlo,iv rhi,iv 0,iv 0] rfl rfl (hI.cells 0 (off:=0) rfl (fun j u h=>by rw [Nat.zero_add]; exact h)) (by simp [Value.oneCell']) (by omega) (by omega) ?_)
   intro g9 c10 cl11 w hI r12
   refine ⟨_,hI,subk (fun _ h=>h.pickL [2,3] (by decide) rfl) ?_⟩
   intro hsub
   have r12:Row 6 g9 (pn2+1) c10 cl11 (flat eLd (pl.stands++[(⟨0,h,rlo,rhi,0,0⟩:Ld)])):=r12.snoc _ rfl
   refine alp 9 (.pointer (some ⟨b1,0,none⟩)) hsub rfl (by kernel_rfl) (fun _=>rfl) ?_
   refine alp 10 (.pointer (some ⟨b1,3,none⟩)) hsub rfl (by kernel_rfl) (fun _=>rfl) ?_
   refine any_heavy [11] (by kernel_rfl) rfl (each1 ?_)
   intro w hI
   refine ol_c rfl (s_store hI 4 1 [slv g9 (pn2+1) c10] Tryz.sizeOf25 rfl rfl rfl rfl rfl (Nat.le_of_ble_eq_true rfl) ?_)
   intro w hI
   refine ⟨_,hI,subk (fun _ h=>h.pickL [2,3] (by decide) rfl) ?_⟩
   intro hsub
   refine any_end rfl (fun w hI=>?_)
   refine wp_seq (rgn rfl (seq_c (s_loadK hI 4 7 [iv pl.lo,iv pl.hi,.slice pA1 pn1 pc1,slv g9 (pn2+1) c10,.slice pA3 pn3 pc3,iv pl.geese,.slice pA4 pn4 pc4] Tryz.isAgg116 Tryz.sizeOf116 rfl rfl rfl rfl ?_)))
   refine seq_c (s_store hI 2 7 [iv pl.lo,iv pl.hi,.slice pA1 pn1 pc1,slv g9 (pn2+1) c10,.slice pA3 pn3 pc3,iv pl.geese,.slice pA4 pn4 pc4] Tryz.sizeOf116 rfl rfl rfl rfl rfl (Nat.le_of_ble_eq_true rfl) ?_)
   intro w hI
   refine seq_nil (wp_ret ?_)
   exact ⟨.agg #[iv pl.lo,iv pl.hi,.slice pA1 pn1 pc1,slv g9 (pn2+1) c10,.slice pA3 pn3 pc3,iv pl.geese,.slice pA4 pn4 pc4],Ret.c rfl rfl (run_loadK hI 2 7 [iv pl.lo,iv pl.hi,.slice pA1 pn1 pc1,slv g9 (pn2+1) c10,.slice pA3 pn3 pc3,iv pl.geese,.slice pA4 pn4 pc4] Tryz.isAgg116 Tryz.sizeOf116 rfl rfl rfl),⟨slv g9 (pn2+1) c10,rfl,g9,c10,cl11,rfl,hI.pickL [1] (by decide) rfl,r12⟩⟩
  ·intro w hI
   refine ol_c rfl (s_new hI [iv 0,iv h,iv rlo,iv rhi,iv 0,iv 0] 31 (fun b=>slv (some b) 1 1) (by kernel_rfl) ?_)
   intro b13 w hI
   refine ⟨_,hI,subk (fun _ h=>h.pickL [1,2] (by decide) rfl) ?_⟩
   intro hsub
   refine any_heavy [3] (by kernel_rfl) rfl (each1 ?_)
   intro w hI
   refine ol_c rfl (s_callNew hI 124 [.slice pA2 pn2 pc2] (by kernel_rfl) (CloneStands_c _ pl.stands pA2 pn2 pc2 hSc.p.m2 (by omega) (hSc.p.c2.inv0 hI)) ?_)
   intro g14 c15 cl16 w hI r17
   refine ⟨_,hI,subk (fun _ h=>h.pickL [2,3] (by decide) rfl) ?_⟩
   intro hsub
   have r17:Row 6 g14 (pn2) c15 cl16 (flat eLd (pl.stands)):=r17
   refine any_heavy [8] (by kernel_rfl) rfl (each1 ?_)
   intro w hI
   refine ol_c rfl (s_app hI Tryz.underlying25 (z:=.agg #[iv 0,iv 0,iv 0,iv 0,iv 0,iv 0]) (k:=6) (bytes:=48) rfl rfl rfl 0 rfl rfl r17 [iv 0,iv h,iv rlo,iv rhi,iv 0,iv 0] rfl rfl (hI.cells 1 (off:=0) rfl (fun j u h=>by rw [Nat.zero_add]; exact h)) (by simp [Value.oneCell']) (by omega) (by omega) ?_)
   intro g18 c19 cl20 w hI r21
   refine ⟨_,hI,subk (fun _ h=>h.pickL [2,3] (by decide) rfl) ?_⟩
   intro hsub
   have r21:Row 6 g18 (pn2+1) c19 cl20 (flat eLd (pl.stands++[(⟨0,h,rlo,rhi,0,0⟩:Ld)])):=r21.snoc _ rfl
   refine alp 9 (.pointer (some ⟨b1,0,none⟩)) hsub rfl (by kernel_rfl) (fun _=>rfl) ?_
   refine alp 10 (.pointer (some ⟨b1,3,none⟩)) hsub rfl (by kernel_rfl) (fun _=>rfl) ?_
   refine any_heavy [11] (by kernel_rfl) rfl (each1 ?_)
   intro w hI
   refine ol_c rfl (s_store hI 4 1 [slv g18 (pn2+1) c19] Tryz.sizeOf25 rfl rfl rfl rfl rfl (Nat.le_of_ble_eq_true rfl) ?_)
   intro w hI
   refine ⟨_,hI,subk (fun _ h=>h.pickL [2,3] (by decide) rfl) ?_⟩
   intro hsub
   refine any_end rfl (fun w hI=>?_)
   refine wp_seq (rgn rfl (seq_c (s_loadK hI 4 7 [iv pl.lo,iv pl.hi,.slice pA1 pn1 pc1,slv g18 (pn2+1) c19,.slice pA3 pn3 pc3,iv pl.geese,.slice pA4 pn4 pc4] Tryz.isAgg116 Tryz.sizeOf116 rfl rfl rfl rfl ?_)))
   refine seq_c (s_store hI 2 7 [iv pl.lo,iv pl.hi,.slice pA1 pn1 pc1,slv g18 (pn2+1) c19,.slice pA3 pn3 pc3,iv pl.geese,.slice pA4 pn4 pc4] Tryz.sizeOf116 rfl rfl rfl rfl rfl (Nat.le_of_ble_eq_true rfl) ?_)
   intro w hI
   refine seq_nil (wp_ret ?_)
   exact ⟨.agg #[iv pl.lo,iv pl.hi,.slice pA1 pn1 pc1,slv g18 (pn2+1) c19,.slice pA3 pn3 pc3,iv pl.geese,.slice pA4 pn4 pc4],Ret.c rfl rfl (run_loadK hI 2 7 [iv pl.lo,iv pl.hi,.slice pA1 pn1 pc1,slv g18 (pn2+1) c19,.slice pA3 pn3 pc3,iv pl.geese,.slice pA4 pn4 pc4] Tryz.isAgg116 Tryz.sizeOf116 rfl rfl rfl),⟨slv g18 (pn2+1) c19,rfl,g18,c19,cl20,rfl,hI.pickL [0] (by decide) rfl,r21⟩⟩
 ·intro w hI
  refine ol_c rfl (s_new hI [iv 0,iv h,iv rlo,iv rhi,iv 0,iv 0] 31 (fun b=>slv (some b) 1 1) (by kernel_rfl) ?_)
  intro b22 w hI
  refine ⟨_,hI,subk (fun _ h=>h.pickL [1,2] (by decide) rfl) ?_⟩
  intro hsub
  refine any_heavy [2] (by kernel_rfl) rfl (each1 ?_)
  intro w hI
  refine ol_c rfl (s_load1 hI 3 (.slice pA2 pn2 pc2) Tryz.isAgg25 rfl rfl rfl ?_)
  refine ⟨_,hI,subk (fun _ h=>h.pickL [1,2] (by decide) rfl) ?_⟩
  intro hsub
  refine any_heavy [3] (by kernel_rfl) rfl (each1 ?_)
  intro w hI
  refine ol_c rfl (s_callNew hI 124 [.slice pA2 pn2 pc2] (by kernel_rfl) (CloneStands_c _ pl.stands pA2 pn2 pc2 hSc.p.m2 (by omega) (hSc.p.c2.inv0 hI)) ?_)
  intro g23 c24 cl25 w hI r26
  refine ⟨_,hI,subk (fun _ h=>h.pickL [2,3] (by decide) rfl) ?_⟩
  intro hsub
  have r26:Row 6 g23 (pn2) c24 cl25 (flat eLd (pl.stands)):=r26
  refine any_heavy [8] (by kernel_rfl) rfl (each1 ?_)
  intro w hI
  refine ol_c rfl (s_app hI Tryz.underlying25 (z:=.agg #[iv 0,iv 0,iv 0,iv 0,iv 0,iv 0]) (k:=6) (bytes:=48) rfl rfl rfl 0 rfl rfl r26 [iv 0,iv h,iv rlo,iv rhi,iv 0,iv 0] rfl rfl (hI.cells 1 (off:=0) rfl (fun j u h=>by rw [Nat.zero_add]; exact h)) (by simp [Value.oneCell']) (by omega) (by omega) ?_)
  intro g27 c28 cl29 w hI r30
  refine ⟨_,hI,subk (fun _ h=>h.pickL [2,3] (by decide) rfl) ?_⟩
  intro hsub
  have r30:Row 6 g27 (pn2+1) c28 cl29 (flat eLd (pl.stands++[(⟨0,h,rlo,rhi,0,0⟩:Ld)])):=r30.snoc _ rfl
  refine alp 9 (.pointer (some ⟨b1,0,none⟩)) hsub rfl (by kernel_rfl) (fun _=>rfl) ?_
  refine alp 10 (.pointer (some ⟨b1,3,none⟩)) hsub rfl (by kernel_rfl) (fun _=>rfl) ?_
  refine any_heavy [11] (by kernel_rfl) rfl (each1 ?_)
  intro w hI
  refine ol_c rfl (s_store hI 4 1 [slv g27 (pn2+1) c28] Tryz.sizeOf25 rfl rfl rfl rfl rfl (Nat.le_of_ble_eq_true rfl) ?_)
  intro w hI
  refine ⟨_,hI,subk (fun _ h=>h.pickL [2,3] (by decide) rfl) ?_⟩
  intro hsub
  refine any_end rfl (fun w hI=>?_)
  refine wp_seq (rgn rfl (seq_c (s_loadK hI 4 7 [iv pl.lo,iv pl.hi,.slice pA1 pn1 pc1,slv g27 (pn2+1) c28,.slice pA3 pn3 pc3,iv pl.geese,.slice pA4 pn4 pc4] Tryz.isAgg116 Tryz.sizeOf116 rfl rfl rfl rfl ?_)))
  refine seq_c (s_store hI 2 7 [iv pl.lo,iv pl.hi,.slice pA1 pn1 pc1,slv g27 (pn2+1) c28,.slice pA3 pn3 pc3,iv pl.geese,.slice pA4 pn4 pc4] Tryz.sizeOf116 rfl rfl rfl rfl rfl (Nat.le_of_ble_eq_true rfl) ?_)
  intro w hI
  refine seq_nil (wp_ret ?_)
  exact ⟨.agg #[iv pl.lo,iv pl.hi,.slice pA1 pn1 pc1,slv g27 (pn2+1) c28,.slice pA3 pn3 pc3,iv pl.geese,.slice pA4 pn4 pc4],Ret.c rfl rfl (run_loadK hI 2 7 [iv pl.lo,iv pl.hi,.slice pA1 pn1 pc1,slv g27 (pn2+1) c28,.slice pA3 pn3 pc3,iv pl.geese,.slice pA4 pn4 pc4] Tryz.isAgg116 Tryz.sizeOf116 rfl rfl rfl),⟨slv g27 (pn2+1) c28,rfl,g27,c28,cl29,rfl,hI.pickL [0] (by decide) rfl,r30⟩⟩

end Go.K
