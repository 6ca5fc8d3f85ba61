/- Whether loads and stands contradict each other. -/
import Derived.Test.YtinkdlmimiefaaaGreatProg
import Derived.Test.YtinkdlmimiefaaaGreatPM22
namespace Go.K
open Go.Proofs Go.RowKit
set_option linter.unusedVariables false
set_option linter.unusedSimpArgs false
set_option maxRecDepth 100000
attribute [local irreducible] Seq Step CallV AnyE opX

def someB (q:Pl):Int→List Int→Bool
  | _,[]=>true
  | last,x :: l=>decide (last < x) && srcB q x && someB q x l
theorem some_no {q:Pl} {last:Int} {l:List Int} {k:Nat} {x:Int} (hx:l[k]?=some x) (h:¬ (last < x∧srcB q x=true)):someB q last (l.drop k)=false:=by
  rw [drop_get hx,someB]
  by_cases h1:last < x
  · have h2:srcB q x=false:=by
      cases h3:srcB q x with
      | false=>rfl
      | true=>exact absurd ⟨h1,h3⟩ h
    simp [h2]
  · simp [h1]
theorem some_yes {q:Pl} {last:Int} {l:List Int} {k:Nat} {x:Int} (hx:l[k]?=some x) (h1:last < x) (h2:srcB q x=true):someB q last (l.drop k)=someB q x (l.drop (k+1)):=by
  rw [drop_get hx,someB]
  simp [h1,h2]
theorem in_step {l:List Int} {k:Nat} {x:Int} {S:Int→Bool} (h:∀ j,S j=decide (j∈l.take k)) (hx:l[k]?=some x):∀ j,(if j=x then true else S j)=decide (j∈l.take (k+1)):=fun j=>by
  rw [take_get hx,h j]
  by_cases e:j=x <;> simp [e]
def sndB (q:Pl) (cs:List Ld) (S:Int→Bool):Bool:=(stoodF (byP q S) (byC cs S)).2
def lessS (l:List Int) (s j:Int):Bool:=if j=s then false else decide (j∈l)
def clashB (q:Pl) (cs:List Ld) (l:List Int):Bool:=someB q 0 l && !sndB q cs (fun j=>decide (j∈l)) && l.all fun s=>sndB q cs (lessS l s)
theorem clashB_all {q:Pl} {cs:List Ld} {l:List Int} (h1:someB q 0 l=true) (h2:sndB q cs (fun j=>decide (j∈l))=false) (h3:∀ i s,i < l.length→l[i]?=some s→sndB q cs (lessS l s)=true):clashB q cs l=true:=by
  unfold clashB
  rw [h1,h2]
  simp only [Bool.not_false,Bool.and_self,Bool.true_and,List.all_eq_true]
  intro s hs
  obtain ⟨i,hi,e⟩:=List.getElem_of_mem hs
  exact h3 i s hi (by rw [List.getElem?_eq_getElem hi,e])
theorem clashB_one {q:Pl} {cs:List Ld} {l:List Int} {i:Nat} {s:Int} (hs:l[i]?=some s) (h:sndB q cs (lessS l s)=false):clashB q cs l=false:=by
  unfold clashB
  have:(l.all fun s=>sndB q cs (lessS l s))=false:=by
    rw [List.all_eq_false]
    exact ⟨s,mem_of_get hs,by rw [h]; decide⟩
  rw [this,Bool.and_false]
theorem less_back {l:List Int} {s:Int} (hs:s∈l):(fun j=>if j=s then true else lessS l s j)=fun j=>decide (j∈l):=by
  funext j
  unfold lessS
  by_cases e:j=s
  · simp [e,hs]
  · simp [e]

set_option maxHeartbeats 1600000 in
theorem some_c (w0:World) (pl:Pl) (pA1:Option Addr) (pn1 pc1:Nat) (pA2:Option Addr) (pn2 pc2:Nat) (pA3:Option Addr) (pn3 pc3:Nat) (cs:List Ld) (pA4:Option Addr) (pn4 pc4:Nat) (hSc:ScIn w0 pl pA1 pn1 pc1 pA2 pn2 pc2 pA3 pn3 pc3 cs pA4 pn4 pc4) (tA:Option Addr) (tn tc:Nat) (l:List Int) (hT:Cells w0 tA (flat eInt l)) (htn:tn=l.length) (hmax:tn≤9223372036854775807):Does Tryz.prog 96 [.agg #[.int .i64 pl.lo,.int .i64 pl.hi,.slice pA1 pn1 pc1,.slice pA2 pn2 pc2,.slice pA3 pn3 pc3,.int .i64 pl.geese,.slice pA4 pn4 pc4],.slice tA tn tc] w0 fun v w=>(someB pl 0 l=true∧∃ mb es ck,v=.tuple #[.map (some mb),.bool true]∧Inv []  w0 w [(some mb,mobj es ck)]∧MOk es ck∧∀ j,mget es j=if decide (j∈l) then some (.bool true) else none)∨(someB pl 0 l=false∧v=.tuple #[.map none,.bool false]∧Below w0.heap.size w0 w):=by
 have hm1:=hSc.p.m1; have hm2:=hSc.p.m2; have hm3:=hSc.p.m3; have hm4:=hSc.m4; have hk4:=hSc.k4; have hz1:=hSc.z1; have hz2:=hSc.z2; have hz3:=hSc.z3; have hz4:=hSc.z4
 refine calls_of (n:=34) Tryz.func96 rfl Tryz.ntmps96 rfl ?_
 have hI:=Inv.start w0
 refine wp_seq (rgn rfl (seq_c (s_boxI hI [iv pl.lo,iv pl.hi,.slice pA1 pn1 pc1,.slice pA2 pn2 pc2,.slice pA3 pn3 pc3,iv pl.geese,.slice pA4 pn4 pc4] rfl ?_)))
 intro b1 w hI
 refine pu (.map none) rfl (pu (.bool false) rfl (seq_nil (wp_seq (rgn rfl (seq_c (s_loadK hI 0 7 [iv pl.lo,iv pl.hi,.slice pA1 pn1 pc1,.slice pA2 pn2 pc2,.slice pA3 pn3 pc3,iv pl.geese,.slice pA4 pn4 pc4] Tryz.isAgg116 Tryz.sizeOf116 rfl rfl rfl rfl ?_))))))
 refine seq_c (s_call 90 [.agg #[iv pl.lo,iv pl.hi,.slice pA1 pn1 pc1,.slice pA2 pn2 pc2,.slice pA3 pn3 pc3,iv pl.geese,.slice pA4 pn4 pc4]] (by kernel_rfl) (sourcesOf_c _ pl pA1 pn1 pc1 pA2 pn2 pc2 pA3 pn3 pc3 cs pA4 pn4 pc4 (hSc.inv0 hI)) ?_)
 rintro _ w' ⟨mb2,es3,ck4,rfl,hN,ho5,hT6⟩
 replace hI:=hI.join hN; clear hN; revert hI; generalize w'=w; intro hI
 refine seq_c (s_makeMap hI ?_)
 intro b7 w hI
 refine pu (.map (some mb2)) rfl (pu (.map (some b7)) rfl (seq_nil (wp_seq (rgn rfl (pu (iv 0) rfl (seq_nil (wp_seq (wp_seq (rgn rfl ?_)))))))))
 refine pu (.slice tA tn tc) rfl (pu (iv ((tn:Nat):Int)) (by kernel_rfl) (pu (iv 0) rfl (seq_nil (wp_block ?_))))
 refine wp_loop (fun m ρ w=>∃ (k:Nat) (es1:List En) (ck1:Nat) (S:Int→Bool) (last:Int),Agree ρ [(6,.map (some mb2)),(7,.map (some b7)),(8,iv last),(14,.slice tA tn tc),(15,iv (tn:Int)),(16,iv (k:Int))]∧Inv []  w0 w [(some b7,mobj es1 ck1),(some mb2,mobj es3 ck4),(some b1,blk [iv pl.lo,iv pl.hi,.slice pA1 pn1 pc1,.slice pA2 pn2 pc2,.slice pA3 pn3 pc3,iv pl.geese,.slice pA4 pn4 pc4] 116)]∧(k≤tn)∧(MOk es1 ck1)∧(∀ j,mget es1 j=if S j then some (.bool true) else none)∧(∀ j,S j=decide (j∈l.take k))∧(someB pl 0 l=someB pl last (l.drop k))∧m=tn - k) (m:=tn - 0) ⟨0,[],0,(fun _=>false),0,⟨rfl,rfl,rfl,rfl,rfl,rfl,trivial⟩,hI.pickL [0,1,2] (by decide) rfl,(by omega),MOk.nilM,(fun _=>rfl),(fun j=>by simp),rfl,rfl⟩ ?_
 rintro m ρ w ⟨k,es1,ck1,S,last,hag,hI,hk,ho1,hT1,hSk,hsb,hm⟩
 obtain ⟨ρ,rfl⟩:=hag.form; clear hag
 refine wp_seq (rgn rfl (seq_c (s_lss rfl rfl ?_ ?_)))
 ·intro h1
  refine seq_nil (wp_seq (wp_condT rfl (wp_skip (wp_seq (wp_block ?_)))))
  refine wp_seq (rgn rfl ?_)
  obtain ⟨x8,hx9⟩:=get_lt (l:=l) (i:=k) (by omega)
  obtain ⟨b10,o11,hA12,hb13,he14⟩:=hT.at_ eInt_len (by decide) hx9
  refine seq_c (s_indexA k Tryz.underlying41 Tryz.sizeOf3 rfl hA12 rfl rfl (by omega) ?_)
  refine seq_c (s_loadB1 hI (iv x8) Tryz.isAgg3 rfl hb13 (by simp) (he14 0 _ rfl) ?_)
  refine pu (iv x8) rfl (seq_nil (wp_seq (wp_seq (rgn rfl (pu (iv x8) rfl (pu (iv last) rfl (seq_c (s_leq rfl rfl ?_ ?_))))))))
  ·intro h2
   refine pu (.bool true) rfl (of_ rfl (of_ rfl (of_ rfl (of_ rfl (pu (.bool true) rfl (seq_nil (wp_condT rfl (wp_seq (rgn rfl ?_)))))))))
   refine pu (.map none) rfl (pu (.bool false) rfl (seq_nil (wp_ret ?_)))
   exact ⟨.tuple #[.map none,.bool false],Ret.r2 rfl rfl rfl,(.inr ⟨by rw [hsb,some_no hx9 (fun h=>by first | (have:=h.1; omega) | simp_all)],rfl,hI.below⟩)⟩
  ·intro h3
   refine pu (.bool false) rfl (puo (.map (some mb2)) ⟨rfl,rfl⟩ (puo (iv x8) ⟨rfl,rfl⟩ ?_))
   rcases Bool.eq_false_or_eq_true (srcB pl x8) with h4 | h4
   ·refine seq_on rfl (s_lookup hI (.bool true) Tryz.underlying103 Tryz.underlying3 Tryz.zeroValue4 1 rfl rfl rfl (((hS_of hT6) _).trans (congrArg Value.bool h4)) ?_)
    refine puo (.bool false) ⟨rfl,rfl⟩ (pu (.bool false) rfl (seq_nil (wp_condF rfl (wp_skip (wp_seq (rgn rfl (pu (.map (some b7)) rfl (pu (iv x8) rfl (seq_c (s_mapUpdate hI Tryz.underlying103 Tryz.underlying3 0 rfl rfl rfl rfl ho1 ?_))))))))))
    intro es15 ck16 w hI ho17 hg18
    have hS19:∀ j,(mget es15 j).getD (.bool false)=.bool ((fun j=>if j=x8 then true else S j) j):=fun j=>by rw [hg18 j]; show _=Value.bool (if j=x8 then true else S j); by_cases hj:j=x8; (rw [if_pos hj,if_pos hj]; rfl); (rw [if_neg hj,if_neg hj]; exact (hS_of hT1) j)
    have hT20:∀ j,mget es15 j=if (fun j=>if j=x8 then true else S j) j then some (.bool true) else none:=fun j=>by rw [hg18 j]; show _=if (if j=x8 then true else S j)=true then some (Value.bool true) else none; by_cases hj:j=x8; (rw [if_pos hj,if_pos hj]; rfl); (rw [if_neg hj,if_neg hj]; exact hT1 j)
    refine seq_nil (rgn rfl (pu (iv x8) rfl (pu (iv x8) rfl (seq_nil (rgn rfl (seq_c (s_add rfl rfl (by omega) ?_)))))))
    refine pu (iv ((k:Int)+1)) rfl (seq_nil ?_)
    exact ⟨rfl,_,(by omega),⟨k+1,es15,ck16,(fun j=>if j=x8 then true else S j),x8,⟨rfl,rfl,rfl,rfl,rfl,rfl,trivial⟩,hI.pickL [0,1,2] (by decide) rfl,(by omega),ho17,hT20,(in_step hSk hx9),(hsb.trans (some_yes hx9 (by omega) (by assumption))),rfl⟩⟩
   ·refine seq_on rfl (s_lookup hI (.bool false) Tryz.underlying103 Tryz.underlying3 Tryz.zeroValue4 1 rfl rfl rfl (((hS_of hT6) _).trans (congrArg Value.bool h4)) ?_)
    refine puo (.bool true) ⟨rfl,rfl⟩ (pu (.bool true) rfl (seq_nil (wp_condT rfl (wp_seq (rgn rfl (pu (.map none) rfl (pu (.bool false) rfl (seq_nil (wp_ret ?_)))))))))
    exact ⟨.tuple #[.map none,.bool false],Ret.r2 rfl rfl rfl,(.inr ⟨by rw [hsb,some_no hx9 (fun h=>by first | (have:=h.1; omega) | simp_all)],rfl,hI.below⟩)⟩
 ·intro h5
  refine seq_nil (wp_seq (wp_condF rfl (wp_exit ?_)))
  refine wp_seq (rgn rfl (pu (.map (some b7)) rfl (pu (.map (some b7)) rfl (pu (.bool true) rfl (seq_nil (wp_ret ?_))))))
  exact ⟨.tuple #[.map (some b7),.bool true],Ret.r2 rfl rfl rfl,(.inl ⟨by rw [hsb,List.drop_eq_nil_of_le (by omega)]; rfl,b7,es1,ck1,rfl,hI.pickL [0] (by decide) rfl,ho1,fun j=>by rw [hT1 j,hSk j,List.take_of_length_le (by omega)]⟩)⟩

set_option maxHeartbeats 3200000 in
theorem CheckClash_c (w0:World) (pl:Pl) (pA1:Option Addr) (pn1 pc1:Nat) (pA2:Option Addr) (pn2 pc2:Nat) (pA3:Option Addr) (pn3 pc3:Nat) (hP:PlotIn w0 pl pA1 pn1 pA2 pn2 pA3 pn3) (dy:Int) (tA:Option Addr) (tn tc:Nat) (l:List Int) (hT:Cells w0 tA (flat eInt l)) (htn:tn=l.length) (hmax:tn≤9223372036854775807):Does Tryz.prog 34 [.agg #[.int .i64 pl.lo,.int .i64 pl.hi,.slice pA1 pn1 pc1,.slice pA2 pn2 pc2,.slice pA3 pn3 pc3,.int .i64 pl.geese],.int .i64 dy,.slice tA tn tc] w0 fun v w=>v=.int .i64 (if dayI pl dy=0 then if clashB (scnF pl dy) (crtF pl dy) l then 0 else 15 else dayI pl dy)∧Below w0.heap.size w0 w:=by
 have hm1:=hP.m1; have hm2:=hP.m2; have hm3:=hP.m3
 refine calls_of (n:=52) Tryz.func34 rfl Tryz.ntmps34 rfl ?_
 have hI:=Inv.start w0
 refine wp_seq (rgn rfl (seq_c (s_boxI hI [iv pl.lo,iv pl.hi,.slice pA1 pn1 pc1,.slice pA2 pn2 pc2,.slice pA3 pn3 pc3,iv pl.geese] rfl ?_)))
 intro b1 w hI
 refine pu (iv 0) rfl (seq_nil (wp_seq (wp_seq (rgn rfl (seq_c (s_loadK hI 0 6 [iv pl.lo,iv pl.hi,.slice pA1 pn1 pc1,.slice pA2 pn2 pc2,.slice pA3 pn3 pc3,iv pl.geese] Tryz.isAgg28 Tryz.sizeOf28 rfl rfl rfl rfl ?_))))))
 refine pu (iv dy) rfl (seq_c (s_callv hI 85 [.agg #[iv pl.lo,iv pl.hi,.slice pA1 pn1 pc1,.slice pA2 pn2 pc2,.slice pA3 pn3 pc3,iv pl.geese],iv dy] (iv (dayI pl dy)) (by kernel_rfl) (checkDay_c _ pl pA1 pn1 pc1 pA2 pn2 pc2 pA3 pn3 pc3 (hP.inv0 hI) dy) ?_))
 intro w hI
 refine pu (iv (dayI pl dy)) rfl (seq_nil (wp_seq (rgn rfl (pu (iv (dayI pl dy)) rfl (seq_c (s_neq rfl rfl ?_ ?_))))))
 ·intro h1
  refine seq_nil (wp_condT rfl (wp_seq (rgn rfl (pu (iv (dayI pl dy)) rfl (pu (iv (dayI pl dy)) rfl (seq_nil (wp_ret ?_)))))))
  exact ⟨iv (dayI pl dy),Ret.r1 rfl rfl,⟨by rw [if_neg h1],hI.below⟩⟩
 ·intro h2
  rw [if_pos h2]
  refine seq_nil (wp_condF rfl (wp_skip (wp_seq (rgn rfl (seq_c (s_loadK hI 0 6 [iv pl.lo,iv pl.hi,.slice pA1 pn1 pc1,.slice pA2 pn2 pc2,.slice pA3 pn3 pc3,iv pl.geese] Tryz.isAgg28 Tryz.sizeOf28 rfl rfl rfl rfl ?_))))))
  refine pu (iv dy) rfl ?_
  have hsl:=scn_len pl dy; obtain ⟨hsl1,hsl2,hsl3⟩:=hsl; have hsc:=crt_len pl dy; have hok_:=plotB_small (dayI_ok h2).1; have hok1:=hok_.s1; have hok2:=hok_.s2; have hok3:=hok_.s3
  refine seq_c (s_callScene hI (q:=scnF pl dy) (cs:=crtF pl dy) 86 [.agg #[iv pl.lo,iv pl.hi,.slice pA1 pn1 pc1,.slice pA2 pn2 pc2,.slice pA3 pn3 pc3,iv pl.geese],iv dy] (by kernel_rfl) (sceneOf_c _ pl pA1 pn1 pc1 pA2 pn2 pc2 pA3 pn3 pc3 (hP.inv0 hI) (plotB_small (dayI_ok h2).1) dy) ?_)
  intro g2 c3 cl4 g6 c7 cl8 g10 c11 cl12 g14 c15 cl16 w hI r5 r9 r13 r17
  refine seq_c (s_allocI hI [iv 0,iv 0,.slice none 0 0,.slice none 0 0,.slice none 0 0,iv 0,.slice none 0 0] Tryz.zeroValue116 rfl ?_)
  intro b18 w hI
  refine seq_c (s_store hI 0 7 [iv (scnF pl dy).lo,iv (scnF pl dy).hi,slv g2 (scnF pl dy).loads.length c3,slv g6 (scnF pl dy).stands.length c7,slv g10 (scnF pl dy).spells.length c11,iv (scnF pl dy).geese,slv g14 (crtF pl dy).length c15] Tryz.sizeOf116 rfl rfl rfl rfl rfl (Nat.le_of_ble_eq_true rfl) ?_)
  intro w hI
  refine seq_nil (wp_seq (rgn rfl (seq_c (s_loadK hI 0 7 [iv (scnF pl dy).lo,iv (scnF pl dy).hi,slv g2 (scnF pl dy).loads.length c3,slv g6 (scnF pl dy).stands.length c7,slv g10 (scnF pl dy).spells.length c11,iv (scnF pl dy).geese,slv g14 (crtF pl dy).length c15] Tryz.isAgg116 Tryz.sizeOf116 rfl rfl rfl rfl ?_))))
  refine pu (.slice tA tn tc) rfl (seq_c (s_call 96 [.agg #[iv (scnF pl dy).lo,iv (scnF pl dy).hi,slv g2 (scnF pl dy).loads.length c3,slv g6 (scnF pl dy).stands.length c7,slv g10 (scnF pl dy).spells.length c11,iv (scnF pl dy).geese,slv g14 (crtF pl dy).length c15],.slice tA tn tc] (by kernel_rfl) (some_c _ (scnF pl dy) (g2.map fun b=>⟨b,0,none⟩) (scnF pl dy).loads.length c3 (g6.map fun b=>⟨b,0,none⟩) (scnF pl dy).stands.length c7 (g10.map fun b=>⟨b,0,none⟩) (scnF pl dy).spells.length c11 (crtF pl dy) (g14.map fun b=>⟨b,0,none⟩) (crtF pl dy).length c15 ⟨⟨(hI.rowCells 1 rfl r5),rfl,(hI.rowCells 2 rfl r9),rfl,(hI.rowCells 3 rfl r13),rfl,(by omega),(by omega),(by omega)⟩,(hI.rowCells 4 rfl r17),rfl,r17.cap,(by omega),(by omega),(by omega),(by omega)⟩ tA tn tc l (hT.inv0 hI) htn (by omega)) ?_))
  rintro _ w' (⟨hs24,mb19,es20,ck21,rfl,hN,ho22,hT23⟩ | ⟨hs24,rfl,hN⟩)
  ·
   replace hI:=hI.join hN; clear hN; revert hI; generalize w'=w; intro hI
   refine pu (.tuple #[.map (some mb19),.bool true]) rfl (pu (.map (some mb19)) rfl (pu (.bool true) rfl (pu (.map (some mb19)) rfl (pu (.bool true) rfl (seq_nil (wp_seq (wp_seq (rgn rfl (pu (.bool true) rfl ?_)))))))))
   refine pu (.bool false) rfl (pu (.bool false) rfl (seq_on rfl (s_loadK hI 1 7 [iv (scnF pl dy).lo,iv (scnF pl dy).hi,slv g2 (scnF pl dy).loads.length c3,slv g6 (scnF pl dy).stands.length c7,slv g10 (scnF pl dy).spells.length c11,iv (scnF pl dy).geese,slv g14 (crtF pl dy).length c15] Tryz.isAgg116 Tryz.sizeOf116 rfl rfl rfl rfl ?_)))
   refine puo (.map (some mb19)) ⟨rfl,rfl⟩ ?_
   obtain ⟨S9,hS9⟩:∃ z:Int→Bool,z=(fun j=>decide (j∈l)):=⟨_,rfl⟩
   have hT9:∀ j,mget es20 j=if S9 j then some (.bool true) else none:=by rw [hS9]; exact hT23
   refine seq_on rfl (s_call 92 [.agg #[iv (scnF pl dy).lo,iv (scnF pl dy).hi,slv g2 (scnF pl dy).loads.length c3,slv g6 (scnF pl dy).stands.length c7,slv g10 (scnF pl dy).spells.length c11,iv (scnF pl dy).geese,slv g14 (crtF pl dy).length c15],.map (some mb19)] (by kernel_rfl) (by_c _ (scnF pl dy) (g2.map fun b=>⟨b,0,none⟩) (scnF pl dy).loads.length c3 (g6.map fun b=>⟨b,0,none⟩) (scnF pl dy).stands.length c7 (g10.map fun b=>⟨b,0,none⟩) (scnF pl dy).spells.length c11 (crtF pl dy) (g14.map fun b=>⟨b,0,none⟩) (crtF pl dy).length c15 ⟨⟨(hI.rowCells 2 rfl r5),rfl,(hI.rowCells 3 rfl r9),rfl,(hI.rowCells 4 rfl r13),rfl,(by omega),(by omega),(by omega)⟩,(hI.rowCells 5 rfl r17),rfl,r17.cap,(by omega),(by omega),(by omega),(by omega)⟩ mb19 ck21 es20 S9 (hI.has 0 _ _ rfl).1 (hS_of hT9)) ?_)
   rintro _ w' ⟨g25,c26,cl27,g29,c30,cl31,rfl,hN,r28,r32⟩
   replace hI:=hI.join hN; clear hN; revert hI; generalize w'=w; intro hI
   have hb9:(byP (scnF pl dy) S9).stands.length≤(scnF pl dy).stands.length:=List.length_filter_le _ _; have hb8:=byC_len (crtF pl dy) S9
   refine seq_on rfl (s_callb hI 87 [.agg #[iv (scnF pl dy).lo,iv (scnF pl dy).hi,slv g2 (scnF pl dy).loads.length c3,slv g25 ((byP (scnF pl dy) S9).stands.length) c26,slv g10 (scnF pl dy).spells.length c11,iv (scnF pl dy).geese,slv g29 ((byC (crtF pl dy) S9).length) c30]] ((stoodF (byP (scnF pl dy) S9) (byC (crtF pl dy) S9)).2) (by kernel_rfl) (sound_c _ (byP (scnF pl dy) S9) (g2.map fun b=>⟨b,0,none⟩) (scnF pl dy).loads.length c3 (g25.map fun b=>⟨b,0,none⟩) ((byP (scnF pl dy) S9).stands.length) c26 (g10.map fun b=>⟨b,0,none⟩) (scnF pl dy).spells.length c11 (byC (crtF pl dy) S9) (g29.map fun b=>⟨b,0,none⟩) ((byC (crtF pl dy) S9).length) c30 ⟨⟨(hI.rowCells 4 rfl r5),rfl,(hI.rowCells 0 rfl r28),rfl,(hI.rowCells 6 rfl r13),rfl,(by omega),(by omega),(by omega)⟩,(hI.rowCells 1 rfl r32),rfl,r32.cap,(by omega),(by omega),(by omega),(by omega)⟩ (by_ok (scn_ok (dayI_ok h2).1 dy) S9)) ?_ ?_)
   ·intro h3 w hI
    refine pu (.bool true) rfl (seq_nil (wp_condT rfl (wp_seq (rgn rfl (pu (iv 15) rfl (seq_nil (wp_ret ?_)))))))
    have hun:sndB (scnF pl dy) (crtF pl dy) (fun j=>decide (j∈l))=true:=by unfold sndB; rw [← hS9]; exact h3
    exact ⟨iv 15,Ret.r1 rfl rfl,⟨by simp [clashB,hun],hI.below⟩⟩
   ·intro h4 w hI
    refine pu (.bool false) rfl (seq_nil (wp_condF rfl (wp_skip (wp_seq (wp_seq (rgn rfl (pu (.slice tA tn tc) rfl (pu (iv ((tn:Nat):Int)) (by kernel_rfl) (pu (iv 0) rfl ?_)))))))))
    refine seq_nil (wp_block ?_)
    have hun:sndB (scnF pl dy) (crtF pl dy) (fun j=>decide (j∈l))=false:=by unfold sndB; rw [← hS9]; exact h4
    refine wp_loop (fun m ρ w=>∃ (k:Nat) (esk:List En) (ckk:Nat),Agree ρ [(8,.pointer (some ⟨b18,0,none⟩)),(9,.map (some mb19)),(36,.slice tA tn tc),(37,iv (tn:Int)),(38,iv (k:Int))]∧Inv []  w0 w [(g25,blk cl27 31),(g29,blk cl31 30),(some mb19,mobj esk ckk),(some b18,blk [iv (scnF pl dy).lo,iv (scnF pl dy).hi,slv g2 (scnF pl dy).loads.length c3,slv g6 (scnF pl dy).stands.length c7,slv g10 (scnF pl dy).spells.length c11,iv (scnF pl dy).geese,slv g14 (crtF pl dy).length c15] 116),(g2,blk cl4 30),(g6,blk cl8 31),(g10,blk cl12 33),(g14,blk cl16 30),(some b1,blk [iv pl.lo,iv pl.hi,.slice pA1 pn1 pc1,.slice pA2 pn2 pc2,.slice pA3 pn3 pc3,iv pl.geese] 28)]∧(k≤tn)∧(MOk esk ckk)∧(∀ j,mget esk j=if decide (j∈l) then some (.bool true) else none)∧(∀ i s,i < k→l[i]?=some s→sndB (scnF pl dy) (crtF pl dy) (lessS l s)=true)∧m=tn - k) (m:=tn - 0) ⟨0,es20,ck21,⟨rfl,rfl,rfl,rfl,rfl,trivial⟩,hI.pickL [0,1,2,3,4,5,6,7,8] (by decide) rfl,(by omega),ho22,hT23,(fun i s h=>absurd h (by omega)),rfl⟩ ?_
    rintro m ρ w ⟨k,esk,ckk,hag,hI,hk,hok_k,hTk,hall,hm⟩
    obtain ⟨ρ,rfl⟩:=hag.form; clear hag
    refine wp_seq (rgn rfl (seq_c (s_lss rfl rfl ?_ ?_)))
    ·intro h5
     refine seq_nil (wp_seq (wp_condT rfl (wp_skip (wp_seq (wp_block ?_)))))
     refine wp_seq (rgn rfl ?_)
     obtain ⟨x33,hx34⟩:=get_lt (l:=l) (i:=k) (by omega)
     obtain ⟨b35,o36,hA37,hb38,he39⟩:=hT.at_ eInt_len (by decide) hx34
     refine seq_c (s_indexA k Tryz.underlying41 Tryz.sizeOf3 rfl hA37 rfl rfl (by omega) ?_)
     refine seq_c (s_loadB1 hI (iv x33) Tryz.isAgg3 rfl hb38 (by simp) (he39 0 _ rfl) ?_)
     refine pu (iv x33) rfl (seq_nil (wp_seq (rgn rfl (pu (.map (some mb19)) rfl (pu (iv x33) rfl (seq_c (s_delete hI Tryz.underlying103 Tryz.underlying3 2 rfl rfl rfl hok_k ?_)))))))
     intro es40 w hI ho41 hg42
     have hT43:∀ j,mget es40 j=if (fun j=>if j=x33 then false else (fun j=>decide (j∈l)) j) j then some (.bool true) else none:=fun j=>by rw [hg42 j]; show _=if (if j=x33 then false else (fun j=>decide (j∈l)) j)=true then some (Value.bool true) else none; by_cases hj:j=x33; (rw [if_pos hj,if_pos hj]; rfl); (rw [if_neg hj,if_neg hj]; exact hTk j)
     refine seq_nil (wp_seq (wp_seq (rgn rfl (seq_c (s_loadK hI 3 7 [iv (scnF pl dy).lo,iv (scnF pl dy).hi,slv g2 (scnF pl dy).loads.length c3,slv g6 (scnF pl dy).stands.length c7,slv g10 (scnF pl dy).spells.length c11,iv (scnF pl dy).geese,slv g14 (crtF pl dy).length c15] Tryz.isAgg116 Tryz.sizeOf116 rfl rfl rfl rfl ?_)))))
     refine pu (.map (some mb19)) rfl ?_
     obtain ⟨S9,hS9⟩:∃ z:Int→Bool,z=(fun j=>if j=x33 then false else (fun j=>decide (j∈l)) j):=⟨_,rfl⟩
     have hT9:∀ j,mget es40 j=if S9 j then some (.bool true) else none:=by rw [hS9]; exact hT43
     refine seq_c (s_call 92 [.agg #[iv (scnF pl dy).lo,iv (scnF pl dy).hi,slv g2 (scnF pl dy).loads.length c3,slv g6 (scnF pl dy).stands.length c7,slv g10 (scnF pl dy).spells.length c11,iv (scnF pl dy).geese,slv g14 (crtF pl dy).length c15],.map (some mb19)] (by kernel_rfl) (by_c _ (scnF pl dy) (g2.map fun b=>⟨b,0,none⟩) (scnF pl dy).loads.length c3 (g6.map fun b=>⟨b,0,none⟩) (scnF pl dy).stands.length c7 (g10.map fun b=>⟨b,0,none⟩) (scnF pl dy).spells.length c11 (crtF pl dy) (g14.map fun b=>⟨b,0,none⟩) (crtF pl dy).length c15 ⟨⟨(hI.rowCells 4 rfl r5),rfl,(hI.rowCells 5 rfl r9),rfl,(hI.rowCells 6 rfl r13),rfl,(by omega),(by omega),(by omega)⟩,(hI.rowCells 7 rfl r17),rfl,r17.cap,(by omega),(by omega),(by omega),(by omega)⟩ mb19 ckk es40 S9 (hI.has 2 _ _ rfl).1 (hS_of hT9)) ?_)
     rintro _ w' ⟨g44,c45,cl46,g48,c49,cl50,rfl,hN,r47,r51⟩
     replace hI:=hI.join hN; clear hN; revert hI; generalize w'=w; intro hI
     have hb9:(byP (scnF pl dy) S9).stands.length≤(scnF pl dy).stands.length:=List.length_filter_le _ _; have hb8:=byC_len (crtF pl dy) S9
     refine seq_c (s_callb hI 87 [.agg #[iv (scnF pl dy).lo,iv (scnF pl dy).hi,slv g2 (scnF pl dy).loads.length c3,slv g44 ((byP (scnF pl dy) S9).stands.length) c45,slv g10 (scnF pl dy).spells.length c11,iv (scnF pl dy).geese,slv g48 ((byC (crtF pl dy) S9).length) c49]] ((stoodF (byP (scnF pl dy) S9) (byC (crtF pl dy) S9)).2) (by kernel_rfl) (sound_c _ (byP (scnF pl dy) S9) (g2.map fun b=>⟨b,0,none⟩) (scnF pl dy).loads.length c3 (g44.map fun b=>⟨b,0,none⟩) ((byP (scnF pl dy) S9).stands.length) c45 (g10.map fun b=>⟨b,0,none⟩) (scnF pl dy).spells.length c11 (byC (crtF pl dy) S9) (g48.map fun b=>⟨b,0,none⟩) ((byC (crtF pl dy) S9).length) c49 ⟨⟨(hI.rowCells 6 rfl r5),rfl,(hI.rowCells 0 rfl r47),rfl,(hI.rowCells 8 rfl r13),rfl,(by omega),(by omega),(by omega)⟩,(hI.rowCells 1 rfl r51),rfl,r51.cap,(by omega),(by omega),(by omega),(by omega)⟩ (by_ok (scn_ok (dayI_ok h2).1 dy) S9)) ?_ ?_)
     ·intro h6 w hI
      refine pu (.bool false) rfl (seq_nil (wp_condF rfl (wp_skip (rgn rfl (pu (.map (some mb19)) rfl (pu (iv x33) rfl (seq_c (s_mapUpdate hI Tryz.underlying103 Tryz.underlying3 4 rfl rfl rfl rfl ho41 ?_))))))))
      intro es52 ck53 w hI ho54 hg55
      have hS56:∀ j,(mget es52 j).getD (.bool false)=.bool ((fun j=>if j=x33 then true else (fun j=>if j=x33 then false else (fun j=>decide (j∈l)) j) j) j):=fun j=>by rw [hg55 j]; show _=Value.bool (if j=x33 then true else (fun j=>if j=x33 then false else (fun j=>decide (j∈l)) j) j); by_cases hj:j=x33; (rw [if_pos hj,if_pos hj]; rfl); (rw [if_neg hj,if_neg hj]; exact (hS_of hT43) j)
      have hT57:∀ j,mget es52 j=if (fun j=>if j=x33 then true else (fun j=>if j=x33 then false else (fun j=>decide (j∈l)) j) j) j then some (.bool true) else none:=fun j=>by rw [hg55 j]; show _=if (if j=x33 then true else (fun j=>if j=x33 then false else (fun j=>decide (j∈l)) j) j)=true then some (Value.bool true) else none; by_cases hj:j=x33; (rw [if_pos hj,if_pos hj]; rfl); (rw [if_neg hj,if_neg hj]; exact hT43 j)
      refine seq_nil (rgn rfl (seq_c (s_add rfl rfl (by omega) ?_)))
      refine pu (iv ((k:Int)+1)) rfl (seq_nil ?_)
      have hlb:=less_back (mem_of_get hx34)
      exact ⟨rfl,_,(by omega),⟨k+1,es52,ck53,⟨rfl,rfl,rfl,rfl,rfl,trivial⟩,hI.pickL [2,3,4,5,6,7,8,9,10] (by decide) rfl,(by omega),ho54,(fun j=>by rw [hT57 j]; exact congrArg (fun b:Bool=>if b=true then some (Value.bool true) else none) (congrFun hlb j)),(all_step (Q:=fun _ s=>sndB (scnF pl dy) (crtF pl dy) (lessS l s)=true) hall hx34 (by unfold sndB; rw [← show S9=lessS l x33 from hS9.trans rfl]; exact h6)),rfl⟩⟩
     ·intro h7 w hI
      refine pu (.bool true) rfl (seq_nil (wp_condT rfl (wp_seq (rgn rfl (pu (iv 15) rfl (seq_nil (wp_ret ?_)))))))
      exact ⟨iv 15,Ret.r1 rfl rfl,⟨by rw [clashB_one hx34 (by unfold sndB; rw [← show S9=lessS l x33 from hS9.trans rfl]; exact h7)]; rfl,hI.below⟩⟩
    ·intro h8
     refine seq_nil (wp_seq (wp_condF rfl (wp_exit ?_)))
     refine wp_seq (rgn rfl (pu (iv 0) rfl (seq_nil (wp_ret ?_))))
     exact ⟨iv 0,Ret.r1 rfl rfl,⟨by rw [clashB_all hs24 hun (fun i s hi=>hall i s (by omega))]; rfl,hI.below⟩⟩
  ·
   replace hI:=hI.call hN; clear hN; revert hI; generalize w'=w; intro hI
   refine pu (.tuple #[.map none,.bool false]) rfl (pu (.map none) rfl (pu (.bool false) rfl (pu (.map none) rfl (pu (.bool false) rfl (seq_nil (wp_seq (wp_seq (rgn rfl (pu (.bool false) rfl ?_)))))))))
   refine pu (.bool true) rfl (pu (.bool true) rfl (of_ rfl (of_ rfl (of_ rfl (of_ rfl (pu (.bool true) rfl (seq_nil (wp_condT rfl (wp_seq ?_)))))))))
   refine rgn rfl (pu (iv 15) rfl (seq_nil (wp_ret ?_)))
   exact ⟨iv 15,Ret.r1 rfl rfl,⟨by simp [clashB,hs24],hI.below⟩⟩

end Go.K
