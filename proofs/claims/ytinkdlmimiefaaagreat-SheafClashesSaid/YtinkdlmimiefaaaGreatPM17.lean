/- The hour from which a field is clear. -/
import Derived.Test.YtinkdlmimiefaaaGreatProg
import Derived.Test.YtinkdlmimiefaaaGreatPM16
namespace Go.K
open Go.Proofs Go.RowKit
set_option linter.unusedVariables false
set_option linter.unusedSimpArgs false
set_option maxRecDepth 100000
attribute [local irreducible] Seq Step CallV AnyE opX


theorem Backward_c (w0:World) (bb:Nat) (A:Option Addr) (n c:Nat) (l:List Int) (lq:Nat) (J:Nat→World→Prop) (Jx:World→Prop) (hn:n=l.length) (hmax:n≤100000) (hbx:w0.heap[bb]?=some (blk [.slice A n c] 41)) (h0:J n w0) (hbel:∀ i W W',J i W→Below W.heap.size W W'→J i W') (hbox:∀ i W,J i W→W.heap[bb]?=some (blk [.slice A n c] 41)) (hread:∀ i W,J i W→Cells W A (flat eInt l)) (hY:∀ i x (jj:Int) W,J (i+1) W→l[i]?=some x→jj=(i:Int)→CallV Tryz.prog (yfn lq) [.int .i64 jj,.int .i64 x] W fun v W'=>(v=.bool true∧J i W')∨(v=.bool false∧Jx W')):Does Tryz.prog 155 [yfn lq,.pointer (some ⟨bb,0,none⟩)] w0 fun v w=>J 0 w∨Jx w:=by
 refine calls_of (n:=19) Tryz.func155 rfl Tryz.ntmps155 rfl ?_
 have hI:=Inv.start w0
 refine wp_seq (rgn rfl (seq_c (s_loadB1 hI (.slice A n c) Tryz.isAgg41 rfl (blk_lt hbx) (by simp) (blk_cell hbx rfl) ?_)))
 refine pu (iv ((n:Nat):Int)) (by kernel_rfl) (seq_c (s_sub rfl rfl (by omega) ?_))
 refine pu (iv ((n:Int) - 1)) rfl (seq_nil (wp_block ?_))
 obtain ⟨wc,hwc⟩:∃ z,z=w0:=⟨_,rfl⟩
 have hJ:J n wc:=by rw [hwc]; exact h0
 have hI:Inv []  wc w0 []:=by rw [hwc]; exact Inv.start w0
 refine wp_loop (fun m ρ w=>∃ (i:Nat) (jv:Int) (wc:World),Agree ρ [(0,yfn lq),(1,.pointer (some ⟨bb,0,none⟩)),(3,iv jv)]∧Inv []  wc w []∧(i≤n)∧(jv=(i:Int) - 1)∧(J i wc)∧m=i) (m:=n) ⟨n,(n:Int) - 1,wc,⟨rfl,rfl,rfl,trivial⟩,hI.pickL [] (by decide) rfl,(by omega),rfl,hJ,rfl⟩ ?_
 rintro m ρ w ⟨i,jv,wc,hag,hI,hi,hjv,hJ,hm⟩
 obtain ⟨ρ,rfl⟩:=hag.form; clear hag
 have hbx:=hbox i wc hJ; have hC:=hread i wc hJ
 refine wp_seq (wp_seq (rgn rfl (pu (iv jv) rfl (seq_c (s_geq rfl rfl ?_ ?_)))))
 ·intro h1
  refine seq_nil (wp_condT rfl (wp_skip (wp_seq (wp_block ?_))))
  refine wp_seq (rgn rfl (pu (yfn lq) rfl (pu (iv jv) rfl (seq_c (s_loadB1 hI (.slice A n c) Tryz.isAgg41 rfl (blk_lt hbx) (by simp) (blk_cell hbx rfl) ?_)))))
  refine pu (iv jv) rfl ?_
  obtain ⟨x1,hx2⟩:=get_lt (l:=l) (i:=i - 1) (by omega)
  obtain ⟨b3,o4,hA5,hb6,he7⟩:=hC.at_ eInt_len (by decide) hx2
  refine seq_c (s_indexA (i - 1) Tryz.underlying41 Tryz.sizeOf3 rfl hA5 rfl (by omega) (by omega) ?_)
  refine seq_c (s_loadB1 hI (iv x1) Tryz.isAgg3 rfl hb6 (by simp) (he7 0 _ rfl) ?_)
  refine seq_c (s_callV [iv jv,iv x1] rfl (by kernel_rfl) (hY (i - 1) x1 jv w (by rw [Nat.sub_add_cancel (by omega)]; exact hbel i wc w hJ hI.below) hx2 (by omega)) ?_)
  rintro v w (⟨rfl,hJ⟩ | ⟨rfl,hJx⟩)
  ·
   obtain ⟨wd,hwd⟩:∃ z,z=w:=⟨_,rfl⟩
   have hI:Inv []  wd w []:=by rw [hwd]; exact Inv.start w
   rw [← hwd] at hJ
   refine pu (.bool false) rfl (seq_nil (wp_condF rfl (wp_skip (rgn rfl (pu (iv jv) rfl (seq_c (s_sub rfl rfl (by omega) ?_)))))))
   refine pu (iv (jv - 1)) rfl (seq_nil ?_)
   exact ⟨rfl,_,(by omega),⟨i - 1,jv - 1,wd,⟨rfl,rfl,rfl,trivial⟩,hI.pickL [] (by decide) rfl,(by omega),(by omega),hJ,rfl⟩⟩
  ·
   refine pu (.bool true) rfl (seq_nil (wp_condT rfl (wp_ret ?_)))
   exact ⟨.tuple #[],Ret.r0 rfl , .inr hJx⟩
 ·intro h2
  refine seq_nil (wp_condF rfl (wp_exit ?_))
  exact ⟨.tuple #[],Ret.r0 rfl , .inl (by rw [show 0=i by omega]; exact hbel i wc w hJ hI.below)⟩


theorem BackwardOf_c (w0:World) (A:Option Addr) (n c:Nat):Does Tryz.prog 114 [.slice A n c] w0 fun v w=>∃ b,v=.func (.func 155) #[] #[.pointer (some ⟨b,0,none⟩)]∧Inv []  w0 w [(some b,blk [.slice A n c] 41)]:=by
 refine calls_of (n:=4) Tryz.func114 rfl Tryz.ntmps114 rfl ?_
 have hI:=Inv.start w0
 refine wp_seq (rgn rfl (seq_c (s_boxI hI [.slice A n c] rfl ?_)))
 intro b1 w hI
 refine pu (.nilFunc) rfl (seq_nil (wp_seq (rgn rfl (pu (.func (.func 155) #[] #[.pointer (some ⟨b1,0,none⟩)]) (by kernel_rfl) (pu (.func (.func 155) #[] #[.pointer (some ⟨b1,0,none⟩)]) rfl (seq_nil (wp_ret ?_)))))))
 exact ⟨.func (.func 155) #[] #[.pointer (some ⟨b1,0,none⟩)],Ret.r1 rfl rfl,⟨b1,rfl,hI.pickL [0] (by decide) rfl⟩⟩

def clearB (st:List Rg) (cs:List Ld) (f:Rg→Int) (h:Int):Bool:=decide (f (st.getD (cartF cs h) ⟨0,0⟩)=0)
def firstF (st:List Rg) (cs:List Ld):Rg:=⟨((0 :: cs.map Ld.hr).find? (clearB st cs Rg.lo)).getD 100000,((0 :: cs.map Ld.hr).find? (clearB st cs Rg.hi)).getD 100000⟩
def firstC (p:Pl) (dy:Int):Rg × Int:=if dayI p dy=0 then if (stoodF (scnF p dy) (crtF p dy)).2 then (firstF (stoodF (scnF p dy) (crtF p dy)).1 (crtF p dy),0) else (⟨0,0⟩,14) else (⟨0,0⟩,dayI p dy)
theorem find_rep {p:Int→Bool} {h:Int}:∀ {m:Nat},0 < m→(List.replicate m h).find? p=[h].find? p
  | m+1,_=>by
    rw [List.replicate_succ]
    cases hp:p h with
    | true=>simp [hp]
    | false=>simp [hp]
theorem hours_step {cs:List Ld} {i m:Nat} {hh:Int} {HL:List Int} (hH:∀ p:Int→Bool,HL.find? p=(0 :: (cs.take i).map Ld.hr).find? p) (hm:0 < m) (him:i+m≤cs.length) (hgrp:∀ q y,i≤q→q < i+m→cs[q]?=some y→y.hr=hh) :
    ∀ p:Int→Bool,(HL++[hh]).find? p=(0 :: (cs.take (i+m)).map Ld.hr).find? p:=fun p=>by
  have e:(cs.take (i+m)).map Ld.hr=(cs.take i).map Ld.hr++List.replicate m hh:=by
    apply List.ext_getElem?
    intro q
    rcases Nat.lt_or_ge q i with h1 | h1
    · rw [List.getElem?_append_left (by simp; omega),List.getElem?_map,List.getElem?_map,List.getElem?_take,List.getElem?_take,if_pos h1,if_pos (by omega)]
    · rw [List.getElem?_append_right (by simp; omega),List.length_map,List.length_take,Nat.min_eq_left (by omega),List.getElem?_replicate,List.getElem?_map,List.getElem?_take]
      rcases Nat.lt_or_ge q (i+m) with h2 | h2
      · rw [if_pos h2,if_pos (by omega)]
        obtain ⟨y,hy⟩:=get_lt (l:=cs) (i:=q) (by omega)
        rw [hy,Option.map_some,hgrp q y h1 h2 hy]
      · rw [if_neg (by omega),if_neg (by omega)]; rfl
  rw [e,← List.cons_append,List.find?_append,List.find?_append,hH p,find_rep hm]
theorem firstL_step {p:Int→Bool} {HL:List Int} {i:Nat} {x v:Int} (hx:HL[i]?=some x) (hv:v=((HL.drop (i+1)).find? p).getD 100000):(if p x then x else v)=((HL.drop i).find? p).getD 100000:=by
  have hl:=lt_of_get hx
  rw [List.drop_eq_getElem_cons hl]
  rw [List.getElem?_eq_getElem hl] at hx
  injection hx with hx
  rw [hx,List.find?_cons]
  cases hp:p x with
  | true=>simp
  | false=>simp [hv]

set_option maxHeartbeats 3200000 in
theorem First_c (w0:World) (pl:Pl) (pA1:Option Addr) (pn1 pc1:Nat) (pA2:Option Addr) (pn2 pc2:Nat) (pA3:Option Addr) (pn3 pc3:Nat) (hP:PlotIn w0 pl pA1 pn1 pA2 pn2 pA3 pn3) (dy:Int):Does Tryz.prog 47 [.agg #[.int .i64 pl.lo,.int .i64 pl.hi,.slice pA1 pn1 pc1,.slice pA2 pn2 pc2,.slice pA3 pn3 pc3,.int .i64 pl.geese],.int .i64 dy] w0 fun v w=>v=.tuple #[.agg (eRg (firstC pl dy).1).toArray,.int .i64 (firstC pl dy).2]∧Below w0.heap.size w0 w:=by
 have hm1:=hP.m1; have hm2:=hP.m2; have hm3:=hP.m3
 refine calls_of (n:=65) Tryz.func47 rfl Tryz.ntmps47 rfl ?_
 have hI:=Inv.start w0
 refine wp_seq (rgn rfl (seq_c (s_boxI hI [iv pl.lo,iv pl.hi,.slice pA1 pn1 pc1,.slice pA2 pn2 pc2,.slice pA3 pn3 pc3,iv pl.geese] rfl ?_)))
 intro b1 w hI
 refine seq_c (s_allocI hI [iv 0,iv 0] Tryz.zeroValue23 rfl ?_)
 intro b2 w hI
 refine pu (iv 0) rfl (seq_nil (wp_seq (wp_seq (rgn rfl (seq_c (s_loadK hI 1 6 [iv pl.lo,iv pl.hi,.slice pA1 pn1 pc1,.slice pA2 pn2 pc2,.slice pA3 pn3 pc3,iv pl.geese] Tryz.isAgg28 Tryz.sizeOf28 rfl rfl rfl rfl ?_))))))
 refine pu (iv dy) rfl (seq_c (s_callv hI 85 [.agg #[iv pl.lo,iv pl.hi,.slice pA1 pn1 pc1,.slice pA2 pn2 pc2,.slice pA3 pn3 pc3,iv pl.geese],iv dy] (iv (dayI pl dy)) (by kernel_rfl) (checkDay_c _ pl pA1 pn1 pc1 pA2 pn2 pc2 pA3 pn3 pc3 (hP.inv0 hI) dy) ?_))
 intro w hI
 refine pu (iv (dayI pl dy)) rfl (seq_nil (wp_seq (rgn rfl (pu (iv (dayI pl dy)) rfl (seq_c (s_neq rfl rfl ?_ ?_))))))
 ·intro h1
  refine seq_nil (wp_condT rfl (wp_seq (rgn rfl (pu (.agg #[iv 0,iv 0]) (by kernel_rfl) (pu (iv (dayI pl dy)) rfl (seq_c (s_store hI 0 2 [iv 0,iv 0] Tryz.sizeOf23 rfl rfl rfl rfl rfl (Nat.le_of_ble_eq_true rfl) ?_)))))))
  intro w hI
  refine pu (iv (dayI pl dy)) rfl (seq_nil (wp_ret ?_))
  exact ⟨.tuple #[.agg #[iv 0,iv 0],iv (dayI pl dy)],Ret.ct rfl rfl (run_loadK hI 0 2 [iv 0,iv 0] Tryz.isAgg23 Tryz.sizeOf23 rfl rfl rfl) rfl,⟨by simp [firstC,eRg,h1],hI.below⟩⟩
 ·intro h2
  refine seq_nil (wp_condF rfl (wp_skip (wp_seq (rgn rfl (seq_c (s_loadK hI 1 6 [iv pl.lo,iv pl.hi,.slice pA1 pn1 pc1,.slice pA2 pn2 pc2,.slice pA3 pn3 pc3,iv pl.geese] Tryz.isAgg28 Tryz.sizeOf28 rfl rfl rfl rfl ?_))))))
  refine pu (iv dy) rfl ?_
  have hsl:=scn_len pl dy; obtain ⟨hsl1,hsl2,hsl3⟩:=hsl; have hsc:=crt_len pl dy; have hok_:=plotB_small (dayI_ok h2).1; have hok1:=hok_.s1; have hok2:=hok_.s2; have hok3:=hok_.s3
  refine seq_c (s_callScene hI (q:=scnF pl dy) (cs:=crtF pl dy) 86 [.agg #[iv pl.lo,iv pl.hi,.slice pA1 pn1 pc1,.slice pA2 pn2 pc2,.slice pA3 pn3 pc3,iv pl.geese],iv dy] (by kernel_rfl) (sceneOf_c _ pl pA1 pn1 pc1 pA2 pn2 pc2 pA3 pn3 pc3 (hP.inv0 hI) (plotB_small (dayI_ok h2).1) dy) ?_)
  intro g3 c4 cl5 g7 c8 cl9 g11 c12 cl13 g15 c16 cl17 w hI r6 r10 r14 r18
  refine seq_c (s_allocI hI [iv 0,iv 0,.slice none 0 0,.slice none 0 0,.slice none 0 0,iv 0,.slice none 0 0] Tryz.zeroValue116 rfl ?_)
  intro b19 w hI
  refine seq_c (s_store hI 0 7 [iv (scnF pl dy).lo,iv (scnF pl dy).hi,slv g3 (scnF pl dy).loads.length c4,slv g7 (scnF pl dy).stands.length c8,slv g11 (scnF pl dy).spells.length c12,iv (scnF pl dy).geese,slv g15 (crtF pl dy).length c16] Tryz.sizeOf116 rfl rfl rfl rfl rfl (Nat.le_of_ble_eq_true rfl) ?_)
  intro w hI
  refine seq_nil (wp_seq (rgn rfl (seq_c (s_loadK hI 0 7 [iv (scnF pl dy).lo,iv (scnF pl dy).hi,slv g3 (scnF pl dy).loads.length c4,slv g7 (scnF pl dy).stands.length c8,slv g11 (scnF pl dy).spells.length c12,iv (scnF pl dy).geese,slv g15 (crtF pl dy).length c16] Tryz.isAgg116 Tryz.sizeOf116 rfl rfl rfl rfl ?_))))
  rcases Bool.eq_false_or_eq_true ((stoodF (scnF pl dy) (crtF pl dy)).2) with h3 | h3
  ·
   refine seq_c (s_callNewF hI 102 [.agg #[iv (scnF pl dy).lo,iv (scnF pl dy).hi,slv g3 (scnF pl dy).loads.length c4,slv g7 (scnF pl dy).stands.length c8,slv g11 (scnF pl dy).spells.length c12,iv (scnF pl dy).geese,slv g15 (crtF pl dy).length c16]] (fun v1=>.tuple #[v1,.bool true]) (by kernel_rfl) (Does.mono (stood_c _ (scnF pl dy) (g3.map fun b=>⟨b,0,none⟩) (scnF pl dy).loads.length c4 (g7.map fun b=>⟨b,0,none⟩) (scnF pl dy).stands.length c8 (g11.map fun b=>⟨b,0,none⟩) (scnF pl dy).spells.length c12 (crtF pl dy) (g15.map fun b=>⟨b,0,none⟩) (crtF pl dy).length c16 ⟨⟨(hI.rowCells 1 rfl r6),rfl,(hI.rowCells 2 rfl r10),rfl,(hI.rowCells 3 rfl r14),rfl,(by omega),(by omega),(by omega)⟩,(hI.rowCells 4 rfl r18),rfl,r18.cap,(by omega),(by omega),(by omega),(by omega)⟩ (scn_ok (dayI_ok h2).1 dy)) (fun v w' ⟨v1,e1,e2⟩=>⟨v1,by rw [e1,h3],e2⟩)) ?_)
   intro g20 c21 cl22 w hI r23
   have r23:Row 2 g20 ((stoodF (scnF pl dy) (crtF pl dy)).1.length) c21 cl22 (flat eRg ((stoodF (scnF pl dy) (crtF pl dy)).1)):=r23
   have hsl:=stoodF_len h3
   refine pu (.tuple #[slv g20 ((stoodF (scnF pl dy) (crtF pl dy)).1.length) c21,.bool true]) rfl (pu (slv g20 ((stoodF (scnF pl dy) (crtF pl dy)).1.length) c21) rfl (pu (.bool true) rfl (seq_c (s_allocI hI [.slice none 0 0] Tryz.zeroValue130 rfl ?_))))
   intro b24 w hI
   refine seq_c (s_store hI 0 1 [slv g20 ((stoodF (scnF pl dy) (crtF pl dy)).1.length) c21] Tryz.sizeOf130 rfl rfl rfl rfl rfl (Nat.le_of_ble_eq_true rfl) ?_)
   intro w hI
   refine pu (.bool true) rfl (seq_nil (wp_seq (wp_seq (rgn rfl (pu (.bool true) rfl (pu (.bool false) rfl (seq_nil (wp_condF rfl (wp_skip ?_)))))))))
   refine wp_seq (rgn rfl (seq_c (s_new hI [iv 0] 3 (fun b=>slv (some b) 1 1) (by kernel_rfl) ?_)))
   intro b25 w hI
   refine seq_c (s_allocI hI [.slice none 0 0] Tryz.zeroValue41 rfl ?_)
   intro b26 w hI
   refine seq_c (s_store hI 0 1 [.slice (some ⟨b25,0,none⟩) 1 1] Tryz.sizeOf41 rfl rfl rfl rfl rfl (Nat.le_of_ble_eq_true rfl) ?_)
   intro w hI
   refine seq_nil (wp_seq (wp_seq (rgn rfl (seq_c (s_loadK hI 4 7 [iv (scnF pl dy).lo,iv (scnF pl dy).hi,slv g3 (scnF pl dy).loads.length c4,slv g7 (scnF pl dy).stands.length c8,slv g11 (scnF pl dy).spells.length c12,iv (scnF pl dy).geese,slv g15 (crtF pl dy).length c16] Tryz.isAgg116 Tryz.sizeOf116 rfl rfl rfl rfl ?_)))))
   refine pu (.func (.func 113) #[.agg #[iv (scnF pl dy).lo,iv (scnF pl dy).hi,slv g3 (scnF pl dy).loads.length c4,slv g7 (scnF pl dy).stands.length c8,slv g11 (scnF pl dy).spells.length c12,iv (scnF pl dy).geese,slv g15 (crtF pl dy).length c16]] #[]) (by kernel_rfl) (seq_nil (wp_block ?_))
   refine wp_rangeFunc hI (first := #[.agg #[iv (scnF pl dy).lo,iv (scnF pl dy).hi,slv g3 (scnF pl dy).loads.length c4,slv g7 (scnF pl dy).stands.length c8,slv g11 (scnF pl dy).spells.length c12,iv (scnF pl dy).geese,slv g15 (crtF pl dy).length c16]]) (cap := #[]) rfl 113 (fun y=>[.agg #[iv (scnF pl dy).lo,iv (scnF pl dy).hi,slv g3 (scnF pl dy).loads.length c4,slv g7 (scnF pl dy).stands.length c8,slv g11 (scnF pl dy).spells.length c12,iv (scnF pl dy).geese,slv g15 (crtF pl dy).length c16],y]) (fun l W=>by kernel_rfl) ?_
   intro rcq27 lqq27 w hpsq27 hasq27 hboq27 hofq27 hI
   refine Does.mono (byHour_c w (scnF pl dy).lo (scnF pl dy).hi (scnF pl dy).geese (slv g3 (scnF pl dy).loads.length c4) (slv g7 (scnF pl dy).stands.length c8) (slv g11 (scnF pl dy).spells.length c12) (g15.map fun b=>⟨b,0,none⟩) (crtF pl dy).length c16 (crtF pl dy) lqq27 (fun (i:Nat) (W:World)=>∃ (gh:Option Nat) (ch:Nat) (clh:List Value) (HL:List Int) (nh:Nat),Inv []  w0 W [(some lqq27,rcq27.at .ready none),(some rcq27.defers,.deferred (some [])),(some b26,blk [slv gh nh ch] 41),(gh,blk clh 3),(some b24,blk [slv g20 ((stoodF (scnF pl dy) (crtF pl dy)).1.length) c21] 130),(g20,blk cl22 23),(some b19,blk [iv (scnF pl dy).lo,iv (scnF pl dy).hi,slv g3 (scnF pl dy).loads.length c4,slv g7 (scnF pl dy).stands.length c8,slv g11 (scnF pl dy).spells.length c12,iv (scnF pl dy).geese,slv g15 (crtF pl dy).length c16] 116),(g3,blk cl5 30),(g7,blk cl9 31),(g11,blk cl13 33),(g15,blk cl17 30),(some b2,blk [iv 0,iv 0] 23),(some b1,blk [iv pl.lo,iv pl.hi,.slice pA1 pn1 pc1,.slice pA2 pn2 pc2,.slice pA3 pn3 pc3,iv pl.geese] 28)]∧(Row 1 gh nh ch clh (flat eInt HL))∧(∀ p:Int→Bool,HL.find? p=(0 :: ((crtF pl dy).take i).map Ld.hr).find? p)∧(HL.length≤i+1)∧(nh=HL.length)) (fun (_:World)=>False) rfl (by omega) r18.cap ⟨some b25,1,[iv 0],[0],1,hI.pickL [0,1,2,3,4,5,6,7,8,9,10,11,12] (by decide) rfl,⟨rfl,by decide,by decide,rfl,rfl,fun h=>by cases h⟩,(fun p=>by simp),(by simp),rfl⟩ (fun i W W' ⟨gh,ch,clh,HL,nh,hj,hr⟩ hb=>⟨gh,ch,clh,HL,nh,hj.call hb,hr⟩) (fun i W ⟨gh,ch,clh,HL,nh,hj,hr⟩=>(hj.rowCells 10 rfl r18)) ?_) ?_
   ·rintro i m hh A2 c2 w ⟨gh,ch,clh,HL,nh,hI,hrh,hHL,hHn,hnh⟩ hm0 him hgrp hat
    refine callV_yield hI hofq27 [37,38] hpsq27 rfl (by decide) ?_
    rw [hasq27]
    refine rgn rfl (pu (iv hh) rfl (seq_nil (⟨rfl,_,hI,?_⟩)))
    intro w hI
    rw [hboq27]
    refine wp_block ?_
    refine rgn rfl (seq_c (s_load1 hI 2 (slv gh nh ch) Tryz.isAgg41 rfl rfl rfl ?_))
    refine pu (iv hh) rfl (seq_c (s_new hI [iv hh] 3 (fun b=>slv (some b) 1 1) (by kernel_rfl) ?_))
    intro b28 w hI
    refine seq_c (s_app hI Tryz.underlying41 (z:=iv 0) (k:=1) (bytes:=8) rfl rfl rfl 4 rfl rfl hrh [iv hh] rfl rfl (hI.cells 0 (off:=0) rfl (fun j u h=>by rw [Nat.zero_add]; exact h)) (by simp [Value.oneCell']) (by omega) (by omega) ?_)
    intro g29 c30 cl31 w hI r32
    have r32:Row 1 g29 (nh+1) c30 cl31 (flat eInt (HL++[hh])):=r32.snoc _ rfl
    refine seq_c (s_store hI 3 1 [slv g29 (nh+1) c30] Tryz.sizeOf41 rfl rfl rfl rfl rfl (Nat.le_of_ble_eq_true rfl) ?_)
    intro w hI
    refine seq_nil ?_
    exact ⟨_,hI.pickL [1,2,3,4,5,6,7,8,9,10,11,12,13] (by decide) rfl,fun w hI=>.inl ⟨rfl,g29,c30,cl31,HL++[hh],nh+1,hI,r32,(hours_step hHL (by omega) (by omega) hgrp),(by simp; omega),(by simp; omega)⟩⟩
   ·rintro _ w (⟨gh,ch,clh,HL,nh,hI,hrh,hHL,hHn,hnh⟩ | hno)
    ·
     refine ⟨_,.inl ⟨hI,fun w hI=>?_⟩⟩
     refine wp_seq (rgn rfl (pu (.agg #[iv 100000,iv 100000]) (by kernel_rfl) (seq_c (s_allocI hI [iv 0,iv 0] Tryz.zeroValue23 rfl ?_))))
     intro b33 w hI
     refine seq_c (s_store hI 0 2 [iv 100000,iv 100000] Tryz.sizeOf23 rfl rfl rfl rfl rfl (Nat.le_of_ble_eq_true rfl) ?_)
     intro w hI
     refine seq_nil (wp_seq (wp_seq (rgn rfl (seq_c (s_load1 hI 3 (slv gh nh ch) Tryz.isAgg41 rfl rfl rfl ?_)))))
     refine seq_c (s_call 114 [slv gh nh ch] (by kernel_rfl) (BackwardOf_c w (gh.map fun b=>⟨b,0,none⟩) nh ch) ?_)
     rintro _ w' ⟨bb34,rfl,hN⟩
     have hI:=hI.join hN
     have hI:Inv []  w0 w' [(some bb34,blk [slv gh nh ch] 41),(some b33,blk [iv 100000,iv 100000] 23),(some lqq27,rcq27.at .exhausted none),(some rcq27.defers,.deferred (some [])),(some b26,blk [slv gh nh ch] 41),(gh,blk clh 3),(some b24,blk [slv g20 ((stoodF (scnF pl dy) (crtF pl dy)).1.length) c21] 130),(g20,blk cl22 23),(some b19,blk [iv (scnF pl dy).lo,iv (scnF pl dy).hi,slv g3 (scnF pl dy).loads.length c4,slv g7 (scnF pl dy).stands.length c8,slv g11 (scnF pl dy).spells.length c12,iv (scnF pl dy).geese,slv g15 (crtF pl dy).length c16] 116),(g3,blk cl5 30),(g7,blk cl9 31),(g11,blk cl13 33),(g15,blk cl17 30),(some b2,blk [iv 0,iv 0] 23),(some b1,blk [iv pl.lo,iv pl.hi,.slice pA1 pn1 pc1,.slice pA2 pn2 pc2,.slice pA3 pn3 pc3,iv pl.geese] 28)]:=hI
     revert hI; generalize w'=w; intro hI
     refine seq_nil (wp_block ?_)
     refine wp_rangeFunc hI (first := #[]) (cap := #[.pointer (some ⟨bb34,0,none⟩)]) rfl 155 (fun y=>[y,.pointer (some ⟨bb34,0,none⟩)]) (fun l W=>by kernel_rfl) ?_
     intro rcq35 lqq35 w hpsq35 hasq35 hboq35 hofq35 hI
     refine Does.mono (Backward_c w bb34 (gh.map fun b=>⟨b,0,none⟩) nh ch HL lqq35 (fun (i:Nat) (W:World)=>∃ (flo:Int) (fhi:Int),Inv []  w0 W [(some lqq35,rcq35.at .ready none),(some rcq35.defers,.deferred (some [])),(some bb34,blk [slv gh nh ch] 41),(some b33,blk [iv flo,iv fhi] 23),(some lqq27,rcq27.at .exhausted none),(some rcq27.defers,.deferred (some [])),(some b26,blk [slv gh nh ch] 41),(gh,blk clh 3),(some b24,blk [slv g20 ((stoodF (scnF pl dy) (crtF pl dy)).1.length) c21] 130),(g20,blk cl22 23),(some b19,blk [iv (scnF pl dy).lo,iv (scnF pl dy).hi,slv g3 (scnF pl dy).loads.length c4,slv g7 (scnF pl dy).stands.length c8,slv g11 (scnF pl dy).spells.length c12,iv (scnF pl dy).geese,slv g15 (crtF pl dy).length c16] 116),(g3,blk cl5 30),(g7,blk cl9 31),(g11,blk cl13 33),(g15,blk cl17 30),(some b2,blk [iv 0,iv 0] 23),(some b1,blk [iv pl.lo,iv pl.hi,.slice pA1 pn1 pc1,.slice pA2 pn2 pc2,.slice pA3 pn3 pc3,iv pl.geese] 28)]∧(flo=((HL.drop i).find? (clearB ((stoodF (scnF pl dy) (crtF pl dy)).1) (crtF pl dy) Rg.lo)).getD 100000)∧(fhi=((HL.drop i).find? (clearB ((stoodF (scnF pl dy) (crtF pl dy)).1) (crtF pl dy) Rg.hi)).getD 100000)) (fun (_:World)=>False) hnh (by omega) (hI.has 2 _ _ rfl).1 ⟨100000,100000,hI.pickL [0,1,2,3,4,5,6,7,8,9,10,11,12,13,14,15,16] (by decide) rfl,(by rw [List.drop_eq_nil_of_le (by omega)]; rfl),(by rw [List.drop_eq_nil_of_le (by omega)]; rfl)⟩ (fun i W W' ⟨flo,fhi,hj,hr⟩ hb=>⟨flo,fhi,hj.call hb,hr⟩) (fun i W ⟨_,_,hj,_⟩=>(hj.has 2 _ _ rfl).1) (fun i W ⟨flo,fhi,hj,hr⟩=>(hj.rowCells 7 rfl hrh)) ?_) ?_
     ·rintro i xx jj w ⟨flo,fhi,hI,hflo,hfhi⟩ hxx hjj
      refine callV_yield hI hofq35 [46,47] hpsq35 rfl (by decide) ?_
      rw [hasq35]
      refine rgn rfl (pu (iv xx) rfl (seq_nil (⟨rfl,_,hI,?_⟩)))
      intro w hI
      rw [hboq35]
      refine wp_block ?_
      refine wp_seq ?_
      have hcl9:=cart_le (crtF pl dy) xx
      obtain ⟨x36,hx37⟩:=get_lt (l:=(stoodF (scnF pl dy) (crtF pl dy)).1) (i:=cartF (crtF pl dy) xx) (by omega)
      obtain ⟨b38,rfl,he39⟩:=r23.at_ eRg_len (by decide) hx37
      refine wp_drawn2 hI [0,1,2,3,4,5,6,7,8,9,10,11,12,13,14,15,16] (by decide) rfl rfl rfl ?_
      intro hsub
      refine al_light 0 (slv (some b38) ((stoodF (scnF pl dy) (crtF pl dy)).1.length) c21) hsub rfl (by kernel_rfl) (fun w hI=>s_load1 hI 8 (slv (some b38) ((stoodF (scnF pl dy) (crtF pl dy)).1.length) c21) Tryz.isAgg130 rfl rfl rfl ⟨rfl,Below.refl _ _⟩) ?_
      refine al_light 1 (.agg #[iv (scnF pl dy).lo,iv (scnF pl dy).hi,slv g3 (scnF pl dy).loads.length c4,slv g7 (scnF pl dy).stands.length c8,slv g11 (scnF pl dy).spells.length c12,iv (scnF pl dy).geese,slv g15 (crtF pl dy).length c16]) hsub rfl (by kernel_rfl) (fun w hI=>s_loadK hI 10 7 [iv (scnF pl dy).lo,iv (scnF pl dy).hi,slv g3 (scnF pl dy).loads.length c4,slv g7 (scnF pl dy).stands.length c8,slv g11 (scnF pl dy).spells.length c12,iv (scnF pl dy).geese,slv g15 (crtF pl dy).length c16] Tryz.isAgg116 Tryz.sizeOf116 rfl rfl rfl rfl ⟨rfl,Below.refl _ _⟩) ?_
      refine alp 2 (iv xx) hsub rfl (by kernel_rfl) (fun _=>rfl) ?_
      refine al_light 3 (iv ((cartF (crtF pl dy) xx:Nat):Int)) hsub rfl (by kernel_rfl) (fun w hI=>s_call 115 [.agg #[iv (scnF pl dy).lo,iv (scnF pl dy).hi,slv g3 (scnF pl dy).loads.length c4,slv g7 (scnF pl dy).stands.length c8,slv g11 (scnF pl dy).spells.length c12,iv (scnF pl dy).geese,slv g15 (crtF pl dy).length c16],iv xx] (by kernel_rfl) (cartedBy_c _ (scnF pl dy).lo (scnF pl dy).hi (scnF pl dy).geese (slv g3 (scnF pl dy).loads.length c4) (slv g7 (scnF pl dy).stands.length c8) (slv g11 (scnF pl dy).spells.length c12) (g15.map fun b=>⟨b,0,none⟩) (crtF pl dy).length c16 (crtF pl dy) xx rfl (by omega) r18.cap (hI.rowCells 14 rfl r18)) (fun v' w' h=>h)) ?_
      refine al_light 4 (.pointer (some ⟨b38,(cartF (crtF pl dy) xx) * 2,none⟩)) hsub rfl (by kernel_rfl) (fun w hI=>s_indexR (cartF (crtF pl dy) xx) Tryz.underlying130 Tryz.sizeOf23 rfl rfl rfl (by omega) ⟨rfl,Below.refl _ _⟩) ?_
      refine al_light 5 (.agg #[iv x36.lo,iv x36.hi]) hsub rfl (by kernel_rfl) (fun w hI=>s_loadRK hI 9 [iv x36.lo,iv x36.hi] Tryz.isAgg23 Tryz.sizeOf23 rfl rfl rfl he39 ⟨rfl,Below.refl _ _⟩) ?_
      refine any_heavy [6] (by kernel_rfl) rfl (each1 ?_)
      intro w hI
      refine ol_c rfl (s_allocI hI [iv 0,iv 0] Tryz.zeroValue23 rfl ?_)
      intro b40 w hI
      refine ⟨_,hI,subk (fun _ h=>h.pickL [1,2,3,4,5,6,7,8,9,10,11,12,13,14,15,16,17] (by decide) rfl) ?_⟩
      intro hsub
      refine any_heavy [7] (by kernel_rfl) rfl (each1 ?_)
      intro w hI
      refine ol_c rfl (s_store hI 0 2 [iv x36.lo,iv x36.hi] Tryz.sizeOf23 rfl rfl rfl rfl rfl (Nat.le_of_ble_eq_true rfl) ?_)
      intro w hI
      refine ⟨_,hI,subk (fun _ h=>h.pickL [1,2,3,4,5,6,7,8,9,10,11,12,13,14,15,16,17] (by decide) rfl) ?_⟩
      intro hsub
      refine any_end rfl (fun w hI=>?_)
      refine wp_seq (wp_seq (rgn rfl (pu (.pointer (some ⟨b40,0,none⟩)) rfl (seq_c (s_load1 hI 0 (iv x36.lo) Tryz.isAgg3 rfl rfl rfl ?_)))))
      refine seq_c (s_eql rfl rfl ?_ ?_)
      ·intro h4
       refine seq_nil (wp_condT rfl (rgn rfl (pu (iv xx) rfl (pu (.pointer (some ⟨b33,0,none⟩)) rfl (seq_c (s_store hI 4 1 [iv xx] Tryz.sizeOf3 rfl rfl rfl rfl rfl (Nat.le_of_ble_eq_true rfl) ?_))))))
       intro w hI
       refine seq_nil (wp_seq (rgn rfl (pu (.pointer (some ⟨b40,1,none⟩)) rfl (seq_c (s_load1 hI 0 (iv x36.hi) Tryz.isAgg3 rfl rfl rfl ?_)))))
       refine seq_c (s_eql rfl rfl ?_ ?_)
       ·intro h5
        refine seq_nil (wp_condT rfl (rgn rfl (pu (iv xx) rfl (pu (.pointer (some ⟨b33,1,none⟩)) rfl (seq_c (s_store hI 4 1 [iv xx] Tryz.sizeOf3 rfl rfl rfl rfl rfl (Nat.le_of_ble_eq_true rfl) ?_))))))
        intro w hI
        refine seq_nil ?_
        exact ⟨_,hI.pickL [1,2,3,4,5,6,7,8,9,10,11,12,13,14,15,16,17] (by decide) rfl,fun w hI=>.inl ⟨rfl,xx,xx,hI,(by rw [← firstL_step hxx hflo,clearB,List.getD_eq_getElem?_getD,hx37]; simp [*]),(by rw [← firstL_step hxx hfhi,clearB,List.getD_eq_getElem?_getD,hx37]; simp [*])⟩⟩
       ·intro h6
        refine seq_nil (wp_condF rfl (wp_skip ?_))
        exact ⟨_,hI.pickL [1,2,3,4,5,6,7,8,9,10,11,12,13,14,15,16,17] (by decide) rfl,fun w hI=>.inl ⟨rfl,xx,fhi,hI,(by rw [← firstL_step hxx hflo,clearB,List.getD_eq_getElem?_getD,hx37]; simp [*]),(by rw [← firstL_step hxx hfhi,clearB,List.getD_eq_getElem?_getD,hx37]; simp [*])⟩⟩
      ·intro h7
       refine seq_nil (wp_condF rfl (wp_skip (wp_seq (rgn rfl (pu (.pointer (some ⟨b40,1,none⟩)) rfl (seq_c (s_load1 hI 0 (iv x36.hi) Tryz.isAgg3 rfl rfl rfl ?_)))))))
       refine seq_c (s_eql rfl rfl ?_ ?_)
       ·intro h8
        refine seq_nil (wp_condT rfl (rgn rfl (pu (iv xx) rfl (pu (.pointer (some ⟨b33,1,none⟩)) rfl (seq_c (s_store hI 4 1 [iv xx] Tryz.sizeOf3 rfl rfl rfl rfl rfl (Nat.le_of_ble_eq_true rfl) ?_))))))
        intro w hI
        refine seq_nil ?_
        exact ⟨_,hI.pickL [1,2,3,4,5,6,7,8,9,10,11,12,13,14,15,16,17] (by decide) rfl,fun w hI=>.inl ⟨rfl,flo,xx,hI,(by rw [← firstL_step hxx hflo,clearB,List.getD_eq_getElem?_getD,hx37]; simp [*]),(by rw [← firstL_step hxx hfhi,clearB,List.getD_eq_getElem?_getD,hx37]; simp [*])⟩⟩
       ·intro h9
        refine seq_nil (wp_condF rfl (wp_skip ?_))
        exact ⟨_,hI.pickL [1,2,3,4,5,6,7,8,9,10,11,12,13,14,15,16,17] (by decide) rfl,fun w hI=>.inl ⟨rfl,flo,fhi,hI,(by rw [← firstL_step hxx hflo,clearB,List.getD_eq_getElem?_getD,hx37]; simp [*]),(by rw [← firstL_step hxx hfhi,clearB,List.getD_eq_getElem?_getD,hx37]; simp [*])⟩⟩
     ·rintro _ w (⟨flo,fhi,hI,hflo,hfhi⟩ | hno)
      ·
       refine ⟨_,.inl ⟨hI,fun w hI=>?_⟩⟩
       refine wp_seq (rgn rfl (seq_c (s_loadK hI 3 2 [iv flo,iv fhi] Tryz.isAgg23 Tryz.sizeOf23 rfl rfl rfl rfl ?_)))
       refine seq_c (s_store hI 15 2 [iv flo,iv fhi] Tryz.sizeOf23 rfl rfl rfl rfl rfl (Nat.le_of_ble_eq_true rfl) ?_)
       intro w hI
       refine pu (iv 0) rfl (seq_nil (wp_ret (LeaveE.mark (D:=rcq35.defers) (hI.pickL [1,0,2,3,4,5,6,7,8,9,10,11,12,13,14,15,16] (by decide) rfl) ?_)))
       intro w hI
       refine LeaveE.mark (D:=rcq27.defers) (hI.pickL [4,0,1,2,3,5,6,7,8,9,10,11,12,13,14,15] (by decide) rfl) ?_
       intro w hI
       have e:firstC pl dy=(⟨flo,fhi⟩,0):=by rw [hflo,hfhi,List.drop_zero,hHL,hHL,List.take_of_length_le (by omega)]; simp [firstC,firstF,h2,h3]
       exact ⟨.tuple #[.agg #[iv flo,iv fhi],iv 0],Ret.ct rfl rfl (run_loadK hI 13 2 [iv flo,iv fhi] Tryz.isAgg23 Tryz.sizeOf23 rfl rfl rfl) rfl,⟨by rw [e]; rfl,hI.below⟩⟩
      ·exact hno.elim
    ·exact hno.elim
  ·
   refine seq_c (s_callNewF hI 102 [.agg #[iv (scnF pl dy).lo,iv (scnF pl dy).hi,slv g3 (scnF pl dy).loads.length c4,slv g7 (scnF pl dy).stands.length c8,slv g11 (scnF pl dy).spells.length c12,iv (scnF pl dy).geese,slv g15 (crtF pl dy).length c16]] (fun v1=>.tuple #[v1,.bool false]) (by kernel_rfl) (Does.mono (stood_c _ (scnF pl dy) (g3.map fun b=>⟨b,0,none⟩) (scnF pl dy).loads.length c4 (g7.map fun b=>⟨b,0,none⟩) (scnF pl dy).stands.length c8 (g11.map fun b=>⟨b,0,none⟩) (scnF pl dy).spells.length c12 (crtF pl dy) (g15.map fun b=>⟨b,0,none⟩) (crtF pl dy).length c16 ⟨⟨(hI.rowCells 1 rfl r6),rfl,(hI.rowCells 2 rfl r10),rfl,(hI.rowCells 3 rfl r14),rfl,(by omega),(by omega),(by omega)⟩,(hI.rowCells 4 rfl r18),rfl,r18.cap,(by omega),(by omega),(by omega),(by omega)⟩ (scn_ok (dayI_ok h2).1 dy)) (fun v w' ⟨v1,e1,e2⟩=>⟨v1,by rw [e1,h3],e2⟩)) ?_)
   intro g41 c42 cl43 w hI r44
   have r44:Row 2 g41 ((stoodF (scnF pl dy) (crtF pl dy)).1.length) c42 cl43 (flat eRg ((stoodF (scnF pl dy) (crtF pl dy)).1)):=r44
   refine pu (.tuple #[slv g41 ((stoodF (scnF pl dy) (crtF pl dy)).1.length) c42,.bool false]) rfl (pu (slv g41 ((stoodF (scnF pl dy) (crtF pl dy)).1.length) c42) rfl (pu (.bool false) rfl (seq_c (s_allocI hI [.slice none 0 0] Tryz.zeroValue130 rfl ?_))))
   intro b45 w hI
   refine seq_c (s_store hI 0 1 [slv g41 ((stoodF (scnF pl dy) (crtF pl dy)).1.length) c42] Tryz.sizeOf130 rfl rfl rfl rfl rfl (Nat.le_of_ble_eq_true rfl) ?_)
   intro w hI
   refine pu (.bool false) rfl (seq_nil (wp_seq (wp_seq (rgn rfl (pu (.bool false) rfl (pu (.bool true) rfl (seq_nil (wp_condT rfl (wp_seq ?_)))))))))
   refine rgn rfl (pu (.agg #[iv 0,iv 0]) (by kernel_rfl) (seq_c (s_store hI 7 2 [iv 0,iv 0] Tryz.sizeOf23 rfl rfl rfl rfl rfl (Nat.le_of_ble_eq_true rfl) ?_)))
   intro w hI
   refine pu (iv 14) rfl (seq_nil (wp_ret ?_))
   exact ⟨.tuple #[.agg #[iv 0,iv 0],iv 14],Ret.ct rfl rfl (run_loadK hI 7 2 [iv 0,iv 0] Tryz.isAgg23 Tryz.sizeOf23 rfl rfl rfl) rfl,⟨by simp [firstC,eRg,h2,h3],hI.below⟩⟩

end Go.K
