import Derived.Test.YtinkdlmimiefaaaGreatProg
import Derived.Test.YtinkdlmimiefaaaGreatPM16
namespace Go.K
open Go.Proofs.Tryz
open Go.Proofs Go.RowKit
set_option linter.unusedVariables false
set_option linter.unusedSimpArgs false
set_option maxRecDepth 100000
attribute [local irreducible] Seq cw cx fl opX


theorem Backward_c (w0:World) (bb:Nat) (A:Option Addr) (n c:Nat) (l:List Int) (lq:Nat) (J:Nat→World→Prop) (Jx:World→Prop) (hn:n=l.length) (hmax:n≤100000) (hbx:w0.heap[bb]?=some (blk [.slice A n c] 41)) (h0:J n w0) (hbel:∀ i W W',J i W→Below W.heap.size W W'→J i W') (hbox:∀ i W,J i W→W.heap[bb]?=some (blk [.slice A n c] 41)) (hread:∀ i W,J i W→bi W A (al dv l)) (hY:∀ i x (jj:Int) W,J (i+1) W→l[i]?=some x→jj=(i:Int)→cx Tryz.prog (yfn lq) [.int .i64 jj,.int .i64 x] W fun v W'=>(v=.bool true∧J i W')∨(v=.bool false∧Jx W')):bn Tryz.prog 155 [yfn lq,.pointer (some ⟨bb,0,none⟩)] w0 fun v w=>J 0 w∨Jx w:=by
 refine az (n:=19) func155 rfl ntmps155 rfl ?_
 have hI:=Inv.start w0
 refine ab (rgn rfl (ac (dj hI (.slice A n c) isAgg41 rfl (iz hbx) (by simp) (io hbx rfl) ?_)))
 refine pu (iv ((n:Nat):Int)) (by kernel_rfl) (ac (dm rfl rfl (by omega) ?_))
 refine pu (iv ((n:Int) - 1)) rfl (aa (au ?_))
 obtain ⟨wc,hwc⟩:∃ z,z=w0:=⟨_,rfl⟩
 have hJ:J n wc:=by rw [hwc]; exact h0
 have hI:Inv []  wc w0 []:=by rw [hwc]; exact Inv.start w0
 refine cb (fun m ρ w=>∃ (i:Nat) (jv:Int) (wc:World),cd ρ [(0,yfn lq),(1,.pointer (some ⟨bb,0,none⟩)),(3,iv jv)]∧Inv []  wc w []∧(i≤n)∧(jv=(i:Int) - 1)∧(J i wc)∧m=i) (m:=n) ⟨n,(n:Int) - 1,wc,⟨rfl,rfl,rfl,trivial⟩,hI.pk [] rfl rfl,(by omega),rfl,hJ,rfl⟩ ?_
 rintro m ρ w ⟨i,jv,wc,hag,hI,hi,hjv,hJ,hm⟩
 obtain ⟨ρ,rfl⟩:=hag.form; clear hag
 have hbx:=hbox i wc hJ; have hC:=hread i wc hJ
 refine ab (ab (rgn rfl (pu (iv jv) rfl (ac (iq rfl rfl ?_ ?_)))))
 ·intro h1
  refine aa (ah rfl (ak (ab (au ?_))))
  refine ab (rgn rfl (pu (yfn lq) rfl (pu (iv jv) rfl (ac (dj hI (.slice A n c) isAgg41 rfl (iz hbx) (by simp) (io hbx rfl) ?_)))))
  refine pu (iv jv) rfl ?_
  obtain ⟨x1,hx2⟩:=bq (l:=l) (i:=i - 1) (by omega)
  obtain ⟨b3,o4,hA5,hb6,he7⟩:=hC.at_ cy (by decide) hx2
  refine ac (cn (i - 1) underlying41 sizeOf3 rfl hA5 rfl (by omega) (by omega) ?_)
  refine ac (dj hI (iv x1) isAgg3 rfl hb6 (by simp) (he7 0 _ rfl) ?_)
  refine ac (im [iv jv,iv x1] rfl (by kernel_rfl) (hY (i - 1) x1 jv w (by rw [Nat.sub_add_cancel (by omega)]; exact hbel i wc w hJ hI.below) hx2 (by omega)) ?_)
  rintro v w (⟨rfl,hJ⟩ | ⟨rfl,hJx⟩)
  ·
   obtain ⟨wd,hwd⟩:∃ z,z=w:=⟨_,rfl⟩
   have hI:Inv []  wd w []:=by rw [hwd]; exact Inv.start w
   rw [← hwd] at hJ
   refine pu kf rfl (aa (ai rfl (ak (rgn rfl (pu (iv jv) rfl (ac (dm rfl rfl (by omega) ?_)))))))
   refine pu (iv (jv - 1)) rfl (aa ?_)
   exact ⟨rfl,_,(by omega),⟨i - 1,jv - 1,wd,⟨rfl,rfl,rfl,trivial⟩,hI.pk [] rfl rfl,(by omega),(by omega),hJ,rfl⟩⟩
  refine pu kg rfl (aa (ah rfl (aj ?_)))
  exact ⟨.tuple #[],Ret.r0 rfl , .inr hJx⟩
 intro h2
 refine aa (ai rfl (bw ?_))
 exact ⟨.tuple #[],Ret.r0 rfl , .inl (by rw [show 0=i by omega]; exact hbel i wc w hJ hI.below)⟩


theorem BackwardOf_c (w0:World) (A:Option Addr) (n c:Nat):bn Tryz.prog 114 [.slice A n c] w0 fun v w=>∃ b,v=.func (.func 155) #[] #[.pointer (some ⟨b,0,none⟩)]∧Inv []  w0 w [(some b,blk [.slice A n c] 41)]:=by
 refine az (n:=4) func114 rfl ntmps114 rfl ?_
 have hI:=Inv.start w0
 refine ab (rgn rfl (ac (ca hI [.slice A n c] rfl fun b1 w hI=>pu (.nilFunc) rfl (aa (ab (rgn rfl (pu (.func (.func 155) #[] #[.pointer (some ⟨b1,0,none⟩)]) (by kernel_rfl) (pu (.func (.func 155) #[] #[.pointer (some ⟨b1,0,none⟩)]) rfl (aa (aj ?_))))))))))
 exact ⟨.func (.func 155) #[] #[.pointer (some ⟨b1,0,none⟩)],Ret.r1 rfl rfl,⟨b1,rfl,hI.pk [0] rfl rfl⟩⟩

def kt (st:List Rg) (cs:List Ld) (f:Rg→Int) (h:Int):Bool:=decide (f (st.getD (dz cs h) ⟨0,0⟩)=0)
def firstF (st:List Rg) (cs:List Ld):Rg:=⟨((0 :: cs.map Ld.hr).find? (kt st cs Rg.lo)).getD 100000,((0 :: cs.map Ld.hr).find? (kt st cs Rg.hi)).getD 100000⟩
def ky (p:Pl) (dy:Int):Rg × Int:=if fi p dy=0 then if (ay (ae p dy) (ax p dy)).2 then (firstF (ay (ae p dy) (ax p dy)).1 (ax p dy),0) else (⟨0,0⟩,14) else (⟨0,0⟩,fi p dy)
theorem find_rep {p:Int→Bool} {h:Int}:∀ {m:Nat},0 < m→(List.replicate m h).find? p=[h].find? p
  | m+1,_=>by
    rw [List.replicate_succ]
    cases hp:p h with
    | true=>simp [hp]
    | false=>simp [hp]
theorem hours_step {cs:List Ld} {i m:Nat} {hh:Int} {HL:List Int} (hH:∀ p:Int→Bool,HL.find? p=(0 :: (cs.take i).map Ld.hr).find? p) (hm:0 < m) (him:i+m≤cs.length) (hgrp:∀ q y,i≤q→q < i+m→cs[q]?=some y→y.hr=hh) :
    ∀ p:Int→Bool,(HL++[hh]).find? p=(0 :: (cs.take (i+m)).map Ld.hr).find? p:=fun p=>by
  have e:(cs.take (i+m)).map Ld.hr=(cs.take i).map Ld.hr++List.replicate m hh:=by
    apply List.ext_getElem?
    intro q
    rcases Nat.lt_or_ge q i with h1 | h1
    · rw [List.getElem?_append_left (by simp; omega),List.getElem?_map,List.getElem?_map,List.getElem?_take,List.getElem?_take,if_pos h1,if_pos (by omega)]
    rw [List.getElem?_append_right (by simp; omega),List.length_map,List.length_take,Nat.min_eq_left (by omega),List.getElem?_replicate,List.getElem?_map,List.getElem?_take]
    rcases Nat.lt_or_ge q (i+m) with h2 | h2
    · rw [if_pos h2,if_pos (by omega)]
      obtain ⟨y,hy⟩:=bq (l:=cs) (i:=q) (by omega)
      rw [hy,Option.map_some,hgrp q y h1 h2 hy]
    rw [if_neg (by omega),if_neg (by omega)]; rfl
  rw [e,← List.cons_append,List.find?_append,List.find?_append,hH p,find_rep hm]
theorem ig {p:Int→Bool} {HL:List Int} {i:Nat} {x v:Int} (hx:HL[i]?=some x) (hv:v=((HL.drop (i+1)).find? p).getD 100000):(if p x then x else v)=((HL.drop i).find? p).getD 100000:=by
  have hl:=bu hx
  rw [List.drop_eq_getElem_cons hl]
  rw [List.getElem?_eq_getElem hl] at hx
  injection hx with hx
  rw [hx,List.find?_cons]
  cases hp:p x with
  | true=>simp
  | false=>simp [hv]

set_option maxHeartbeats 3200000 in
theorem First_c (w0:World) (pl:Pl) (o:Option Addr) (r B:Nat) (s:Option Addr) (t C:Nat) (x:Option Addr) (A E:Nat) (hP:gz w0 pl o r s t x A) (dy:Int):bn Tryz.prog 47 [.agg (qn6 pl.lo pl.hi o r B s t C x A E pl.geese).toArray,.int .i64 dy] w0 fun v w=>v=.tuple #[.agg (eRg (ky pl dy).1).toArray,.int .i64 (ky pl dy).2]∧Below w0.heap.size w0 w:=by
 have hm1:=hP.m1; have hm2:=hP.m2; have hm3:=hP.m3
 refine az (n:=65) func47 rfl ntmps47 rfl ?_
 have hI:=Inv.start w0
 refine ab (rgn rfl (ac (ca hI (qn6 pl.lo pl.hi o r B s t C x A E pl.geese) rfl fun b1 w hI=>ac (bh hI [iv 0,iv 0] zeroValue23 rfl fun b2 w hI=>pu (iv 0) rfl (aa (ab (ab (rgn rfl (ac (ar hI 1 6 (qn6 pl.lo pl.hi o r B s t C x A E pl.geese) isAgg28 sizeOf28 rfl rfl rfl rfl ?_))))))))))
 refine pu (iv dy) rfl (ac (bg hI 85 [.agg (qn6 pl.lo pl.hi o r B s t C x A E pl.geese).toArray,iv dy] (iv (fi pl dy)) (by kernel_rfl) (checkDay_c _ pl o r B s t C x A E (hP.inv0 hI) dy) fun w hI=>pu (iv (fi pl dy)) rfl (aa (ab (rgn rfl (pu (iv (fi pl dy)) rfl (ac (de rfl rfl ?_ ?_))))))))
 ·intro h1
  refine aa (ah rfl (ab (rgn rfl (pu (.agg #[iv 0,iv 0]) (by kernel_rfl) (pu (iv (fi pl dy)) rfl (ac (aq hI 0 2 [iv 0,iv 0] sizeOf23 rfl rfl rfl rfl rfl (kh rfl) fun w hI=>pu (iv (fi pl dy)) rfl (aa (aj ?_)))))))))
  exact ⟨.tuple #[.agg #[iv 0,iv 0],iv (fi pl dy)],Ret.ct rfl rfl (ce hI 0 2 [iv 0,iv 0] isAgg23 sizeOf23 rfl rfl rfl) rfl,⟨by simp [ky,eRg,h1],hI.below⟩⟩
 intro h2
 refine aa (ai rfl (ak (ab (rgn rfl (ac (ar hI 1 6 (qn6 pl.lo pl.hi o r B s t C x A E pl.geese) isAgg28 sizeOf28 rfl rfl rfl rfl ?_))))))
 refine pu (iv dy) rfl ?_
 have hsl:=jn pl dy; obtain ⟨hsl1,hsl2,hsl3⟩:=hsl; have hsc:=ij pl dy; have hok_:=eo (dayI_ok h2).1; have hok1:=hok_.s1; have hok2:=hok_.s2; have hok3:=hok_.s3
 refine ac (jh hI (q:=ae pl dy) (cs:=ax pl dy) 86 [.agg (qn6 pl.lo pl.hi o r B s t C x A E pl.geese).toArray,iv dy] (by kernel_rfl) (sceneOf_c _ pl o r B s t C x A E (hP.inv0 hI) (eo (dayI_ok h2).1) dy) fun g3 c4 cl5 g7 c8 cl9 a f O d g P w hI r6 Z a0 J=>ac (bh hI (qn7 0 0 none 0 0 none 0 0 none 0 0 0 none 0 0) zeroValue116 rfl fun Q w hI=>ac (aq hI 0 7 (qs7 (ae pl dy) g3 c4 g7 c8 a f d (ax pl dy) g) sizeOf116 rfl rfl rfl rfl rfl (kh rfl) fun w hI=>aa (ab (rgn rfl (ac (ar hI 0 7 (qs7 (ae pl dy) g3 c4 g7 c8 a f d (ax pl dy) g) isAgg116 sizeOf116 rfl rfl rfl rfl ?_)))))))
 rcases Bool.eq_false_or_eq_true ((ay (ae pl dy) (ax pl dy)).2) with h3 | h3
 ·
  refine ac (fy hI 102 [.agg (qs7 (ae pl dy) g3 c4 g7 c8 a f d (ax pl dy) g).toArray] (fun v1=>.tuple #[v1,.bool true]) (by kernel_rfl) (bn.mono (stood_c _ (ae pl dy) (g3.map fun b=>⟨b,0,none⟩) (ae pl dy).loads.length c4 (g7.map fun b=>⟨b,0,none⟩) (ae pl dy).stands.length c8 (a.map fun b=>⟨b,0,none⟩) (ae pl dy).spells.length f (ax pl dy) (d.map fun b=>⟨b,0,none⟩) (ax pl dy).length g ⟨⟨(hI.rowCells 1 rfl r6),rfl,(hI.rowCells 2 rfl Z),rfl,(hI.rowCells 3 rfl a0),rfl,(by omega),(by omega),(by omega)⟩,(hI.rowCells 4 rfl J),rfl,J.cap,(by omega),(by omega),(by omega),(by omega)⟩ (scn_ok (dayI_ok h2).1 dy)) (fun v w' ⟨v1,e1,e2⟩=>⟨v1,by rw [e1,h3],e2⟩)) ?_)
  intro F G L w hI R
  have R:Row 2 F ((ay (ae pl dy) (ax pl dy)).1.length) G L (al eRg ((ay (ae pl dy) (ax pl dy)).1)):=R
  have hsl:=stoodF_len h3
  refine pu (.tuple #[slv F ((ay (ae pl dy) (ax pl dy)).1.length) G,.bool true]) rfl (pu (slv F ((ay (ae pl dy) (ax pl dy)).1.length) G) rfl (pu kg rfl (ac (bh hI [.slice none 0 0] zeroValue130 rfl fun S w hI=>ac (aq hI 0 1 [slv F ((ay (ae pl dy) (ax pl dy)).1.length) G] sizeOf130 rfl rfl rfl rfl rfl (kh rfl) fun w hI=>pu kg rfl (aa (ab (ab (rgn rfl (pu kg rfl (pu kf rfl (aa (ai rfl (ak ?_))))))))))))))
  refine ab (rgn rfl (ac (fu hI [iv 0] 3 (fun b=>slv (some b) 1 1) (by kernel_rfl) fun a1 w hI=>ac (bh hI [.slice none 0 0] zeroValue41 rfl fun T w hI=>ac (aq hI 0 1 [.slice (some ⟨a1,0,none⟩) 1 1] sizeOf41 rfl rfl rfl rfl rfl (kh rfl) fun w hI=>aa (ab (ab (rgn rfl (ac (ar hI 4 7 (qs7 (ae pl dy) g3 c4 g7 c8 a f d (ax pl dy) g) isAgg116 sizeOf116 rfl rfl rfl rfl ?_))))))))))
  refine pu (.func (.func 113) #[.agg (qs7 (ae pl dy) g3 c4 g7 c8 a f d (ax pl dy) g).toArray] #[]) (by kernel_rfl) (aa (au ?_))
  refine wp_rangeFunc hI (first := #[.agg (qs7 (ae pl dy) g3 c4 g7 c8 a f d (ax pl dy) g).toArray]) (cap := #[]) rfl 113 (fun y=>[.agg (qs7 (ae pl dy) g3 c4 g7 c8 a f d (ax pl dy) g).toArray,y]) (fun l W=>by kernel_rfl) fun rcq27 lqq27 w hpsq27 hasq27 hboq27 hofq27 hI=>bn.mono (byHour_c w (ae pl dy).lo (ae pl dy).hi (ae pl dy).geese (slv g3 (ae pl dy).loads.length c4) (slv g7 (ae pl dy).stands.length c8) (slv a (ae pl dy).spells.length f) (d.map fun b=>⟨b,0,none⟩) (ax pl dy).length g (ax pl dy) lqq27 (fun (i:Nat) (W:World)=>∃ (gh:Option Nat) (ch:Nat) (clh:List Value) (HL:List Int) (nh:Nat),Inv []  w0 W [(some lqq27,rcq27.at .ready none),(some rcq27.defers,.deferred (some [])),(some T,blk [slv gh nh ch] 41),(gh,blk clh 3),(some S,blk [slv F ((ay (ae pl dy) (ax pl dy)).1.length) G] 130),(F,blk L 23),(some Q,blk (qs7 (ae pl dy) g3 c4 g7 c8 a f d (ax pl dy) g) 116),(g3,blk cl5 30),(g7,blk cl9 31),(a,blk O 33),(d,blk P 30),(some b2,blk [iv 0,iv 0] 23),(some b1,blk (qn6 pl.lo pl.hi o r B s t C x A E pl.geese) 28)]∧(Row 1 gh nh ch clh (al dv HL))∧(∀ p:Int→Bool,HL.find? p=(0 :: ((ax pl dy).take i).map Ld.hr).find? p)∧(HL.length≤i+1)∧(nh=HL.length)) (fun (_:World)=>False) rfl (by omega) J.cap ⟨some a1,1,[iv 0],[0],1,hI.pk [0,1,2,3,4,5,6,7,8,9,10,11,12] rfl rfl,⟨rfl,by decide,by decide,rfl,rfl,fun h=>by cases h⟩,(fun p=>by simp),(by simp),rfl⟩ (fun i W W' ⟨gh,ch,clh,HL,nh,hj,hr⟩ hb=>⟨gh,ch,clh,HL,nh,hj.call hb,hr⟩) (fun i W ⟨gh,ch,clh,HL,nh,hj,hr⟩=>(hj.rowCells 10 rfl J)) ?_) ?_
  ·rintro i m hh A2 c2 w ⟨gh,ch,clh,HL,nh,hI,hrh,hHL,hHn,hnh⟩ hm0 him hgrp hat
   refine callV_yield hI hofq27 [37,38] hpsq27 rfl (by decide) ?_
   rw [hasq27]
   refine rgn rfl (pu (iv hh) rfl (aa (⟨rfl,_,hI,?_⟩)))
   intro w hI
   rw [hboq27]
   refine au ?_
   refine rgn rfl (ac (ag hI 2 (slv gh nh ch) isAgg41 rfl rfl rfl ?_))
   refine pu (iv hh) rfl (ac (fu hI [iv hh] 3 (fun b=>slv (some b) 1 1) (by kernel_rfl) fun a6 w hI=>ac (s_app hI underlying41 (z:=iv 0) (k:=1) (bytes:=8) rfl rfl rfl 4 rfl rfl hrh [iv hh] rfl rfl (hI.cells 0 (off:=0) rfl (fun j u h=>by rw [Nat.zero_add]; exact h)) (by simp [Value.oneCell']) (by omega) (by omega) ?_)))
   intro U c30 a2 w hI V
   have V:Row 1 U (nh+1) c30 a2 (al dv (HL++[hh])):=V.snoc _ rfl
   refine ac (aq hI 3 1 [slv U (nh+1) c30] sizeOf41 rfl rfl rfl rfl rfl (kh rfl) fun w hI=>aa ?_)
   exact ⟨_,hI.pk [1,2,3,4,5,6,7,8,9,10,11,12,13] rfl rfl,fun w hI=>.inl ⟨rfl,U,c30,a2,HL++[hh],nh+1,hI,V,(hours_step hHL (by omega) (by omega) hgrp),(by simp; omega),(by simp; omega)⟩⟩
  rintro _ w (⟨gh,ch,clh,HL,nh,hI,hrh,hHL,hHn,hnh⟩ | hno)
  ·
   refine ⟨_,.inl ⟨hI,fun w hI=>?_⟩⟩
   refine ab (rgn rfl (pu (.agg #[iv 100000,iv 100000]) (by kernel_rfl) (ac (bh hI [iv 0,iv 0] zeroValue23 rfl fun K w hI=>ac (aq hI 0 2 [iv 100000,iv 100000] sizeOf23 rfl rfl rfl rfl rfl (kh rfl) fun w hI=>aa (ab (ab (rgn rfl (ac (ag hI 3 (slv gh nh ch) isAgg41 rfl rfl rfl ?_))))))))))
   refine ac (co 114 [slv gh nh ch] (by kernel_rfl) (BackwardOf_c w (gh.map fun b=>⟨b,0,none⟩) nh ch) ?_)
   rintro _ w' ⟨bb34,rfl,hN⟩
   have hI:=hI.join hN
   have hI:Inv []  w0 w' [(some bb34,blk [slv gh nh ch] 41),(some K,blk [iv 100000,iv 100000] 23),(some lqq27,rcq27.at .exhausted none),(some rcq27.defers,.deferred (some [])),(some T,blk [slv gh nh ch] 41),(gh,blk clh 3),(some S,blk [slv F ((ay (ae pl dy) (ax pl dy)).1.length) G] 130),(F,blk L 23),(some Q,blk (qs7 (ae pl dy) g3 c4 g7 c8 a f d (ax pl dy) g) 116),(g3,blk cl5 30),(g7,blk cl9 31),(a,blk O 33),(d,blk P 30),(some b2,blk [iv 0,iv 0] 23),(some b1,blk (qn6 pl.lo pl.hi o r B s t C x A E pl.geese) 28)]:=hI
   revert hI; generalize w'=w; intro hI
   refine aa (au ?_)
   refine wp_rangeFunc hI (first := #[]) (cap := #[.pointer (some ⟨bb34,0,none⟩)]) rfl 155 (fun y=>[y,.pointer (some ⟨bb34,0,none⟩)]) (fun l W=>by kernel_rfl) fun rcq35 lqq35 w hpsq35 hasq35 hboq35 hofq35 hI=>bn.mono (Backward_c w bb34 (gh.map fun b=>⟨b,0,none⟩) nh ch HL lqq35 (fun (i:Nat) (W:World)=>∃ (flo:Int) (fhi:Int),Inv []  w0 W [(some lqq35,rcq35.at .ready none),(some rcq35.defers,.deferred (some [])),(some bb34,blk [slv gh nh ch] 41),(some K,blk [iv flo,iv fhi] 23),(some lqq27,rcq27.at .exhausted none),(some rcq27.defers,.deferred (some [])),(some T,blk [slv gh nh ch] 41),(gh,blk clh 3),(some S,blk [slv F ((ay (ae pl dy) (ax pl dy)).1.length) G] 130),(F,blk L 23),(some Q,blk (qs7 (ae pl dy) g3 c4 g7 c8 a f d (ax pl dy) g) 116),(g3,blk cl5 30),(g7,blk cl9 31),(a,blk O 33),(d,blk P 30),(some b2,blk [iv 0,iv 0] 23),(some b1,blk (qn6 pl.lo pl.hi o r B s t C x A E pl.geese) 28)]∧(flo=((HL.drop i).find? (kt ((ay (ae pl dy) (ax pl dy)).1) (ax pl dy) Rg.lo)).getD 100000)∧(fhi=((HL.drop i).find? (kt ((ay (ae pl dy) (ax pl dy)).1) (ax pl dy) Rg.hi)).getD 100000)) (fun (_:World)=>False) hnh (by omega) (hI.has 2 _ _ rfl).1 ⟨100000,100000,hI.pk [0,1,2,3,4,5,6,7,8,9,10,11,12,13,14,15,16] rfl rfl,(by rw [List.drop_eq_nil_of_le (by omega)]; rfl),(by rw [List.drop_eq_nil_of_le (by omega)]; rfl)⟩ (fun i W W' ⟨flo,fhi,hj,hr⟩ hb=>⟨flo,fhi,hj.call hb,hr⟩) (fun i W ⟨_,_,hj,_⟩=>(hj.has 2 _ _ rfl).1) (fun i W ⟨flo,fhi,hj,hr⟩=>(hj.rowCells 7 rfl hrh)) ?_) ?_
   ·rintro i xx jj w ⟨flo,fhi,hI,hflo,hfhi⟩ hxx hjj
    refine callV_yield hI hofq35 [46,47] hpsq35 rfl (by decide) ?_
    rw [hasq35]
    refine rgn rfl (pu (iv xx) rfl (aa (⟨rfl,_,hI,?_⟩)))
    intro w hI
    rw [hboq35]
    refine au ?_
    refine ab ?_
    have hcl9:=cart_le (ax pl dy) xx
    obtain ⟨H,I⟩:=bq (l:=(ay (ae pl dy) (ax pl dy)).1) (i:=dz (ax pl dy) xx) (by omega)
    obtain ⟨X,rfl,a4⟩:=R.at_ da (by decide) I
    refine dh hI [0,1,2,3,4,5,6,7,8,9,10,11,12,13,14,15,16] (by decide) rfl rfl rfl fun hsub=>ap 0 (slv (some X) ((ay (ae pl dy) (ax pl dy)).1.length) G) hsub rfl (by kernel_rfl) (fun w hI=>ag hI 8 (slv (some X) ((ay (ae pl dy) (ax pl dy)).1.length) G) isAgg130 rfl rfl rfl br) ?_
    refine ap 1 (.agg (qs7 (ae pl dy) g3 c4 g7 c8 a f d (ax pl dy) g).toArray) hsub rfl (by kernel_rfl) (fun w hI=>ar hI 10 7 (qs7 (ae pl dy) g3 c4 g7 c8 a f d (ax pl dy) g) isAgg116 sizeOf116 rfl rfl rfl rfl br) ?_
    refine alp 2 (iv xx) hsub rfl (by kernel_rfl) (fun _=>rfl) ?_
    refine ap 3 (iv ((dz (ax pl dy) xx:Nat):Int)) hsub rfl (by kernel_rfl) (fun w hI=>co 115 [.agg (qs7 (ae pl dy) g3 c4 g7 c8 a f d (ax pl dy) g).toArray,iv xx] (by kernel_rfl) (cartedBy_c _ (ae pl dy).lo (ae pl dy).hi (ae pl dy).geese (slv g3 (ae pl dy).loads.length c4) (slv g7 (ae pl dy).stands.length c8) (slv a (ae pl dy).spells.length f) (d.map fun b=>⟨b,0,none⟩) (ax pl dy).length g (ax pl dy) xx rfl (by omega) J.cap (hI.rowCells 14 rfl J)) (fun v' w' h=>h)) ?_
    refine ap 4 (.pointer (some ⟨X,(dz (ax pl dy) xx) * 2,none⟩)) hsub rfl (by kernel_rfl) (fun w hI=>be (dz (ax pl dy) xx) underlying130 sizeOf23 rfl rfl rfl (by omega) br) ?_
    refine ap 5 (.agg #[iv H.lo,iv H.hi]) hsub rfl (by kernel_rfl) (fun w hI=>cq hI 9 [iv H.lo,iv H.hi] isAgg23 sizeOf23 rfl rfl rfl a4 br) ?_
    refine bc [6] (by kernel_rfl) rfl (cz fun w hI=>dg rfl (bh hI [iv 0,iv 0] zeroValue23 rfl fun Y w hI=>⟨_,hI,dc (fun _ h=>h.pk [1,2,3,4,5,6,7,8,9,10,11,12,13,14,15,16,17] rfl rfl) ?_⟩))
    intro hsub
    refine bc [7] (by kernel_rfl) rfl (cz fun w hI=>dg rfl (aq hI 0 2 [iv H.lo,iv H.hi] sizeOf23 rfl rfl rfl rfl rfl (kh rfl) fun w hI=>⟨_,hI,dc (fun _ h=>h.pk [1,2,3,4,5,6,7,8,9,10,11,12,13,14,15,16,17] rfl rfl) ?_⟩))
    intro hsub
    refine cp rfl (fun w hI=>?_)
    refine ab (ab (rgn rfl (pu (.pointer (some ⟨Y,0,none⟩)) rfl (ac (ag hI 0 (iv H.lo) isAgg3 rfl rfl rfl ?_)))))
    refine ac (di rfl rfl ?_ ?_)
    ·intro h4
     refine aa (ah rfl (rgn rfl (pu (iv xx) rfl (pu (.pointer (some ⟨K,0,none⟩)) rfl (ac (aq hI 4 1 [iv xx] sizeOf3 rfl rfl rfl rfl rfl (kh rfl) fun w hI=>aa (ab (rgn rfl (pu (.pointer (some ⟨Y,1,none⟩)) rfl (ac (ag hI 0 (iv H.hi) isAgg3 rfl rfl rfl ?_)))))))))))
     refine ac (di rfl rfl ?_ ?_)
     ·intro h5
      refine aa (ah rfl (rgn rfl (pu (iv xx) rfl (pu (.pointer (some ⟨K,1,none⟩)) rfl (ac (aq hI 4 1 [iv xx] sizeOf3 rfl rfl rfl rfl rfl (kh rfl) fun w hI=>aa ?_))))))
      exact ⟨_,hI.pk [1,2,3,4,5,6,7,8,9,10,11,12,13,14,15,16,17] rfl rfl,fun w hI=>.inl ⟨rfl,xx,xx,hI,(by rw [← ig hxx hflo,kt,List.getD_eq_getElem?_getD,I]; simp [*]),(by rw [← ig hxx hfhi,kt,List.getD_eq_getElem?_getD,I]; simp [*])⟩⟩
     intro h6
     refine aa (ai rfl (ak ?_))
     exact ⟨_,hI.pk [1,2,3,4,5,6,7,8,9,10,11,12,13,14,15,16,17] rfl rfl,fun w hI=>.inl ⟨rfl,xx,fhi,hI,(by rw [← ig hxx hflo,kt,List.getD_eq_getElem?_getD,I]; simp [*]),(by rw [← ig hxx hfhi,kt,List.getD_eq_getElem?_getD,I]; simp [*])⟩⟩
    intro h7
    refine aa (ai rfl (ak (ab (rgn rfl (pu (.pointer (some ⟨Y,1,none⟩)) rfl (ac (ag hI 0 (iv H.hi) isAgg3 rfl rfl rfl ?_)))))))
    refine ac (di rfl rfl ?_ ?_)
    ·intro h8
     refine aa (ah rfl (rgn rfl (pu (iv xx) rfl (pu (.pointer (some ⟨K,1,none⟩)) rfl (ac (aq hI 4 1 [iv xx] sizeOf3 rfl rfl rfl rfl rfl (kh rfl) fun w hI=>aa ?_))))))
     exact ⟨_,hI.pk [1,2,3,4,5,6,7,8,9,10,11,12,13,14,15,16,17] rfl rfl,fun w hI=>.inl ⟨rfl,flo,xx,hI,(by rw [← ig hxx hflo,kt,List.getD_eq_getElem?_getD,I]; simp [*]),(by rw [← ig hxx hfhi,kt,List.getD_eq_getElem?_getD,I]; simp [*])⟩⟩
    intro h9
    refine aa (ai rfl (ak ?_))
    exact ⟨_,hI.pk [1,2,3,4,5,6,7,8,9,10,11,12,13,14,15,16,17] rfl rfl,fun w hI=>.inl ⟨rfl,flo,fhi,hI,(by rw [← ig hxx hflo,kt,List.getD_eq_getElem?_getD,I]; simp [*]),(by rw [← ig hxx hfhi,kt,List.getD_eq_getElem?_getD,I]; simp [*])⟩⟩
   rintro _ w (⟨flo,fhi,hI,hflo,hfhi⟩ | hno)
   ·
    refine ⟨_,.inl ⟨hI,fun w hI=>?_⟩⟩
    refine ab (rgn rfl (ac (ar hI 3 2 [iv flo,iv fhi] isAgg23 sizeOf23 rfl rfl rfl rfl ?_)))
    refine ac (aq hI 15 2 [iv flo,iv fhi] sizeOf23 rfl rfl rfl rfl rfl (kh rfl) fun w hI=>pu (iv 0) rfl (aa (aj (LeaveE.mark (D:=rcq35.defers) (hI.pk [1,0,2,3,4,5,6,7,8,9,10,11,12,13,14,15,16] rfl rfl) fun w hI=>LeaveE.mark (D:=rcq27.defers) (hI.pk [4,0,1,2,3,5,6,7,8,9,10,11,12,13,14,15] rfl rfl) ?_))))
    intro w hI
    have e:ky pl dy=(⟨flo,fhi⟩,0):=by rw [hflo,hfhi,List.drop_zero,hHL,hHL,List.take_of_length_le (by omega)]; simp [ky,firstF,h2,h3]
    exact ⟨.tuple #[.agg #[iv flo,iv fhi],iv 0],Ret.ct rfl rfl (ce hI 13 2 [iv flo,iv fhi] isAgg23 sizeOf23 rfl rfl rfl) rfl,⟨by rw [e]; rfl,hI.below⟩⟩
   exact hno.elim
  exact hno.elim
 refine ac (fy hI 102 [.agg (qs7 (ae pl dy) g3 c4 g7 c8 a f d (ax pl dy) g).toArray] (fun v1=>.tuple #[v1,.bool false]) (by kernel_rfl) (bn.mono (stood_c _ (ae pl dy) (g3.map fun b=>⟨b,0,none⟩) (ae pl dy).loads.length c4 (g7.map fun b=>⟨b,0,none⟩) (ae pl dy).stands.length c8 (a.map fun b=>⟨b,0,none⟩) (ae pl dy).spells.length f (ax pl dy) (d.map fun b=>⟨b,0,none⟩) (ax pl dy).length g ⟨⟨(hI.rowCells 1 rfl r6),rfl,(hI.rowCells 2 rfl Z),rfl,(hI.rowCells 3 rfl a0),rfl,(by omega),(by omega),(by omega)⟩,(hI.rowCells 4 rfl J),rfl,J.cap,(by omega),(by omega),(by omega),(by omega)⟩ (scn_ok (dayI_ok h2).1 dy)) (fun v w' ⟨v1,e1,e2⟩=>⟨v1,by rw [e1,h3],e2⟩)) ?_)
 intro M N a5 w hI a3
 have a3:Row 2 M ((ay (ae pl dy) (ax pl dy)).1.length) N a5 (al eRg ((ay (ae pl dy) (ax pl dy)).1)):=a3
 refine pu (.tuple #[slv M ((ay (ae pl dy) (ax pl dy)).1.length) N,.bool false]) rfl (pu (slv M ((ay (ae pl dy) (ax pl dy)).1.length) N) rfl (pu kf rfl (ac (bh hI [.slice none 0 0] zeroValue130 rfl fun a7 w hI=>ac (aq hI 0 1 [slv M ((ay (ae pl dy) (ax pl dy)).1.length) N] sizeOf130 rfl rfl rfl rfl rfl (kh rfl) fun w hI=>pu kf rfl (aa (ab (ab (rgn rfl (pu kf rfl (pu kg rfl (aa (ah rfl (ab ?_))))))))))))))
 refine rgn rfl (pu (.agg #[iv 0,iv 0]) (by kernel_rfl) (ac (aq hI 7 2 [iv 0,iv 0] sizeOf23 rfl rfl rfl rfl rfl (kh rfl) fun w hI=>pu (iv 14) rfl (aa (aj ?_)))))
 exact ⟨.tuple #[.agg #[iv 0,iv 0],iv 14],Ret.ct rfl rfl (ce hI 7 2 [iv 0,iv 0] isAgg23 sizeOf23 rfl rfl rfl) rfl,⟨by simp [ky,eRg,h2,h3],hI.below⟩⟩

end Go.K
