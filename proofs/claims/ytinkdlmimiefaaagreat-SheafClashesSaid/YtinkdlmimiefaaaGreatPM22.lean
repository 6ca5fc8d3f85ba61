/- Loads and stands that contradict each other. -/
import Derived.Test.YtinkdlmimiefaaaGreatProg
import Derived.Test.YtinkdlmimiefaaaGreatPM21
namespace Go.K
open Go.Proofs Go.RowKit
set_option linter.unusedVariables false
set_option linter.unusedSimpArgs false
set_option maxRecDepth 100000
attribute [local irreducible] Seq Step CallV AnyE opX

theorem by_ok {p:Pl} {cs:List Ld} (h:ScOk p cs) (S:Int→Bool):ScOk (byP p S) (byC cs S):=by
  refine ⟨h.sown,fun x hx=>h.st x (List.mem_filter.1 hx).1,fun x hx=>?_⟩
  obtain ⟨y,hy,rfl⟩:=List.mem_map.1 hx
  split
  · exact h.ld y hy
  · exact ⟨by show (0:Int)≤0; decide,by show (0:Int)≤10000; decide,by show (0:Int)≤10000; decide,by show (10000:Int)≤10000; decide⟩
def srcL (q:Pl):List Int:=q.loads.map Ld.src++q.stands.map Ld.src
def fallF (q:Pl):List Int:=(sortM (srcL q)).reverse
def clashStep (q:Pl) (cs:List Ld) (st:(Int→Bool) × List Int) (s:Int):(Int→Bool) × List Int :=
  let S':=fun j=>if j=s then false else st.1 j
  if (stoodF (byP q S') (byC cs S')).2 then (fun j=>if j=s then true else S' j,st.2++[s]) else (S',st.2)
def clashF (q:Pl) (cs:List Ld) (ds:List Int):(Int→Bool) × List Int:=ds.foldl (clashStep q cs) (srcB q,[])
theorem clash_step {q:Pl} {cs:List Ld} {ds:List Int} {k:Nat} {s:Int} (hs:ds[k]?=some s):clashF q cs (ds.take (k+1))=clashStep q cs (clashF q cs (ds.take k)) s:=by
  rw [take_get hs,clashF,List.foldl_append]; rfl
def clashC (p:Pl) (dy:Int):List Int × Int:=if dayI p dy=0 then if (stoodF (scnF p dy) (crtF p dy)).2 then ([],15) else ((clashF (scnF p dy) (crtF p dy) (fallF (scnF p dy))).2.reverse,0) else ([],dayI p dy)
theorem mget_mem:∀ {es:List En} {j:Int},j∈es.map En.key↔mget es j≠none
  | [],j=>by simp [mget]
  | e :: es,j=>by
    rw [List.map_cons,List.mem_cons,mget]
    split
    · rename_i h; simp [h]
    · rename_i h; rw [← mget_mem]; simp [h]
theorem keys_perm {q:Pl} {es:List En} {ck:Nat} (hn:(srcL q).Nodup) (ho:MOk es ck) (hT:∀ j,mget es j=if srcB q j then some (.bool true) else none):(es.map En.key).Perm (srcL q):=by
  refine (List.perm_ext_iff_of_nodup ho.keys hn).2 fun j=>?_
  rw [mget_mem,hT j]
  by_cases h:srcB q j=true
  · rw [if_pos h]; simpa [srcB,srcL] using h
  · rw [if_neg h]; simpa [srcB,srcL] using h
theorem srcL_nodup {p:Pl} (h:plotB p=true) (dy:Int):(srcL (scnF p dy)).Nodup:=by
  have hr:=(refOk_keep ((plotB_iff p).1 h) (fun y=>countsB y.k y.u dy)).nd
  unfold srcsOf at hr
  rw [List.nodup_append] at hr
  exact hr.1
theorem clash_len {q:Pl} {cs:List Ld}:∀ (ds:List Int) (st:(Int→Bool) × List Int),(ds.foldl (clashStep q cs) st).2.length≤st.2.length+ds.length
  | [],st=>by simp
  | s :: ds,st=>by
    rw [List.foldl_cons]
    refine Nat.le_trans (clash_len ds _) ?_
    unfold clashStep
    dsimp only
    split <;> simp <;> omega

set_option maxHeartbeats 3200000 in
theorem Clash_c (w0:World) (pl:Pl) (pA1:Option Addr) (pn1 pc1:Nat) (pA2:Option Addr) (pn2 pc2:Nat) (pA3:Option Addr) (pn3 pc3:Nat) (hP:PlotIn w0 pl pA1 pn1 pA2 pn2 pA3 pn3) (dy:Int):Does Tryz.prog 32 [.agg #[.int .i64 pl.lo,.int .i64 pl.hi,.slice pA1 pn1 pc1,.slice pA2 pn2 pc2,.slice pA3 pn3 pc3,.int .i64 pl.geese],.int .i64 dy] w0 fun v w=>∃ v1,v=.tuple #[v1,.int .i64 (clashC pl dy).2]∧Gives 1 3 none (clashC pl dy).1.length (flat eInt (clashC pl dy).1) w0 v1 w:=by
 have hm1:=hP.m1; have hm2:=hP.m2; have hm3:=hP.m3
 refine calls_of (n:=48) Tryz.func32 rfl Tryz.ntmps32 rfl ?_
 have hI:=Inv.start w0
 refine wp_seq (rgn rfl (seq_c (s_boxI hI [iv pl.lo,iv pl.hi,.slice pA1 pn1 pc1,.slice pA2 pn2 pc2,.slice pA3 pn3 pc3,iv pl.geese] rfl ?_)))
 intro b1 w hI
 refine pu (.slice none 0 0) rfl (pu (iv 0) rfl (seq_nil (wp_seq (wp_seq (rgn rfl (seq_c (s_loadK hI 0 6 [iv pl.lo,iv pl.hi,.slice pA1 pn1 pc1,.slice pA2 pn2 pc2,.slice pA3 pn3 pc3,iv pl.geese] Tryz.isAgg28 Tryz.sizeOf28 rfl rfl rfl rfl ?_)))))))
 refine pu (iv dy) rfl (seq_c (s_callv hI 85 [.agg #[iv pl.lo,iv pl.hi,.slice pA1 pn1 pc1,.slice pA2 pn2 pc2,.slice pA3 pn3 pc3,iv pl.geese],iv dy] (iv (dayI pl dy)) (by kernel_rfl) (checkDay_c _ pl pA1 pn1 pc1 pA2 pn2 pc2 pA3 pn3 pc3 (hP.inv0 hI) dy) ?_))
 intro w hI
 refine pu (iv (dayI pl dy)) rfl (seq_nil (wp_seq (rgn rfl (pu (iv (dayI pl dy)) rfl (seq_c (s_neq rfl rfl ?_ ?_))))))
 ·intro h1
  refine seq_nil (wp_condT rfl (wp_seq (rgn rfl (pu (iv (dayI pl dy)) rfl (pu (.slice none 0 0) rfl (pu (iv (dayI pl dy)) rfl (seq_nil (wp_ret ?_))))))))
  have hI:=hI.nilRow 3
  have e:clashC pl dy=([],dayI pl dy):=by simp [clashC,h1]
  exact ⟨.tuple #[.slice none 0 0,iv (dayI pl dy)],Ret.r2 rfl rfl rfl,(by rw [e]; exact ⟨.slice none 0 0,rfl,none,0,[],rfl,hI.pickL [0] (by decide) rfl,Row.nil_ 1⟩)⟩
 ·intro h2
  refine seq_nil (wp_condF rfl (wp_skip (wp_seq (rgn rfl (seq_c (s_loadK hI 0 6 [iv pl.lo,iv pl.hi,.slice pA1 pn1 pc1,.slice pA2 pn2 pc2,.slice pA3 pn3 pc3,iv pl.geese] Tryz.isAgg28 Tryz.sizeOf28 rfl rfl rfl rfl ?_))))))
  refine pu (iv dy) rfl ?_
  have hsl:=scn_len pl dy; obtain ⟨hsl1,hsl2,hsl3⟩:=hsl; have hsc:=crt_len pl dy; have hok_:=plotB_small (dayI_ok h2).1; have hok1:=hok_.s1; have hok2:=hok_.s2; have hok3:=hok_.s3
  refine seq_c (s_callScene hI (q:=scnF pl dy) (cs:=crtF pl dy) 86 [.agg #[iv pl.lo,iv pl.hi,.slice pA1 pn1 pc1,.slice pA2 pn2 pc2,.slice pA3 pn3 pc3,iv pl.geese],iv dy] (by kernel_rfl) (sceneOf_c _ pl pA1 pn1 pc1 pA2 pn2 pc2 pA3 pn3 pc3 (hP.inv0 hI) (plotB_small (dayI_ok h2).1) dy) ?_)
  intro g2 c3 cl4 g6 c7 cl8 g10 c11 cl12 g14 c15 cl16 w hI r5 r9 r13 r17
  refine seq_c (s_allocI hI [iv 0,iv 0,.slice none 0 0,.slice none 0 0,.slice none 0 0,iv 0,.slice none 0 0] Tryz.zeroValue116 rfl ?_)
  intro b18 w hI
  refine seq_c (s_store hI 0 7 [iv (scnF pl dy).lo,iv (scnF pl dy).hi,slv g2 (scnF pl dy).loads.length c3,slv g6 (scnF pl dy).stands.length c7,slv g10 (scnF pl dy).spells.length c11,iv (scnF pl dy).geese,slv g14 (crtF pl dy).length c15] Tryz.sizeOf116 rfl rfl rfl rfl rfl (Nat.le_of_ble_eq_true rfl) ?_)
  intro w hI
  refine seq_nil (wp_seq (wp_seq (rgn rfl (seq_c (s_loadK hI 0 7 [iv (scnF pl dy).lo,iv (scnF pl dy).hi,slv g2 (scnF pl dy).loads.length c3,slv g6 (scnF pl dy).stands.length c7,slv g10 (scnF pl dy).spells.length c11,iv (scnF pl dy).geese,slv g14 (crtF pl dy).length c15] Tryz.isAgg116 Tryz.sizeOf116 rfl rfl rfl rfl ?_)))))
  refine seq_c (s_callb hI 87 [.agg #[iv (scnF pl dy).lo,iv (scnF pl dy).hi,slv g2 (scnF pl dy).loads.length c3,slv g6 (scnF pl dy).stands.length c7,slv g10 (scnF pl dy).spells.length c11,iv (scnF pl dy).geese,slv g14 (crtF pl dy).length c15]] ((stoodF (scnF pl dy) (crtF pl dy)).2) (by kernel_rfl) (sound_c _ (scnF pl dy) (g2.map fun b=>⟨b,0,none⟩) (scnF pl dy).loads.length c3 (g6.map fun b=>⟨b,0,none⟩) (scnF pl dy).stands.length c7 (g10.map fun b=>⟨b,0,none⟩) (scnF pl dy).spells.length c11 (crtF pl dy) (g14.map fun b=>⟨b,0,none⟩) (crtF pl dy).length c15 ⟨⟨(hI.rowCells 1 rfl r5),rfl,(hI.rowCells 2 rfl r9),rfl,(hI.rowCells 3 rfl r13),rfl,(by omega),(by omega),(by omega)⟩,(hI.rowCells 4 rfl r17),rfl,r17.cap,(by omega),(by omega),(by omega),(by omega)⟩ (scn_ok (dayI_ok h2).1 dy)) ?_ ?_)
  ·intro h3 w hI
   refine seq_nil (wp_condT rfl (wp_seq (rgn rfl (pu (.slice none 0 0) rfl (pu (iv 15) rfl (seq_nil (wp_ret ?_)))))))
   have hI:=hI.nilRow 3
   have e:clashC pl dy=([],15):=by simp [clashC,h2,h3]
   exact ⟨.tuple #[.slice none 0 0,iv 15],Ret.r2 rfl rfl rfl,(by rw [e]; exact ⟨.slice none 0 0,rfl,none,0,[],rfl,hI.pickL [0] (by decide) rfl,Row.nil_ 1⟩)⟩
  ·intro h4 w hI
   refine seq_nil (wp_condF rfl (wp_skip (wp_seq (rgn rfl (pu (.slice none 0 0) rfl (seq_nil (wp_seq (rgn rfl (seq_c (s_loadK hI 0 7 [iv (scnF pl dy).lo,iv (scnF pl dy).hi,slv g2 (scnF pl dy).loads.length c3,slv g6 (scnF pl dy).stands.length c7,slv g10 (scnF pl dy).spells.length c11,iv (scnF pl dy).geese,slv g14 (crtF pl dy).length c15] Tryz.isAgg116 Tryz.sizeOf116 rfl rfl rfl rfl ?_))))))))))
   refine seq_c (s_call 90 [.agg #[iv (scnF pl dy).lo,iv (scnF pl dy).hi,slv g2 (scnF pl dy).loads.length c3,slv g6 (scnF pl dy).stands.length c7,slv g10 (scnF pl dy).spells.length c11,iv (scnF pl dy).geese,slv g14 (crtF pl dy).length c15]] (by kernel_rfl) (sourcesOf_c _ (scnF pl dy) (g2.map fun b=>⟨b,0,none⟩) (scnF pl dy).loads.length c3 (g6.map fun b=>⟨b,0,none⟩) (scnF pl dy).stands.length c7 (g10.map fun b=>⟨b,0,none⟩) (scnF pl dy).spells.length c11 (crtF pl dy) (g14.map fun b=>⟨b,0,none⟩) (crtF pl dy).length c15 ⟨⟨(hI.rowCells 1 rfl r5),rfl,(hI.rowCells 2 rfl r9),rfl,(hI.rowCells 3 rfl r13),rfl,(by omega),(by omega),(by omega)⟩,(hI.rowCells 4 rfl r17),rfl,r17.cap,(by omega),(by omega),(by omega),(by omega)⟩) ?_)
   rintro _ w' ⟨mb19,es20,ck21,rfl,hN,ho22,hT23⟩
   replace hI:=hI.join hN; clear hN; revert hI; generalize w'=w; intro hI
   have hkp:=keys_perm (srcL_nodup (dayI_ok h2).1 dy) ho22 hT23; have hkl:=hkp.length_eq; have hkl2:(srcL (scnF pl dy)).length=((scnF pl dy)).loads.length+((scnF pl dy)).stands.length:=by simp [srcL]
   rw [List.length_map] at hkl
   refine pu (.map (some mb19)) rfl (seq_nil (wp_seq (wp_seq (rgn rfl (pu (.map (some mb19)) rfl (seq_c (s_callNew hI 91 [.map (some mb19)] (by kernel_rfl) (falling_c _ mb19 ck21 es20 (hI.has 0 _ _ rfl).1 ho22 (by omega)) ?_)))))))
   intro g24 c25 cl26 w hI r27
   replace r27:=r27.to (Y:=fallF (scnF pl dy)) (by rw [fallF,sortM_perm hkp]) rfl
   have r27:Row 1 g24 (es20).length c25 cl26 (flat eInt (fallF (scnF pl dy))):=r27
   refine pu (iv (((es20).length:Nat):Int)) (by kernel_rfl) (pu (iv 0) rfl (seq_nil (wp_block ?_)))
   have hfl:(fallF (scnF pl dy)).length=(es20).length:=(r27.n_eq eInt_len (by decide)).symm
   have hI:=hI.nilRow 3
   refine wp_loop (fun m ρ w=>∃ (k:Nat) (esk:List En) (ckk:Nat) (S:Int→Bool) (out:List Int) (nn:Nat) (gg:Option Nat) (cc:Nat) (ccl:List Value),Agree ρ [(7,.pointer (some ⟨b18,0,none⟩)),(8,slv gg nn cc),(9,.map (some mb19)),(26,slv g24 (es20).length c25),(27,iv ((es20).length:Int)),(28,iv (k:Int))]∧Inv []  w0 w [(gg,blk ccl 3),(g24,blk cl26 3),(some mb19,mobj esk ckk),(some b18,blk [iv (scnF pl dy).lo,iv (scnF pl dy).hi,slv g2 (scnF pl dy).loads.length c3,slv g6 (scnF pl dy).stands.length c7,slv g10 (scnF pl dy).spells.length c11,iv (scnF pl dy).geese,slv g14 (crtF pl dy).length c15] 116),(g2,blk cl4 30),(g6,blk cl8 31),(g10,blk cl12 33),(g14,blk cl16 30),(some b1,blk [iv pl.lo,iv pl.hi,.slice pA1 pn1 pc1,.slice pA2 pn2 pc2,.slice pA3 pn3 pc3,iv pl.geese] 28)]∧(k≤(es20).length)∧(MOk esk ckk)∧(∀ j,mget esk j=if S j then some (.bool true) else none)∧(clashF (scnF pl dy) (crtF pl dy) ((fallF (scnF pl dy)).take k)=(S,out))∧(nn≤k)∧(Row 1 gg (nn) cc ccl (flat eInt (out)))∧m=(es20).length - k) (m:=(es20).length - 0) ⟨0,es20,ck21,srcB (scnF pl dy),[],0,none,0,[],⟨rfl,rfl,rfl,rfl,rfl,rfl,trivial⟩,hI.pickL [0,1,2,3,4,5,6,7,8] (by decide) rfl,(by omega),ho22,hT23,rfl,(by omega),(Row.nil_ 1),rfl⟩ ?_
   rintro m ρ w ⟨k,esk,ckk,S,out,nn,gg,cc,ccl,hag,hI,hk,hok_k,hTk,hfold,hnn,hrr,hm⟩
   obtain ⟨ρ,rfl⟩:=hag.form; clear hag
   refine wp_seq (rgn rfl (seq_c (s_lss rfl rfl ?_ ?_)))
   ·intro h5
    refine seq_nil (wp_seq (wp_condT rfl (wp_skip (wp_seq (wp_block ?_)))))
    refine wp_seq (rgn rfl ?_)
    obtain ⟨x28,hx29⟩:=get_lt (l:=fallF (scnF pl dy)) (i:=k) (by omega)
    obtain ⟨b30,rfl,he31⟩:=r27.at_ eInt_len (by decide) hx29
    refine seq_c (s_indexR k Tryz.underlying41 Tryz.sizeOf3 rfl rfl rfl (by omega) ?_)
    refine seq_c (s_loadR1 hI 1 (iv x28) Tryz.isAgg3 rfl rfl (he31 0 _ rfl) ?_)
    refine pu (iv x28) rfl (seq_nil (wp_seq (rgn rfl (pu (.map (some mb19)) rfl (pu (iv x28) rfl (seq_c (s_delete hI Tryz.underlying103 Tryz.underlying3 2 rfl rfl rfl hok_k ?_)))))))
    intro es32 w hI ho33 hg34
    have hT35:∀ j,mget es32 j=if (fun j=>if j=x28 then false else S j) j then some (.bool true) else none:=fun j=>by rw [hg34 j]; show _=if (if j=x28 then false else S j)=true then some (Value.bool true) else none; by_cases hj:j=x28; (rw [if_pos hj,if_pos hj]; rfl); (rw [if_neg hj,if_neg hj]; exact hTk j)
    refine seq_nil (wp_seq (rgn rfl (seq_c (s_loadK hI 3 7 [iv (scnF pl dy).lo,iv (scnF pl dy).hi,slv g2 (scnF pl dy).loads.length c3,slv g6 (scnF pl dy).stands.length c7,slv g10 (scnF pl dy).spells.length c11,iv (scnF pl dy).geese,slv g14 (crtF pl dy).length c15] Tryz.isAgg116 Tryz.sizeOf116 rfl rfl rfl rfl ?_))))
    refine pu (.map (some mb19)) rfl ?_
    obtain ⟨S9,hS9⟩:∃ z:Int→Bool,z=(fun j=>if j=x28 then false else S j):=⟨_,rfl⟩
    have hT9:∀ j,mget es32 j=if S9 j then some (.bool true) else none:=by rw [hS9]; exact hT35
    refine seq_c (s_call 92 [.agg #[iv (scnF pl dy).lo,iv (scnF pl dy).hi,slv g2 (scnF pl dy).loads.length c3,slv g6 (scnF pl dy).stands.length c7,slv g10 (scnF pl dy).spells.length c11,iv (scnF pl dy).geese,slv g14 (crtF pl dy).length c15],.map (some mb19)] (by kernel_rfl) (by_c _ (scnF pl dy) (g2.map fun b=>⟨b,0,none⟩) (scnF pl dy).loads.length c3 (g6.map fun b=>⟨b,0,none⟩) (scnF pl dy).stands.length c7 (g10.map fun b=>⟨b,0,none⟩) (scnF pl dy).spells.length c11 (crtF pl dy) (g14.map fun b=>⟨b,0,none⟩) (crtF pl dy).length c15 ⟨⟨(hI.rowCells 4 rfl r5),rfl,(hI.rowCells 5 rfl r9),rfl,(hI.rowCells 6 rfl r13),rfl,(by omega),(by omega),(by omega)⟩,(hI.rowCells 7 rfl r17),rfl,r17.cap,(by omega),(by omega),(by omega),(by omega)⟩ mb19 ckk es32 S9 (hI.has 2 _ _ rfl).1 (hS_of hT9)) ?_)
    rintro _ w' ⟨g36,c37,cl38,g40,c41,cl42,rfl,hN,r39,r43⟩
    replace hI:=hI.join hN; clear hN; revert hI; generalize w'=w; intro hI
    have hb9:(byP (scnF pl dy) S9).stands.length≤(scnF pl dy).stands.length:=List.length_filter_le _ _; have hb8:=byC_len (crtF pl dy) S9
    refine seq_c (s_callb hI 87 [.agg #[iv (scnF pl dy).lo,iv (scnF pl dy).hi,slv g2 (scnF pl dy).loads.length c3,slv g36 ((byP (scnF pl dy) S9).stands.length) c37,slv g10 (scnF pl dy).spells.length c11,iv (scnF pl dy).geese,slv g40 ((byC (crtF pl dy) S9).length) c41]] ((stoodF (byP (scnF pl dy) S9) (byC (crtF pl dy) S9)).2) (by kernel_rfl) (sound_c _ (byP (scnF pl dy) S9) (g2.map fun b=>⟨b,0,none⟩) (scnF pl dy).loads.length c3 (g36.map fun b=>⟨b,0,none⟩) ((byP (scnF pl dy) S9).stands.length) c37 (g10.map fun b=>⟨b,0,none⟩) (scnF pl dy).spells.length c11 (byC (crtF pl dy) S9) (g40.map fun b=>⟨b,0,none⟩) ((byC (crtF pl dy) S9).length) c41 ⟨⟨(hI.rowCells 6 rfl r5),rfl,(hI.rowCells 0 rfl r39),rfl,(hI.rowCells 8 rfl r13),rfl,(by omega),(by omega),(by omega)⟩,(hI.rowCells 1 rfl r43),rfl,r43.cap,(by omega),(by omega),(by omega),(by omega)⟩ (by_ok (scn_ok (dayI_ok h2).1 dy) S9)) ?_ ?_)
    ·intro h6 w hI
     refine seq_nil (wp_condT rfl (wp_seq (rgn rfl (pu (.map (some mb19)) rfl (pu (iv x28) rfl (seq_c (s_mapUpdate hI Tryz.underlying103 Tryz.underlying3 4 rfl rfl rfl rfl ho33 ?_)))))))
     intro es44 ck45 w hI ho46 hg47
     have hS48:∀ j,(mget es44 j).getD (.bool false)=.bool ((fun j=>if j=x28 then true else (fun j=>if j=x28 then false else S j) j) j):=fun j=>by rw [hg47 j]; show _=Value.bool (if j=x28 then true else (fun j=>if j=x28 then false else S j) j); by_cases hj:j=x28; (rw [if_pos hj,if_pos hj]; rfl); (rw [if_neg hj,if_neg hj]; exact (hS_of hT35) j)
     have hT49:∀ j,mget es44 j=if (fun j=>if j=x28 then true else (fun j=>if j=x28 then false else S j) j) j then some (.bool true) else none:=fun j=>by rw [hg47 j]; show _=if (if j=x28 then true else (fun j=>if j=x28 then false else S j) j)=true then some (Value.bool true) else none; by_cases hj:j=x28; (rw [if_pos hj,if_pos hj]; rfl); (rw [if_neg hj,if_neg hj]; exact hT35 j)
     refine seq_nil (rgn rfl (pu (slv gg nn cc) rfl (pu (iv x28) rfl (seq_c (s_new hI [iv x28] 3 (fun b=>slv (some b) 1 1) (by kernel_rfl) ?_)))))
     intro b50 w hI
     refine seq_c (s_app hI Tryz.underlying41 (z:=iv 0) (k:=1) (bytes:=8) rfl rfl rfl 3 rfl rfl hrr [iv x28] rfl rfl (hI.cells 0 (off:=0) rfl (fun j u h=>by rw [Nat.zero_add]; exact h)) (by simp [Value.oneCell']) (by omega) (by omega) ?_)
     intro g51 c52 cl53 w hI r54
     have r54:Row 1 g51 (nn+1) c52 cl53 (flat eInt (out++[x28])):=r54.snoc _ rfl
     refine pu (slv g51 (nn+1) c52) rfl (seq_nil (rgn rfl (seq_c (s_add rfl rfl (by omega) ?_))))
     refine pu (iv ((k:Int)+1)) rfl (seq_nil ?_)
     exact ⟨rfl,_,(by omega),⟨k+1,es44,ck45,(fun j=>if j=x28 then true else (fun j=>if j=x28 then false else S j) j),out++[x28],nn+1,g51,c52,cl53,⟨rfl,rfl,rfl,rfl,rfl,rfl,trivial⟩,hI.pickL [3,4,5,6,7,8,9,10,11] (by decide) rfl,(by omega),ho46,hT49,(by rw [clash_step hx29,hfold,clashStep]; dsimp only; rw [hS9] at h6; rw [if_pos h6]),(by omega),r54,rfl⟩⟩
    ·intro h7 w hI
     refine seq_nil (wp_condF rfl (wp_skip (rgn rfl (seq_c (s_add rfl rfl (by omega) ?_)))))
     refine pu (iv ((k:Int)+1)) rfl (seq_nil ?_)
     exact ⟨rfl,_,(by omega),⟨k+1,es32,ckk,(fun j=>if j=x28 then false else S j),out,nn,gg,cc,ccl,⟨rfl,rfl,rfl,rfl,rfl,rfl,trivial⟩,hI.pickL [2,3,4,5,6,7,8,9,10] (by decide) rfl,(by omega),ho33,hT35,(by rw [clash_step hx29,hfold,clashStep]; dsimp only; rw [hS9] at h7; rw [if_neg (by rw [h7]; decide)]),(by omega),hrr,rfl⟩⟩
   ·intro h8
    refine seq_nil (wp_seq (wp_condF rfl (wp_exit ?_)))
    refine wp_seq (rgn rfl (pu (slv gg nn cc) rfl (seq_c (s_callTurns hI 93 [slv gg nn cc] 0 rfl (by kernel_rfl) (ReverseInts_c _ gg nn cc ccl out (hI.hasg 0 rfl) hrr (by omega)) ?_))))
    intro cl55 w hI r56
    have r56:Row 1 gg (nn) cc cl55 (flat eInt (out).reverse):=r56
    refine seq_nil (wp_seq (rgn rfl (pu (slv gg nn cc) rfl (pu (slv gg nn cc) rfl (pu (iv 0) rfl (seq_nil (wp_ret ?_)))))))
    rw [List.take_of_length_le (by omega)] at hfold
    have e:clashC pl dy=(out.reverse,0):=by simp [clashC,h2,h4,hfold]
    exact ⟨.tuple #[slv gg nn cc,iv 0],Ret.r2 rfl rfl rfl,(by rw [e]; exact ⟨slv gg nn cc,rfl,gg,cc,cl55,(by rw [show nn=out.reverse.length from r56.n_eq eInt_len (by decide)]),hI.pickL [0] (by decide) rfl,r56.to rfl (r56.n_eq eInt_len (by decide))⟩)⟩

end Go.K
