import Derived.Test.YtinkdlmimiefaaaGreatProg
import Derived.Test.YtinkdlmimiefaaaGreatPM21
namespace Go.K
open Go.Proofs.Tryz
open Go.Proofs Go.RowKit
set_option linter.unusedVariables false
set_option linter.unusedSimpArgs false
set_option maxRecDepth 100000
attribute [local irreducible] Seq cw cx fl opX

theorem by_ok {p:Pl} {cs:List Ld} (h:ScOk p cs) (S:Int→Bool):ScOk (byP p S) (byC cs S):=by
  refine ⟨h.sown,fun x hx=>h.st x (List.mem_filter.1 hx).1,fun x hx=>?_⟩
  obtain ⟨y,hy,rfl⟩:=List.mem_map.1 hx
  split
  · exact h.ld y hy
  exact ⟨by show (0:Int)≤0; decide,by show (0:Int)≤10000; decide,by show (0:Int)≤10000; decide,by show (10000:Int)≤10000; decide⟩
def srcL (q:Pl):List Int:=q.loads.map Ld.src++q.stands.map Ld.src
def fallF (q:Pl):List Int:=(js (srcL q)).reverse
def clashStep (q:Pl) (cs:List Ld) (st:(Int→Bool) × List Int) (s:Int):(Int→Bool) × List Int :=
  let S':=fun j=>if j=s then false else st.1 j
  if (ay (byP q S') (byC cs S')).2 then (fun j=>if j=s then true else S' j,st.2++[s]) else (S',st.2)
def clashF (q:Pl) (cs:List Ld) (ds:List Int):(Int→Bool) × List Int:=ds.foldl (clashStep q cs) (srcB q,[])
theorem clash_step {q:Pl} {cs:List Ld} {ds:List Int} {k:Nat} {s:Int} (hs:ds[k]?=some s):clashF q cs (ds.take (k+1))=clashStep q cs (clashF q cs (ds.take k)) s:=by
  rw [fe hs,clashF,List.foldl_append]; rfl
def clashC (p:Pl) (dy:Int):List Int × Int:=if fi p dy=0 then if (ay (ae p dy) (ax p dy)).2 then ([],15) else ((clashF (ae p dy) (ax p dy) (fallF (ae p dy))).2.reverse,0) else ([],fi p dy)
theorem mget_mem:∀ {es:List En} {j:Int},j∈es.map En.key↔el es j≠none
  | [],j=>by simp [el]
  | e :: es,j=>by
    rw [List.map_cons,List.mem_cons,el]
    split
    · rename_i h; simp [h]
    rename_i h; rw [← mget_mem]; simp [h]
theorem keys_perm {q:Pl} {es:List En} {ck:Nat} (hn:(srcL q).Nodup) (ho:MOk es ck) (hT:∀ j,el es j=if srcB q j then some kg else none):(es.map En.key).Perm (srcL q):=by
  refine (List.perm_ext_iff_of_nodup ho.keys hn).2 fun j=>?_
  rw [mget_mem,hT j]
  by_cases h:srcB q j=true
  · rw [if_pos h]; simpa [srcB,srcL] using h
  rw [if_neg h]; simpa [srcB,srcL] using h
theorem srcL_nodup {p:Pl} (h:dw p=true) (dy:Int):(srcL (ae p dy)).Nodup:=by
  have hr:=(refOk_keep ((ek p).1 h) (fun y=>bo y.k y.u dy)).nd
  unfold la at hr
  rw [List.nodup_append] at hr
  exact hr.1
set_option maxHeartbeats 3200000 in
theorem Clash_c (w0:World) (pl:Pl) (p:Option Addr) (r B:Nat) (s:Option Addr) (t C:Nat) (x:Option Addr) (y D:Nat) (hP:gz w0 pl p r s t x y) (dy:Int):bn Tryz.prog 32 [.agg (qn6 pl.lo pl.hi p r B s t C x y D pl.geese).toArray,.int .i64 dy] w0 fun v w=>∃ v1,v=.tuple #[v1,.int .i64 (clashC pl dy).2]∧Gives 1 3 none (clashC pl dy).1.length (al dv (clashC pl dy).1) w0 v1 w:=by
 have hm1:=hP.m1; have hm2:=hP.m2; have hm3:=hP.m3
 refine az (n:=48) func32 rfl ntmps32 rfl ?_
 have hI:=Inv.start w0
 refine ab (rgn rfl (ac (ca hI (qn6 pl.lo pl.hi p r B s t C x y D pl.geese) rfl fun b1 w hI=>pu (.slice none 0 0) rfl (pu (iv 0) rfl (aa (ab (ab (rgn rfl (ac (ar hI 0 6 (qn6 pl.lo pl.hi p r B s t C x y D pl.geese) isAgg28 sizeOf28 rfl rfl rfl rfl ?_))))))))))
 refine pu (iv dy) rfl (ac (bg hI 85 [.agg (qn6 pl.lo pl.hi p r B s t C x y D pl.geese).toArray,iv dy] (iv (fi pl dy)) (by kernel_rfl) (checkDay_c _ pl p r B s t C x y D (hP.inv0 hI) dy) fun w hI=>pu (iv (fi pl dy)) rfl (aa (ab (rgn rfl (pu (iv (fi pl dy)) rfl (ac (de rfl rfl ?_ ?_))))))))
 ·intro h1
  refine aa (ah rfl (ab (rgn rfl (pu (iv (fi pl dy)) rfl (pu (.slice none 0 0) rfl (pu (iv (fi pl dy)) rfl (aa (aj ?_))))))))
  have hI:=hI.nilRow 3
  have e:clashC pl dy=([],fi pl dy):=by simp [clashC,h1]
  exact ⟨.tuple #[.slice none 0 0,iv (fi pl dy)],Ret.r2 rfl rfl rfl,(by rw [e]; exact ⟨.slice none 0 0,rfl,none,0,[],rfl,hI.pk [0] rfl rfl,Row.nil_ 1⟩)⟩
 intro h2
 refine aa (ai rfl (ak (ab (rgn rfl (ac (ar hI 0 6 (qn6 pl.lo pl.hi p r B s t C x y D pl.geese) isAgg28 sizeOf28 rfl rfl rfl rfl ?_))))))
 refine pu (iv dy) rfl ?_
 have hsl:=jn pl dy; obtain ⟨hsl1,hsl2,hsl3⟩:=hsl; have hsc:=ij pl dy; have hok_:=eo (dayI_ok h2).1; have hok1:=hok_.s1; have hok2:=hok_.s2; have hok3:=hok_.s3
 refine ac (jh hI (q:=ae pl dy) (cs:=ax pl dy) 86 [.agg (qn6 pl.lo pl.hi p r B s t C x y D pl.geese).toArray,iv dy] (by kernel_rfl) (sceneOf_c _ pl p r B s t C x y D (hP.inv0 hI) (eo (dayI_ok h2).1) dy) fun g2 c3 cl4 g6 c7 cl8 d f a2 g o a3 w hI r5 r9 H E=>ac (bh hI (qn7 0 0 none 0 0 none 0 0 none 0 0 0 none 0 0) zeroValue116 rfl fun Q w hI=>ac (aq hI 0 7 (qs7 (ae pl dy) g2 c3 g6 c7 d f g (ax pl dy) o) sizeOf116 rfl rfl rfl rfl rfl (kh rfl) fun w hI=>aa (ab (ab (rgn rfl (ac (ar hI 0 7 (qs7 (ae pl dy) g2 c3 g6 c7 d f g (ax pl dy) o) isAgg116 sizeOf116 rfl rfl rfl rfl ?_))))))))
 refine ac (fc hI 87 [.agg (qs7 (ae pl dy) g2 c3 g6 c7 d f g (ax pl dy) o).toArray] ((ay (ae pl dy) (ax pl dy)).2) (by kernel_rfl) (sound_c _ (ae pl dy) (g2.map fun b=>⟨b,0,none⟩) (ae pl dy).loads.length c3 (g6.map fun b=>⟨b,0,none⟩) (ae pl dy).stands.length c7 (d.map fun b=>⟨b,0,none⟩) (ae pl dy).spells.length f (ax pl dy) (g.map fun b=>⟨b,0,none⟩) (ax pl dy).length o ⟨⟨(hI.rowCells 1 rfl r5),rfl,(hI.rowCells 2 rfl r9),rfl,(hI.rowCells 3 rfl H),rfl,(by omega),(by omega),(by omega)⟩,(hI.rowCells 4 rfl E),rfl,E.cap,(by omega),(by omega),(by omega),(by omega)⟩ (scn_ok (dayI_ok h2).1 dy)) ?_ ?_)
 ·intro h3 w hI
  refine aa (ah rfl (ab (rgn rfl (pu (.slice none 0 0) rfl (pu (iv 15) rfl (aa (aj ?_)))))))
  have hI:=hI.nilRow 3
  have e:clashC pl dy=([],15):=by simp [clashC,h2,h3]
  exact ⟨.tuple #[.slice none 0 0,iv 15],Ret.r2 rfl rfl rfl,(by rw [e]; exact ⟨.slice none 0 0,rfl,none,0,[],rfl,hI.pk [0] rfl rfl,Row.nil_ 1⟩)⟩
 intro h4 w hI
 refine aa (ai rfl (ak (ab (rgn rfl (pu (.slice none 0 0) rfl (aa (ab (rgn rfl (ac (ar hI 0 7 (qs7 (ae pl dy) g2 c3 g6 c7 d f g (ax pl dy) o) isAgg116 sizeOf116 rfl rfl rfl rfl ?_))))))))))
 refine ac (co 90 [.agg (qs7 (ae pl dy) g2 c3 g6 c7 d f g (ax pl dy) o).toArray] (by kernel_rfl) (sourcesOf_c _ (ae pl dy) (g2.map fun b=>⟨b,0,none⟩) (ae pl dy).loads.length c3 (g6.map fun b=>⟨b,0,none⟩) (ae pl dy).stands.length c7 (d.map fun b=>⟨b,0,none⟩) (ae pl dy).spells.length f (ax pl dy) (g.map fun b=>⟨b,0,none⟩) (ax pl dy).length o ⟨⟨(hI.rowCells 1 rfl r5),rfl,(hI.rowCells 2 rfl r9),rfl,(hI.rowCells 3 rfl H),rfl,(by omega),(by omega),(by omega)⟩,(hI.rowCells 4 rfl E),rfl,E.cap,(by omega),(by omega),(by omega),(by omega)⟩) ?_)
 rintro _ w' ⟨mb19,A,R,rfl,hN,J,hT23⟩
 replace hI:=hI.join hN; clear hN; revert hI; generalize w'=w; intro hI
 have hkp:=keys_perm (srcL_nodup (dayI_ok h2).1 dy) J hT23; have hkl:=hkp.length_eq; have hkl2:(srcL (ae pl dy)).length=((ae pl dy)).loads.length+((ae pl dy)).stands.length:=by simp [srcL]
 rw [List.length_map] at hkl
 refine pu (.map (some mb19)) rfl (aa (ab (ab (rgn rfl (pu (.map (some mb19)) rfl (ac (gj hI 91 [.map (some mb19)] (by kernel_rfl) (falling_c _ mb19 R A (hI.has 0 _ _ rfl).1 J (by omega)) ?_)))))))
 intro K c25 T w hI F
 replace F:=F.to (Y:=fallF (ae pl dy)) (by rw [fallF,sortM_perm hkp]) rfl
 have F:Row 1 K (A).length c25 T (al dv (fallF (ae pl dy))):=F
 refine pu (iv (((A).length:Nat):Int)) (by kernel_rfl) (pu (iv 0) rfl (aa (au ?_)))
 have hfl:(fallF (ae pl dy)).length=(A).length:=(F.n_eq cy (by decide)).symm
 have hI:=hI.nilRow 3
 refine cb (fun m ρ w=>∃ (k:Nat) (esk:List En) (ckk:Nat) (S:Int→Bool) (out:List Int) (nn:Nat) (gg:Option Nat) (cc:Nat) (ccl:List Value),cd ρ [(7,.pointer (some ⟨Q,0,none⟩)),(8,slv gg nn cc),(9,.map (some mb19)),(26,slv K (A).length c25),(27,iv ((A).length:Int)),(28,iv (k:Int))]∧Inv []  w0 w [(gg,blk ccl 3),(K,blk T 3),(some mb19,fp esk ckk),(some Q,blk (qs7 (ae pl dy) g2 c3 g6 c7 d f g (ax pl dy) o) 116),(g2,blk cl4 30),(g6,blk cl8 31),(d,blk a2 33),(g,blk a3 30),(some b1,blk (qn6 pl.lo pl.hi p r B s t C x y D pl.geese) 28)]∧(k≤(A).length)∧(MOk esk ckk)∧(∀ j,el esk j=if S j then some kg else none)∧(clashF (ae pl dy) (ax pl dy) ((fallF (ae pl dy)).take k)=(S,out))∧(nn≤k)∧(Row 1 gg (nn) cc ccl (al dv (out)))∧m=(A).length - k) (m:=(A).length - 0) ⟨0,A,R,srcB (ae pl dy),[],0,none,0,[],⟨rfl,rfl,rfl,rfl,rfl,rfl,trivial⟩,hI.pk [0,1,2,3,4,5,6,7,8] rfl rfl,(by omega),J,hT23,rfl,(by omega),(Row.nil_ 1),rfl⟩ ?_
 rintro m ρ w ⟨k,esk,ckk,S,out,nn,gg,cc,ccl,hag,hI,hk,hok_k,hTk,hfold,hnn,hrr,hm⟩
 obtain ⟨ρ,rfl⟩:=hag.form; clear hag
 refine ab (rgn rfl (ac (cm rfl rfl ?_ ?_)))
 ·intro h5
  refine aa (ab (ah rfl (ak (ab (au ?_)))))
  refine ab (rgn rfl ?_)
  obtain ⟨a,L⟩:=bq (l:=fallF (ae pl dy)) (i:=k) (by omega)
  obtain ⟨a8,rfl,a4⟩:=F.at_ cy (by decide) L
  refine ac (be k underlying41 sizeOf3 rfl rfl rfl (by omega) ?_)
  refine ac (db hI 1 (iv a) isAgg3 rfl rfl (a4 0 _ rfl) ?_)
  refine pu (iv a) rfl (aa (ab (rgn rfl (pu (.map (some mb19)) rfl (pu (iv a) rfl (ac (s_delete hI underlying103 underlying3 2 rfl rfl rfl hok_k ?_)))))))
  intro I w hI U hg34
  have hT35:∀ j,el I j=if (fun j=>if j=a then false else S j) j then some kg else none:=fun j=>by rw [hg34 j]; show _=if (if j=a then false else S j)=true then some (Value.bool true) else none; by_cases hj:j=a; (rw [if_pos hj,if_pos hj]; rfl); (rw [if_neg hj,if_neg hj]; exact hTk j)
  refine aa (ab (rgn rfl (ac (ar hI 3 7 (qs7 (ae pl dy) g2 c3 g6 c7 d f g (ax pl dy) o) isAgg116 sizeOf116 rfl rfl rfl rfl ?_))))
  refine pu (.map (some mb19)) rfl ?_
  obtain ⟨S9,hS9⟩:∃ z:Int→Bool,z=(fun j=>if j=a then false else S j):=⟨_,rfl⟩
  have hT9:∀ j,el I j=if S9 j then some kg else none:=by rw [hS9]; exact hT35
  refine ac (co 92 [.agg (qs7 (ae pl dy) g2 c3 g6 c7 d f g (ax pl dy) o).toArray,.map (some mb19)] (by kernel_rfl) (by_c _ (ae pl dy) (g2.map fun b=>⟨b,0,none⟩) (ae pl dy).loads.length c3 (g6.map fun b=>⟨b,0,none⟩) (ae pl dy).stands.length c7 (d.map fun b=>⟨b,0,none⟩) (ae pl dy).spells.length f (ax pl dy) (g.map fun b=>⟨b,0,none⟩) (ax pl dy).length o ⟨⟨(hI.rowCells 4 rfl r5),rfl,(hI.rowCells 5 rfl r9),rfl,(hI.rowCells 6 rfl H),rfl,(by omega),(by omega),(by omega)⟩,(hI.rowCells 7 rfl E),rfl,E.cap,(by omega),(by omega),(by omega),(by omega)⟩ mb19 ckk I S9 (hI.has 2 _ _ rfl).1 (hS_of hT9)) ?_)
  rintro _ w' ⟨V,W,a9,X,c41,aA,rfl,hN,a5,Z⟩
  replace hI:=hI.join hN; clear hN; revert hI; generalize w'=w; intro hI
  have hb9:(byP (ae pl dy) S9).stands.length≤(ae pl dy).stands.length:=List.length_filter_le _ _; have hb8:=byC_len (ax pl dy) S9
  refine ac (fc hI 87 [.agg #[iv (ae pl dy).lo,iv (ae pl dy).hi,slv g2 (ae pl dy).loads.length c3,slv V ((byP (ae pl dy) S9).stands.length) W,slv d (ae pl dy).spells.length f,iv (ae pl dy).geese,slv X ((byC (ax pl dy) S9).length) c41]] ((ay (byP (ae pl dy) S9) (byC (ax pl dy) S9)).2) (by kernel_rfl) (sound_c _ (byP (ae pl dy) S9) (g2.map fun b=>⟨b,0,none⟩) (ae pl dy).loads.length c3 (V.map fun b=>⟨b,0,none⟩) ((byP (ae pl dy) S9).stands.length) W (d.map fun b=>⟨b,0,none⟩) (ae pl dy).spells.length f (byC (ax pl dy) S9) (X.map fun b=>⟨b,0,none⟩) ((byC (ax pl dy) S9).length) c41 ⟨⟨(hI.rowCells 6 rfl r5),rfl,(hI.rowCells 0 rfl a5),rfl,(hI.rowCells 8 rfl H),rfl,(by omega),(by omega),(by omega)⟩,(hI.rowCells 1 rfl Z),rfl,Z.cap,(by omega),(by omega),(by omega),(by omega)⟩ (by_ok (scn_ok (dayI_ok h2).1 dy) S9)) ?_ ?_)
  ·intro h6 w hI
   refine aa (ah rfl (ab (rgn rfl (pu (.map (some mb19)) rfl (pu (iv a) rfl (ac (ii hI underlying103 underlying3 4 rfl rfl rfl rfl U ?_)))))))
   intro M a6 w hI a7 hg47
   have hS48:∀ j,(el M j).getD kf=.bool ((fun j=>if j=a then true else (fun j=>if j=a then false else S j) j) j):=fun j=>by rw [hg47 j]; show _=Value.bool (if j=a then true else (fun j=>if j=a then false else S j) j); by_cases hj:j=a; (rw [if_pos hj,if_pos hj]; rfl); (rw [if_neg hj,if_neg hj]; exact (hS_of hT35) j)
   have hT49:∀ j,el M j=if (fun j=>if j=a then true else (fun j=>if j=a then false else S j) j) j then some kg else none:=fun j=>by rw [hg47 j]; show _=if (if j=a then true else (fun j=>if j=a then false else S j) j)=true then some (Value.bool true) else none; by_cases hj:j=a; (rw [if_pos hj,if_pos hj]; rfl); (rw [if_neg hj,if_neg hj]; exact hT35 j)
   refine aa (rgn rfl (pu (slv gg nn cc) rfl (pu (iv a) rfl (ac (fu hI [iv a] 3 (fun b=>slv (some b) 1 1) (by kernel_rfl) fun aB w hI=>ac (s_app hI underlying41 (z:=iv 0) (k:=1) (bytes:=8) rfl rfl rfl 3 rfl rfl hrr [iv a] rfl rfl (hI.cells 0 (off:=0) rfl (fun j u h=>by rw [Nat.zero_add]; exact h)) (by simp [Value.oneCell']) (by omega) (by omega) ?_))))))
   intro N O a0 w hI P
   have P:Row 1 N (nn+1) O a0 (al dv (out++[a])):=P.snoc _ rfl
   refine pu (slv N (nn+1) O) rfl (aa (rgn rfl (ac (cj rfl rfl (by omega) ?_))))
   refine pu (iv ((k:Int)+1)) rfl (aa ?_)
   exact ⟨rfl,_,(by omega),⟨k+1,M,a6,(fun j=>if j=a then true else (fun j=>if j=a then false else S j) j),out++[a],nn+1,N,O,a0,⟨rfl,rfl,rfl,rfl,rfl,rfl,trivial⟩,hI.pk [3,4,5,6,7,8,9,10,11] rfl rfl,(by omega),a7,hT49,(by rw [clash_step L,hfold,clashStep]; dsimp only; rw [hS9] at h6; rw [if_pos h6]),(by omega),P,rfl⟩⟩
  intro h7 w hI
  refine aa (ai rfl (ak (rgn rfl (ac (cj rfl rfl (by omega) ?_)))))
  refine pu (iv ((k:Int)+1)) rfl (aa ?_)
  exact ⟨rfl,_,(by omega),⟨k+1,I,ckk,(fun j=>if j=a then false else S j),out,nn,gg,cc,ccl,⟨rfl,rfl,rfl,rfl,rfl,rfl,trivial⟩,hI.pk [2,3,4,5,6,7,8,9,10] rfl rfl,(by omega),U,hT35,(by rw [clash_step L,hfold,clashStep]; dsimp only; rw [hS9] at h7; rw [if_neg (by rw [h7]; decide)]),(by omega),hrr,rfl⟩⟩
 intro h8
 refine aa (ab (ai rfl (bw ?_)))
 refine ab (rgn rfl (pu (slv gg nn cc) rfl (ac (ee hI 93 [slv gg nn cc] 0 rfl (by kernel_rfl) (ReverseInts_c _ gg nn cc ccl out (hI.hasg 0 rfl) hrr (by omega)) ?_))))
 intro a1 w hI G
 have G:Row 1 gg (nn) cc a1 (al dv (out).reverse):=G
 refine aa (ab (rgn rfl (pu (slv gg nn cc) rfl (pu (slv gg nn cc) rfl (pu (iv 0) rfl (aa (aj ?_)))))))
 rw [List.take_of_length_le (by omega)] at hfold
 have e:clashC pl dy=(out.reverse,0):=by simp [clashC,h2,h4,hfold]
 exact ⟨.tuple #[slv gg nn cc,iv 0],Ret.r2 rfl rfl rfl,(by rw [e]; exact ⟨slv gg nn cc,rfl,gg,cc,a1,(by rw [show nn=out.reverse.length from G.n_eq cy (by decide)]),hI.pk [0] rfl rfl,G.to rfl (G.n_eq cy (by decide))⟩)⟩

end Go.K
