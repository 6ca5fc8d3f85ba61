import Derived.Test.YtcondbkhcjgemaaGreatDoorJWg
namespace Go.K
open Go.Proofs.Tryz
open Go.Proofs Go.RowKit
set_option linter.unusedVariables false
set_option linter.unusedSimpArgs false
set_option maxRecDepth 100000
attribute [local irreducible] Seq cw cx fl opX
theorem xOO {A:Type}{Z:A→Prop}{z:Prop}(y:∀ a,Z a→z):(∃ a,Z a)→z:=fun⟨a,x⟩=>y a x
theorem xDD {A B:Type}{Z:A→B→Prop}{z:Prop}(y:∀ a b,Z a b→z):(∃ a b,Z a b)→z:=fun⟨a,b,x⟩=>y a b x
theorem xFF {A B C D:Type}{Z:A→B→C→D→Prop}{z:Prop}(y:∀ a b c d,Z a b c d→z):(∃ a b c d,Z a b c d)→z:=fun⟨a,b,c,d,x⟩=>y a b c d x
theorem xHH {A B C D E F G H:Type}{Z:A→B→C→D→E→F→G→H→Prop}{z:Prop}(y:∀ a b c d e f g h,Z a b c d e f g h→z):(∃ a b c d e f g h,Z a b c d e f g h)→z:=fun⟨a,b,c,d,e,f,g,h,x⟩=>y a b c d e f g h x
theorem xPP {A B C D E F G H I J K L M N O P:Type}{Z:A→B→C→D→E→F→G→H→I→J→K→L→M→N→O→P→Prop}{z:Prop}(y:∀ a b c d e f g h i j k l m n o p,Z a b c d e f g h i j k l m n o p→z):(∃ a b c d e f g h i j k l m n o p,Z a b c d e f g h i j k l m n o p)→z:=fun⟨a,b,c,d,e,f,g,h,i,j,k,l,m,n,o,p,x⟩=>y a b c d e f g h i j k l m n o p x
theorem xaa {p q r:Prop}(k:p→q→r):p∧q→r:=fun h=>k h.1 h.2
set_option maxHeartbeats 8000000 in
theorem L19 (w0:World) (hG:Gl w0) (N:Nat) (F:F19 N=some true):bn Tryz.prog 19 [] w0 fun v w=>v=bT∧Below w0.heap.size w0 w:=by
 refine az (n:=326) func19 rfl ntmps19 rfl ?_
 have I:=Inv.start w0
 unfold F19 at F
 refine ab (rgn (by kernel_rfl) (pu bF (by kernel_rfl) (aa (ab (rgn (by kernel_rfl) (bt F (fun BJ BK F=>?_)))))))
 obtain ⟨i,l,m,o,q,r,s,x⟩:=BJ
 refine ph (bg I 85 _ _ (by kernel_rfl) (L85 _ _ BK) fun w I=>ph (bh I _ zeroValue25 rfl fun E w I=>ph (mb I 0 _ md rfl rfl rfl rfl rfl rfl fun w I=>aa (ab (rgn (by kernel_rfl) (ph (ma I 0 mh md rfl rfl rfl (bt F (fun G BL F=>ph (co 20 _ (by kernel_rfl) (L20 _ (⟨i,l,m,o,q,r,s,x⟩:Rc) 0 (hG.up I) N _ BL) ?_))))))))))
 rintro v w ⟨hY,S,FX,rfl,hN,r7⟩
 have I:=I.join hN; clear hN
 refine pu3 (.tuple #[slv hY G.1.length S,iv G.2]) (slv hY G.1.length S) (iv G.2) (by kernel_rfl) (pu2 (slv hY G.1.length S) (iv G.2) (by kernel_rfl) (aa (ab (ab (rgn (by kernel_rfl) (pu (iv G.2) (by kernel_rfl) (ifN F (fun xE F=>?_) (fun xE F=>?_))))))))
 · cases F
 refine ph (de rfl rfl (fun h=>absurd xE h) (fun _=>pu bF (by kernel_rfl) (pup (slv hY G.1.length S) (by kernel_rfl) (pup (iv ((G.1.length:Nat):Int)) (by kernel_rfl) (ifN F (fun xF F=>?_) (fun xF F=>?_))))))
 · cases F
 refine aw (by kernel_rfl) (de rfl rfl (fun h=>absurd xF h) (fun _=>pu2 bF bF (by kernel_rfl) (pup (slv hY G.1.length S) (by kernel_rfl) (bt F (fun g eK F=>?_)))))
 obtain ⟨J,rfl,hZ⟩:=r7.at_ bk (by decide) eK
 refine aw (by kernel_rfl) (be 0 mj mc rfl rfl rfl (fa eK rfl) (aw (by kernel_rfl) (cq I 0 (qh g) me mc rfl rfl rfl hZ (pup (.agg #[iv 0,iv 21,.string (bts [50,48,53,49,32,50,48,48,97,107,121])]) (by kernel_rfl) (ifN F (fun xG F=>?_) (fun xG F=>?_))))))
 · cases F
 refine aw (by kernel_rfl) (s_neqA (b:=decide (g.no=0) && decide (g.sz=21) && decide (g.t=[50,48,53,49,32,50,48,48,97,107,121])) rfl rfl (by kernel_rfl) (fun w=>eq35 _ g.no g.sz g.t 0 21 [50,48,53,49,32,50,48,48,97,107,121] w) (fun h=>absurd xG h) (fun _=>pu2 bF bF (by kernel_rfl) (pup (slv (some J) G.1.length S) (by kernel_rfl) (bt F (fun D jY F=>?_)))))
 have r8:=r7.atS bk (by decide) jY
 refine aw (by kernel_rfl) (be 1 mj mc rfl rfl rfl (fa jY rfl) (aw (by kernel_rfl) (cq I 0 (qh D) me mc rfl rfl rfl r8 (pup (.agg #[iv 0,iv 21,.string (bts [32,32,32,48,49,32,32,32,32,101,32])]) (by kernel_rfl) (ifN F (fun xH F=>?_) (fun xH F=>?_))))))
 · cases F
 refine aw (by kernel_rfl) (s_neqA (b:=decide (D.no=0) && decide (D.sz=21) && decide (D.t=[32,32,32,48,49,32,32,32,32,101,32])) rfl rfl (by kernel_rfl) (fun w=>eq35 _ D.no D.sz D.t 0 21 [32,32,32,48,49,32,32,32,32,101,32] w) (fun h=>absurd xH h) (fun _=>pu2 bF bF (by kernel_rfl) (pup (slv (some J) G.1.length S) (by kernel_rfl) (bt F (fun C jZ F=>?_)))))
 have r9:=r7.atS bk (by decide) jZ
 refine aw (by kernel_rfl) (be 2 mj mc rfl rfl rfl (fa jZ rfl) (aw (by kernel_rfl) (cq I 0 (qh C) me mc rfl rfl rfl r9 (pup (.agg #[iv 0,iv 21,.string (bts [50,48,53,65,49,50,48,48,97,81,121])]) (by kernel_rfl) (ifN F (fun xI F=>?_) (fun xI F=>?_))))))
 · cases F
 refine aw (by kernel_rfl) (s_neqA (b:=decide (C.no=0) && decide (C.sz=21) && decide (C.t=[50,48,53,65,49,50,48,48,97,81,121])) rfl rfl (by kernel_rfl) (fun w=>eq35 _ C.no C.sz C.t 0 21 [50,48,53,65,49,50,48,48,97,81,121] w) (fun h=>absurd xI h) (fun _=>pu bF (by kernel_rfl) (aa (ai rfl (ak (ab (gm 12 I (by kernel_rfl) (zp (slv (some J) G.1.length S) (fun _=>(by kernel_rfl)) (zc (.pointer (some ⟨J,0 * 3,none⟩)) (fun w I=>be 0 mj mc rfl rfl rfl (fa eK rfl) br) (zc (.agg (qh g).toArray) (fun w I=>cq I 0 (qh g) me mc rfl rfl rfl hZ br) (zp (slv (some J) G.1.length S) (fun _=>(by kernel_rfl)) (zc (.pointer (some ⟨J,2 * 3,none⟩)) (fun w I=>be 2 mj mc rfl rfl rfl (fa jZ rfl) br) (zc (.agg (qh C).toArray) (fun w I=>cq I 0 (qh C) me mc rfl rfl rfl r9 br) (bt F (fun T BM F=>zc (.tuple #[.string (bts T.1),iv T.2]) (fun w I=>co 22 [iv 0,.agg (qh g).toArray,iv 2,.agg (qh C).toArray] (by kernel_rfl) (L22 _ 0 g 2 C N _ BM) (fun v' w' h=>h)) (zp2 (.tuple #[.string (bts T.1),iv T.2]) (.string (bts T.1)) (fun _=>(by kernel_rfl)) (zp2 (iv T.2) (.string (bts T.1)) (fun _=>(by kernel_rfl)) (zp (iv T.2) (fun _=>(by kernel_rfl)) (zh (fun w I=>aa (ab (gm 12 I (by kernel_rfl) (zp (slv (some J) G.1.length S) (fun _=>(by kernel_rfl)) (zc (.pointer (some ⟨J,2 * 3,none⟩)) (fun w I=>be 2 mj mc rfl rfl rfl (fa jZ rfl) br) (zc (.agg (qh C).toArray) (fun w I=>cq I 0 (qh C) me mc rfl rfl rfl r9 br) (zp (slv (some J) G.1.length S) (fun _=>(by kernel_rfl)) (zc (.pointer (some ⟨J,1 * 3,none⟩)) (fun w I=>be 1 mj mc rfl rfl rfl (fa jY rfl) br) (zc (.agg (qh D).toArray) (fun w I=>cq I 0 (qh D) me mc rfl rfl rfl r8 br) (bt F (fun cU BN F=>zc (.tuple #[.string (bts cU.1),iv cU.2]) (fun w I=>co 22 [iv 2,.agg (qh C).toArray,iv 1,.agg (qh D).toArray] (by kernel_rfl) (L22 _ 2 C 1 D N _ BN) (fun v' w' h=>h)) (zp2 (.tuple #[.string (bts cU.1),iv cU.2]) (.string (bts cU.1)) (fun _=>(by kernel_rfl)) (zp2 (iv cU.2) (.string (bts cU.1)) (fun _=>(by kernel_rfl)) (zp (iv cU.2) (fun _=>(by kernel_rfl)) (zh (fun w I=>aa (ab (gm 12 I (by kernel_rfl) (zp (slv (some J) G.1.length S) (fun _=>(by kernel_rfl)) (zc (.pointer (some ⟨J,0 * 3,none⟩)) (fun w I=>be 0 mj mc rfl rfl rfl (fa eK rfl) br) (zc (.agg (qh g).toArray) (fun w I=>cq I 0 (qh g) me mc rfl rfl rfl hZ br) (zp (slv (some J) G.1.length S) (fun _=>(by kernel_rfl)) (zc (.pointer (some ⟨J,0 * 3,none⟩)) (fun w I=>be 0 mj mc rfl rfl rfl (fa eK rfl) br) (zc (.agg (qh g).toArray) (fun w I=>cq I 0 (qh g) me mc rfl rfl rfl hZ br) (bt F (fun dF BO F=>zc (.tuple #[.string (bts dF.1),iv dF.2]) (fun w I=>co 22 [iv 0,.agg (qh g).toArray,iv 0,.agg (qh g).toArray] (by kernel_rfl) (L22 _ 0 g 0 g N _ BO) (fun v' w' h=>h)) (zp2 (.tuple #[.string (bts dF.1),iv dF.2]) (.string (bts dF.1)) (fun _=>(by kernel_rfl)) (zp2 (iv dF.2) (.string (bts dF.1)) (fun _=>(by kernel_rfl)) (zp (iv dF.2) (fun _=>(by kernel_rfl)) (zh (fun w I=>aa (ab (ab (rgn (by kernel_rfl) (pu (.string (bts T.1)) (by kernel_rfl) (ifN F (fun xJ F=>?_) (fun xJ F=>?_))))))))))))))))))))))))))))))))))))))))))))))))))))))))
 · cases F
 refine ph (s_strNe (a:=T.1) (b:=[50,32,48,32,53,32,49,48,32,49,50,32,48,32,48,32,97,32,107,101,121]) rfl rfl (fun h=>absurd xJ h) (fun _=>pu bF (by kernel_rfl) (pup (.string (bts cU.1)) (by kernel_rfl) (pup (.string (bts T.1)) (by kernel_rfl) (ifN F (fun xK F=>?_) (fun xK F=>?_))))))
 · cases F
 refine aw (by kernel_rfl) (s_strNe (a:=cU.1) (b:=T.1) rfl rfl (fun h=>absurd xK h) (fun _=>pu2 bF bF (by kernel_rfl) (pup (iv T.2) (by kernel_rfl) (ifN F (fun xL F=>?_) (fun xL F=>?_)))))
 · cases F
 refine aw (by kernel_rfl) (de rfl rfl (fun h=>absurd xL h) (fun _=>pu2 bF bF (by kernel_rfl) (pup (iv cU.2) (by kernel_rfl) (ifN F (fun xM F=>?_) (fun xM F=>?_)))))
 · cases F
 refine aw (by kernel_rfl) (de rfl rfl (fun h=>absurd xM h) (fun _=>pu2 bF bF (by kernel_rfl) (pup (iv dF.2) (by kernel_rfl) (ifN F (fun xN F=>?_) (fun xN F=>?_)))))
 · cases F
 refine aw (by kernel_rfl) (de rfl rfl (fun h=>absurd xN h) (fun _=>pu2 bF bF (by kernel_rfl) (pup (slv (some J) G.1.length S) (by kernel_rfl) (aw (by kernel_rfl) (be 1 mj mc rfl rfl rfl (fa jY rfl) (aw (by kernel_rfl) (cq I 0 (qh D) me mc rfl rfl rfl r8 (bt F (fun FY BP F=>aw (by kernel_rfl) (bg I 25 _ _ (by kernel_rfl) (L25 _ 0 D N _ BP) fun w I=>ifN F (fun xO F=>?_) (fun xO F=>?_)))))))))))
 · cases F
 refine aw (by kernel_rfl) (de rfl rfl (fun h=>absurd xO h) (fun _=>pu2 bF bF (by kernel_rfl) (pup (slv (some J) G.1.length S) (by kernel_rfl) (aw (by kernel_rfl) (be 0 mj mc rfl rfl rfl (fa eK rfl) (aw (by kernel_rfl) (cq I 0 (qh g) me mc rfl rfl rfl hZ (bt F (fun FZ BQ F=>aw (by kernel_rfl) (bg I 25 _ _ (by kernel_rfl) (L25 _ 1 g N _ BQ) fun w I=>ifN F (fun xP F=>?_) (fun xP F=>?_)))))))))))
 · cases F
 refine aw (by kernel_rfl) (de rfl rfl (fun h=>absurd xP h) (fun _=>pu bF (by kernel_rfl) (aa (ai rfl (ak (ab (rgn (by kernel_rfl) (pu (.agg #[.slice none 0 0,.slice none 0 0,.slice none 0 0,iv 0,iv 0,iv 0]) (by kernel_rfl) (ph (ma I 1 mh md rfl rfl rfl (bt F (fun BR BS F=>?_))))))))))))
 obtain ⟨dG,dH,dI,dJ,dK,dL,a5,d1⟩:=BR
 refine ph (co 38 _ (by kernel_rfl) (L38 _ none 0 [] none 0 [] none 0 [] 0 0 0 none 0 [] (⟨i,l,m,o,q,r,s,x⟩:Rc) (hG.up I) bi.nil0 (by decide) (Nat.le_refl _) bi.nil0 (by decide) (Nat.le_refl _) bi.nil0 (by decide) (Nat.le_refl _) bi.nil0 (by decide) (Nat.le_refl _) N _ BS) ?_)
 intro v w
 refine xHH fun dM e0 xQ dN e1 xR dO e2=>xFF fun xS d2 e3 rA=>xaa fun hv=>xaa fun hN=>xaa fun d3=>xaa fun d4=>xaa fun d5=>fun BT=>?_
 dsimp only at hv hN d3 d4 d5 BT; subst hv
 have I:=I.join hN; clear hN
 refine pu3 (.tuple #[.agg #[slv dM dG.length e0,slv dN dH.length e1,slv dO dI.length e2,iv dJ,iv dK,iv dL],slv d2 a5.length e3,iv d1]) (.agg #[slv dM dG.length e0,slv dN dH.length e1,slv dO dI.length e2,iv dJ,iv dK,iv dL]) (slv d2 a5.length e3) (by kernel_rfl) (pu (iv d1) (by kernel_rfl) (ph (bh I _ zeroValue63 rfl fun k0 w I=>ph (mb I 0 _ mi rfl rfl rfl rfl rfl rfl fun w I=>pu2 (slv d2 a5.length e3) (iv d1) (by kernel_rfl) (aa (dn (fun ρ w=>∃ (d6:Option Nat) (e4:Nat) (i0:List Value) (U:List Rc),cd ρ [(1,pt E),(10,pt k0),(11,slv d2 a5.length e3),(12,iv d1),(14,slv d6 U.length e4)]∧Inv [] w0 w [(some E,blk [iv i,iv l,iv m,iv o,iv q,iv r,iv s,.string (bts x)] 25),(some k0,blk [slv dM dG.length e0,slv dN dH.length e1,slv dO dI.length e2,iv dJ,iv dK,iv dL] 63),(dM,blk xQ 35),(dN,blk xR 35),(dO,blk xS 35),(d2,blk rA 25),(d6,blk i0 25)]∧(Row 8 d6 (U.length) e4 i0 (al eRc U))∧F19j1 N i l m o q r s x dG dH dI dJ dK dL a5 d1 U=some true) ?_ ?_))))))
 ·
  refine rgn (by kernel_rfl) (ph (ma I 0 mt mi rfl rfl rfl (ph (fu I [iv 3,iv 2,iv 0,iv 0,iv 0,iv 2,iv 0] 3 (fun b=>slv (some b) 7 7) (by kernel_rfl) fun BU w I=>bt F (fun eL BV F=>ph (co 45 _ (by kernel_rfl) (L45 _ (dM.map fun b=>⟨b,0,none⟩) e0 dG (dN.map fun b=>⟨b,0,none⟩) e1 dH (dO.map fun b=>⟨b,0,none⟩) e2 dI dJ dK dL (some ⟨BU,0,none⟩) 7 [3,2,0,0,0,2,0] (I.rowCells 2 rfl d3) (am rfl d3.big) (am rfl d3.cap) (I.rowCells 3 rfl d4) (am rfl d4.big) (am rfl d4.cap) (I.rowCells 4 rfl d5) (am rfl d5.big) (am rfl d5.cap) (I.cells 0 (off:=0) rfl (fun j u h=>by rw [Nat.zero_add]; exact h)) (mx rfl) (Nat.le_refl _) N _ BV) ?_))))))
  rintro v w ⟨BW,BX,G0,BY,BZ,G1,C0,C1,G2,rfl,hN,rB,rC,rD⟩
  have I:=I.join hN; clear hN
  refine bt F (fun K C2 F=>ph (co 40 _ (by kernel_rfl) (L40 _ (BW.map fun b=>⟨b,0,none⟩) BX eL.1 (BY.map fun b=>⟨b,0,none⟩) BZ eL.2.1 (C0.map fun b=>⟨b,0,none⟩) C1 eL.2.2.1 eL.2.2.2.1 eL.2.2.2.2.1 eL.2.2.2.2.2 (hG.up I) (I.rowCells 0 rfl rB) (am rfl rB.big) (am rfl rB.cap) (I.rowCells 1 rfl rC) (am rfl rC.big) (am rfl rC.cap) (I.rowCells 2 rfl rD) (am rfl rD.big) (am rfl rD.cap) N _ C2) ?_))
  intro v w
  refine xHH fun xT xU G3 xV xW G4 xX xY=>xFF fun G5 k1 k2 C3=>xaa fun hv=>xaa fun hN=>xaa fun G6=>xaa fun G7=>xaa fun G8=>fun C4=>?_
  subst hv
  have I:=I.join hN; clear hN
  refine pu3 (.tuple #[.agg #[slv xT K.1.length xU,slv xV K.2.1.length xW,slv xX K.2.2.1.length xY,iv K.2.2.2.1,iv K.2.2.2.2.1,iv K.2.2.2.2.2.1],slv k1 K.2.2.2.2.2.2.length k2]) (.agg #[slv xT K.1.length xU,slv xV K.2.1.length xW,slv xX K.2.2.1.length xY,iv K.2.2.2.1,iv K.2.2.2.2.1,iv K.2.2.2.2.2.1]) (slv k1 K.2.2.2.2.2.2.length k2) (by kernel_rfl) (ph (bh I _ zeroValue63 rfl fun G9 w I=>ph (mb I 0 _ mi rfl rfl rfl rfl rfl rfl fun w I=>pu (slv k1 K.2.2.2.2.2.2.length k2) (by kernel_rfl) (aa (.inl ⟨rfl,⟨k1,k2,C3,K.2.2.2.2.2.2,⟨rfl,rfl,rfl,rfl,rfl,trivial⟩,I.pk [15,9,10,11,12,13,4] rfl rfl,(C4.to rfl rfl),F⟩⟩)))))
 intro ρ w hJ
 obtain ⟨d6,e4,i0,U,hag,I,C5,F⟩:=hJ
 obtain ⟨ρ,rfl⟩:=hag.form; clear hag
 unfold F19j1 at F
 refine dn (fun ρ w=>∃ (e5:Option Nat) (i1:Nat) (k3:List Value) (d7:List Rc),cd ρ [(1,pt E),(10,pt k0),(11,slv d2 a5.length e3),(12,iv d1),(14,slv d6 U.length e4),(16,slv e5 d7.length i1)]∧Inv [] w0 w [(some E,blk [iv i,iv l,iv m,iv o,iv q,iv r,iv s,.string (bts x)] 25),(some k0,blk [slv dM dG.length e0,slv dN dH.length e1,slv dO dI.length e2,iv dJ,iv dK,iv dL] 63),(dM,blk xQ 35),(dN,blk xR 35),(dO,blk xS 35),(d2,blk rA 25),(d6,blk i0 25),(e5,blk k3 25)]∧(Row 8 e5 (d7.length) i1 k3 (al eRc d7))∧F19j2 N i l m o q r s x dG dH dI dJ dK dL a5 d1 U d7=some true) ?_ ?_
 ·
  refine rgn (by kernel_rfl) (ph (ma I 1 mt mi rfl rfl rfl (ph (fu I [iv 3,iv 2,iv 0,iv 0,iv 0,iv 1,iv 4] 3 (fun b=>slv (some b) 7 7) (by kernel_rfl) fun C6 w I=>bt F (fun eM C7 F=>ph (co 45 _ (by kernel_rfl) (L45 _ (dM.map fun b=>⟨b,0,none⟩) e0 dG (dN.map fun b=>⟨b,0,none⟩) e1 dH (dO.map fun b=>⟨b,0,none⟩) e2 dI dJ dK dL (some ⟨C6,0,none⟩) 7 [3,2,0,0,0,1,4] (I.rowCells 3 rfl d3) (am rfl d3.big) (am rfl d3.cap) (I.rowCells 4 rfl d4) (am rfl d4.big) (am rfl d4.cap) (I.rowCells 5 rfl d5) (am rfl d5.big) (am rfl d5.cap) (I.cells 0 (off:=0) rfl (fun j u h=>by rw [Nat.zero_add]; exact h)) (mx rfl) (Nat.le_refl _) N _ C7) ?_))))))
  rintro v w ⟨C8,C9,GA,CA,CB,GB,CC,CD,GC,rfl,hN,rE,rF,rG⟩
  have I:=I.join hN; clear hN
  refine bt F (fun L CE F=>ph (co 40 _ (by kernel_rfl) (L40 _ (C8.map fun b=>⟨b,0,none⟩) C9 eM.1 (CA.map fun b=>⟨b,0,none⟩) CB eM.2.1 (CC.map fun b=>⟨b,0,none⟩) CD eM.2.2.1 eM.2.2.2.1 eM.2.2.2.2.1 eM.2.2.2.2.2 (hG.up I) (I.rowCells 0 rfl rE) (am rfl rE.big) (am rfl rE.cap) (I.rowCells 1 rfl rF) (am rfl rF.big) (am rfl rF.cap) (I.rowCells 2 rfl rG) (am rfl rG.big) (am rfl rG.cap) N _ CE) ?_))
  intro v w
  refine xHH fun xZ y0 GD y1 y2 GE y3 y4=>xFF fun GF k4 k5 CF=>xaa fun hv=>xaa fun hN=>xaa fun GG=>xaa fun GH=>xaa fun GI=>fun CG=>?_
  subst hv
  have I:=I.join hN; clear hN
  refine pu3 (.tuple #[.agg #[slv xZ L.1.length y0,slv y1 L.2.1.length y2,slv y3 L.2.2.1.length y4,iv L.2.2.2.1,iv L.2.2.2.2.1,iv L.2.2.2.2.2.1],slv k4 L.2.2.2.2.2.2.length k5]) (.agg #[slv xZ L.1.length y0,slv y1 L.2.1.length y2,slv y3 L.2.2.1.length y4,iv L.2.2.2.1,iv L.2.2.2.2.1,iv L.2.2.2.2.2.1]) (slv k4 L.2.2.2.2.2.2.length k5) (by kernel_rfl) (ph (bh I _ zeroValue63 rfl fun GJ w I=>ph (mb I 0 _ mi rfl rfl rfl rfl rfl rfl fun w I=>pu (slv k4 L.2.2.2.2.2.2.length k5) (by kernel_rfl) (aa (.inl ⟨rfl,⟨k4,k5,CF,L.2.2.2.2.2.2,⟨rfl,rfl,rfl,rfl,rfl,rfl,trivial⟩,I.pk [9,10,11,12,13,14,15,4] rfl rfl,(CG.to rfl rfl),F⟩⟩)))))
 intro ρ w hJ
 obtain ⟨e5,i1,k3,d7,hag,I,GK,F⟩:=hJ
 obtain ⟨ρ,rfl⟩:=hag.form; clear hag
 unfold F19j2 at F
 refine dn (fun ρ w=>∃ (eN:Option Nat) (i2:Nat) (rH:List Value) (dP:List Rc),cd ρ [(1,pt E),(11,slv d2 a5.length e3),(12,iv d1),(14,slv d6 U.length e4),(16,slv e5 d7.length i1),(18,slv eN dP.length i2)]∧Inv [] w0 w [(some E,blk [iv i,iv l,iv m,iv o,iv q,iv r,iv s,.string (bts x)] 25),(d2,blk rA 25),(d6,blk i0 25),(e5,blk k3 25),(eN,blk rH 25)]∧(Row 8 eN (dP.length) i2 rH (al eRc dP))∧F19j3 N i l m o q r s x a5 d1 U d7 dP=some true) ?_ ?_
 ·
  refine rgn (by kernel_rfl) (ph (ma I 1 mt mi rfl rfl rfl (bt F (fun eO CH F=>ph (co 43 _ (by kernel_rfl) (L43 _ (dM.map fun b=>⟨b,0,none⟩) e0 dG (dN.map fun b=>⟨b,0,none⟩) e1 dH (dO.map fun b=>⟨b,0,none⟩) e2 dI dJ dK dL (I.rowCells 2 rfl d3) (am rfl d3.big) (am rfl d3.cap) (I.rowCells 3 rfl d4) (am rfl d4.big) (am rfl d4.cap) (I.rowCells 4 rfl d5) (am rfl d5.big) (am rfl d5.cap) _ CH) ?_)))))
  rintro v w ⟨CI,CJ,GL,CK,CL,GM,CM,CN,GN,rfl,hN,rI,rJ,rK⟩
  have I:=I.join hN; clear hN
  refine ph (fu I [iv 1] 3 (fun b=>slv (some b) 1 1) (by kernel_rfl) fun CO w I=>bt F (fun eP CP F=>ph (co 45 _ (by kernel_rfl) (L45 _ (CI.map fun b=>⟨b,0,none⟩) CJ eO.1 (CK.map fun b=>⟨b,0,none⟩) CL eO.2.1 (CM.map fun b=>⟨b,0,none⟩) CN eO.2.2.1 eO.2.2.2.1 eO.2.2.2.2.1 eO.2.2.2.2.2 (some ⟨CO,0,none⟩) 1 [1] (I.rowCells 1 rfl rI) (am rfl rI.big) (am rfl rI.cap) (I.rowCells 2 rfl rJ) (am rfl rJ.big) (am rfl rJ.cap) (I.rowCells 3 rfl rK) (am rfl rK.big) (am rfl rK.cap) (I.cells 0 (off:=0) rfl (fun j u h=>by rw [Nat.zero_add]; exact h)) (mx rfl) (Nat.le_refl _) N _ CP) ?_)))
  rintro v w ⟨CQ,CR,GO,CS,CT,GP,CU,CV,GQ,rfl,hN,rL,rM,rN⟩
  have I:=I.join hN; clear hN
  refine bt F (fun M CW F=>ph (co 40 _ (by kernel_rfl) (L40 _ (CQ.map fun b=>⟨b,0,none⟩) CR eP.1 (CS.map fun b=>⟨b,0,none⟩) CT eP.2.1 (CU.map fun b=>⟨b,0,none⟩) CV eP.2.2.1 eP.2.2.2.1 eP.2.2.2.2.1 eP.2.2.2.2.2 (hG.up I) (I.rowCells 0 rfl rL) (am rfl rL.big) (am rfl rL.cap) (I.rowCells 1 rfl rM) (am rfl rM.big) (am rfl rM.cap) (I.rowCells 2 rfl rN) (am rfl rN.big) (am rfl rN.cap) N _ CW) ?_))
  intro v w
  refine xHH fun y5 y6 GR y7 y8 GS y9 yA=>xFF fun GT k6 k7 CX=>xaa fun hv=>xaa fun hN=>xaa fun GU=>xaa fun GV=>xaa fun GW=>fun CY=>?_
  subst hv
  have I:=I.join hN; clear hN
  refine pu3 (.tuple #[.agg #[slv y5 M.1.length y6,slv y7 M.2.1.length y8,slv y9 M.2.2.1.length yA,iv M.2.2.2.1,iv M.2.2.2.2.1,iv M.2.2.2.2.2.1],slv k6 M.2.2.2.2.2.2.length k7]) (.agg #[slv y5 M.1.length y6,slv y7 M.2.1.length y8,slv y9 M.2.2.1.length yA,iv M.2.2.2.1,iv M.2.2.2.2.1,iv M.2.2.2.2.2.1]) (slv k6 M.2.2.2.2.2.2.length k7) (by kernel_rfl) (ph (bh I _ zeroValue63 rfl fun GX w I=>ph (mb I 0 _ mi rfl rfl rfl rfl rfl rfl fun w I=>pu (slv k6 M.2.2.2.2.2.2.length k7) (by kernel_rfl) (aa (.inl ⟨rfl,⟨k6,k7,CX,M.2.2.2.2.2.2,⟨rfl,rfl,rfl,rfl,rfl,rfl,trivial⟩,I.pk [12,17,18,19,4] rfl rfl,(CY.to rfl rfl),F⟩⟩)))))
 intro ρ w hJ
 obtain ⟨eN,i2,rH,dP,hag,I,CZ,F⟩:=hJ
 obtain ⟨ρ,rfl⟩:=hag.form; clear hag
 unfold F19j3 at F
 refine ab (ab (gm 36 I (by kernel_rfl) (zp (iv d1) (fun _=>(by kernel_rfl)) (ifN F (fun yB F=>?_) (fun yB F=>?_)))))
 · cases F
 refine zc bF (fun w I=>de rfl rfl (fun h=>absurd yB h) (fun _=>br)) (zp bF (fun _=>(by kernel_rfl)) (zq (slv d2 a5.length e3) (by kernel_rfl) (fun _=>(by kernel_rfl)) (zo (iv (a5.length:Int)) (by kernel_rfl) (fun w I=>kl (iv ((a5.length:Nat):Int)) (by kernel_rfl) br) (ifN F (fun yC F=>?_) (fun yC F=>?_)))))
 · cases F
 refine zo bF (by kernel_rfl) (fun w I=>de rfl rfl (fun h=>absurd yC h) (fun _=>br)) (zp2 bF bF (fun _=>(by kernel_rfl)) (zq (slv d6 U.length e4) (by kernel_rfl) (fun _=>(by kernel_rfl)) (zo (iv (U.length:Int)) (by kernel_rfl) (fun w I=>kl (iv ((U.length:Nat):Int)) (by kernel_rfl) br) (ifN F (fun yD F=>?_) (fun yD F=>?_)))))
 · cases F
 refine zo bF (by kernel_rfl) (fun w I=>de rfl rfl (fun h=>absurd yD h) (fun _=>br)) (zp2 bF bF (fun _=>(by kernel_rfl)) (zq (slv d6 U.length e4) (by kernel_rfl) (fun _=>(by kernel_rfl)) (bt F (fun y yE F=>?_))))
 obtain ⟨D0,rfl,D1⟩:=C5.at_ bx (by decide) yE
 refine zo (.pointer (some ⟨D0,0 * 8,none⟩)) (by kernel_rfl) (fun w I=>be 0 zu45 md rfl rfl rfl (fa yE rfl) br) (zo (.agg (qg y).toArray) (by kernel_rfl) (fun w I=>cq I 2 (qg y) mh md rfl rfl rfl D1 br) (zo (.agg #[iv i,iv l,iv m,iv o,iv q,iv r,iv s,.string (bts x)]) (by kernel_rfl) (fun w I=>ma I 0 mh md rfl rfl rfl br) (ifN F (fun yF F=>?_) (fun yF F=>?_))))
 · cases F
 refine zo bF (by kernel_rfl) (fun w I=>s_neqA (b:=decide (y.p=i) && decide (y.n=l) && decide (y.k=m) && decide (y.d=o) && decide (y.kn=q) && decide (y.op=r) && decide (y.on=s) && decide (y.t=x)) rfl rfl (by kernel_rfl) (fun w=>eq25 _ y.p y.n y.k y.d y.kn y.op y.on y.t i l m o q r s x w) (fun h=>absurd yF h) (fun _=>br)) (zp2 bF bF (fun _=>(by kernel_rfl)) (zq (slv e5 d7.length i1) (by kernel_rfl) (fun _=>(by kernel_rfl)) (zo (iv (d7.length:Int)) (by kernel_rfl) (fun w I=>kl (iv ((d7.length:Nat):Int)) (by kernel_rfl) br) (ifN F (fun yG F=>?_) (fun yG F=>?_)))))
 · cases F
 refine zo bF (by kernel_rfl) (fun w I=>de rfl rfl (fun h=>absurd yG h) (fun _=>br)) (zp2 bF bF (fun _=>(by kernel_rfl)) (zq (slv eN dP.length i2) (by kernel_rfl) (fun _=>(by kernel_rfl)) (zo (iv (dP.length:Int)) (by kernel_rfl) (fun w I=>kl (iv ((dP.length:Nat):Int)) (by kernel_rfl) br) (ifN F (fun yH F=>?_) (fun yH F=>?_)))))
 · cases F
 refine zo bF (by kernel_rfl) (fun w I=>de rfl rfl (fun h=>absurd yH h) (fun _=>br)) (zp2 bF bF (fun _=>(by kernel_rfl)) (zq (slv eN dP.length i2) (by kernel_rfl) (fun _=>(by kernel_rfl)) (bt F (fun z yI F=>?_))))
 obtain ⟨D2,rfl,D3⟩:=CZ.at_ bx (by decide) yI
 refine zo (.pointer (some ⟨D2,0 * 8,none⟩)) (by kernel_rfl) (fun w I=>be 0 zu45 md rfl rfl rfl (fa yI rfl) br) (zo (.agg (qg z).toArray) (by kernel_rfl) (fun w I=>cq I 4 (qg z) mh md rfl rfl rfl D3 br) (zo (.agg #[iv i,iv l,iv m,iv o,iv q,iv r,iv s,.string (bts x)]) (by kernel_rfl) (fun w I=>ma I 0 mh md rfl rfl rfl br) (ifN F (fun yJ F=>?_) (fun yJ F=>?_))))
 · cases F
 refine zo bF (by kernel_rfl) (fun w I=>s_neqA (b:=decide (z.p=i) && decide (z.n=l) && decide (z.k=m) && decide (z.d=o) && decide (z.kn=q) && decide (z.op=r) && decide (z.on=s) && decide (z.t=x)) rfl rfl (by kernel_rfl) (fun w=>eq25 _ z.p z.n z.k z.d z.kn z.op z.on z.t i l m o q r s x w) (fun h=>absurd yJ h) (fun _=>br)) (zp bF (fun _=>(by kernel_rfl)) (zh (fun w I=>aa (ai rfl (ak (ab (rgn (by kernel_rfl) (bt F (fun D4 D5 F=>?_)))))))))
 obtain ⟨rO,rP,rQ,rR,rS,rT,rU,rV,rW,rX,rY,rZ,s0,s1,s2,s3,s4,s5,s6,s7,s8,s9,sA,sB,sC,sD,sE,sF,sG,sH,sI,sJ,sK,sL,sM,sN,sO,sP,sQ,sR,sS,sT,sU,sV,dQ⟩:=D4
 refine ph (co 49 _ (by kernel_rfl) (L49 _ 2 _ D5) ?_)
 intro v w
 refine xHH fun sW sX GY sY sZ GZ t0 t1=>xFF fun H0 t2 t3 H1=>xaa fun hv=>xaa fun hN=>xaa fun k8=>xaa fun k9=>xaa fun kA=>fun kB=>?_
 dsimp only at hv hN k8 k9 kA kB; subst hv
 have I:=I.join hN; clear hN
 refine pu3 (.tuple #[.agg (qf rO sW rP sX sY rQ sZ t0 rR t1 rS rT rU t2 rV t3 rW rX rY rZ s0 s1 s2 s3 s4 s5 s6 s7 s8 s9 sA sB sC sD sE sF sG sH sI sJ sK sL sM sN sO sP sQ sR sS sT sU sV).toArray,iv dQ]) (.agg (qf rO sW rP sX sY rQ sZ t0 rR t1 rS rT rU t2 rV t3 rW rX rY rZ s0 s1 s2 s3 s4 s5 s6 s7 s8 s9 sA sB sC sD sE sF sG sH sI sJ sK sL sM sN sO sP sQ sR sS sT sU sV).toArray) (iv dQ) (by kernel_rfl) (ph (bh I _ zeroValue81 rfl fun eQ w I=>ph (mb I 0 _ ml rfl rfl rfl rfl rfl rfl fun w I=>pu (iv dQ) (by kernel_rfl) (aa (dn (fun ρ w=>∃ (i3:Option Nat) (kC:Nat) (t4:List Value) (i4:Option Nat) (kD:Nat) (t5:List Value) (i5:Option Nat) (kE:Nat) (t6:List Value) (i6:Option Nat) (kF:Nat) (t7:List Value) (kG:Int) (eR:List Sp3) (eS:List Sp3) (eT:List Sp3) (kH:Int) (kI:Int) (kJ:Int) (eU:List Rc) (kK:Int) (kL:Int) (kM:Int) (kN:Int) (kO:Int) (kP:Int) (kQ:Int) (kR:Int) (kS:Int) (kT:Int) (kU:Int) (kV:Int) (kW:Int) (kX:Int) (kY:Int) (kZ:Int) (l0:Int) (l1:Int) (l2:Int) (l3:Int) (l4:Int) (l5:Int) (l6:Int) (l7:Int) (l8:Int) (l9:Int) (lA:Int) (lB:Int) (lC:Int) (lD:Int) (lE:Int) (lF:Int) (lG:Int) (lH:Int) (lI:Int) (lJ:Int) (e6:Int),cd ρ [(1,pt E),(19,pt eQ),(20,iv dQ),(22,iv e6)]∧Inv [] w0 w [(some E,blk [iv i,iv l,iv m,iv o,iv q,iv r,iv s,.string (bts x)] 25),(some eQ,blk (qf kG i3 eR kC i4 eS kD i5 eT kE kH kI kJ i6 eU kF kK kL kM kN kO kP kQ kR kS kT kU kV kW kX kY kZ l0 l1 l2 l3 l4 l5 l6 l7 l8 l9 lA lB lC lD lE lF lG lH lI lJ) 81),(i3,blk t4 35),(i4,blk t5 35),(i5,blk t6 35),(i6,blk t7 25)]∧(Row 3 i3 (eR.length) kC t4 (al bb eR))∧(Row 3 i4 (eS.length) kD t5 (al bb eS))∧(Row 3 i5 (eT.length) kE t6 (al bb eT))∧(Row 8 i6 (eU.length) kF t7 (al eRc eU))∧F19j4 N i l m o q r s x dQ kG eR eS eT kH kI kJ eU kK kL kM kN kO kP kQ kR kS kT kU kV kW kX kY kZ l0 l1 l2 l3 l4 l5 l6 l7 l8 l9 lA lB lC lD lE lF lG lH lI lJ e6=some true) ?_ ?_)))))
 ·
  refine rgn (by kernel_rfl) (ph (ma I 0 mu ml rfl rfl rfl (ph (ma I 5 mh md rfl rfl rfl (bt F (fun D6 D7 F=>?_))))))
  obtain ⟨t8,t9,tB,tC,tD,tF,tG,tH,tI,tJ,tK,tL,tM,tN,tO,tP,tQ,tR,tT,tU,tV,tW,tX,tY,tZ,u0,u1,u2,u3,u4,u5,u6,u7,u8,u9,uA,uB,uC,uD,uE,uF,uG,uH,uI,yK,yL,yM,yN,yO,yP,yQ,yR,lK⟩:=D6
  refine ph (co 51 _ (by kernel_rfl) (L51 _ rO (sW.map fun b=>⟨b,0,none⟩) sX rP (sY.map fun b=>⟨b,0,none⟩) sZ rQ (t0.map fun b=>⟨b,0,none⟩) t1 rR rS rT rU (t2.map fun b=>⟨b,0,none⟩) t3 rV rW rX rY rZ s0 s1 s2 s3 s4 s5 s6 s7 s8 s9 sA sB sC sD sE sF sG sH sI sJ sK sL sM sN sO sP sQ sR sS sT sU sV (⟨i,l,m,o,q,r,s,x⟩:Rc) (hG.up I) (I.rowCells 1 rfl k8) (am rfl k8.big) (am rfl k8.cap) (I.rowCells 2 rfl k9) (am rfl k9.big) (am rfl k9.cap) (I.rowCells 3 rfl kA) (am rfl kA.big) (am rfl kA.cap) (I.rowCells 4 rfl kB) (am rfl kB.big) (am rfl kB.cap) N _ D7) ?_)
  intro v w
  refine xHH fun uJ uK D8 uL uM D9 uN uO=>xFF fun DA uP uQ DB=>xaa fun hv=>xaa fun hN=>xaa fun yS=>xaa fun yT=>xaa fun yU=>fun yV=>?_
  dsimp only at hv hN yS yT yU yV; subst hv
  have I:=I.join hN; clear hN
  refine pu3 (.tuple #[.agg (qf t8 uJ t9 uK uL tB uM uN tC uO tD tF tG uP tH uQ tI tJ tK tL tM tN tO tP tQ tR tT tU tV tW tX tY tZ u0 u1 u2 u3 u4 u5 u6 u7 u8 u9 uA uB uC uD uE uF uG uH uI).toArray,.agg #[iv yK,iv yL,iv yM,iv yN,iv yO,iv yP,iv yQ,.string (bts yR)],iv lK]) (.agg (qf t8 uJ t9 uK uL tB uM uN tC uO tD tF tG uP tH uQ tI tJ tK tL tM tN tO tP tQ tR tT tU tV tW tX tY tZ u0 u1 u2 u3 u4 u5 u6 u7 u8 u9 uA uB uC uD uE uF uG uH uI).toArray) (.agg #[iv yK,iv yL,iv yM,iv yN,iv yO,iv yP,iv yQ,.string (bts yR)]) (by kernel_rfl) (pu (iv lK) (by kernel_rfl) (ph (bh I _ zeroValue25 rfl fun H2 w I=>ph (mb I 5 _ ml rfl rfl rfl rfl rfl rfl fun w I=>ph (mb I 0 _ md rfl rfl rfl rfl rfl rfl fun w I=>pu (iv lK) (by kernel_rfl) (aa (.inl ⟨rfl,⟨uJ,uK,D8,uL,uM,D9,uN,uO,DA,uP,uQ,DB,t8,t9,tB,tC,tD,tF,tG,tH,tI,tJ,tK,tL,tM,tN,tO,tP,tQ,tR,tT,tU,tV,tW,tX,tY,tZ,u0,u1,u2,u3,u4,u5,u6,u7,u8,u9,uA,uB,uC,uD,uE,uF,uG,uH,uI,lK,⟨rfl,rfl,rfl,rfl,trivial⟩,I.pk [10,5,1,2,3,4] rfl rfl,(yS.to rfl rfl),(yT.to rfl rfl),(yU.to rfl rfl),(yV.to rfl rfl),F⟩⟩)))))))
 intro ρ w
 refine xPP fun i3 kC t4 i4 kD t5 i5 kE t6 i6 kF t7 kG eR eS eT=>xPP fun kH kI kJ eU kK kL kM kN kO kP kQ kR kS kT kU kV=>xPP fun kW kX kY kZ l0 l1 l2 l3 l4 l5 l6 l7 l8 l9 lA lB=>xHH fun lC lD lE lF lG lH lI lJ=>xOO fun e6=>xaa fun hag=>xaa fun I=>xaa fun uR=>xaa fun uS=>xaa fun uT=>xaa fun uU=>fun F=>?_
 obtain ⟨ρ,rfl⟩:=hag.form; clear hag
 unfold F19j4 at F
 refine ab (rgn (by kernel_rfl) (ph (ma I 1 mu ml rfl rfl rfl (bt F (fun DC DD F=>?_)))))
 obtain ⟨a6,a7,a8,a9,aA,aB,aC,aD,aE,aF,aG,aH,aI,aJ,aK,aL,aM,aN,aO,aP,aQ,aR,aS,aT,aU,aV,aW,aX,aY,aZ,b0,b1,b2,b3,b4,b5,b6,b7,b8,b9,bA,bB,bC,bD,eV,eW,eX,dT,eY,d8,e7⟩:=DC
 refine ph (co 53 _ (by kernel_rfl) (L53 _ kG (i3.map fun b=>⟨b,0,none⟩) kC eR (i4.map fun b=>⟨b,0,none⟩) kD eS (i5.map fun b=>⟨b,0,none⟩) kE eT kH kI kJ (i6.map fun b=>⟨b,0,none⟩) kF eU kK kL kM kN kO kP kQ kR kS kT kU kV kW kX kY kZ l0 l1 l2 l3 l4 l5 l6 l7 l8 l9 lA lB lC lD lE lF lG lH lI lJ 3 2 (hG.up I) (I.rowCells 2 rfl uR) (am rfl uR.big) (am rfl uR.cap) (I.rowCells 3 rfl uS) (am rfl uS.big) (am rfl uS.cap) (I.rowCells 4 rfl uT) (am rfl uT.big) (am rfl uT.cap) (I.rowCells 5 rfl uU) (am rfl uU.big) (am rfl uU.cap) N _ DD) ?_)
 intro v w
 refine xHH fun bE d9 yW bG dA yX bH dB=>xFF fun yY bI dC yZ=>xDD fun dU e8=>xOO fun DE=>xaa fun hv=>xaa fun hN=>xaa fun V=>xaa fun W=>xaa fun X=>xaa fun Y=>fun e9=>?_
 dsimp only at hv hN V W X Y e9; subst hv
 have I:=I.join hN; clear hN
 refine pu3 (.tuple #[.agg (qf a6 bE a7 d9 bG a8 dA bH a9 dB aA aB aC bI aD dC aE aF aG aH aI aJ aK aL aM aN aO aP aQ aR aS aT aU aV aW aX aY aZ b0 b1 b2 b3 b4 b5 b6 b7 b8 b9 bA bB bC bD).toArray,.agg #[iv eV,iv eW,iv eX,iv dT,iv eY,slv dU d8.length e8],iv e7]) (.agg (qf a6 bE a7 d9 bG a8 dA bH a9 dB aA aB aC bI aD dC aE aF aG aH aI aJ aK aL aM aN aO aP aQ aR aS aT aU aV aW aX aY aZ b0 b1 b2 b3 b4 b5 b6 b7 b8 b9 bA bB bC bD).toArray) (.agg #[iv eV,iv eW,iv eX,iv dT,iv eY,slv dU d8.length e8]) (by kernel_rfl) (pu (iv e7) (by kernel_rfl) (ph (bh I _ zeroValue83 rfl fun eZ w I=>ph (mb I 7 _ ml rfl rfl rfl rfl rfl rfl fun w I=>ph (mb I 0 _ zs83 rfl rfl rfl rfl rfl rfl fun w I=>pu (iv e7) (by kernel_rfl) (aa (dn (fun ρ w=>∃ (H:Nat) (f0:Option Nat) (i7:Nat) (uV:List Value) (f1:Option Nat) (i8:Nat) (uW:List Value) (f2:Option Nat) (i9:Nat) (uX:List Value) (f3:Option Nat) (iA:Nat) (uY:List Value) (iB:Int) (eA:List Sp3) (eC:List Sp3) (eD:List Sp3) (iC:Int) (iD:Int) (iE:Int) (eE:List Rc) (iF:Int) (iG:Int) (iH:Int) (iI:Int) (iJ:Int) (iK:Int) (iL:Int) (iM:Int) (iN:Int) (iO:Int) (iP:Int) (iQ:Int) (iR:Int) (iS:Int) (iT:Int) (iU:Int) (iV:Int) (iW:Int) (iX:Int) (iY:Int) (iZ:Int) (j0:Int) (j1:Int) (j2:Int) (j3:Int) (j4:Int) (j5:Int) (j6:Int) (j7:Int) (j8:Int) (j9:Int) (jA:Int) (jB:Int) (jC:Int) (jD:Int) (jE:Int) (jF:Int),cd ρ [(1,pt E),(19,pt eQ),(20,iv dQ),(22,iv e6),(23,pt eZ),(24,iv e7),(25,pt H),(26,iv jF)]∧Inv [] w0 w [(some E,blk [iv i,iv l,iv m,iv o,iv q,iv r,iv s,.string (bts x)] 25),(some eQ,blk (qf a6 bE a7 d9 bG a8 dA bH a9 dB aA aB aC bI aD dC aE aF aG aH aI aJ aK aL aM aN aO aP aQ aR aS aT aU aV aW aX aY aZ b0 b1 b2 b3 b4 b5 b6 b7 b8 b9 bA bB bC bD) 81),(bE,blk yW 35),(bG,blk yX 35),(bH,blk yY 35),(bI,blk yZ 25),(some eZ,blk [iv eV,iv eW,iv eX,iv dT,iv eY,slv dU d8.length e8] 83),(dU,blk DE 25),(some H,blk (qf iB f0 eA i7 f1 eC i8 f2 eD i9 iC iD iE f3 eE iA iF iG iH iI iJ iK iL iM iN iO iP iQ iR iS iT iU iV iW iX iY iZ j0 j1 j2 j3 j4 j5 j6 j7 j8 j9 jA jB jC jD jE) 81),(f0,blk uV 35),(f1,blk uW 35),(f2,blk uX 35),(f3,blk uY 25)]∧(Row 3 f0 (eA.length) i7 uV (al bb eA))∧(Row 3 f1 (eC.length) i8 uW (al bb eC))∧(Row 3 f2 (eD.length) i9 uX (al bb eD))∧(Row 8 f3 (eE.length) iA uY (al eRc eE))∧F19j5 N i l m o q r s x dQ e6 a6 a7 a8 a9 aA aB aC aD aE aF aG aH aI aJ aK aL aM aN aO aP aQ aR aS aT aU aV aW aX aY aZ b0 b1 b2 b3 b4 b5 b6 b7 b8 b9 bA bB bC bD eV eW eX dT eY d8 e7 iB eA eC eD iC iD iE eE iF iG iH iI iJ iK iL iM iN iO iP iQ iR iS iT iU iV iW iX iY iZ j0 j1 j2 j3 j4 j5 j6 j7 j8 j9 jA jB jC jD jE jF=some true) ?_ ?_)))))))
 ·
  refine rgn (by kernel_rfl) (bt F (fun DF DG F=>?_))
  obtain ⟨uZ,v0,v1,v2,v3,v4,v5,v6,v7,v8,v9,vA,vB,vC,vD,vF,vG,vH,vI,vJ,vK,vL,vM,vN,vO,vP,vQ,vR,vS,vT,vU,vV,vW,vX,vY,vZ,w1,w2,w3,w4,w5,w6,w7,w9,lL⟩:=DF
  refine ph (co 49 _ (by kernel_rfl) (L49 _ 3 _ DG) ?_)
  intro v w
  refine xHH fun wA wB DH wC wD DI wE wF=>xFF fun DJ wG wH DK=>xaa fun hv=>xaa fun hN=>xaa fun z0=>xaa fun z1=>xaa fun z2=>fun z3=>?_
  dsimp only at hv hN z0 z1 z2 z3; subst hv
  have I:=I.join hN; clear hN
  refine pu3 (.tuple #[.agg (qf uZ wA v0 wB wC v1 wD wE v2 wF v3 v4 v5 wG v6 wH v7 v8 v9 vA vB vC vD vF vG vH vI vJ vK vL vM vN vO vP vQ vR vS vT vU vV vW vX vY vZ w1 w2 w3 w4 w5 w6 w7 w9).toArray,iv lL]) (.agg (qf uZ wA v0 wB wC v1 wD wE v2 wF v3 v4 v5 wG v6 wH v7 v8 v9 vA vB vC vD vF vG vH vI vJ vK vL vM vN vO vP vQ vR vS vT vU vV vW vX vY vZ w1 w2 w3 w4 w5 w6 w7 w9).toArray) (iv lL) (by kernel_rfl) (ph (bh I _ zeroValue81 rfl fun DL w I=>ph (mb I 0 _ ml rfl rfl rfl rfl rfl rfl fun w I=>pu (iv lL) (by kernel_rfl) (aa (.inl ⟨rfl,⟨DL,wA,wB,DH,wC,wD,DI,wE,wF,DJ,wG,wH,DK,uZ,v0,v1,v2,v3,v4,v5,v6,v7,v8,v9,vA,vB,vC,vD,vF,vG,vH,vI,vJ,vK,vL,vM,vN,vO,vP,vQ,vR,vS,vT,vU,vV,vW,vX,vY,vZ,w1,w2,w3,w4,w5,w6,w7,w9,lL,⟨rfl,rfl,rfl,rfl,rfl,rfl,rfl,rfl,trivial⟩,I.pk [11,12,6,7,8,9,5,10,0,1,2,3,4] rfl rfl,(z0.to rfl rfl),(z1.to rfl rfl),(z2.to rfl rfl),(z3.to rfl rfl),F⟩⟩)))))
 intro ρ w
 refine xPP fun H f0 i7 uV f1 i8 uW f2 i9 uX f3 iA uY iB eA eC=>xPP fun eD iC iD iE eE iF iG iH iI iJ iK iL iM iN iO iP=>xPP fun iQ iR iS iT iU iV iW iX iY iZ j0 j1 j2 j3 j4 j5=>xHH fun j6 j7 j8 j9 jA jB jC jD=>xDD fun jE jF=>xaa fun hag=>xaa fun I=>xaa fun f4=>xaa fun f5=>xaa fun f6=>xaa fun f7=>fun F=>?_
 obtain ⟨ρ,rfl⟩:=hag.form; clear hag
 unfold F19j5 at F
 refine ab (rgn (by kernel_rfl) (ph (ma I 8 mu ml rfl rfl rfl (ph (ma I 6 zi83 zs83 rfl rfl rfl (bindSE F (fun DM DN F=>?_) (fun DO DP F=>?_)))))))
 ·
  obtain ⟨z4,z5,z6,z7,z8,z9,zA,zB,zC,zD,zE,zF,zG,zH,zI,zJ,zK,zL,zM,zN,zO,zP,zQ,zR,zT,zU,zV,zW,zX,zY,zZ,A1,A2,A3,A4,A5,A6,A7,A8,A9,AA,AB,AC,AD,lM⟩:=DM
  refine ph (co 55 _ (by kernel_rfl) (L55 _ iB (f0.map fun b=>⟨b,0,none⟩) i7 eA (f1.map fun b=>⟨b,0,none⟩) i8 eC (f2.map fun b=>⟨b,0,none⟩) i9 eD iC iD iE (f3.map fun b=>⟨b,0,none⟩) iA eE iF iG iH iI iJ iK iL iM iN iO iP iQ iR iS iT iU iV iW iX iY iZ j0 j1 j2 j3 j4 j5 j6 j7 j8 j9 jA jB jC jD jE eV eW eX dT eY (dU.map fun b=>⟨b,0,none⟩) e8 d8 (hG.up I) (I.rowCells 9 rfl f4) (am rfl f4.big) (am rfl f4.cap) (I.rowCells 10 rfl f5) (am rfl f5.big) (am rfl f5.cap) (I.rowCells 11 rfl f6) (am rfl f6.big) (am rfl f6.cap) (I.rowCells 12 rfl f7) (am rfl f7.big) (am rfl f7.cap) (I.rowCells 7 rfl e9) (am rfl e9.big) (am rfl e9.cap) N _ DN) ?_)
  intro v w
  refine xHH fun AE AF H3 AG AH H4 AI AJ=>xFF fun H5 AK AL H6=>xaa fun hv=>xaa fun hN=>xaa fun DQ=>xaa fun DR=>xaa fun DS=>fun DT=>?_
  dsimp only at hv hN DQ DR DS DT; subst hv
  have I:=I.join hN; clear hN
  refine pu3 (.tuple #[.agg (qf z4 AE z5 AF AG z6 AH AI z7 AJ z8 z9 zA AK zB AL zC zD zE zF zG zH zI zJ zK zL zM zN zO zP zQ zR zT zU zV zW zX zY zZ A1 A2 A3 A4 A5 A6 A7 A8 A9 AA AB AC AD).toArray,.slice none 0 0,iv lM]) (.agg (qf z4 AE z5 AF AG z6 AH AI z7 AJ z8 z9 zA AK zB AL zC zD zE zF zG zH zI zJ zK zL zM zN zO zP zQ zR zT zU zV zW zX zY zZ A1 A2 A3 A4 A5 A6 A7 A8 A9 AA AB AC AD).toArray) (.slice none 0 0) (by kernel_rfl) (pu (iv lM) (by kernel_rfl) (ph (mb I 12 _ ml rfl rfl rfl rfl rfl rfl fun w I=>pu2 (.slice none 0 0) (iv lM) (by kernel_rfl) (aa (ab (ab (rgn (by kernel_rfl) (pu (iv dQ) (by kernel_rfl) (ifN F (fun AM F=>?_) (fun AM F=>?_))))))))))
  · cases F
  refine ph (de rfl rfl (fun h=>absurd AM h) (fun _=>pu bF (by kernel_rfl) (pup (iv e6) (by kernel_rfl) (ifN F (fun AN F=>?_) (fun AN F=>?_)))))
  · cases F
  refine aw (by kernel_rfl) (de rfl rfl (fun h=>absurd AN h) (fun _=>pu2 bF bF (by kernel_rfl) (pup (iv e7) (by kernel_rfl) (ifN F (fun AO F=>?_) (fun AO F=>?_)))))
  · cases F
  refine aw (by kernel_rfl) (de rfl rfl (fun h=>absurd AO h) (fun _=>pu2 bF bF (by kernel_rfl) (pup (iv jF) (by kernel_rfl) (ifN F (fun AP F=>?_) (fun AP F=>?_)))))
  · cases F
  refine aw (by kernel_rfl) (de rfl rfl (fun h=>absurd AP h) (fun _=>pu2 bF bF (by kernel_rfl) (pup (iv lM) (by kernel_rfl) (ifN F (fun AQ F=>?_) (fun AQ F=>?_)))))
  · cases F
  refine aw (by kernel_rfl) (de rfl rfl (fun h=>absurd AQ h) (fun _=>pu2 bF bF (by kernel_rfl) (pup (.pointer (some ⟨eZ,3,none⟩)) (by kernel_rfl) (aw (by kernel_rfl) (ag I 10 (iv dT) zi3 rfl rfl rfl (ifN F (fun AR F=>?_) (fun AR F=>?_)))))))
  · cases F
  refine aw (by kernel_rfl) (de rfl rfl (fun h=>absurd AR h) (fun _=>pu2 bF bF (by kernel_rfl) (pup (.pointer (some ⟨eZ,5,none⟩)) (by kernel_rfl) (aw (by kernel_rfl) (ag I 10 (slv dU d8.length e8) mv rfl rfl rfl (pup (iv ((d8.length:Nat):Int)) (by kernel_rfl) (ifE F (fun DU F=>?_) (fun DU F=>?_))))))))
  · cases F
  cases F
 obtain ⟨bJ,bK,bL,bM,bN,bO,bP,bQ,bR,bS,bU,bV,bW,bX,bY,bZ,c0,c1,c2,c4,c5,c6,Z,c7,c8,cA,cB,cC,cD,cE,cF,cG,cH,cI,cJ,cK,cL,cM,cN,cO,cP,cQ,cR,cS,f,lN⟩:=DO
 refine ph (co 55 _ (by kernel_rfl) (L55 _ iB (f0.map fun b=>⟨b,0,none⟩) i7 eA (f1.map fun b=>⟨b,0,none⟩) i8 eC (f2.map fun b=>⟨b,0,none⟩) i9 eD iC iD iE (f3.map fun b=>⟨b,0,none⟩) iA eE iF iG iH iI iJ iK iL iM iN iO iP iQ iR iS iT iU iV iW iX iY iZ j0 j1 j2 j3 j4 j5 j6 j7 j8 j9 jA jB jC jD jE eV eW eX dT eY (dU.map fun b=>⟨b,0,none⟩) e8 d8 (hG.up I) (I.rowCells 9 rfl f4) (am rfl f4.big) (am rfl f4.cap) (I.rowCells 10 rfl f5) (am rfl f5.big) (am rfl f5.cap) (I.rowCells 11 rfl f6) (am rfl f6.big) (am rfl f6.cap) (I.rowCells 12 rfl f7) (am rfl f7.big) (am rfl f7.cap) (I.rowCells 7 rfl e9) (am rfl e9.big) (am rfl e9.cap) N _ DP) ?_)
 intro v w
 refine xPP fun O cV jG P cW jH Q cX jI R cY jJ cT dV eF DV=>xaa fun hv=>xaa fun hN=>xaa fun a0=>xaa fun a1=>xaa fun a2=>xaa fun a3=>fun a4=>?_
 dsimp only at hv hN a0 a1 a2 a3 a4; subst hv
 have I:=I.join hN; clear hN
 refine pu3 (.tuple #[.agg (qf bJ O bK cV P bL cW Q bM cX bN bO bP R bQ cY bR bS bU bV bW bX bY bZ c0 c1 c2 c4 c5 c6 Z c7 c8 cA cB cC cD cE cF cG cH cI cJ cK cL cM cN cO cP cQ cR cS).toArray,.slice (some ⟨cT,0,none⟩) 1 1,iv lN]) (.agg (qf bJ O bK cV P bL cW Q bM cX bN bO bP R bQ cY bR bS bU bV bW bX bY bZ c0 c1 c2 c4 c5 c6 Z c7 c8 cA cB cC cD cE cF cG cH cI cJ cK cL cM cN cO cP cQ cR cS).toArray) (.slice (some ⟨cT,0,none⟩) 1 1) (by kernel_rfl) (pu (iv lN) (by kernel_rfl) (ph (mb I 14 _ ml rfl rfl rfl rfl rfl rfl fun w I=>pu2 (.slice (some ⟨cT,0,none⟩) 1 1) (iv lN) (by kernel_rfl) (aa (dn (fun ρ w=>cd ρ [(1,pt E),(19,pt eQ),(25,pt H),(27,.slice (some ⟨cT,0,none⟩) 1 1)]∧Inv [] w0 w [(some E,blk [iv i,iv l,iv m,iv o,iv q,iv r,iv s,.string (bts x)] 25),(some eQ,blk (qf a6 bE a7 d9 bG a8 dA bH a9 dB aA aB aC bI aD dC aE aF aG aH aI aJ aK aL aM aN aO aP aQ aR aS aT aU aV aW aX aY aZ b0 b1 b2 b3 b4 b5 b6 b7 b8 b9 bA bB bC bD) 81),(bE,blk yW 35),(bG,blk yX 35),(bH,blk yY 35),(bI,blk yZ 25),(some H,blk (qf bJ O bK cV P bL cW Q bM cX bN bO bP R bQ cY bR bS bU bV bW bX bY bZ c0 c1 c2 c4 c5 c6 Z c7 c8 cA cB cC cD cE cF cG cH cI cJ cK cL cM cN cO cP cQ cR cS) 81),(O,blk jG 35),(P,blk jH 35),(Q,blk jI 35),(R,blk jJ 25),(some cT,blk [iv f.1,iv f.2.1,iv f.2.2.1,iv f.2.2.2.1,iv f.2.2.2.2.1,slv dV f.2.2.2.2.2.length eF] 83),(dV,blk DV 25)]∧F19j6 N i l m o q r s x a6 a7 a8 a9 aA aB aC aD aE aF aG aH aI aJ aK aL aM aN aO aP aQ aR aS aT aU aV aW aX aY aZ b0 b1 b2 b3 b4 b5 b6 b7 b8 b9 bA bB bC bD bJ bK bL bM bN bO bP bQ bR bS bU bV bW bX bY bZ c0 c1 c2 c4 c5 c6 Z c7 c8 cA cB cC cD cE cF cG cH cI cJ cK cL cM cN cO cP cQ cR cS f=some true) ?_ ?_)))))
 ·
  refine ab (rgn (by kernel_rfl) (pu (iv dQ) (by kernel_rfl) (ifN F (fun AS F=>?_) (fun AS F=>?_))))
  · cases F
  refine ph (de rfl rfl (fun h=>absurd AS h) (fun _=>pu bF (by kernel_rfl) (pup (iv e6) (by kernel_rfl) (ifN F (fun AT F=>?_) (fun AT F=>?_)))))
  · cases F
  refine aw (by kernel_rfl) (de rfl rfl (fun h=>absurd AT h) (fun _=>pu2 bF bF (by kernel_rfl) (pup (iv e7) (by kernel_rfl) (ifN F (fun AU F=>?_) (fun AU F=>?_)))))
  · cases F
  refine aw (by kernel_rfl) (de rfl rfl (fun h=>absurd AU h) (fun _=>pu2 bF bF (by kernel_rfl) (pup (iv jF) (by kernel_rfl) (ifN F (fun AV F=>?_) (fun AV F=>?_)))))
  · cases F
  refine aw (by kernel_rfl) (de rfl rfl (fun h=>absurd AV h) (fun _=>pu2 bF bF (by kernel_rfl) (pup (iv lN) (by kernel_rfl) (ifN F (fun AW F=>?_) (fun AW F=>?_)))))
  · cases F
  refine aw (by kernel_rfl) (de rfl rfl (fun h=>absurd AW h) (fun _=>pu2 bF bF (by kernel_rfl) (pup (.pointer (some ⟨eZ,3,none⟩)) (by kernel_rfl) (aw (by kernel_rfl) (ag I 12 (iv dT) zi3 rfl rfl rfl (ifN F (fun AX F=>?_) (fun AX F=>?_)))))))
  · cases F
  refine aw (by kernel_rfl) (de rfl rfl (fun h=>absurd AX h) (fun _=>pu2 bF bF (by kernel_rfl) (pup (.pointer (some ⟨eZ,5,none⟩)) (by kernel_rfl) (aw (by kernel_rfl) (ag I 12 (slv dU d8.length e8) mv rfl rfl rfl (pup (iv ((d8.length:Nat):Int)) (by kernel_rfl) (ifN F (fun AY F=>?_) (fun AY F=>?_))))))))
  · cases F
  refine aw (by kernel_rfl) (de rfl rfl (fun h=>absurd AY h) (fun _=>pu2 bF bF (by kernel_rfl) (pup (.slice (some ⟨cT,0,none⟩) 1 1) (by kernel_rfl) (pup (iv ((1:Nat):Int)) (by kernel_rfl) (aw (by kernel_rfl) (de rfl rfl (fun h=>absurd (by decide) h) (fun _=>pu2 bF bF (by kernel_rfl) (pup (.slice (some ⟨cT,0,none⟩) 1 1) (by kernel_rfl) (aw (by kernel_rfl) (lj 0 0 zu100 zs83 rfl rfl (by decide) rfl (pup (.pointer (some ⟨cT,3,none⟩)) (by kernel_rfl) (aw (by kernel_rfl) (ag I 4 (iv f.2.2.2.1) zi3 rfl rfl rfl (ifN F (fun AZ F=>?_) (fun AZ F=>?_)))))))))))))))
  · cases F
  refine aw (by kernel_rfl) (de rfl rfl (fun h=>absurd AZ h) (fun _=>pu2 bF bF (by kernel_rfl) (pup (.pointer (some ⟨H,8,none⟩)) (by kernel_rfl) (pup (.pointer (some ⟨H,20,none⟩)) (by kernel_rfl) (pup (.pointer (some ⟨H,22,none⟩)) (by kernel_rfl) (aw (by kernel_rfl) (ag I 14 (iv Z) zi3 rfl rfl rfl (ifN F (fun B0 F=>?_) (fun B0 F=>?_)))))))))
  · cases F
  refine aw (by kernel_rfl) (de rfl rfl (fun h=>absurd B0 h) (fun _=>pu bF (by kernel_rfl) (aa (ai rfl (ak (.inl ⟨rfl,⟨⟨rfl,rfl,rfl,rfl,trivial⟩,I.pk [6,7,8,9,10,11,14,0,1,2,3,4,5] rfl rfl,F⟩⟩))))))
 intro ρ w hJ
 obtain ⟨hag,I,F⟩:=hJ
 obtain ⟨ρ,rfl⟩:=hag.form; clear hag
 unfold F19j6 at F
 refine ab (bindSE F (fun DW B1 F=>?_) (fun DX B2 F=>?_))
 ·
  obtain ⟨f8,f9,fA,fB,fC,fD,fE,fF,fG,fH,fI,fJ,fK,fL,fM,fN,fO,fP,fQ,fR,fS,fT,fU,fV,fW,fX,fY,fZ,g0,g1,g2,g3,g4,g5,g6,g7,g8,g9,gA,gB,gC,gD,gE,gF,dW⟩:=DW
  refine dh I [0,1,2,3,4,5,6,7,8,9,10,11,12] (by decide) rfl (by kernel_rfl) (by kernel_rfl) fun hsub=>ap 0 (.agg (qf a6 bE a7 d9 bG a8 dA bH a9 dB aA aB aC bI aD dC aE aF aG aH aI aJ aK aL aM aN aO aP aQ aR aS aT aU aV aW aX aY aZ b0 b1 b2 b3 b4 b5 b6 b7 b8 b9 bA bB bC bD).toArray) hsub rfl (by kernel_rfl) (fun w I=>ma I 1 mu ml rfl rfl rfl br) (alp 1 (.slice (some ⟨cT,0,none⟩) 1 1) hsub rfl (by kernel_rfl) (fun _=>(by kernel_rfl)) (ap 2 (pt cT) hsub rfl (by kernel_rfl) (fun w I=>lj 0 0 zu100 zs83 rfl rfl (by decide) rfl br) (ap 3 (.agg #[iv f.1,iv f.2.1,iv f.2.2.1,iv f.2.2.2.1,iv f.2.2.2.2.1,slv dV f.2.2.2.2.2.length eF]) hsub rfl (by kernel_rfl) (fun w I=>ma I 11 zi83 zs83 rfl rfl rfl br) (bc [4,9] (by kernel_rfl) rfl (each2 ?_ ?_)))))
  ·intro w I
   refine dg rfl (co 55 _ (by kernel_rfl) (L55 _ a6 (bE.map fun b=>⟨b,0,none⟩) d9 a7 (bG.map fun b=>⟨b,0,none⟩) dA a8 (bH.map fun b=>⟨b,0,none⟩) dB a9 aA aB aC (bI.map fun b=>⟨b,0,none⟩) dC aD aE aF aG aH aI aJ aK aL aM aN aO aP aQ aR aS aT aU aV aW aX aY aZ b0 b1 b2 b3 b4 b5 b6 b7 b8 b9 bA bB bC bD f.1 f.2.1 f.2.2.1 f.2.2.2.1 f.2.2.2.2.1 (dV.map fun b=>⟨b,0,none⟩) eF f.2.2.2.2.2 (hG.up I) (I.rowCells 2 rfl V) (am rfl V.big) (am rfl V.cap) (I.rowCells 3 rfl W) (am rfl W.big) (am rfl W.cap) (I.rowCells 4 rfl X) (am rfl X.big) (am rfl X.cap) (I.rowCells 5 rfl Y) (am rfl Y.big) (am rfl Y.cap) (I.rowCells 12 rfl a4) (am rfl a4.big) (am rfl a4.cap) N _ B1) ?_)
   intro v w
   refine xHH fun wI wJ H7 wK wL H8 wM wN=>xFF fun H9 wO wP HA=>xaa fun hv=>xaa fun hN=>xaa fun DY=>xaa fun DZ=>xaa fun E0=>fun E1=>?_
   dsimp only at hv hN DY DZ E0 E1; subst hv
   have I:=I.join hN; clear hN
   refine ⟨_,I,dc (fun _ h=>h.pk [4,5,6,7,8,9,10,11,12,13,14,15,16] rfl rfl) ?_⟩
   intro hsub
   refine alp 5 (.tuple #[.agg (qf f8 wI f9 wJ wK fA wL wM fB wN fC fD fE wO fF wP fG fH fI fJ fK fL fM fN fO fP fQ fR fS fT fU fV fW fX fY fZ g0 g1 g2 g3 g4 g5 g6 g7 g8 g9 gA gB gC gD gE gF).toArray,.slice none 0 0,iv dW]) hsub rfl (by kernel_rfl) (fun _=>(by kernel_rfl)) (alp 6 (.agg (qf f8 wI f9 wJ wK fA wL wM fB wN fC fD fE wO fF wP fG fH fI fJ fK fL fM fN fO fP fQ fR fS fT fU fV fW fX fY fZ g0 g1 g2 g3 g4 g5 g6 g7 g8 g9 gA gB gC gD gE gF).toArray) hsub rfl (by kernel_rfl) (fun _=>(by kernel_rfl)) (alp 7 (.slice none 0 0) hsub rfl (by kernel_rfl) (fun _=>(by kernel_rfl)) (alp 8 (iv dW) hsub rfl (by kernel_rfl) (fun _=>(by kernel_rfl)) (bc [9] (by kernel_rfl) rfl (cz fun w I=>dg rfl (bh I qe zeroValue81 rfl fun HB w I=>⟨_,I,dc (fun _ h=>h.pk [5,6,7,8,9,10,11,12,13,14,15,16,17] rfl rfl) ?_⟩))))))
   intro hsub
   refine bc [10] (by kernel_rfl) rfl (cz fun w I=>dg rfl (aq I 0 44 (qf f8 wI f9 wJ wK fA wL wM fB wN fC fD fE wO fF wP fG fH fI fJ fK fL fM fN fO fP fQ fR fS fT fU fV fW fX fY fZ g0 g1 g2 g3 g4 g5 g6 g7 g8 g9 gA gB gC gD gE gF) ml rfl rfl rfl rfl rfl (mx rfl) fun w I=>⟨_,I,dc (fun _ h=>h.pk [5,6,7,8,9,10,11,12,13,14,15,16,17] rfl rfl) ?_⟩))
   intro hsub
   refine alp 11 (.slice none 0 0) hsub rfl (by kernel_rfl) (fun _=>(by kernel_rfl)) (alp 12 (iv dW) hsub rfl (by kernel_rfl) (fun _=>(by kernel_rfl)) (cp (by kernel_rfl) (fun w I=>?_)))
   have I:Inv [] w0 w [(some E,blk [iv i,iv l,iv m,iv o,iv q,iv r,iv s,.string (bts x)] 25),(some H,blk (qf bJ O bK cV P bL cW Q bM cX bN bO bP R bQ cY bR bS bU bV bW bX bY bZ c0 c1 c2 c4 c5 c6 Z c7 c8 cA cB cC cD cE cF cG cH cI cJ cK cL cM cN cO cP cQ cR cS) 81),(O,blk jG 35),(P,blk jH 35),(Q,blk jI 35),(R,blk jJ 25)]:=I.pk [5,11,12,13,14,15] rfl (by kernel_rfl)
   refine ab (ab (rgn (by kernel_rfl) (pu (iv dW) (by kernel_rfl) (ifE F (fun E2 F=>?_) (fun E2 F=>?_)))))
   · cases F
   cases F
  intro w I
  refine dg rfl (bh I qe zeroValue81 rfl fun HC w I=>⟨_,I,dc (fun _ h=>h.pk [1,2,3,4,5,6,7,8,9,10,11,12,13] rfl rfl) ?_⟩)
  intro hsub
  refine bc [4] (by kernel_rfl) rfl (cz fun w I=>dg rfl (co 55 _ (by kernel_rfl) (L55 _ a6 (bE.map fun b=>⟨b,0,none⟩) d9 a7 (bG.map fun b=>⟨b,0,none⟩) dA a8 (bH.map fun b=>⟨b,0,none⟩) dB a9 aA aB aC (bI.map fun b=>⟨b,0,none⟩) dC aD aE aF aG aH aI aJ aK aL aM aN aO aP aQ aR aS aT aU aV aW aX aY aZ b0 b1 b2 b3 b4 b5 b6 b7 b8 b9 bA bB bC bD f.1 f.2.1 f.2.2.1 f.2.2.2.1 f.2.2.2.2.1 (dV.map fun b=>⟨b,0,none⟩) eF f.2.2.2.2.2 (hG.up I) (I.rowCells 3 rfl V) (am rfl V.big) (am rfl V.cap) (I.rowCells 4 rfl W) (am rfl W.big) (am rfl W.cap) (I.rowCells 5 rfl X) (am rfl X.big) (am rfl X.cap) (I.rowCells 6 rfl Y) (am rfl Y.big) (am rfl Y.cap) (I.rowCells 13 rfl a4) (am rfl a4.big) (am rfl a4.cap) N _ B1) ?_))
  intro v w
  refine xHH fun wQ wR HD wS wT HE wU wV=>xFF fun HF wW wX HG=>xaa fun hv=>xaa fun hN=>xaa fun E3=>xaa fun E4=>xaa fun E5=>fun E6=>?_
  dsimp only at hv hN E3 E4 E5 E6; subst hv
  have I:=I.join hN; clear hN
  refine ⟨_,I,dc (fun _ h=>h.pk [5,6,7,8,9,10,11,12,13,14,15,16,17] rfl rfl) ?_⟩
  intro hsub
  refine alp 5 (.tuple #[.agg (qf f8 wQ f9 wR wS fA wT wU fB wV fC fD fE wW fF wX fG fH fI fJ fK fL fM fN fO fP fQ fR fS fT fU fV fW fX fY fZ g0 g1 g2 g3 g4 g5 g6 g7 g8 g9 gA gB gC gD gE gF).toArray,.slice none 0 0,iv dW]) hsub rfl (by kernel_rfl) (fun _=>(by kernel_rfl)) (alp 6 (.agg (qf f8 wQ f9 wR wS fA wT wU fB wV fC fD fE wW fF wX fG fH fI fJ fK fL fM fN fO fP fQ fR fS fT fU fV fW fX fY fZ g0 g1 g2 g3 g4 g5 g6 g7 g8 g9 gA gB gC gD gE gF).toArray) hsub rfl (by kernel_rfl) (fun _=>(by kernel_rfl)) (alp 7 (.slice none 0 0) hsub rfl (by kernel_rfl) (fun _=>(by kernel_rfl)) (alp 8 (iv dW) hsub rfl (by kernel_rfl) (fun _=>(by kernel_rfl)) (bc [10] (by kernel_rfl) rfl (cz fun w I=>dg rfl (aq I 4 44 (qf f8 wQ f9 wR wS fA wT wU fB wV fC fD fE wW fF wX fG fH fI fJ fK fL fM fN fO fP fQ fR fS fT fU fV fW fX fY fZ g0 g1 g2 g3 g4 g5 g6 g7 g8 g9 gA gB gC gD gE gF) ml rfl rfl rfl rfl rfl (mx rfl) fun w I=>⟨_,I,dc (fun _ h=>h.pk [5,6,7,8,9,10,11,12,13,14,15,16,17] rfl rfl) ?_⟩))))))
  intro hsub
  refine alp 11 (.slice none 0 0) hsub rfl (by kernel_rfl) (fun _=>(by kernel_rfl)) (alp 12 (iv dW) hsub rfl (by kernel_rfl) (fun _=>(by kernel_rfl)) (cp (by kernel_rfl) (fun w I=>?_)))
  have I:Inv [] w0 w [(some E,blk [iv i,iv l,iv m,iv o,iv q,iv r,iv s,.string (bts x)] 25),(some H,blk (qf bJ O bK cV P bL cW Q bM cX bN bO bP R bQ cY bR bS bU bV bW bX bY bZ c0 c1 c2 c4 c5 c6 Z c7 c8 cA cB cC cD cE cF cG cH cI cJ cK cL cM cN cO cP cQ cR cS) 81),(O,blk jG 35),(P,blk jH 35),(Q,blk jI 35),(R,blk jJ 25)]:=I.pk [5,11,12,13,14,15] rfl (by kernel_rfl)
  refine ab (ab (rgn (by kernel_rfl) (pu (iv dW) (by kernel_rfl) (ifE F (fun E7 F=>?_) (fun E7 F=>?_)))))
  · cases F
  cases F
 obtain ⟨gG,gH,gI,gJ,gK,gL,gM,gN,gO,gP,gR,gS,gT,gU,gV,gW,gX,gY,gZ,h0,h1,h2,h3,h4,h5,h6,h7,h8,h9,hA,hB,hC,hD,hE,hH,hK,hL,hM,hO,hP,hQ,hR,hS,hT,e,dX⟩:=DX
 refine dh I [0,1,2,3,4,5,6,7,8,9,10,11,12] (by decide) rfl (by kernel_rfl) (by kernel_rfl) fun hsub=>ap 0 (.agg (qf a6 bE a7 d9 bG a8 dA bH a9 dB aA aB aC bI aD dC aE aF aG aH aI aJ aK aL aM aN aO aP aQ aR aS aT aU aV aW aX aY aZ b0 b1 b2 b3 b4 b5 b6 b7 b8 b9 bA bB bC bD).toArray) hsub rfl (by kernel_rfl) (fun w I=>ma I 1 mu ml rfl rfl rfl br) (alp 1 (.slice (some ⟨cT,0,none⟩) 1 1) hsub rfl (by kernel_rfl) (fun _=>(by kernel_rfl)) (ap 2 (pt cT) hsub rfl (by kernel_rfl) (fun w I=>lj 0 0 zu100 zs83 rfl rfl (by decide) rfl br) (ap 3 (.agg #[iv f.1,iv f.2.1,iv f.2.2.1,iv f.2.2.2.1,iv f.2.2.2.2.1,slv dV f.2.2.2.2.2.length eF]) hsub rfl (by kernel_rfl) (fun w I=>ma I 11 zi83 zs83 rfl rfl rfl br) (bc [4,9] (by kernel_rfl) rfl (each2 ?_ ?_)))))
 ·intro w I
  refine dg rfl (co 55 _ (by kernel_rfl) (L55 _ a6 (bE.map fun b=>⟨b,0,none⟩) d9 a7 (bG.map fun b=>⟨b,0,none⟩) dA a8 (bH.map fun b=>⟨b,0,none⟩) dB a9 aA aB aC (bI.map fun b=>⟨b,0,none⟩) dC aD aE aF aG aH aI aJ aK aL aM aN aO aP aQ aR aS aT aU aV aW aX aY aZ b0 b1 b2 b3 b4 b5 b6 b7 b8 b9 bA bB bC bD f.1 f.2.1 f.2.2.1 f.2.2.2.1 f.2.2.2.2.1 (dV.map fun b=>⟨b,0,none⟩) eF f.2.2.2.2.2 (hG.up I) (I.rowCells 2 rfl V) (am rfl V.big) (am rfl V.cap) (I.rowCells 3 rfl W) (am rfl W.big) (am rfl W.cap) (I.rowCells 4 rfl X) (am rfl X.big) (am rfl X.cap) (I.rowCells 5 rfl Y) (am rfl Y.big) (am rfl Y.cap) (I.rowCells 12 rfl a4) (am rfl a4.big) (am rfl a4.cap) N _ B2) ?_)
  intro v w
  refine xPP fun wY wZ HH x0 x1 HI x2 x3 HJ x4 x5 HK cZ eG hU E8=>xaa fun hv=>xaa fun hN=>xaa fun E9=>xaa fun EA=>xaa fun EB=>xaa fun EC=>fun eH=>?_
  dsimp only at hv hN E9 EA EB EC eH; subst hv
  have I:=I.join hN; clear hN
  refine ⟨_,I,dc (fun _ h=>h.pk [6,7,8,9,10,11,12,13,14,15,16,17,18] rfl rfl) ?_⟩
  intro hsub
  refine alp 5 (.tuple #[.agg (qf gG wY gH wZ x0 gI x1 x2 gJ x3 gK gL gM x4 gN x5 gO gP gR gS gT gU gV gW gX gY gZ h0 h1 h2 h3 h4 h5 h6 h7 h8 h9 hA hB hC hD hE hH hK hL hM hO hP hQ hR hS hT).toArray,.slice (some ⟨cZ,0,none⟩) 1 1,iv dX]) hsub rfl (by kernel_rfl) (fun _=>(by kernel_rfl)) (alp 6 (.agg (qf gG wY gH wZ x0 gI x1 x2 gJ x3 gK gL gM x4 gN x5 gO gP gR gS gT gU gV gW gX gY gZ h0 h1 h2 h3 h4 h5 h6 h7 h8 h9 hA hB hC hD hE hH hK hL hM hO hP hQ hR hS hT).toArray) hsub rfl (by kernel_rfl) (fun _=>(by kernel_rfl)) (alp 7 (.slice (some ⟨cZ,0,none⟩) 1 1) hsub rfl (by kernel_rfl) (fun _=>(by kernel_rfl)) (alp 8 (iv dX) hsub rfl (by kernel_rfl) (fun _=>(by kernel_rfl)) (bc [9] (by kernel_rfl) rfl (cz fun w I=>dg rfl (bh I qe zeroValue81 rfl fun HL w I=>⟨_,I,dc (fun _ h=>h.pk [7,8,9,10,11,12,13,14,15,16,17,18,19] rfl rfl) ?_⟩))))))
  intro hsub
  refine bc [10] (by kernel_rfl) rfl (cz fun w I=>dg rfl (aq I 0 44 (qf gG wY gH wZ x0 gI x1 x2 gJ x3 gK gL gM x4 gN x5 gO gP gR gS gT gU gV gW gX gY gZ h0 h1 h2 h3 h4 h5 h6 h7 h8 h9 hA hB hC hD hE hH hK hL hM hO hP hQ hR hS hT) ml rfl rfl rfl rfl rfl (mx rfl) fun w I=>⟨_,I,dc (fun _ h=>h.pk [7,8,9,10,11,12,13,14,15,16,17,18,19] rfl rfl) ?_⟩))
  intro hsub
  refine alp 11 (.slice (some ⟨cZ,0,none⟩) 1 1) hsub rfl (by kernel_rfl) (fun _=>(by kernel_rfl)) (alp 12 (iv dX) hsub rfl (by kernel_rfl) (fun _=>(by kernel_rfl)) (cp (by kernel_rfl) (fun w I=>?_)))
  have I:Inv [] w0 w [(some cZ,blk [iv e.1,iv e.2.1,iv e.2.2.1,iv e.2.2.2.1,iv e.2.2.2.2.1,slv eG e.2.2.2.2.2.length hU] 83),(eG,blk E8 25),(some E,blk [iv i,iv l,iv m,iv o,iv q,iv r,iv s,.string (bts x)] 25),(some H,blk (qf bJ O bK cV P bL cW Q bM cX bN bO bP R bQ cY bR bS bU bV bW bX bY bZ c0 c1 c2 c4 c5 c6 Z c7 c8 cA cB cC cD cE cF cG cH cI cJ cK cL cM cN cO cP cQ cR cS) 81),(O,blk jG 35),(P,blk jH 35),(Q,blk jI 35),(R,blk jJ 25)]:=I.pk [5,6,7,13,14,15,16,17] rfl (by kernel_rfl)
  refine ab (ab (rgn (by kernel_rfl) (pu (iv dX) (by kernel_rfl) (ifN F (fun B3 F=>?_) (fun B3 F=>?_)))))
  · cases F
  refine ph (de rfl rfl (fun h=>absurd B3 h) (fun _=>pu bF (by kernel_rfl) (pup (.slice (some ⟨cZ,0,none⟩) 1 1) (by kernel_rfl) (pup (iv ((1:Nat):Int)) (by kernel_rfl) (aw (by kernel_rfl) (de rfl rfl (fun h=>absurd (by decide) h) (fun _=>pu2 bF bF (by kernel_rfl) (pup (.slice (some ⟨cZ,0,none⟩) 1 1) (by kernel_rfl) (aw (by kernel_rfl) (lj 0 0 zu100 zs83 rfl rfl (by decide) rfl (pup (.pointer (some ⟨cZ,5,none⟩)) (by kernel_rfl) (aw (by kernel_rfl) (ag I 0 (slv eG e.2.2.2.2.2.length hU) mv rfl rfl rfl (pup (iv ((e.2.2.2.2.2.length:Nat):Int)) (by kernel_rfl) (ifN F (fun B4 F=>?_) (fun B4 F=>?_))))))))))))))))
  · cases F
  refine aw (by kernel_rfl) (de rfl rfl (fun h=>absurd B4 h) (fun _=>pu bF (by kernel_rfl) (aa (ai rfl (ak (ab (bindSE F (fun ED EE F=>?_) (fun EF EG F=>?_))))))))
  ·
   obtain ⟨lO,lP,lQ,lR,lS,lT,lU,dD,lV,lW,lX,lY,lZ,m0,m1,m2,m3,m4,m5,m6,m7,m8,m9,mA,mB,mC,mD,mE,mF,mG,mH,mI,mJ,mK,mL,mM,mN,mO,mP,mQ,mR,mS,mT,mU,mV⟩:=ED
   replace I:=I.pk [0,1,2,4,5,6,7,3] rfl rfl
   refine dh I [0,1,2,3,4,5,6] (by decide) rfl (by kernel_rfl) (by kernel_rfl) fun hsub=>alp 1 (.slice (some ⟨cZ,0,none⟩) 1 1) hsub rfl (by kernel_rfl) (fun _=>(by kernel_rfl)) (ap 2 (pt cZ) hsub rfl (by kernel_rfl) (fun w I=>lj 0 0 zu100 zs83 rfl rfl (by decide) rfl br) (ap 3 (.agg #[iv e.1,iv e.2.1,iv e.2.2.1,iv e.2.2.2.1,iv e.2.2.2.2.1,slv eG e.2.2.2.2.2.length hU]) hsub rfl (by kernel_rfl) (fun w I=>ma I 0 zi83 zs83 rfl rfl rfl br) (bc [0] (by kernel_rfl) rfl (cz fun w I=>dg rfl (ma I 7 mu ml rfl rfl rfl (⟨_,I,dc (fun _ h=>h.pk [0,1,2,3,4,5,6] rfl rfl) ?_⟩))))))
   intro hsub
   refine bc [4] (by kernel_rfl) rfl (cz fun w I=>dg rfl (co 55 _ (by kernel_rfl) (L55 _ bJ (O.map fun b=>⟨b,0,none⟩) cV bK (P.map fun b=>⟨b,0,none⟩) cW bL (Q.map fun b=>⟨b,0,none⟩) cX bM bN bO bP (R.map fun b=>⟨b,0,none⟩) cY bQ bR bS bU bV bW bX bY bZ c0 c1 c2 c4 c5 c6 Z c7 c8 cA cB cC cD cE cF cG cH cI cJ cK cL cM cN cO cP cQ cR cS e.1 e.2.1 e.2.2.1 e.2.2.2.1 e.2.2.2.2.1 (eG.map fun b=>⟨b,0,none⟩) hU e.2.2.2.2.2 (hG.up I) (I.rowCells 3 rfl a0) (am rfl a0.big) (am rfl a0.cap) (I.rowCells 4 rfl a1) (am rfl a1.big) (am rfl a1.cap) (I.rowCells 5 rfl a2) (am rfl a2.big) (am rfl a2.cap) (I.rowCells 6 rfl a3) (am rfl a3.big) (am rfl a3.cap) (I.rowCells 1 rfl eH) (am rfl eH.big) (am rfl eH.cap) N _ EE) ?_))
   intro v w
   refine xHH fun jK mW EH jL mX EI jM mY=>xFF fun EJ dR dY EK=>xaa fun hv=>xaa fun hN=>xaa fun EL=>xaa fun EM=>xaa fun EN=>fun B5=>?_
   dsimp only at hv hN EL EM EN B5; subst hv
   have I:=I.join hN; clear hN
   refine ⟨_,I,dc (fun _ h=>h.pk [4,5,6,7,8,9,10] rfl rfl) ?_⟩
   intro hsub
   refine alp 5 (.tuple #[.agg (qf lO jK lP mW jL lQ mX jM lR mY lS lT lU dR dD dY lV lW lX lY lZ m0 m1 m2 m3 m4 m5 m6 m7 m8 m9 mA mB mC mD mE mF mG mH mI mJ mK mL mM mN mO mP mQ mR mS mT mU).toArray,.slice none 0 0,iv mV]) hsub rfl (by kernel_rfl) (fun _=>(by kernel_rfl)) (alp 6 (.agg (qf lO jK lP mW jL lQ mX jM lR mY lS lT lU dR dD dY lV lW lX lY lZ m0 m1 m2 m3 m4 m5 m6 m7 m8 m9 mA mB mC mD mE mF mG mH mI mJ mK mL mM mN mO mP mQ mR mS mT mU).toArray) hsub rfl (by kernel_rfl) (fun _=>(by kernel_rfl)) (alp 7 (.slice none 0 0) hsub rfl (by kernel_rfl) (fun _=>(by kernel_rfl)) (alp 8 (iv mV) hsub rfl (by kernel_rfl) (fun _=>(by kernel_rfl)) (bc [9] (by kernel_rfl) rfl (cz fun w I=>dg rfl (aq I 11 44 (qf lO jK lP mW jL lQ mX jM lR mY lS lT lU dR dD dY lV lW lX lY lZ m0 m1 m2 m3 m4 m5 m6 m7 m8 m9 mA mB mC mD mE mF mG mH mI mJ mK mL mM mN mO mP mQ mR mS mT mU) ml rfl rfl rfl rfl rfl (mx rfl) fun w I=>⟨_,I,dc (fun _ h=>h.pk [4,5,6,7,8,9,10] rfl rfl) ?_⟩))))))
   intro hsub
   refine alp 10 (.slice none 0 0) hsub rfl (by kernel_rfl) (fun _=>(by kernel_rfl)) (alp 11 (iv mV) hsub rfl (by kernel_rfl) (fun _=>(by kernel_rfl)) (cp (by kernel_rfl) (fun w I=>?_)))
   have I:Inv [] w0 w [(jK,blk EH 35),(jL,blk EI 35),(jM,blk EJ 35),(dR,blk EK 25),(some E,blk [iv i,iv l,iv m,iv o,iv q,iv r,iv s,.string (bts x)] 25),(some H,blk (qf lO jK lP mW jL lQ mX jM lR mY lS lT lU dR dD dY lV lW lX lY lZ m0 m1 m2 m3 m4 m5 m6 m7 m8 m9 mA mB mC mD mE mF mG mH mI mJ mK mL mM mN mO mP mQ mR mS mT mU) 81)]:=I.pk [0,1,2,3,6,11] rfl (by kernel_rfl)
   refine ab (gm 22 I (by kernel_rfl) (zp (iv mV) (fun _=>(by kernel_rfl)) (ifN F (fun B6 F=>?_) (fun B6 F=>?_))))
   · cases F
   refine zc bT (fun w I=>di rfl rfl (fun _=>br) (fun h=>absurd B6 h)) (zp bT (fun _=>(by kernel_rfl)) (zq (.slice none 0 0) (by kernel_rfl) (fun _=>(by kernel_rfl)) (zo (iv 0) (by kernel_rfl) (fun w I=>kl (iv ((0:Nat):Int)) (by kernel_rfl) br) (zo bT (by kernel_rfl) (fun w I=>di rfl rfl (fun _=>br) (fun h=>absurd (by decide) h)) (zp2 bT bT (fun _=>(by kernel_rfl)) (zq (.pointer (some ⟨H,7,none⟩)) (by kernel_rfl) (fun _=>(by kernel_rfl)) (zo (slv dR dD.length dY) (by kernel_rfl) (fun w I=>ag I 5 (slv dR dD.length dY) mv rfl rfl rfl br) (zo (iv (dD.length:Int)) (by kernel_rfl) (fun w I=>kl (iv ((dD.length:Nat):Int)) (by kernel_rfl) br) (ifN F (fun B7 F=>?_) (fun B7 F=>?_))))))))))
   · cases F
   refine zo bT (by kernel_rfl) (fun w I=>di rfl rfl (fun _=>br) (fun h=>absurd B7 h)) (zp2 bT bT (fun _=>(by kernel_rfl)) (zq (.pointer (some ⟨H,7,none⟩)) (by kernel_rfl) (fun _=>(by kernel_rfl)) (zo (slv dR dD.length dY) (by kernel_rfl) (fun w I=>ag I 5 (slv dR dD.length dY) mv rfl rfl rfl br) (bt F (fun A B8 F=>?_)))))
   obtain ⟨EO,rfl,EP⟩:=B5.at_ bx (by decide) B8
   refine zo (.pointer (some ⟨EO,0 * 8,none⟩)) (by kernel_rfl) (fun w I=>be 0 zu45 md rfl rfl rfl (fa B8 rfl) br) (zo (.agg (qg A).toArray) (by kernel_rfl) (fun w I=>cq I 3 (qg A) mh md rfl rfl rfl EP br) (zo (.agg #[iv i,iv l,iv m,iv o,iv q,iv r,iv s,.string (bts x)]) (by kernel_rfl) (fun w I=>ma I 4 mh md rfl rfl rfl br) (ifN F (fun B9 F=>?_) (fun B9 F=>?_))))
   · cases F
   refine zo bT (by kernel_rfl) (fun w I=>kz (b:=decide (A.p=i) && decide (A.n=l) && decide (A.k=m) && decide (A.d=o) && decide (A.kn=q) && decide (A.op=r) && decide (A.on=s) && decide (A.t=x)) rfl rfl (by kernel_rfl) (fun w=>eq25 _ A.p A.n A.k A.d A.kn A.op A.on A.t i l m o q r s x w) (fun _=>br) (fun h=>absurd B9 h)) (zp2 bT bT (fun _=>(by kernel_rfl)) (zh (fun w I=>aa (aj ?_))))
   cases F
   exact ⟨_,Ret.r1 rfl rfl,⟨rfl,I.below⟩⟩
  obtain ⟨mZ,n0,n1,n2,n3,n4,n5,n6,n7,n8,n9,nA,nB,nC,nD,nE,nF,nG,nH,nI,nJ,nK,nL,nM,nN,nO,nP,nQ,nR,nS,nT,nU,nV,nW,nX,nY,nZ,o0,o1,o2,o3,o4,o5,o6,hV,o7⟩:=EF
  replace I:=I.pk [0,1,2,4,5,6,7,3] rfl rfl
  refine dh I [0,1,2,3,4,5,6] (by decide) rfl (by kernel_rfl) (by kernel_rfl) fun hsub=>alp 1 (.slice (some ⟨cZ,0,none⟩) 1 1) hsub rfl (by kernel_rfl) (fun _=>(by kernel_rfl)) (ap 2 (pt cZ) hsub rfl (by kernel_rfl) (fun w I=>lj 0 0 zu100 zs83 rfl rfl (by decide) rfl br) (ap 3 (.agg #[iv e.1,iv e.2.1,iv e.2.2.1,iv e.2.2.2.1,iv e.2.2.2.2.1,slv eG e.2.2.2.2.2.length hU]) hsub rfl (by kernel_rfl) (fun w I=>ma I 0 zi83 zs83 rfl rfl rfl br) (bc [0] (by kernel_rfl) rfl (cz fun w I=>dg rfl (ma I 7 mu ml rfl rfl rfl (⟨_,I,dc (fun _ h=>h.pk [0,1,2,3,4,5,6] rfl rfl) ?_⟩))))))
  intro hsub
  refine bc [4] (by kernel_rfl) rfl (cz fun w I=>dg rfl (co 55 _ (by kernel_rfl) (L55 _ bJ (O.map fun b=>⟨b,0,none⟩) cV bK (P.map fun b=>⟨b,0,none⟩) cW bL (Q.map fun b=>⟨b,0,none⟩) cX bM bN bO bP (R.map fun b=>⟨b,0,none⟩) cY bQ bR bS bU bV bW bX bY bZ c0 c1 c2 c4 c5 c6 Z c7 c8 cA cB cC cD cE cF cG cH cI cJ cK cL cM cN cO cP cQ cR cS e.1 e.2.1 e.2.2.1 e.2.2.2.1 e.2.2.2.2.1 (eG.map fun b=>⟨b,0,none⟩) hU e.2.2.2.2.2 (hG.up I) (I.rowCells 3 rfl a0) (am rfl a0.big) (am rfl a0.cap) (I.rowCells 4 rfl a1) (am rfl a1.big) (am rfl a1.cap) (I.rowCells 5 rfl a2) (am rfl a2.big) (am rfl a2.cap) (I.rowCells 6 rfl a3) (am rfl a3.big) (am rfl a3.cap) (I.rowCells 1 rfl eH) (am rfl eH.big) (am rfl eH.cap) N _ EG) ?_))
  intro v w
  refine xPP fun jN o8 EQ jO o9 ER jP oA ES jQ oB ET oC BA EU EV=>xaa fun hv=>xaa fun hN=>xaa fun EW=>xaa fun EX=>xaa fun EY=>xaa fun EZ=>fun F0=>?_
  dsimp only at hv hN EW EX EY EZ F0; subst hv
  have I:=I.join hN; clear hN
  refine ⟨_,I,dc (fun _ h=>h.pk [6,7,8,9,10,11,12] rfl rfl) ?_⟩
  intro hsub
  refine alp 5 (.tuple #[.agg (qf mZ jN n0 o8 jO n1 o9 jP n2 oA n3 n4 n5 jQ n6 oB n7 n8 n9 nA nB nC nD nE nF nG nH nI nJ nK nL nM nN nO nP nQ nR nS nT nU nV nW nX nY nZ o0 o1 o2 o3 o4 o5 o6).toArray,.slice (some ⟨oC,0,none⟩) 1 1,iv o7]) hsub rfl (by kernel_rfl) (fun _=>(by kernel_rfl)) (alp 6 (.agg (qf mZ jN n0 o8 jO n1 o9 jP n2 oA n3 n4 n5 jQ n6 oB n7 n8 n9 nA nB nC nD nE nF nG nH nI nJ nK nL nM nN nO nP nQ nR nS nT nU nV nW nX nY nZ o0 o1 o2 o3 o4 o5 o6).toArray) hsub rfl (by kernel_rfl) (fun _=>(by kernel_rfl)) (alp 7 (.slice (some ⟨oC,0,none⟩) 1 1) hsub rfl (by kernel_rfl) (fun _=>(by kernel_rfl)) (alp 8 (iv o7) hsub rfl (by kernel_rfl) (fun _=>(by kernel_rfl)) (bc [9] (by kernel_rfl) rfl (cz fun w I=>dg rfl (aq I 13 44 (qf mZ jN n0 o8 jO n1 o9 jP n2 oA n3 n4 n5 jQ n6 oB n7 n8 n9 nA nB nC nD nE nF nG nH nI nJ nK nL nM nN nO nP nQ nR nS nT nU nV nW nX nY nZ o0 o1 o2 o3 o4 o5 o6) ml rfl rfl rfl rfl rfl (mx rfl) fun w I=>⟨_,I,dc (fun _ h=>h.pk [6,7,8,9,10,11,12] rfl rfl) ?_⟩))))))
  intro hsub
  refine alp 10 (.slice (some ⟨oC,0,none⟩) 1 1) hsub rfl (by kernel_rfl) (fun _=>(by kernel_rfl)) (alp 11 (iv o7) hsub rfl (by kernel_rfl) (fun _=>(by kernel_rfl)) (cp (by kernel_rfl) (fun w I=>?_)))
  have I:Inv [] w0 w [(jN,blk EQ 35),(jO,blk ER 35),(jP,blk ES 35),(jQ,blk ET 25),(some oC,blk [iv hV.1,iv hV.2.1,iv hV.2.2.1,iv hV.2.2.2.1,iv hV.2.2.2.2.1,slv BA hV.2.2.2.2.2.length EU] 83),(BA,blk EV 25),(some E,blk [iv i,iv l,iv m,iv o,iv q,iv r,iv s,.string (bts x)] 25),(some H,blk (qf mZ jN n0 o8 jO n1 o9 jP n2 oA n3 n4 n5 jQ n6 oB n7 n8 n9 nA nB nC nD nE nF nG nH nI nJ nK nL nM nN nO nP nQ nR nS nT nU nV nW nX nY nZ o0 o1 o2 o3 o4 o5 o6) 81)]:=I.pk [0,1,2,3,4,5,8,13] rfl (by kernel_rfl)
  refine ab (gm 22 I (by kernel_rfl) (zp (iv o7) (fun _=>(by kernel_rfl)) (ifE F (fun F1 F=>?_) (fun F1 F=>?_))))
  · cases F
  cases F
 intro w I
 refine dg rfl (bh I qe zeroValue81 rfl fun HM w I=>⟨_,I,dc (fun _ h=>h.pk [1,2,3,4,5,6,7,8,9,10,11,12,13] rfl rfl) ?_⟩)
 intro hsub
 refine bc [4] (by kernel_rfl) rfl (cz fun w I=>dg rfl (co 55 _ (by kernel_rfl) (L55 _ a6 (bE.map fun b=>⟨b,0,none⟩) d9 a7 (bG.map fun b=>⟨b,0,none⟩) dA a8 (bH.map fun b=>⟨b,0,none⟩) dB a9 aA aB aC (bI.map fun b=>⟨b,0,none⟩) dC aD aE aF aG aH aI aJ aK aL aM aN aO aP aQ aR aS aT aU aV aW aX aY aZ b0 b1 b2 b3 b4 b5 b6 b7 b8 b9 bA bB bC bD f.1 f.2.1 f.2.2.1 f.2.2.2.1 f.2.2.2.2.1 (dV.map fun b=>⟨b,0,none⟩) eF f.2.2.2.2.2 (hG.up I) (I.rowCells 3 rfl V) (am rfl V.big) (am rfl V.cap) (I.rowCells 4 rfl W) (am rfl W.big) (am rfl W.cap) (I.rowCells 5 rfl X) (am rfl X.big) (am rfl X.cap) (I.rowCells 6 rfl Y) (am rfl Y.big) (am rfl Y.cap) (I.rowCells 13 rfl a4) (am rfl a4.big) (am rfl a4.cap) N _ B2) ?_))
 intro v w
 refine xPP fun x6 x7 HN x8 x9 HO xA xB HP xC xD HQ d0 eI hW F2=>xaa fun hv=>xaa fun hN=>xaa fun F3=>xaa fun F4=>xaa fun F5=>xaa fun F6=>fun eJ=>?_
 dsimp only at hv hN F3 F4 F5 F6 eJ; subst hv
 have I:=I.join hN; clear hN
 refine ⟨_,I,dc (fun _ h=>h.pk [7,8,9,10,11,12,13,14,15,16,17,18,19] rfl rfl) ?_⟩
 intro hsub
 refine alp 5 (.tuple #[.agg (qf gG x6 gH x7 x8 gI x9 xA gJ xB gK gL gM xC gN xD gO gP gR gS gT gU gV gW gX gY gZ h0 h1 h2 h3 h4 h5 h6 h7 h8 h9 hA hB hC hD hE hH hK hL hM hO hP hQ hR hS hT).toArray,.slice (some ⟨d0,0,none⟩) 1 1,iv dX]) hsub rfl (by kernel_rfl) (fun _=>(by kernel_rfl)) (alp 6 (.agg (qf gG x6 gH x7 x8 gI x9 xA gJ xB gK gL gM xC gN xD gO gP gR gS gT gU gV gW gX gY gZ h0 h1 h2 h3 h4 h5 h6 h7 h8 h9 hA hB hC hD hE hH hK hL hM hO hP hQ hR hS hT).toArray) hsub rfl (by kernel_rfl) (fun _=>(by kernel_rfl)) (alp 7 (.slice (some ⟨d0,0,none⟩) 1 1) hsub rfl (by kernel_rfl) (fun _=>(by kernel_rfl)) (alp 8 (iv dX) hsub rfl (by kernel_rfl) (fun _=>(by kernel_rfl)) (bc [10] (by kernel_rfl) rfl (cz fun w I=>dg rfl (aq I 6 44 (qf gG x6 gH x7 x8 gI x9 xA gJ xB gK gL gM xC gN xD gO gP gR gS gT gU gV gW gX gY gZ h0 h1 h2 h3 h4 h5 h6 h7 h8 h9 hA hB hC hD hE hH hK hL hM hO hP hQ hR hS hT) ml rfl rfl rfl rfl rfl (mx rfl) fun w I=>⟨_,I,dc (fun _ h=>h.pk [7,8,9,10,11,12,13,14,15,16,17,18,19] rfl rfl) ?_⟩))))))
 intro hsub
 refine alp 11 (.slice (some ⟨d0,0,none⟩) 1 1) hsub rfl (by kernel_rfl) (fun _=>(by kernel_rfl)) (alp 12 (iv dX) hsub rfl (by kernel_rfl) (fun _=>(by kernel_rfl)) (cp (by kernel_rfl) (fun w I=>?_)))
 have I:Inv [] w0 w [(some d0,blk [iv e.1,iv e.2.1,iv e.2.2.1,iv e.2.2.2.1,iv e.2.2.2.2.1,slv eI e.2.2.2.2.2.length hW] 83),(eI,blk F2 25),(some E,blk [iv i,iv l,iv m,iv o,iv q,iv r,iv s,.string (bts x)] 25),(some H,blk (qf bJ O bK cV P bL cW Q bM cX bN bO bP R bQ cY bR bS bU bV bW bX bY bZ c0 c1 c2 c4 c5 c6 Z c7 c8 cA cB cC cD cE cF cG cH cI cJ cK cL cM cN cO cP cQ cR cS) 81),(O,blk jG 35),(P,blk jH 35),(Q,blk jI 35),(R,blk jJ 25)]:=I.pk [4,5,7,13,14,15,16,17] rfl (by kernel_rfl)
 refine ab (ab (rgn (by kernel_rfl) (pu (iv dX) (by kernel_rfl) (ifN F (fun BB F=>?_) (fun BB F=>?_)))))
 · cases F
 refine ph (de rfl rfl (fun h=>absurd BB h) (fun _=>pu bF (by kernel_rfl) (pup (.slice (some ⟨d0,0,none⟩) 1 1) (by kernel_rfl) (pup (iv ((1:Nat):Int)) (by kernel_rfl) (aw (by kernel_rfl) (de rfl rfl (fun h=>absurd (by decide) h) (fun _=>pu2 bF bF (by kernel_rfl) (pup (.slice (some ⟨d0,0,none⟩) 1 1) (by kernel_rfl) (aw (by kernel_rfl) (lj 0 0 zu100 zs83 rfl rfl (by decide) rfl (pup (.pointer (some ⟨d0,5,none⟩)) (by kernel_rfl) (aw (by kernel_rfl) (ag I 0 (slv eI e.2.2.2.2.2.length hW) mv rfl rfl rfl (pup (iv ((e.2.2.2.2.2.length:Nat):Int)) (by kernel_rfl) (ifN F (fun BC F=>?_) (fun BC F=>?_))))))))))))))))
 · cases F
 refine aw (by kernel_rfl) (de rfl rfl (fun h=>absurd BC h) (fun _=>pu bF (by kernel_rfl) (aa (ai rfl (ak (ab (bindSE F (fun F7 F8 F=>?_) (fun F9 FA F=>?_))))))))
 ·
  obtain ⟨oD,oE,oF,oG,oH,oI,oJ,dE,oK,oL,oM,oN,oO,oP,oQ,oR,oS,oT,oU,oV,oW,oX,oY,oZ,p0,p1,p2,p3,p4,p5,p6,p7,p8,p9,pA,pB,pC,pD,pF,pG,pH,pI,pJ,pK,pL⟩:=F7
  replace I:=I.pk [0,1,2,4,5,6,7,3] rfl rfl
  refine dh I [0,1,2,3,4,5,6] (by decide) rfl (by kernel_rfl) (by kernel_rfl) fun hsub=>alp 1 (.slice (some ⟨d0,0,none⟩) 1 1) hsub rfl (by kernel_rfl) (fun _=>(by kernel_rfl)) (ap 2 (pt d0) hsub rfl (by kernel_rfl) (fun w I=>lj 0 0 zu100 zs83 rfl rfl (by decide) rfl br) (ap 3 (.agg #[iv e.1,iv e.2.1,iv e.2.2.1,iv e.2.2.2.1,iv e.2.2.2.2.1,slv eI e.2.2.2.2.2.length hW]) hsub rfl (by kernel_rfl) (fun w I=>ma I 0 zi83 zs83 rfl rfl rfl br) (bc [0] (by kernel_rfl) rfl (cz fun w I=>dg rfl (ma I 7 mu ml rfl rfl rfl (⟨_,I,dc (fun _ h=>h.pk [0,1,2,3,4,5,6] rfl rfl) ?_⟩))))))
  intro hsub
  refine bc [4] (by kernel_rfl) rfl (cz fun w I=>dg rfl (co 55 _ (by kernel_rfl) (L55 _ bJ (O.map fun b=>⟨b,0,none⟩) cV bK (P.map fun b=>⟨b,0,none⟩) cW bL (Q.map fun b=>⟨b,0,none⟩) cX bM bN bO bP (R.map fun b=>⟨b,0,none⟩) cY bQ bR bS bU bV bW bX bY bZ c0 c1 c2 c4 c5 c6 Z c7 c8 cA cB cC cD cE cF cG cH cI cJ cK cL cM cN cO cP cQ cR cS e.1 e.2.1 e.2.2.1 e.2.2.2.1 e.2.2.2.2.1 (eI.map fun b=>⟨b,0,none⟩) hW e.2.2.2.2.2 (hG.up I) (I.rowCells 3 rfl a0) (am rfl a0.big) (am rfl a0.cap) (I.rowCells 4 rfl a1) (am rfl a1.big) (am rfl a1.cap) (I.rowCells 5 rfl a2) (am rfl a2.big) (am rfl a2.cap) (I.rowCells 6 rfl a3) (am rfl a3.big) (am rfl a3.cap) (I.rowCells 1 rfl eJ) (am rfl eJ.big) (am rfl eJ.cap) N _ F8) ?_))
  intro v w
  refine xHH fun jR pM FB jS pN FC jT pO=>xFF fun FD dS dZ FE=>xaa fun hv=>xaa fun hN=>xaa fun FF=>xaa fun FG=>xaa fun FH=>fun BD=>?_
  dsimp only at hv hN FF FG FH BD; subst hv
  have I:=I.join hN; clear hN
  refine ⟨_,I,dc (fun _ h=>h.pk [4,5,6,7,8,9,10] rfl rfl) ?_⟩
  intro hsub
  refine alp 5 (.tuple #[.agg (qf oD jR oE pM jS oF pN jT oG pO oH oI oJ dS dE dZ oK oL oM oN oO oP oQ oR oS oT oU oV oW oX oY oZ p0 p1 p2 p3 p4 p5 p6 p7 p8 p9 pA pB pC pD pF pG pH pI pJ pK).toArray,.slice none 0 0,iv pL]) hsub rfl (by kernel_rfl) (fun _=>(by kernel_rfl)) (alp 6 (.agg (qf oD jR oE pM jS oF pN jT oG pO oH oI oJ dS dE dZ oK oL oM oN oO oP oQ oR oS oT oU oV oW oX oY oZ p0 p1 p2 p3 p4 p5 p6 p7 p8 p9 pA pB pC pD pF pG pH pI pJ pK).toArray) hsub rfl (by kernel_rfl) (fun _=>(by kernel_rfl)) (alp 7 (.slice none 0 0) hsub rfl (by kernel_rfl) (fun _=>(by kernel_rfl)) (alp 8 (iv pL) hsub rfl (by kernel_rfl) (fun _=>(by kernel_rfl)) (bc [9] (by kernel_rfl) rfl (cz fun w I=>dg rfl (aq I 11 44 (qf oD jR oE pM jS oF pN jT oG pO oH oI oJ dS dE dZ oK oL oM oN oO oP oQ oR oS oT oU oV oW oX oY oZ p0 p1 p2 p3 p4 p5 p6 p7 p8 p9 pA pB pC pD pF pG pH pI pJ pK) ml rfl rfl rfl rfl rfl (mx rfl) fun w I=>⟨_,I,dc (fun _ h=>h.pk [4,5,6,7,8,9,10] rfl rfl) ?_⟩))))))
  intro hsub
  refine alp 10 (.slice none 0 0) hsub rfl (by kernel_rfl) (fun _=>(by kernel_rfl)) (alp 11 (iv pL) hsub rfl (by kernel_rfl) (fun _=>(by kernel_rfl)) (cp (by kernel_rfl) (fun w I=>?_)))
  have I:Inv [] w0 w [(jR,blk FB 35),(jS,blk FC 35),(jT,blk FD 35),(dS,blk FE 25),(some E,blk [iv i,iv l,iv m,iv o,iv q,iv r,iv s,.string (bts x)] 25),(some H,blk (qf oD jR oE pM jS oF pN jT oG pO oH oI oJ dS dE dZ oK oL oM oN oO oP oQ oR oS oT oU oV oW oX oY oZ p0 p1 p2 p3 p4 p5 p6 p7 p8 p9 pA pB pC pD pF pG pH pI pJ pK) 81)]:=I.pk [0,1,2,3,6,11] rfl (by kernel_rfl)
  refine ab (gm 22 I (by kernel_rfl) (zp (iv pL) (fun _=>(by kernel_rfl)) (ifN F (fun BE F=>?_) (fun BE F=>?_))))
  · cases F
  refine zc bT (fun w I=>di rfl rfl (fun _=>br) (fun h=>absurd BE h)) (zp bT (fun _=>(by kernel_rfl)) (zq (.slice none 0 0) (by kernel_rfl) (fun _=>(by kernel_rfl)) (zo (iv 0) (by kernel_rfl) (fun w I=>kl (iv ((0:Nat):Int)) (by kernel_rfl) br) (zo bT (by kernel_rfl) (fun w I=>di rfl rfl (fun _=>br) (fun h=>absurd (by decide) h)) (zp2 bT bT (fun _=>(by kernel_rfl)) (zq (.pointer (some ⟨H,7,none⟩)) (by kernel_rfl) (fun _=>(by kernel_rfl)) (zo (slv dS dE.length dZ) (by kernel_rfl) (fun w I=>ag I 5 (slv dS dE.length dZ) mv rfl rfl rfl br) (zo (iv (dE.length:Int)) (by kernel_rfl) (fun w I=>kl (iv ((dE.length:Nat):Int)) (by kernel_rfl) br) (ifN F (fun BF F=>?_) (fun BF F=>?_))))))))))
  · cases F
  refine zo bT (by kernel_rfl) (fun w I=>di rfl rfl (fun _=>br) (fun h=>absurd BF h)) (zp2 bT bT (fun _=>(by kernel_rfl)) (zq (.pointer (some ⟨H,7,none⟩)) (by kernel_rfl) (fun _=>(by kernel_rfl)) (zo (slv dS dE.length dZ) (by kernel_rfl) (fun w I=>ag I 5 (slv dS dE.length dZ) mv rfl rfl rfl br) (bt F (fun B BG F=>?_)))))
  obtain ⟨FI,rfl,FJ⟩:=BD.at_ bx (by decide) BG
  refine zo (.pointer (some ⟨FI,0 * 8,none⟩)) (by kernel_rfl) (fun w I=>be 0 zu45 md rfl rfl rfl (fa BG rfl) br) (zo (.agg (qg B).toArray) (by kernel_rfl) (fun w I=>cq I 3 (qg B) mh md rfl rfl rfl FJ br) (zo (.agg #[iv i,iv l,iv m,iv o,iv q,iv r,iv s,.string (bts x)]) (by kernel_rfl) (fun w I=>ma I 4 mh md rfl rfl rfl br) (ifN F (fun BH F=>?_) (fun BH F=>?_))))
  · cases F
  refine zo bT (by kernel_rfl) (fun w I=>kz (b:=decide (B.p=i) && decide (B.n=l) && decide (B.k=m) && decide (B.d=o) && decide (B.kn=q) && decide (B.op=r) && decide (B.on=s) && decide (B.t=x)) rfl rfl (by kernel_rfl) (fun w=>eq25 _ B.p B.n B.k B.d B.kn B.op B.on B.t i l m o q r s x w) (fun _=>br) (fun h=>absurd BH h)) (zp2 bT bT (fun _=>(by kernel_rfl)) (zh (fun w I=>aa (aj ?_))))
  cases F
  exact ⟨_,Ret.r1 rfl rfl,⟨rfl,I.below⟩⟩
 obtain ⟨pP,pQ,pR,pS,pT,pU,pV,pW,pX,pY,pZ,q0,q1,q2,q3,q4,q5,q6,q7,q8,q9,qA,qB,qC,qD,qE,qF,qG,qH,qI,qJ,qK,qL,qM,qN,qO,qP,qQ,qR,qS,qT,qU,qV,qW,hX,qX⟩:=F9
 replace I:=I.pk [0,1,2,4,5,6,7,3] rfl rfl
 refine dh I [0,1,2,3,4,5,6] (by decide) rfl (by kernel_rfl) (by kernel_rfl) fun hsub=>alp 1 (.slice (some ⟨d0,0,none⟩) 1 1) hsub rfl (by kernel_rfl) (fun _=>(by kernel_rfl)) (ap 2 (pt d0) hsub rfl (by kernel_rfl) (fun w I=>lj 0 0 zu100 zs83 rfl rfl (by decide) rfl br) (ap 3 (.agg #[iv e.1,iv e.2.1,iv e.2.2.1,iv e.2.2.2.1,iv e.2.2.2.2.1,slv eI e.2.2.2.2.2.length hW]) hsub rfl (by kernel_rfl) (fun w I=>ma I 0 zi83 zs83 rfl rfl rfl br) (bc [0] (by kernel_rfl) rfl (cz fun w I=>dg rfl (ma I 7 mu ml rfl rfl rfl (⟨_,I,dc (fun _ h=>h.pk [0,1,2,3,4,5,6] rfl rfl) ?_⟩))))))
 intro hsub
 refine bc [4] (by kernel_rfl) rfl (cz fun w I=>dg rfl (co 55 _ (by kernel_rfl) (L55 _ bJ (O.map fun b=>⟨b,0,none⟩) cV bK (P.map fun b=>⟨b,0,none⟩) cW bL (Q.map fun b=>⟨b,0,none⟩) cX bM bN bO bP (R.map fun b=>⟨b,0,none⟩) cY bQ bR bS bU bV bW bX bY bZ c0 c1 c2 c4 c5 c6 Z c7 c8 cA cB cC cD cE cF cG cH cI cJ cK cL cM cN cO cP cQ cR cS e.1 e.2.1 e.2.2.1 e.2.2.2.1 e.2.2.2.2.1 (eI.map fun b=>⟨b,0,none⟩) hW e.2.2.2.2.2 (hG.up I) (I.rowCells 3 rfl a0) (am rfl a0.big) (am rfl a0.cap) (I.rowCells 4 rfl a1) (am rfl a1.big) (am rfl a1.cap) (I.rowCells 5 rfl a2) (am rfl a2.big) (am rfl a2.cap) (I.rowCells 6 rfl a3) (am rfl a3.big) (am rfl a3.cap) (I.rowCells 1 rfl eJ) (am rfl eJ.big) (am rfl eJ.cap) N _ FA) ?_))
 intro v w
 refine xPP fun jU qY FK jV qZ FL jW r4 FM jX r5 FN r6 BI FO FP=>xaa fun hv=>xaa fun hN=>xaa fun FQ=>xaa fun FR=>xaa fun FT=>xaa fun FU=>fun FV=>?_
 dsimp only at hv hN FQ FR FT FU FV; subst hv
 have I:=I.join hN; clear hN
 refine ⟨_,I,dc (fun _ h=>h.pk [6,7,8,9,10,11,12] rfl rfl) ?_⟩
 intro hsub
 refine alp 5 (.tuple #[.agg (qf pP jU pQ qY jV pR qZ jW pS r4 pT pU pV jX pW r5 pX pY pZ q0 q1 q2 q3 q4 q5 q6 q7 q8 q9 qA qB qC qD qE qF qG qH qI qJ qK qL qM qN qO qP qQ qR qS qT qU qV qW).toArray,.slice (some ⟨r6,0,none⟩) 1 1,iv qX]) hsub rfl (by kernel_rfl) (fun _=>(by kernel_rfl)) (alp 6 (.agg (qf pP jU pQ qY jV pR qZ jW pS r4 pT pU pV jX pW r5 pX pY pZ q0 q1 q2 q3 q4 q5 q6 q7 q8 q9 qA qB qC qD qE qF qG qH qI qJ qK qL qM qN qO qP qQ qR qS qT qU qV qW).toArray) hsub rfl (by kernel_rfl) (fun _=>(by kernel_rfl)) (alp 7 (.slice (some ⟨r6,0,none⟩) 1 1) hsub rfl (by kernel_rfl) (fun _=>(by kernel_rfl)) (alp 8 (iv qX) hsub rfl (by kernel_rfl) (fun _=>(by kernel_rfl)) (bc [9] (by kernel_rfl) rfl (cz fun w I=>dg rfl (aq I 13 44 (qf pP jU pQ qY jV pR qZ jW pS r4 pT pU pV jX pW r5 pX pY pZ q0 q1 q2 q3 q4 q5 q6 q7 q8 q9 qA qB qC qD qE qF qG qH qI qJ qK qL qM qN qO qP qQ qR qS qT qU qV qW) ml rfl rfl rfl rfl rfl (mx rfl) fun w I=>⟨_,I,dc (fun _ h=>h.pk [6,7,8,9,10,11,12] rfl rfl) ?_⟩))))))
 intro hsub
 refine alp 10 (.slice (some ⟨r6,0,none⟩) 1 1) hsub rfl (by kernel_rfl) (fun _=>(by kernel_rfl)) (alp 11 (iv qX) hsub rfl (by kernel_rfl) (fun _=>(by kernel_rfl)) (cp (by kernel_rfl) (fun w I=>?_)))
 have I:Inv [] w0 w [(jU,blk FK 35),(jV,blk FL 35),(jW,blk FM 35),(jX,blk FN 25),(some r6,blk [iv hX.1,iv hX.2.1,iv hX.2.2.1,iv hX.2.2.2.1,iv hX.2.2.2.2.1,slv BI hX.2.2.2.2.2.length FO] 83),(BI,blk FP 25),(some E,blk [iv i,iv l,iv m,iv o,iv q,iv r,iv s,.string (bts x)] 25),(some H,blk (qf pP jU pQ qY jV pR qZ jW pS r4 pT pU pV jX pW r5 pX pY pZ q0 q1 q2 q3 q4 q5 q6 q7 q8 q9 qA qB qC qD qE qF qG qH qI qJ qK qL qM qN qO qP qQ qR qS qT qU qV qW) 81)]:=I.pk [0,1,2,3,4,5,8,13] rfl (by kernel_rfl)
 refine ab (gm 22 I (by kernel_rfl) (zp (iv qX) (fun _=>(by kernel_rfl)) (ifE F (fun FW F=>?_) (fun FW F=>?_))))
 · cases F
 cases F
end Go.K
