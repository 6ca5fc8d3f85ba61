import Derived.Test.YtcondbkhcjgemaaGreatDoorEWf
namespace Go.K
open Go.Proofs.Tryz
open Go.Proofs Go.RowKit
set_option linter.unusedVariables false
set_option linter.unusedSimpArgs false
set_option maxRecDepth 100000
attribute [local irreducible] Seq cw cx fl opX
theorem xOO {A:Type}{Z:A→Prop}{z:Prop}(y:∀ a,Z a→z):(∃ a,Z a)→z:=fun⟨a,x⟩=>y a x
theorem xDD {A B:Type}{Z:A→B→Prop}{z:Prop}(y:∀ a b,Z a b→z):(∃ a b,Z a b)→z:=fun⟨a,b,x⟩=>y a b x
theorem xFF {A B C D:Type}{Z:A→B→C→D→Prop}{z:Prop}(y:∀ a b c d,Z a b c d→z):(∃ a b c d,Z a b c d)→z:=fun⟨a,b,c,d,x⟩=>y a b c d x
theorem xHH {A B C D E F G H:Type}{Z:A→B→C→D→E→F→G→H→Prop}{z:Prop}(y:∀ a b c d e f g h,Z a b c d e f g h→z):(∃ a b c d e f g h,Z a b c d e f g h)→z:=fun⟨a,b,c,d,e,f,g,h,x⟩=>y a b c d e f g h x
theorem xPP {A B C D E F G H I J K L M N O P:Type}{Z:A→B→C→D→E→F→G→H→I→J→K→L→M→N→O→P→Prop}{z:Prop}(y:∀ a b c d e f g h i j k l m n o p,Z a b c d e f g h i j k l m n o p→z):(∃ a b c d e f g h i j k l m n o p,Z a b c d e f g h i j k l m n o p)→z:=fun⟨a,b,c,d,e,f,g,h,i,j,k,l,m,n,o,p,x⟩=>y a b c d e f g h i j k l m n o p x
theorem xaa {p q r:Prop}(k:p→q→r):p∧q→r:=fun h=>k h.1 h.2
set_option maxHeartbeats 8000000 in
theorem L19 (w0:World) (hG:Gl w0) (N:Nat) (F:F19 N=some true):bn Tryz.prog 19 [] w0 fun v w=>v=bT∧Below w0.heap.size w0 w:=by
 refine az (n:=326) func19 rfl ntmps19 rfl ?_
 have I:=Inv.start w0
 unfold F19 at F
 refine uL (by rfl) (pu bF (by rfl) (aa (uL (by rfl) (bt F (fun nG nH F=>?_)))))
 obtain ⟨q,r,s,x,y,z,A,B⟩:=nG
 refine ph (bg I 85 _ _ (by kernel_rfl) (L85 _ _ nH) fun w I=>ph (bh I _ zeroValue25 rfl fun V w I=>xi I 0 _ md rfl fun w I=>aa (uL (by kernel_rfl) (xm I 0 mh md rfl (bt F (fun E nI F=>ph (co 20 _ (by kernel_rfl) (L20 _ (⟨q,r,s,x,y,z,A,B⟩:Rc) 0 (hG.up I) N _ nI) ?_)))))))
 rintro v w ⟨e6,a0,rE,rfl,hN,gN⟩
 have I:=I.join hN; clear hN
 refine pu3 (.tuple #[uN e6 E.1 a0,iv E.2]) (uN e6 E.1 a0) (iv E.2) (by rfl) (pu2 (uN e6 E.1 a0) (iv E.2) (by rfl) (aa (ab (uL (by rfl) (pu (iv E.2) (by rfl) (ifN F (fun kV F=>?_) (fun kV F=>?_)))))))
 · cases F
 refine xn rfl (uO kV) (fun _=>pu bF (by rfl) (pup (uN e6 E.1 a0) (by rfl) (pup (iv ((E.1.length:Nat):Int)) (by kernel_rfl) (ifN F (fun kW F=>?_) (fun kW F=>?_)))))
 · cases F
 refine aw (by rfl) (de rfl rfl (uO kW) (fun _=>pu2 bF bF (by rfl) (pup (uN e6 E.1 a0) (by rfl) (bt F (fun g cT F=>?_)))))
 obtain ⟨W,rfl,e7⟩:=gN.at_ bk (by decide) cT
 refine aw (by rfl) (be 0 mj mc rfl rfl rfl (fa cT rfl) (aw (by rfl) (cq I 0 (qh g) me mc rfl rfl rfl e7 (pup (.agg #[iv 0,iv 21,uE [50,48,53,49,32,50,48,48,97,107,121]]) (by kernel_rfl) (ifN F (fun kX F=>?_) (fun kX F=>?_))))))
 · cases F
 refine aw (by rfl) (lg (b:=decide (g.no=0) && decide (g.sz=21) && decide (g.t=[50,48,53,49,32,50,48,48,97,107,121])) rfl rfl (by kernel_rfl) (fun w=>eq35 _ g.no g.sz g.t 0 21 [50,48,53,49,32,50,48,48,97,107,121] w) (uO kX) (fun _=>pu2 bF bF (by rfl) (pup (uN (some W) E.1 a0) (by rfl) (bt F (fun D f3 F=>?_)))))
 have gO:=gN.atS bk (by decide) f3
 refine aw (by rfl) (be 1 mj mc rfl rfl rfl (fa f3 rfl) (aw (by rfl) (cq I 0 (qh D) me mc rfl rfl rfl gO (pup (.agg #[iv 0,iv 21,uE [32,32,32,48,49,32,32,32,32,101,32]]) (by kernel_rfl) (ifN F (fun kY F=>?_) (fun kY F=>?_))))))
 · cases F
 refine aw (by rfl) (lg (b:=decide (D.no=0) && decide (D.sz=21) && decide (D.t=[32,32,32,48,49,32,32,32,32,101,32])) rfl rfl (by kernel_rfl) (fun w=>eq35 _ D.no D.sz D.t 0 21 [32,32,32,48,49,32,32,32,32,101,32] w) (uO kY) (fun _=>pu2 bF bF (by rfl) (pup (uN (some W) E.1 a0) (by rfl) (bt F (fun C f4 F=>?_)))))
 have gP:=gN.atS bk (by decide) f4
 refine aw (by rfl) (be 2 mj mc rfl rfl rfl (fa f4 rfl) (aw (by rfl) (cq I 0 (qh C) me mc rfl rfl rfl gP (pup (.agg #[iv 0,iv 21,uE [50,48,53,65,49,50,48,48,97,81,121]]) (by kernel_rfl) (ifN F (fun kZ F=>?_) (fun kZ F=>?_))))))
 · cases F
 refine aw (by rfl) (lg (b:=decide (C.no=0) && decide (C.sz=21) && decide (C.t=[50,48,53,65,49,50,48,48,97,81,121])) rfl rfl (by kernel_rfl) (fun w=>eq35 _ C.no C.sz C.t 0 21 [50,48,53,65,49,50,48,48,97,81,121] w) (uO kZ) (fun _=>pu bF (by rfl) (aa (ai rfl (ak (ab (gm 12 I (by kernel_rfl) (zP (uN (some W) E.1 a0) (by rfl) (zc (uF W (0 * 3)) (fun w I=>be 0 mj mc rfl rfl rfl (fa cT rfl) br) (zc (.agg (qh g).toArray) (fun w I=>cq I 0 (qh g) me mc rfl rfl rfl e7 br) (zP (uN (some W) E.1 a0) (by rfl) (zc (uF W (2 * 3)) (fun w I=>be 2 mj mc rfl rfl rfl (fa f4 rfl) br) (zc (.agg (qh C).toArray) (fun w I=>cq I 0 (qh C) me mc rfl rfl rfl gP br) (bt F (fun aJ nJ F=>zc (.tuple #[uE aJ.1,iv aJ.2]) (fun w I=>co 22 [iv 0,.agg (qh g).toArray,iv 2,.agg (qh C).toArray] (by kernel_rfl) (L22 _ 0 g 2 C N _ nJ) uI) (zB (.tuple #[uE aJ.1,iv aJ.2]) (uE aJ.1) (by rfl) (zB (iv aJ.2) (uE aJ.1) (by rfl) (zP (iv aJ.2) (by rfl) (zh (fun w I=>aa (ab (gm 12 I (by kernel_rfl) (zP (uN (some W) E.1 a0) (by rfl) (zc (uF W (2 * 3)) (fun w I=>be 2 mj mc rfl rfl rfl (fa f4 rfl) br) (zc (.agg (qh C).toArray) (fun w I=>cq I 0 (qh C) me mc rfl rfl rfl gP br) (zP (uN (some W) E.1 a0) (by rfl) (zc (uF W (1 * 3)) (fun w I=>be 1 mj mc rfl rfl rfl (fa f3 rfl) br) (zc (.agg (qh D).toArray) (fun w I=>cq I 0 (qh D) me mc rfl rfl rfl gO br) (bt F (fun b2 nK F=>zc (.tuple #[uE b2.1,iv b2.2]) (fun w I=>co 22 [iv 2,.agg (qh C).toArray,iv 1,.agg (qh D).toArray] (by kernel_rfl) (L22 _ 2 C 1 D N _ nK) uI) (zB (.tuple #[uE b2.1,iv b2.2]) (uE b2.1) (by rfl) (zB (iv b2.2) (uE b2.1) (by rfl) (zP (iv b2.2) (by rfl) (zh (fun w I=>aa (ab (gm 12 I (by kernel_rfl) (zP (uN (some W) E.1 a0) (by rfl) (zc (uF W (0 * 3)) (fun w I=>be 0 mj mc rfl rfl rfl (fa cT rfl) br) (zc (.agg (qh g).toArray) (fun w I=>cq I 0 (qh g) me mc rfl rfl rfl e7 br) (zP (uN (some W) E.1 a0) (by rfl) (zc (uF W (0 * 3)) (fun w I=>be 0 mj mc rfl rfl rfl (fa cT rfl) br) (zc (.agg (qh g).toArray) (fun w I=>cq I 0 (qh g) me mc rfl rfl rfl e7 br) (bt F (fun bB nL F=>zc (.tuple #[uE bB.1,iv bB.2]) (fun w I=>co 22 [iv 0,.agg (qh g).toArray,iv 0,.agg (qh g).toArray] (by kernel_rfl) (L22 _ 0 g 0 g N _ nL) uI) (zB (.tuple #[uE bB.1,iv bB.2]) (uE bB.1) (by rfl) (zB (iv bB.2) (uE bB.1) (by rfl) (zP (iv bB.2) (by rfl) (zh (fun w I=>aa (ab (uL (by rfl) (pu (uE aJ.1) (by rfl) (ifN F (fun l0 F=>?_) (fun l0 F=>?_)))))))))))))))))))))))))))))))))))))))))))))))))))))))
 · cases F
 refine ph (s_strNe (a:=aJ.1) (b:=[50,32,48,32,53,32,49,48,32,49,50,32,48,32,48,32,97,32,107,101,121]) rfl rfl (uO l0) (fun _=>pu bF (by rfl) (pup (uE b2.1) (by rfl) (pup (uE aJ.1) (by rfl) (ifN F (fun l1 F=>?_) (fun l1 F=>?_))))))
 · cases F
 refine aw (by rfl) (s_strNe (a:=b2.1) (b:=aJ.1) rfl rfl (uO l1) (fun _=>pu2 bF bF (by rfl) (pup (iv aJ.2) (by rfl) (ifN F (fun l2 F=>?_) (fun l2 F=>?_)))))
 · cases F
 refine aw (by rfl) (de rfl rfl (uO l2) (fun _=>pu2 bF bF (by rfl) (pup (iv b2.2) (by rfl) (ifN F (fun l3 F=>?_) (fun l3 F=>?_)))))
 · cases F
 refine aw (by rfl) (de rfl rfl (uO l3) (fun _=>pu2 bF bF (by rfl) (pup (iv bB.2) (by rfl) (ifN F (fun l4 F=>?_) (fun l4 F=>?_)))))
 · cases F
 refine aw (by kernel_rfl) (de rfl rfl (uO l4) (fun _=>pu2 bF bF (by kernel_rfl) (pup (uN (some W) E.1 a0) (by kernel_rfl) (aw (by kernel_rfl) (be 1 mj mc rfl rfl rfl (fa f3 rfl) (aw (by kernel_rfl) (cq I 0 (qh D) me mc rfl rfl rfl gO (bt F (fun rF nM F=>aw (by kernel_rfl) (bg I 25 _ _ (by kernel_rfl) (L25 _ 0 D N _ nM) fun w I=>ifN F (fun l5 F=>?_) (fun l5 F=>?_)))))))))))
 · cases F
 refine aw (by kernel_rfl) (de rfl rfl (uO l5) (fun _=>pu2 bF bF (by kernel_rfl) (pup (uN (some W) E.1 a0) (by kernel_rfl) (aw (by kernel_rfl) (be 0 mj mc rfl rfl rfl (fa cT rfl) (aw (by kernel_rfl) (cq I 0 (qh g) me mc rfl rfl rfl e7 (bt F (fun rG nN F=>aw (by kernel_rfl) (bg I 25 _ _ (by kernel_rfl) (L25 _ 1 g N _ nN) fun w I=>ifN F (fun l6 F=>?_) (fun l6 F=>?_)))))))))))
 · cases F
 refine aw (by rfl) (de rfl rfl (uO l6) (fun _=>pu bF (by rfl) (aa (ai rfl (ak (uL (by rfl) (pu (.agg #[uD,uD,uD,iv 0,iv 0,iv 0]) (by kernel_rfl) (xm I 1 mh md rfl (bt F (fun nO nP F=>?_))))))))))
 obtain ⟨bC,bD,bE,bG,bH,bI,aY,b3⟩:=nO
 refine ph (co 38 _ (by kernel_rfl) (L38 _ none 0 [] none 0 [] none 0 [] 0 0 0 none 0 [] (⟨q,r,s,x,y,z,A,B⟩:Rc) (hG.up I) bi.nil0 (by decide) (Nat.le_refl _) bi.nil0 (by decide) (Nat.le_refl _) bi.nil0 (by decide) (Nat.le_refl _) bi.nil0 (by decide) (Nat.le_refl _) N _ nP) ?_)
 intro v w
 refine xHH fun bJ c0 l7 bK c1 l8 bL c2=>xFF fun l9 b4 c4 gR=>xaa fun hv=>xaa fun hN=>xaa fun b5=>xaa fun b6=>xaa fun b7=>fun nQ=>?_
 dsimp only at hv hN b5 b6 b7 nQ; subst hv
 have I:=I.join hN; clear hN
 refine pu3 (.tuple #[.agg #[uN bJ bC c0,uN bK bD c1,uN bL bE c2,iv bG,iv bH,iv bI],uN b4 aY c4,iv b3]) (.agg #[uN bJ bC c0,uN bK bD c1,uN bL bE c2,iv bG,iv bH,iv bI]) (uN b4 aY c4) (by rfl) (pu (iv b3) (by rfl) (ph (bh I _ zeroValue63 rfl fun f5 w I=>xi I 0 _ mi rfl fun w I=>pu2 (uN b4 aY c4) (iv b3) (by rfl) (aa (dn (fun ρ w=>∃ (b8 c5 e8:_) (aK:List Rc),cd ρ [(1,pt V),(10,pt f5),(11,uN b4 aY c4),(12,iv b3),(14,uN b8 aK c5)]∧Inv [] w0 w [(some V,blk [iv q,iv r,iv s,iv x,iv y,iv z,iv A,uE B] 25),(some f5,blk [uN bJ bC c0,uN bK bD c1,uN bL bE c2,iv bG,iv bH,iv bI] 63),(bJ,blk l7 35),(bK,blk l8 35),(bL,blk l9 35),(b4,blk gR 25),(b8,blk e8 25)]∧(Row 8 b8 (aK.length) c5 e8 (al eRc aK))∧F19j1 N q r s x y z A B bC bD bE bG bH bI aY b3 aK=some true) ?_ ?_)))))
 ·
  refine rgn (by kernel_rfl) (xm I 0 mt mi rfl (ph (fu I [iv 3,iv 2,iv 0,iv 0,iv 0,iv 2,iv 0] 3 (fun b=>slv (some b) 7 7) (by kernel_rfl) fun nR w I=>bt F (fun cU nS F=>ph (co 45 _ (by kernel_rfl) (L45 _ (uG bJ) c0 bC (uG bK) c1 bD (uG bL) c2 bE bG bH bI (some ⟨nR,0,none⟩) 7 [3,2,0,0,0,2,0] (I.rowCells 2 rfl b5) (am rfl b5.big) (am rfl b5.cap) (I.rowCells 3 rfl b6) (am rfl b6.big) (am rfl b6.cap) (I.rowCells 4 rfl b7) (am rfl b7.big) (am rfl b7.cap) (I.cells 0 (off:=0) rfl (fun j u h=>by rw [Nat.zero_add]; exact h)) (mx rfl) (Nat.le_refl _) N _ nS) ?_)))))
  rintro v w ⟨nT,nU,rH,nV,nW,rI,nX,nY,rJ,rfl,hN,gS,gT,gU⟩
  have I:=I.join hN; clear hN
  refine bt F (fun X nZ F=>ph (co 40 _ (by kernel_rfl) (L40 _ (uG nT) nU cU.1 (uG nV) nW cU.2.1 (uG nX) nY cU.2.2.1 cU.2.2.2.1 cU.2.2.2.2.1 cU.2.2.2.2.2 (hG.up I) (I.rowCells 0 rfl gS) (am rfl gS.big) (am rfl gS.cap) (I.rowCells 1 rfl gT) (am rfl gT.big) (am rfl gT.cap) (I.rowCells 2 rfl gU) (am rfl gU.big) (am rfl gU.cap) N _ nZ) ?_))
  intro v w
  refine xHH fun lA lB rK lC lD rL lE lF=>xFF fun rM f6 f7 o0=>xaa fun hv=>xaa fun hN=>xaa fun rN=>xaa fun rO=>xaa fun rP=>fun o1=>?_
  subst hv
  have I:=I.join hN; clear hN
  refine pu3 (.tuple #[.agg #[uN lA X.1 lB,uN lC X.2.1 lD,uN lE X.2.2.1 lF,iv X.2.2.2.1,iv X.2.2.2.2.1,iv X.2.2.2.2.2.1],uN f6 X.2.2.2.2.2.2 f7]) (.agg #[uN lA X.1 lB,uN lC X.2.1 lD,uN lE X.2.2.1 lF,iv X.2.2.2.1,iv X.2.2.2.2.1,iv X.2.2.2.2.2.1]) (uN f6 X.2.2.2.2.2.2 f7) (by rfl) (ph (bh I _ zeroValue63 rfl fun rQ w I=>xi I 0 _ mi rfl fun w I=>pu (uN f6 X.2.2.2.2.2.2 f7) (by rfl) (aa (.inl ⟨rfl,⟨f6,f7,o0,X.2.2.2.2.2.2,(uK rfl),I.pk [15,9,10,11,12,13,4] rfl,(o1.to rfl rfl),F⟩⟩))))
 intro ρ w hJ
 obtain ⟨b8,c5,e8,aK,hag,I,o2,F⟩:=hJ
 obtain ⟨ρ,rfl⟩:=hag.form
 unfold F19j1 at F
 refine dn (fun ρ w=>∃ (c6 e9 f8:_) (b9:List Rc),cd ρ [(1,pt V),(10,pt f5),(11,uN b4 aY c4),(12,iv b3),(14,uN b8 aK c5),(16,uN c6 b9 e9)]∧Inv [] w0 w [(some V,blk [iv q,iv r,iv s,iv x,iv y,iv z,iv A,uE B] 25),(some f5,blk [uN bJ bC c0,uN bK bD c1,uN bL bE c2,iv bG,iv bH,iv bI] 63),(bJ,blk l7 35),(bK,blk l8 35),(bL,blk l9 35),(b4,blk gR 25),(b8,blk e8 25),(c6,blk f8 25)]∧(Row 8 c6 (b9.length) e9 f8 (al eRc b9))∧F19j2 N q r s x y z A B bC bD bE bG bH bI aY b3 aK b9=some true) ?_ ?_
 ·
  refine rgn (by kernel_rfl) (xm I 1 mt mi rfl (ph (fu I [iv 3,iv 2,iv 0,iv 0,iv 0,iv 1,iv 4] 3 (fun b=>slv (some b) 7 7) (by kernel_rfl) fun o3 w I=>bt F (fun cV o4 F=>ph (co 45 _ (by kernel_rfl) (L45 _ (uG bJ) c0 bC (uG bK) c1 bD (uG bL) c2 bE bG bH bI (some ⟨o3,0,none⟩) 7 [3,2,0,0,0,1,4] (I.rowCells 3 rfl b5) (am rfl b5.big) (am rfl b5.cap) (I.rowCells 4 rfl b6) (am rfl b6.big) (am rfl b6.cap) (I.rowCells 5 rfl b7) (am rfl b7.big) (am rfl b7.cap) (I.cells 0 (off:=0) rfl (fun j u h=>by rw [Nat.zero_add]; exact h)) (mx rfl) (Nat.le_refl _) N _ o4) ?_)))))
  rintro v w ⟨o5,o6,rR,o7,o8,rS,o9,oA,rT,rfl,hN,gV,gW,gX⟩
  have I:=I.join hN; clear hN
  refine bt F (fun Y oB F=>ph (co 40 _ (by kernel_rfl) (L40 _ (uG o5) o6 cV.1 (uG o7) o8 cV.2.1 (uG o9) oA cV.2.2.1 cV.2.2.2.1 cV.2.2.2.2.1 cV.2.2.2.2.2 (hG.up I) (I.rowCells 0 rfl gV) (am rfl gV.big) (am rfl gV.cap) (I.rowCells 1 rfl gW) (am rfl gW.big) (am rfl gW.cap) (I.rowCells 2 rfl gX) (am rfl gX.big) (am rfl gX.cap) N _ oB) ?_))
  intro v w
  refine xHH fun lG lH rU lI lJ rV lK lL=>xFF fun rW f9 fA oC=>xaa fun hv=>xaa fun hN=>xaa fun rX=>xaa fun rY=>xaa fun rZ=>fun oD=>?_
  subst hv
  have I:=I.join hN; clear hN
  refine pu3 (.tuple #[.agg #[uN lG Y.1 lH,uN lI Y.2.1 lJ,uN lK Y.2.2.1 lL,iv Y.2.2.2.1,iv Y.2.2.2.2.1,iv Y.2.2.2.2.2.1],uN f9 Y.2.2.2.2.2.2 fA]) (.agg #[uN lG Y.1 lH,uN lI Y.2.1 lJ,uN lK Y.2.2.1 lL,iv Y.2.2.2.1,iv Y.2.2.2.2.1,iv Y.2.2.2.2.2.1]) (uN f9 Y.2.2.2.2.2.2 fA) (by rfl) (ph (bh I _ zeroValue63 rfl fun s0 w I=>xi I 0 _ mi rfl fun w I=>pu (uN f9 Y.2.2.2.2.2.2 fA) (by rfl) (aa (.inl ⟨rfl,⟨f9,fA,oC,Y.2.2.2.2.2.2,(uK rfl),I.pk [9,10,11,12,13,14,15,4] rfl,(oD.to rfl rfl),F⟩⟩))))
 intro ρ w hJ
 obtain ⟨c6,e9,f8,b9,hag,I,s1,F⟩:=hJ
 obtain ⟨ρ,rfl⟩:=hag.form
 unfold F19j2 at F
 refine dn (fun ρ w=>∃ (cW eA gY:_) (bM:List Rc),cd ρ [(1,pt V),(11,uN b4 aY c4),(12,iv b3),(14,uN b8 aK c5),(16,uN c6 b9 e9),(18,uN cW bM eA)]∧Inv [] w0 w [(some V,blk [iv q,iv r,iv s,iv x,iv y,iv z,iv A,uE B] 25),(b4,blk gR 25),(b8,blk e8 25),(c6,blk f8 25),(cW,blk gY 25)]∧(Row 8 cW (bM.length) eA gY (al eRc bM))∧F19j3 N q r s x y z A B aY b3 aK b9 bM=some true) ?_ ?_
 ·
  refine rgn (by kernel_rfl) (xm I 1 mt mi rfl (bt F (fun cX oE F=>ph (co 43 _ (by kernel_rfl) (L43 _ (uG bJ) c0 bC (uG bK) c1 bD (uG bL) c2 bE bG bH bI (I.rowCells 2 rfl b5) (am rfl b5.big) (am rfl b5.cap) (I.rowCells 3 rfl b6) (am rfl b6.big) (am rfl b6.cap) (I.rowCells 4 rfl b7) (am rfl b7.big) (am rfl b7.cap) _ oE) ?_))))
  rintro v w ⟨oF,oG,s2,oH,oI,s3,oJ,oK,s4,rfl,hN,gZ,h0,h1⟩
  have I:=I.join hN; clear hN
  refine ph (fu I [iv 1] 3 (fun b=>slv (some b) 1 1) (by kernel_rfl) fun oL w I=>bt F (fun cY oM F=>ph (co 45 _ (by kernel_rfl) (L45 _ (uG oF) oG cX.1 (uG oH) oI cX.2.1 (uG oJ) oK cX.2.2.1 cX.2.2.2.1 cX.2.2.2.2.1 cX.2.2.2.2.2 (some ⟨oL,0,none⟩) 1 [1] (I.rowCells 1 rfl gZ) (am rfl gZ.big) (am rfl gZ.cap) (I.rowCells 2 rfl h0) (am rfl h0.big) (am rfl h0.cap) (I.rowCells 3 rfl h1) (am rfl h1.big) (am rfl h1.cap) (I.cells 0 (off:=0) rfl (fun j u h=>by rw [Nat.zero_add]; exact h)) (mx rfl) (Nat.le_refl _) N _ oM) ?_)))
  rintro v w ⟨oN,oO,s5,oP,oQ,s6,oR,oS,s7,rfl,hN,h2,h3,h4⟩
  have I:=I.join hN; clear hN
  refine bt F (fun Z oT F=>ph (co 40 _ (by kernel_rfl) (L40 _ (uG oN) oO cY.1 (uG oP) oQ cY.2.1 (uG oR) oS cY.2.2.1 cY.2.2.2.1 cY.2.2.2.2.1 cY.2.2.2.2.2 (hG.up I) (I.rowCells 0 rfl h2) (am rfl h2.big) (am rfl h2.cap) (I.rowCells 1 rfl h3) (am rfl h3.big) (am rfl h3.cap) (I.rowCells 2 rfl h4) (am rfl h4.big) (am rfl h4.cap) N _ oT) ?_))
  intro v w
  refine xHH fun lM lN s8 lO lP s9 lQ lR=>xFF fun sA fB fC oU=>xaa fun hv=>xaa fun hN=>xaa fun sB=>xaa fun sC=>xaa fun sD=>fun oV=>?_
  subst hv
  have I:=I.join hN; clear hN
  refine pu3 (.tuple #[.agg #[uN lM Z.1 lN,uN lO Z.2.1 lP,uN lQ Z.2.2.1 lR,iv Z.2.2.2.1,iv Z.2.2.2.2.1,iv Z.2.2.2.2.2.1],uN fB Z.2.2.2.2.2.2 fC]) (.agg #[uN lM Z.1 lN,uN lO Z.2.1 lP,uN lQ Z.2.2.1 lR,iv Z.2.2.2.1,iv Z.2.2.2.2.1,iv Z.2.2.2.2.2.1]) (uN fB Z.2.2.2.2.2.2 fC) (by rfl) (ph (bh I _ zeroValue63 rfl fun sE w I=>xi I 0 _ mi rfl fun w I=>pu (uN fB Z.2.2.2.2.2.2 fC) (by rfl) (aa (.inl ⟨rfl,⟨fB,fC,oU,Z.2.2.2.2.2.2,(uK rfl),I.pk [12,17,18,19,4] rfl,(oV.to rfl rfl),F⟩⟩))))
 intro ρ w hJ
 obtain ⟨cW,eA,gY,bM,hag,I,oW,F⟩:=hJ
 obtain ⟨ρ,rfl⟩:=hag.form
 unfold F19j3 at F
 refine ab (ab (gm 36 I (by kernel_rfl) (zP (iv b3) (by rfl) (ifN F (fun lS F=>?_) (fun lS F=>?_)))))
 · cases F
 refine zc bF (fun w I=>de rfl rfl (uO lS) (fun _=>br)) (zP bF (by rfl) (zQ (uN b4 aY c4) (by rfl) (by rfl) (zo (iv (aY.length:Int)) (by kernel_rfl) (fun w I=>kl (iv ((aY.length:Nat):Int)) (by kernel_rfl) br) (ifN F (fun lT F=>?_) (fun lT F=>?_)))))
 · cases F
 refine zo bF (by rfl) (fun w I=>de rfl rfl (uO lT) (fun _=>br)) (zB bF bF (by rfl) (zQ (uN b8 aK c5) (by rfl) (by rfl) (zo (iv (aK.length:Int)) (by kernel_rfl) (fun w I=>kl (iv ((aK.length:Nat):Int)) (by kernel_rfl) br) (ifN F (fun lU F=>?_) (fun lU F=>?_)))))
 · cases F
 refine zo bF (by rfl) (fun w I=>de rfl rfl (uO lU) (fun _=>br)) (zB bF bF (by rfl) (zQ (uN b8 aK c5) (by rfl) (by rfl) (bt F (fun i lV F=>?_))))
 obtain ⟨oX,rfl,oY⟩:=o2.at_ bx (by decide) lV
 refine zo (uF oX (0 * 8)) (by rfl) (fun w I=>be 0 nt md rfl rfl rfl (fa lV rfl) br) (zo (.agg (qg i).toArray) (by rfl) (fun w I=>cq I 2 (qg i) mh md rfl rfl rfl oY br) (zo (.agg #[iv q,iv r,iv s,iv x,iv y,iv z,iv A,uE B]) (by rfl) (fun w I=>ma I 0 mh md rfl rfl rfl br) (ifN F (fun lW F=>?_) (fun lW F=>?_))))
 · cases F
 refine zo bF (by rfl) (fun w I=>lg (b:=decide (i.p=q) && decide (i.n=r) && decide (i.k=s) && decide (i.d=x) && decide (i.kn=y) && decide (i.op=z) && decide (i.on=A) && decide (i.t=B)) rfl rfl (by kernel_rfl) (fun w=>eq25 _ i.p i.n i.k i.d i.kn i.op i.on i.t q r s x y z A B w) (uO lW) (fun _=>br)) (zB bF bF (by rfl) (zQ (uN c6 b9 e9) (by rfl) (by rfl) (zo (iv (b9.length:Int)) (by kernel_rfl) (fun w I=>kl (iv ((b9.length:Nat):Int)) (by kernel_rfl) br) (ifN F (fun lX F=>?_) (fun lX F=>?_)))))
 · cases F
 refine zo bF (by rfl) (fun w I=>de rfl rfl (uO lX) (fun _=>br)) (zB bF bF (by rfl) (zQ (uN cW bM eA) (by rfl) (by rfl) (zo (iv (bM.length:Int)) (by kernel_rfl) (fun w I=>kl (iv ((bM.length:Nat):Int)) (by kernel_rfl) br) (ifN F (fun lY F=>?_) (fun lY F=>?_)))))
 · cases F
 refine zo bF (by rfl) (fun w I=>de rfl rfl (uO lY) (fun _=>br)) (zB bF bF (by rfl) (zQ (uN cW bM eA) (by rfl) (by rfl) (bt F (fun l lZ F=>?_))))
 obtain ⟨oZ,rfl,p0⟩:=oW.at_ bx (by decide) lZ
 refine zo (uF oZ (0 * 8)) (by rfl) (fun w I=>be 0 nt md rfl rfl rfl (fa lZ rfl) br) (zo (.agg (qg l).toArray) (by rfl) (fun w I=>cq I 4 (qg l) mh md rfl rfl rfl p0 br) (zo (.agg #[iv q,iv r,iv s,iv x,iv y,iv z,iv A,uE B]) (by rfl) (fun w I=>ma I 0 mh md rfl rfl rfl br) (ifN F (fun m0 F=>?_) (fun m0 F=>?_))))
 · cases F
 refine zo bF (by rfl) (fun w I=>lg (b:=decide (l.p=q) && decide (l.n=r) && decide (l.k=s) && decide (l.d=x) && decide (l.kn=y) && decide (l.op=z) && decide (l.on=A) && decide (l.t=B)) rfl rfl (by kernel_rfl) (fun w=>eq25 _ l.p l.n l.k l.d l.kn l.op l.on l.t q r s x y z A B w) (uO m0) (fun _=>br)) (zP bF (by rfl) (zh (fun w I=>aa (ai rfl (ak (uL (by rfl) (bt F (fun p1 p2 F=>?_))))))))
 obtain ⟨eC,eD,eE,eF,eG,eH,eI,eJ,eK,bN⟩:=p1
 refine ph (co 49 _ (by kernel_rfl) (L49 _ 2 _ p2) ?_)
 intro v w
 refine xHH fun eL eM sF eN eO sG eP eQ=>xFF fun sH eR eS sI=>xaa fun hv=>xaa fun hN=>xaa fun fD=>xaa fun fE=>xaa fun fF=>fun fG=>?_
 dsimp only at hv hN fD fE fF fG; subst hv
 have I:=I.join hN; clear hN
 refine pu3 (.tuple #[.agg ([iv eC,uN eL eD eM,uN eN eE eO,uN eP eF eQ,iv eG,iv eH,iv eI,uN eR eJ eS]++KN eK).toArray,iv bN]) (.agg ([iv eC,uN eL eD eM,uN eN eE eO,uN eP eF eQ,iv eG,iv eH,iv eI,uN eR eJ eS]++KN eK).toArray) (iv bN) (by rfl) (ph (bh I _ zeroValue81 rfl fun cZ w I=>xi I 0 _ ml rfl fun w I=>pu (iv bN) (by rfl) (aa (dn (fun ρ w=>∃ (d0 eT h5 d1 eU h6 d2 eV h7 d3 eW h8 eX:_) (c7:List Sp3) (c8:List Sp3) (cA:List Sp3) (eY eZ f0:_) (cB:List Rc) (f1:V36) (cC:_),cd ρ [(1,pt V),(19,pt cZ),(20,iv bN),(22,iv cC)]∧Inv [] w0 w [(some V,blk [iv q,iv r,iv s,iv x,iv y,iv z,iv A,uE B] 25),(some cZ,blk ([iv eX,uN d0 c7 eT,uN d1 c8 eU,uN d2 cA eV,iv eY,iv eZ,iv f0,uN d3 cB eW]++KN f1) 81),(d0,blk h5 35),(d1,blk h6 35),(d2,blk h7 35),(d3,blk h8 25)]∧(Row 3 d0 (c7.length) eT h5 (al bb c7))∧(Row 3 d1 (c8.length) eU h6 (al bb c8))∧(Row 3 d2 (cA.length) eV h7 (al bb cA))∧(Row 8 d3 (cB.length) eW h8 (al eRc cB))∧F19j4 N q r s x y z A B bN eX c7 c8 cA eY eZ f0 cB f1 cC=some true) ?_ ?_))))
 ·
  refine rgn (by rfl) (xm I 0 mu ml rfl (xm I 5 mh md rfl (bt F (fun p3 p4 F=>?_))))
  obtain ⟨fH,fI,fJ,fK,fL,fM,fN,fO,fP,m1,m2,m3,m4,m5,m6,m7,m8,fQ⟩:=p3
  refine ph (co 51 _ (by kernel_rfl) (L51 _ eC (uG eL) eM eD (uG eN) eO eE (uG eP) eQ eF eG eH eI (uG eR) eS eJ eK (⟨q,r,s,x,y,z,A,B⟩:Rc) (hG.up I) (I.rowCells 1 rfl fD) (am rfl fD.big) (am rfl fD.cap) (I.rowCells 2 rfl fE) (am rfl fE.big) (am rfl fE.cap) (I.rowCells 3 rfl fF) (am rfl fF.big) (am rfl fF.cap) (I.rowCells 4 rfl fG) (am rfl fG.big) (am rfl fG.cap) N _ p4) ?_)
  intro v w
  refine xHH fun fR fS p5 fT fU p6 fV fW=>xFF fun p7 fX fY p8=>xaa fun hv=>xaa fun hN=>xaa fun m9=>xaa fun mA=>xaa fun mB=>fun mC=>?_
  dsimp only at hv hN m9 mA mB mC; subst hv
  have I:=I.join hN; clear hN
  refine pu3 (.tuple #[.agg ([iv fH,uN fR fI fS,uN fT fJ fU,uN fV fK fW,iv fL,iv fM,iv fN,uN fX fO fY]++KN fP).toArray,.agg #[iv m1,iv m2,iv m3,iv m4,iv m5,iv m6,iv m7,uE m8],iv fQ]) (.agg ([iv fH,uN fR fI fS,uN fT fJ fU,uN fV fK fW,iv fL,iv fM,iv fN,uN fX fO fY]++KN fP).toArray) (.agg #[iv m1,iv m2,iv m3,iv m4,iv m5,iv m6,iv m7,uE m8]) (by rfl) (pu (iv fQ) (by rfl) (ph (bh I _ zeroValue25 rfl fun sJ w I=>xi I 5 _ ml rfl fun w I=>xi I 0 _ md rfl fun w I=>pu (iv fQ) (by rfl) (aa (.inl ⟨rfl,⟨fR,fS,p5,fT,fU,p6,fV,fW,p7,fX,fY,p8,fH,fI,fJ,fK,fL,fM,fN,fO,fP,fQ,(uK rfl),I.pk [10,5,1,2,3,4] rfl,(m9.to rfl rfl),(mA.to rfl rfl),(mB.to rfl rfl),(mC.to rfl rfl),F⟩⟩)))))
 intro ρ w
 refine xPP fun d0 eT h5 d1 eU h6 d2 eV h7 d3 eW h8 eX c7 c8 cA=>xFF fun eY eZ f0 cB=>xDD fun f1 cC=>xaa fun hag=>xaa fun I=>xaa fun h9=>xaa fun hA=>xaa fun hB=>xaa fun hC=>fun F=>?_
 obtain ⟨ρ,rfl⟩:=hag.form
 unfold F19j4 at F
 refine uL (by rfl) (xm I 1 mu ml rfl (bt F (fun p9 pA F=>?_)))
 obtain ⟨a1,a2,a3,a4,a5,a6,a7,a8,a9,d4,d5,d6,bQ,d7,bA,cD⟩:=p9
 refine ph (co 53 _ (by kernel_rfl) (L53 _ eX (uG d0) eT c7 (uG d1) eU c8 (uG d2) eV cA eY eZ f0 (uG d3) eW cB f1 3 2 (hG.up I) (I.rowCells 2 rfl h9) (am rfl h9.big) (am rfl h9.cap) (I.rowCells 3 rfl hA) (am rfl hA.big) (am rfl hA.cap) (I.rowCells 4 rfl hB) (am rfl hB.big) (am rfl hB.cap) (I.rowCells 5 rfl hC) (am rfl hC.big) (am rfl hC.cap) N _ pA) ?_)
 intro v w
 refine xHH fun aA aL mD aB aM mE aC aN=>xFF fun mF aD aO mG=>xDD fun bR cE=>xOO fun pB=>xaa fun hv=>xaa fun hN=>xaa fun aP=>xaa fun aQ=>xaa fun aR=>xaa fun aS=>fun cF=>?_
 dsimp only at hv hN aP aQ aR aS cF; subst hv
 have I:=I.join hN; clear hN
 refine pu3 (.tuple #[.agg ([iv a1,uN aA a2 aL,uN aB a3 aM,uN aC a4 aN,iv a5,iv a6,iv a7,uN aD a8 aO]++KN a9).toArray,.agg #[iv d4,iv d5,iv d6,iv bQ,iv d7,uN bR bA cE],iv cD]) (.agg ([iv a1,uN aA a2 aL,uN aB a3 aM,uN aC a4 aN,iv a5,iv a6,iv a7,uN aD a8 aO]++KN a9).toArray) (.agg #[iv d4,iv d5,iv d6,iv bQ,iv d7,uN bR bA cE]) (by rfl) (pu (iv cD) (by rfl) (ph (bh I _ zeroValue83 rfl fun d8 w I=>xi I 7 _ ml rfl fun w I=>xi I 0 _ zs83 rfl fun w I=>pu (iv cD) (by rfl) (aa (dn (fun ρ w=>∃ (aI cG d9 hD cH dA hE cI dB hH cJ dC hK dD:_) (bS:List Sp3) (bU:List Sp3) (bV:List Sp3) (dE dF dG:_) (bW:List Rc) (dH:V36) (f2:_),cd ρ [(1,pt V),(19,pt cZ),(20,iv bN),(22,iv cC),(23,pt d8),(24,iv cD),(25,pt aI),(26,iv f2)]∧Inv [] w0 w [(some V,blk [iv q,iv r,iv s,iv x,iv y,iv z,iv A,uE B] 25),(some cZ,blk ([iv a1,uN aA a2 aL,uN aB a3 aM,uN aC a4 aN,iv a5,iv a6,iv a7,uN aD a8 aO]++KN a9) 81),(aA,blk mD 35),(aB,blk mE 35),(aC,blk mF 35),(aD,blk mG 25),(some d8,blk [iv d4,iv d5,iv d6,iv bQ,iv d7,uN bR bA cE] 83),(bR,blk pB 25),(some aI,blk ([iv dD,uN cG bS d9,uN cH bU dA,uN cI bV dB,iv dE,iv dF,iv dG,uN cJ bW dC]++KN dH) 81),(cG,blk hD 35),(cH,blk hE 35),(cI,blk hH 35),(cJ,blk hK 25)]∧(Row 3 cG (bS.length) d9 hD (al bb bS))∧(Row 3 cH (bU.length) dA hE (al bb bU))∧(Row 3 cI (bV.length) dB hH (al bb bV))∧(Row 8 cJ (bW.length) dC hK (al eRc bW))∧F19j5 N q r s x y z A B bN cC a1 a2 a3 a4 a5 a6 a7 a8 a9 d4 d5 d6 bQ d7 bA cD dD bS bU bV dE dF dG bW dH f2=some true) ?_ ?_)))))
 ·
  refine rgn (by rfl) (bt F (fun pC pD F=>?_))
  obtain ⟨fZ,g0,g1,g2,g3,g4,g5,g6,g7,g8⟩:=pC
  refine ph (co 49 _ (by kernel_rfl) (L49 _ 3 _ pD) ?_)
  intro v w
  refine xHH fun g9 gA pF gB gC pG gD gE=>xFF fun pH gF gG pI=>xaa fun hv=>xaa fun hN=>xaa fun mH=>xaa fun mI=>xaa fun mJ=>fun mK=>?_
  dsimp only at hv hN mH mI mJ mK; subst hv
  have I:=I.join hN; clear hN
  refine pu3 (.tuple #[.agg ([iv fZ,uN g9 g0 gA,uN gB g1 gC,uN gD g2 gE,iv g3,iv g4,iv g5,uN gF g6 gG]++KN g7).toArray,iv g8]) (.agg ([iv fZ,uN g9 g0 gA,uN gB g1 gC,uN gD g2 gE,iv g3,iv g4,iv g5,uN gF g6 gG]++KN g7).toArray) (iv g8) (by rfl) (ph (bh I _ zeroValue81 rfl fun pJ w I=>xi I 0 _ ml rfl fun w I=>pu (iv g8) (by rfl) (aa (.inl ⟨rfl,⟨pJ,g9,gA,pF,gB,gC,pG,gD,gE,pH,gF,gG,pI,fZ,g0,g1,g2,g3,g4,g5,g6,g7,g8,(uK rfl),I.pk [11,12,6,7,8,9,5,10,0,1,2,3,4] rfl,(mH.to rfl rfl),(mI.to rfl rfl),(mJ.to rfl rfl),(mK.to rfl rfl),F⟩⟩))))
 intro ρ w
 refine xPP fun aI cG d9 hD cH dA hE cI dB hH cJ dC hK dD bS bU=>xFF fun bV dE dF dG=>xDD fun bW dH=>xOO fun f2=>xaa fun hag=>xaa fun I=>xaa fun dI=>xaa fun dJ=>xaa fun dK=>xaa fun dL=>fun F=>?_
 obtain ⟨ρ,rfl⟩:=hag.form
 unfold F19j5 at F
 refine uL (by rfl) (xm I 8 mu ml rfl (xm I 6 zi83 zs83 rfl (bindSE F (fun pK pL F=>?_) (fun pM pN F=>?_))))
 ·
  obtain ⟨hL,hM,hO,hP,hQ,hR,hS,hT,hU,gH⟩:=pK
  refine ph (co 55 _ (by kernel_rfl) (L55 _ dD (uG cG) d9 bS (uG cH) dA bU (uG cI) dB bV dE dF dG (uG cJ) dC bW dH d4 d5 d6 bQ d7 (uG bR) cE bA (hG.up I) (I.rowCells 9 rfl dI) (am rfl dI.big) (am rfl dI.cap) (I.rowCells 10 rfl dJ) (am rfl dJ.big) (am rfl dJ.cap) (I.rowCells 11 rfl dK) (am rfl dK.big) (am rfl dK.cap) (I.rowCells 12 rfl dL) (am rfl dL.big) (am rfl dL.cap) (I.rowCells 7 rfl cF) (am rfl cF.big) (am rfl cF.cap) N _ pL) ?_)
  intro v w
  refine xHH fun hV hW sK hX hY sL hZ i0=>xFF fun sM i1 i2 sN=>xaa fun hv=>xaa fun hN=>xaa fun pO=>xaa fun pP=>xaa fun pQ=>fun pR=>?_
  dsimp only at hv hN pO pP pQ pR; subst hv
  have I:=I.join hN; clear hN
  refine pu3 (.tuple #[.agg ([iv hL,uN hV hM hW,uN hX hO hY,uN hZ hP i0,iv hQ,iv hR,iv hS,uN i1 hT i2]++KN hU).toArray,uD,iv gH]) (.agg ([iv hL,uN hV hM hW,uN hX hO hY,uN hZ hP i0,iv hQ,iv hR,iv hS,uN i1 hT i2]++KN hU).toArray) uD (by rfl) (pu (iv gH) (by rfl) (xi I 12 _ ml rfl fun w I=>pu2 uD (iv gH) (by rfl) (aa (ab (uL (by rfl) (pu (iv bN) (by rfl) (ifN F (fun mL F=>?_) (fun mL F=>?_))))))))
  · cases F
  refine xn rfl (uO mL) (fun _=>pu bF (by rfl) (pup (iv cC) (by rfl) (ifN F (fun mM F=>?_) (fun mM F=>?_))))
  · cases F
  refine aw (by rfl) (de rfl rfl (uO mM) (fun _=>pu2 bF bF (by rfl) (pup (iv cD) (by rfl) (ifN F (fun mN F=>?_) (fun mN F=>?_)))))
  · cases F
  refine aw (by rfl) (de rfl rfl (uO mN) (fun _=>pu2 bF bF (by rfl) (pup (iv f2) (by rfl) (ifN F (fun mO F=>?_) (fun mO F=>?_)))))
  · cases F
  refine aw (by rfl) (de rfl rfl (uO mO) (fun _=>pu2 bF bF (by rfl) (pup (iv gH) (by rfl) (ifN F (fun mP F=>?_) (fun mP F=>?_)))))
  · cases F
  refine aw (by rfl) (de rfl rfl (uO mP) (fun _=>pu2 bF bF (by rfl) (pup (uF d8 3) (by rfl) (aw (by rfl) (ag I 10 (iv bQ) zi3 rfl rfl rfl (ifN F (fun mQ F=>?_) (fun mQ F=>?_)))))))
  · cases F
  refine aw (by kernel_rfl) (de rfl rfl (uO mQ) (fun _=>pu2 bF bF (by kernel_rfl) (pup (uF d8 5) (by kernel_rfl) (aw (by kernel_rfl) (ag I 10 (uN bR bA cE) mv rfl rfl rfl (pup (iv ((bA.length:Nat):Int)) (by kernel_rfl) (ifE F (fun pS F=>?_) (fun pS F=>?_))))))))
  · cases F
  cases F
 obtain ⟨H,J,K,L,M,O,P,Q,G,f,gI⟩:=pM
 refine ph (co 55 _ (by kernel_rfl) (L55 _ dD (uG cG) d9 bS (uG cH) dA bU (uG cI) dB bV dE dF dG (uG cJ) dC bW dH d4 d5 d6 bQ d7 (uG bR) cE bA (hG.up I) (I.rowCells 9 rfl dI) (am rfl dI.big) (am rfl dI.cap) (I.rowCells 10 rfl dJ) (am rfl dJ.big) (am rfl dJ.cap) (I.rowCells 11 rfl dK) (am rfl dK.big) (am rfl dK.cap) (I.rowCells 12 rfl dL) (am rfl dL.big) (am rfl dL.cap) (I.rowCells 7 rfl cF) (am rfl cF.big) (am rfl cF.cap) N _ pN) ?_)
 intro v w
 refine xPP fun R aE i3 S aF i4 T aG i5 U aH i6 aZ bX cK pT=>xaa fun hv=>xaa fun hN=>xaa fun aT=>xaa fun aU=>xaa fun aV=>xaa fun aW=>fun aX=>?_
 dsimp only at hv hN aT aU aV aW aX; subst hv
 have I:=I.join hN; clear hN
 refine pu3 (.tuple #[.agg ([iv H,uN R J aE,uN S K aF,uN T L aG,iv M,iv O,iv P,uN U Q aH]++KN G).toArray,.slice (some ⟨aZ,0,none⟩) 1 1,iv gI]) (.agg ([iv H,uN R J aE,uN S K aF,uN T L aG,iv M,iv O,iv P,uN U Q aH]++KN G).toArray) (.slice (some ⟨aZ,0,none⟩) 1 1) (by rfl) (pu (iv gI) (by rfl) (xi I 14 _ ml rfl fun w I=>pu2 (.slice (some ⟨aZ,0,none⟩) 1 1) (iv gI) (by rfl) (aa (dn (fun ρ w=>cd ρ [(1,pt V),(19,pt cZ),(25,pt aI),(27,.slice (some ⟨aZ,0,none⟩) 1 1)]∧Inv [] w0 w [(some V,blk [iv q,iv r,iv s,iv x,iv y,iv z,iv A,uE B] 25),(some cZ,blk ([iv a1,uN aA a2 aL,uN aB a3 aM,uN aC a4 aN,iv a5,iv a6,iv a7,uN aD a8 aO]++KN a9) 81),(aA,blk mD 35),(aB,blk mE 35),(aC,blk mF 35),(aD,blk mG 25),(some aI,blk ([iv H,uN R J aE,uN S K aF,uN T L aG,iv M,iv O,iv P,uN U Q aH]++KN G) 81),(R,blk i3 35),(S,blk i4 35),(T,blk i5 35),(U,blk i6 25),(some aZ,blk [iv f.1,iv f.2.1,iv f.2.2.1,iv f.2.2.2.1,iv f.2.2.2.2.1,uN bX f.2.2.2.2.2 cK] 83),(bX,blk pT 25)]∧F19j6 N q r s x y z A B a1 a2 a3 a4 a5 a6 a7 a8 a9 H J K L M O P Q G f=some true) ?_ ?_))))
 ·
  refine uL (by rfl) (pu (iv bN) (by rfl) (ifN F (fun mR F=>?_) (fun mR F=>?_)))
  · cases F
  refine xn rfl (uO mR) (fun _=>pu bF (by rfl) (pup (iv cC) (by rfl) (ifN F (fun mS F=>?_) (fun mS F=>?_))))
  · cases F
  refine aw (by rfl) (de rfl rfl (uO mS) (fun _=>pu2 bF bF (by rfl) (pup (iv cD) (by rfl) (ifN F (fun mT F=>?_) (fun mT F=>?_)))))
  · cases F
  refine aw (by rfl) (de rfl rfl (uO mT) (fun _=>pu2 bF bF (by rfl) (pup (iv f2) (by rfl) (ifN F (fun mU F=>?_) (fun mU F=>?_)))))
  · cases F
  refine aw (by rfl) (de rfl rfl (uO mU) (fun _=>pu2 bF bF (by rfl) (pup (iv gI) (by rfl) (ifN F (fun mV F=>?_) (fun mV F=>?_)))))
  · cases F
  refine aw (by rfl) (de rfl rfl (uO mV) (fun _=>pu2 bF bF (by rfl) (pup (uF d8 3) (by rfl) (aw (by rfl) (ag I 12 (iv bQ) zi3 rfl rfl rfl (ifN F (fun mW F=>?_) (fun mW F=>?_)))))))
  · cases F
  refine aw (by kernel_rfl) (de rfl rfl (uO mW) (fun _=>pu2 bF bF (by kernel_rfl) (pup (uF d8 5) (by kernel_rfl) (aw (by kernel_rfl) (ag I 12 (uN bR bA cE) mv rfl rfl rfl (pup (iv ((bA.length:Nat):Int)) (by kernel_rfl) (ifN F (fun mX F=>?_) (fun mX F=>?_))))))))
  · cases F
  refine aw (by kernel_rfl) (de rfl rfl (uO mX) (fun _=>pu2 bF bF (by kernel_rfl) (pup (.slice (some ⟨aZ,0,none⟩) 1 1) (by kernel_rfl) (pup (iv ((1:Nat):Int)) (by kernel_rfl) (aw (by kernel_rfl) (de rfl rfl (fun h=>absurd (by decide) h) (fun _=>pu2 bF bF (by kernel_rfl) (pup (.slice (some ⟨aZ,0,none⟩) 1 1) (by kernel_rfl) (aw (by kernel_rfl) (lj 0 0 zu100 zs83 rfl rfl (by decide) rfl (pup (uF aZ 3) (by kernel_rfl) (aw (by kernel_rfl) (ag I 4 (iv f.2.2.2.1) zi3 rfl rfl rfl (ifN F (fun mY F=>?_) (fun mY F=>?_)))))))))))))))
  · cases F
  refine aw (by rfl) (de rfl rfl (uO mY) (fun _=>pu2 bF bF (by rfl) (pup (uF aI 8) (by rfl) (aw (by rfl) (av 2 zu79 zs54 rfl rfl rfl (by decide) (8+2 * 6) rfl (aw (by rfl) (av 2 zu54 zs3 rfl rfl rfl (by decide) (8+(2 * 6+2)) (by omega) (aw (by rfl) (ag I 14 (iv (G (2 * 6+2))) zi3 rfl rfl (kn_at G (row36 (by decide) (by decide)) [iv H,uN R J aE,uN S K aF,uN T L aG,iv M,iv O,iv P,uN U Q aH] rfl) (ifN F (fun mZ F=>?_) (fun mZ F=>?_)))))))))))
  · cases F
  refine aw (by rfl) (de rfl rfl (uO mZ) (fun _=>pu bF (by rfl) (aa (ai rfl (ak (.inl ⟨rfl,⟨(uK rfl),I.pk [6,7,8,9,10,11,14,0,1,2,3,4,5] rfl,F⟩⟩))))))
 intro ρ w hJ
 obtain ⟨hag,I,F⟩:=hJ
 obtain ⟨ρ,rfl⟩:=hag.form
 unfold F19j6 at F
 refine ab (bindSE F (fun pU n0 F=>?_) (fun pV n1 F=>?_))
 ·
  obtain ⟨dM,dN,dO,dP,dQ,dR,dS,dT,dU,bY⟩:=pU
  refine dh I [0,1,2,3,4,5,6,7,8,9,10,11,12] (by decide) rfl (by kernel_rfl) (by kernel_rfl) fun hsub=>ap 0 (.agg ([iv a1,uN aA a2 aL,uN aB a3 aM,uN aC a4 aN,iv a5,iv a6,iv a7,uN aD a8 aO]++KN a9).toArray) hsub rfl (by kernel_rfl) (fun w I=>ma I 1 mu ml rfl rfl rfl br) (alp 1 (.slice (some ⟨aZ,0,none⟩) 1 1) hsub rfl (by kernel_rfl) (fun _=>(by kernel_rfl)) (ap 2 (pt aZ) hsub rfl (by kernel_rfl) (fun w I=>lj 0 0 zu100 zs83 rfl rfl (by decide) rfl br) (ap 3 (.agg #[iv f.1,iv f.2.1,iv f.2.2.1,iv f.2.2.2.1,iv f.2.2.2.2.1,uN bX f.2.2.2.2.2 cK]) hsub rfl (by kernel_rfl) (fun w I=>ma I 11 zi83 zs83 rfl rfl rfl br) (bc [4,9] (by kernel_rfl) rfl (each2 ?_ ?_)))))
  ·intro w I
   refine dg rfl (co 55 _ (by kernel_rfl) (L55 _ a1 (uG aA) aL a2 (uG aB) aM a3 (uG aC) aN a4 a5 a6 a7 (uG aD) aO a8 a9 f.1 f.2.1 f.2.2.1 f.2.2.2.1 f.2.2.2.2.1 (uG bX) cK f.2.2.2.2.2 (hG.up I) (I.rowCells 2 rfl aP) (am rfl aP.big) (am rfl aP.cap) (I.rowCells 3 rfl aQ) (am rfl aQ.big) (am rfl aQ.cap) (I.rowCells 4 rfl aR) (am rfl aR.big) (am rfl aR.cap) (I.rowCells 5 rfl aS) (am rfl aS.big) (am rfl aS.cap) (I.rowCells 12 rfl aX) (am rfl aX.big) (am rfl aX.cap) N _ n0) ?_)
   intro v w
   refine xHH fun i7 i8 sO i9 iA sP iB iC=>xFF fun sQ iD iE sR=>xaa fun hv=>xaa fun hN=>xaa fun pW=>xaa fun pX=>xaa fun pY=>fun pZ=>?_
   dsimp only at hv hN pW pX pY pZ; subst hv
   have I:=I.join hN; clear hN
   refine ⟨_,I,dc (fun _ h=>h.pk [4,5,6,7,8,9,10,11,12,13,14,15,16] rfl) ?_⟩
   intro hsub
   refine alp 5 (.tuple #[.agg ([iv dM,uN i7 dN i8,uN i9 dO iA,uN iB dP iC,iv dQ,iv dR,iv dS,uN iD dT iE]++KN dU).toArray,uD,iv bY]) hsub rfl (by kernel_rfl) (fun _=>(by kernel_rfl)) (alp 6 (.agg ([iv dM,uN i7 dN i8,uN i9 dO iA,uN iB dP iC,iv dQ,iv dR,iv dS,uN iD dT iE]++KN dU).toArray) hsub rfl (by kernel_rfl) (fun _=>(by kernel_rfl)) (alp 7 uD hsub rfl (by kernel_rfl) (fun _=>(by kernel_rfl)) (alp 8 (iv bY) hsub rfl (by kernel_rfl) (fun _=>(by kernel_rfl)) (bc [9] (by kernel_rfl) rfl (cz fun w I=>dg rfl (bh I ([iv 0,uD,uD,uD,iv 0,iv 0,iv 0,uD]++KN vz) zeroValue81 rfl fun sS w I=>⟨_,I,dc (fun _ h=>h.pk [5,6,7,8,9,10,11,12,13,14,15,16,17] rfl) ?_⟩))))))
   intro hsub
   refine bc [10] (by kernel_rfl) rfl (cz fun w I=>dg rfl (mb I 0 ([iv dM,uN i7 dN i8,uN i9 dO iA,uN iB dP iC,iv dQ,iv dR,iv dS,uN iD dT iE]++KN dU) ml rfl rfl rfl rfl rfl rfl fun w I=>⟨_,I,dc (fun _ h=>h.pk [5,6,7,8,9,10,11,12,13,14,15,16,17] rfl) ?_⟩))
   intro hsub
   refine alp 11 uD hsub rfl (by kernel_rfl) (fun _=>(by kernel_rfl)) (alp 12 (iv bY) hsub rfl (by kernel_rfl) (fun _=>(by kernel_rfl)) (cp (by kernel_rfl) (fun w I=>ab (uL (by kernel_rfl) (pu (iv bY) (by kernel_rfl) (ifE F (fun q0 F=>?_) (fun q0 F=>?_)))))))
   · cases F
   cases F
  intro w I
  refine dg rfl (bh I ([iv 0,uD,uD,uD,iv 0,iv 0,iv 0,uD]++KN vz) zeroValue81 rfl fun sT w I=>⟨_,I,dc (fun _ h=>h.pk [1,2,3,4,5,6,7,8,9,10,11,12,13] rfl) ?_⟩)
  intro hsub
  refine bc [4] (by kernel_rfl) rfl (cz fun w I=>dg rfl (co 55 _ (by kernel_rfl) (L55 _ a1 (uG aA) aL a2 (uG aB) aM a3 (uG aC) aN a4 a5 a6 a7 (uG aD) aO a8 a9 f.1 f.2.1 f.2.2.1 f.2.2.2.1 f.2.2.2.2.1 (uG bX) cK f.2.2.2.2.2 (hG.up I) (I.rowCells 3 rfl aP) (am rfl aP.big) (am rfl aP.cap) (I.rowCells 4 rfl aQ) (am rfl aQ.big) (am rfl aQ.cap) (I.rowCells 5 rfl aR) (am rfl aR.big) (am rfl aR.cap) (I.rowCells 6 rfl aS) (am rfl aS.big) (am rfl aS.cap) (I.rowCells 13 rfl aX) (am rfl aX.big) (am rfl aX.cap) N _ n0) ?_))
  intro v w
  refine xHH fun iF iG sU iH iI sV iJ iK=>xFF fun sW iL iM sX=>xaa fun hv=>xaa fun hN=>xaa fun q1=>xaa fun q2=>xaa fun q3=>fun q4=>?_
  dsimp only at hv hN q1 q2 q3 q4; subst hv
  have I:=I.join hN; clear hN
  refine ⟨_,I,dc (fun _ h=>h.pk [5,6,7,8,9,10,11,12,13,14,15,16,17] rfl) ?_⟩
  intro hsub
  refine alp 5 (.tuple #[.agg ([iv dM,uN iF dN iG,uN iH dO iI,uN iJ dP iK,iv dQ,iv dR,iv dS,uN iL dT iM]++KN dU).toArray,uD,iv bY]) hsub rfl (by kernel_rfl) (fun _=>(by kernel_rfl)) (alp 6 (.agg ([iv dM,uN iF dN iG,uN iH dO iI,uN iJ dP iK,iv dQ,iv dR,iv dS,uN iL dT iM]++KN dU).toArray) hsub rfl (by kernel_rfl) (fun _=>(by kernel_rfl)) (alp 7 uD hsub rfl (by kernel_rfl) (fun _=>(by kernel_rfl)) (alp 8 (iv bY) hsub rfl (by kernel_rfl) (fun _=>(by kernel_rfl)) (bc [10] (by kernel_rfl) rfl (cz fun w I=>dg rfl (mb I 4 ([iv dM,uN iF dN iG,uN iH dO iI,uN iJ dP iK,iv dQ,iv dR,iv dS,uN iL dT iM]++KN dU) ml rfl rfl rfl rfl rfl rfl fun w I=>⟨_,I,dc (fun _ h=>h.pk [5,6,7,8,9,10,11,12,13,14,15,16,17] rfl) ?_⟩))))))
  intro hsub
  refine alp 11 uD hsub rfl (by kernel_rfl) (fun _=>(by kernel_rfl)) (alp 12 (iv bY) hsub rfl (by kernel_rfl) (fun _=>(by kernel_rfl)) (cp (by kernel_rfl) (fun w I=>ab (uL (by kernel_rfl) (pu (iv bY) (by kernel_rfl) (ifE F (fun q5 F=>?_) (fun q5 F=>?_)))))))
  · cases F
  cases F
 obtain ⟨dV,dW,dX,dY,dZ,e0,e1,e2,e3,e,bZ⟩:=pV
 refine dh I [0,1,2,3,4,5,6,7,8,9,10,11,12] (by decide) rfl (by kernel_rfl) (by kernel_rfl) fun hsub=>ap 0 (.agg ([iv a1,uN aA a2 aL,uN aB a3 aM,uN aC a4 aN,iv a5,iv a6,iv a7,uN aD a8 aO]++KN a9).toArray) hsub rfl (by kernel_rfl) (fun w I=>ma I 1 mu ml rfl rfl rfl br) (alp 1 (.slice (some ⟨aZ,0,none⟩) 1 1) hsub rfl (by kernel_rfl) (fun _=>(by kernel_rfl)) (ap 2 (pt aZ) hsub rfl (by kernel_rfl) (fun w I=>lj 0 0 zu100 zs83 rfl rfl (by decide) rfl br) (ap 3 (.agg #[iv f.1,iv f.2.1,iv f.2.2.1,iv f.2.2.2.1,iv f.2.2.2.2.1,uN bX f.2.2.2.2.2 cK]) hsub rfl (by kernel_rfl) (fun w I=>ma I 11 zi83 zs83 rfl rfl rfl br) (bc [4,9] (by kernel_rfl) rfl (each2 ?_ ?_)))))
 ·intro w I
  refine dg rfl (co 55 _ (by kernel_rfl) (L55 _ a1 (uG aA) aL a2 (uG aB) aM a3 (uG aC) aN a4 a5 a6 a7 (uG aD) aO a8 a9 f.1 f.2.1 f.2.2.1 f.2.2.2.1 f.2.2.2.2.1 (uG bX) cK f.2.2.2.2.2 (hG.up I) (I.rowCells 2 rfl aP) (am rfl aP.big) (am rfl aP.cap) (I.rowCells 3 rfl aQ) (am rfl aQ.big) (am rfl aQ.cap) (I.rowCells 4 rfl aR) (am rfl aR.big) (am rfl aR.cap) (I.rowCells 5 rfl aS) (am rfl aS.big) (am rfl aS.cap) (I.rowCells 12 rfl aX) (am rfl aX.big) (am rfl aX.cap) N _ n1) ?_)
  intro v w
  refine xPP fun iN iO sY iP iQ sZ iR iS t0 iT iU t1 b0 cL e4 q6=>xaa fun hv=>xaa fun hN=>xaa fun q7=>xaa fun q8=>xaa fun q9=>xaa fun qA=>fun cM=>?_
  dsimp only at hv hN q7 q8 q9 qA cM; subst hv
  have I:=I.join hN; clear hN
  refine ⟨_,I,dc (fun _ h=>h.pk [6,7,8,9,10,11,12,13,14,15,16,17,18] rfl) ?_⟩
  intro hsub
  refine alp 5 (.tuple #[.agg ([iv dV,uN iN dW iO,uN iP dX iQ,uN iR dY iS,iv dZ,iv e0,iv e1,uN iT e2 iU]++KN e3).toArray,.slice (some ⟨b0,0,none⟩) 1 1,iv bZ]) hsub rfl (by kernel_rfl) (fun _=>(by kernel_rfl)) (alp 6 (.agg ([iv dV,uN iN dW iO,uN iP dX iQ,uN iR dY iS,iv dZ,iv e0,iv e1,uN iT e2 iU]++KN e3).toArray) hsub rfl (by kernel_rfl) (fun _=>(by kernel_rfl)) (alp 7 (.slice (some ⟨b0,0,none⟩) 1 1) hsub rfl (by kernel_rfl) (fun _=>(by kernel_rfl)) (alp 8 (iv bZ) hsub rfl (by kernel_rfl) (fun _=>(by kernel_rfl)) (bc [9] (by kernel_rfl) rfl (cz fun w I=>dg rfl (bh I ([iv 0,uD,uD,uD,iv 0,iv 0,iv 0,uD]++KN vz) zeroValue81 rfl fun t2 w I=>⟨_,I,dc (fun _ h=>h.pk [7,8,9,10,11,12,13,14,15,16,17,18,19] rfl) ?_⟩))))))
  intro hsub
  refine bc [10] (by kernel_rfl) rfl (cz fun w I=>dg rfl (mb I 0 ([iv dV,uN iN dW iO,uN iP dX iQ,uN iR dY iS,iv dZ,iv e0,iv e1,uN iT e2 iU]++KN e3) ml rfl rfl rfl rfl rfl rfl fun w I=>⟨_,I,dc (fun _ h=>h.pk [7,8,9,10,11,12,13,14,15,16,17,18,19] rfl) ?_⟩))
  intro hsub
  refine alp 11 (.slice (some ⟨b0,0,none⟩) 1 1) hsub rfl (by kernel_rfl) (fun _=>(by kernel_rfl)) (alp 12 (iv bZ) hsub rfl (by kernel_rfl) (fun _=>(by kernel_rfl)) (cp (by kernel_rfl) (fun w I=>dn (fun ρ w=>cd ρ [(1,pt V),(25,pt aI),(30,.slice (some ⟨b0,0,none⟩) 1 1)]∧Inv [] w0 w [(some V,blk [iv q,iv r,iv s,iv x,iv y,iv z,iv A,uE B] 25),(some aI,blk ([iv H,uN R J aE,uN S K aF,uN T L aG,iv M,iv O,iv P,uN U Q aH]++KN G) 81),(R,blk i3 35),(S,blk i4 35),(T,blk i5 35),(U,blk i6 25),(some b0,blk [iv e.1,iv e.2.1,iv e.2.2.1,iv e.2.2.2.1,iv e.2.2.2.2.1,uN cL e.2.2.2.2.2 e4] 83),(cL,blk q6 25)]∧F19j7 N q r s x y z A B H J K L M O P Q G e=some true) ?_ ?_)))
  ·
   refine uL (by rfl) (pu (iv bZ) (by rfl) (ifN F (fun n2 F=>?_) (fun n2 F=>?_)))
   · cases F
   refine xn rfl (uO n2) (fun _=>pu bF (by kernel_rfl) (pup (.slice (some ⟨b0,0,none⟩) 1 1) (by kernel_rfl) (pup (iv ((1:Nat):Int)) (by kernel_rfl) (aw (by kernel_rfl) (de rfl rfl (fun h=>absurd (by decide) h) (fun _=>pu2 bF bF (by kernel_rfl) (pup (.slice (some ⟨b0,0,none⟩) 1 1) (by kernel_rfl) (aw (by kernel_rfl) (lj 0 0 zu100 zs83 rfl rfl (by decide) rfl (pup (uF b0 5) (by kernel_rfl) (aw (by kernel_rfl) (ag I 5 (uN cL e.2.2.2.2.2 e4) mv rfl rfl rfl (pup (iv ((e.2.2.2.2.2.length:Nat):Int)) (by kernel_rfl) (ifN F (fun n3 F=>?_) (fun n3 F=>?_)))))))))))))))
   · cases F
   refine aw (by rfl) (de rfl rfl (uO n3) (fun _=>pu bF (by rfl) (aa (ai rfl (ak (.inl ⟨rfl,⟨⟨rfl,rfl,rfl,trivial⟩,I.pk [7,13,14,15,16,17,5,6] rfl,F⟩⟩))))))
  intro ρ w hJ
  obtain ⟨hag,I,F⟩:=hJ
  obtain ⟨ρ,rfl⟩:=hag.form
  unfold F19j7 at F
  refine ab (bindSE F (fun qB qC F=>?_) (fun qD qE F=>?_))
  ·
   obtain ⟨iV,iW,iX,iY,iZ,j0,j1,bO,j2,gJ⟩:=qB
   replace I:=I.pk [0,2,3,4,5,6,7,1] rfl
   refine dh I [0,1,2,3,4,5,6] (by decide) rfl (by kernel_rfl) (by kernel_rfl) fun hsub=>alp 1 (.slice (some ⟨b0,0,none⟩) 1 1) hsub rfl (by kernel_rfl) (fun _=>(by kernel_rfl)) (ap 2 (pt b0) hsub rfl (by kernel_rfl) (fun w I=>lj 0 0 zu100 zs83 rfl rfl (by decide) rfl br) (ap 3 (.agg #[iv e.1,iv e.2.1,iv e.2.2.1,iv e.2.2.2.1,iv e.2.2.2.2.1,uN cL e.2.2.2.2.2 e4]) hsub rfl (by kernel_rfl) (fun w I=>ma I 5 zi83 zs83 rfl rfl rfl br) (bc [0] (by kernel_rfl) rfl (cz fun w I=>dg rfl (ma I 7 mu ml rfl rfl rfl (⟨_,I,dc (fun _ h=>h.pk [0,1,2,3,4,5,6] rfl) ?_⟩))))))
   intro hsub
   refine bc [4] (by kernel_rfl) rfl (cz fun w I=>dg rfl (co 55 _ (by kernel_rfl) (L55 _ H (uG R) aE J (uG S) aF K (uG T) aG L M O P (uG U) aH Q G e.1 e.2.1 e.2.2.1 e.2.2.2.1 e.2.2.2.2.1 (uG cL) e4 e.2.2.2.2.2 (hG.up I) (I.rowCells 1 rfl aT) (am rfl aT.big) (am rfl aT.cap) (I.rowCells 2 rfl aU) (am rfl aU.big) (am rfl aU.cap) (I.rowCells 3 rfl aV) (am rfl aV.big) (am rfl aV.cap) (I.rowCells 4 rfl aW) (am rfl aW.big) (am rfl aW.cap) (I.rowCells 6 rfl cM) (am rfl cM.big) (am rfl cM.cap) N _ qC) ?_))
   intro v w
   refine xHH fun j3 j4 t3 j5 j6 t4 j7 j8=>xFF fun t5 cN cO t6=>xaa fun hv=>xaa fun hN=>xaa fun qF=>xaa fun qG=>xaa fun qH=>fun n4=>?_
   dsimp only at hv hN qF qG qH n4; subst hv
   have I:=I.join hN; clear hN
   refine ⟨_,I,dc (fun _ h=>h.pk [4,5,6,7,8,9,10] rfl) ?_⟩
   intro hsub
   refine alp 5 (.tuple #[.agg ([iv iV,uN j3 iW j4,uN j5 iX j6,uN j7 iY j8,iv iZ,iv j0,iv j1,uN cN bO cO]++KN j2).toArray,uD,iv gJ]) hsub rfl (by kernel_rfl) (fun _=>(by kernel_rfl)) (alp 6 (.agg ([iv iV,uN j3 iW j4,uN j5 iX j6,uN j7 iY j8,iv iZ,iv j0,iv j1,uN cN bO cO]++KN j2).toArray) hsub rfl (by kernel_rfl) (fun _=>(by kernel_rfl)) (alp 7 uD hsub rfl (by kernel_rfl) (fun _=>(by kernel_rfl)) (alp 8 (iv gJ) hsub rfl (by kernel_rfl) (fun _=>(by kernel_rfl)) (bc [9] (by kernel_rfl) rfl (cz fun w I=>dg rfl (mb I 11 ([iv iV,uN j3 iW j4,uN j5 iX j6,uN j7 iY j8,iv iZ,iv j0,iv j1,uN cN bO cO]++KN j2) ml rfl rfl rfl rfl rfl rfl fun w I=>⟨_,I,dc (fun _ h=>h.pk [4,5,6,7,8,9,10] rfl) ?_⟩))))))
   intro hsub
   refine alp 10 uD hsub rfl (by kernel_rfl) (fun _=>(by kernel_rfl)) (alp 11 (iv gJ) hsub rfl (by kernel_rfl) (fun _=>(by kernel_rfl)) (cp (by kernel_rfl) (fun w I=>ab (gm 22 I (by kernel_rfl) (zP (iv gJ) (by kernel_rfl) (ifN F (fun n5 F=>?_) (fun n5 F=>?_)))))))
   · cases F
   refine zc bT (fun w I=>di rfl rfl (fun _=>br) (uO n5)) (zP bT (by kernel_rfl) (zQ uD (by kernel_rfl) (by kernel_rfl) (zo (iv 0) (by kernel_rfl) (fun w I=>kl (iv ((0:Nat):Int)) (by kernel_rfl) br) (zo bT (by kernel_rfl) (fun w I=>di rfl rfl (fun _=>br) (fun h=>absurd (by decide) h)) (zB bT bT (by kernel_rfl) (zQ (uF aI 7) (by kernel_rfl) (by kernel_rfl) (zo (uN cN bO cO) (by kernel_rfl) (fun w I=>ag I 11 (uN cN bO cO) mv rfl rfl rfl br) (zo (iv (bO.length:Int)) (by kernel_rfl) (fun w I=>kl (iv ((bO.length:Nat):Int)) (by kernel_rfl) br) (ifN F (fun n6 F=>?_) (fun n6 F=>?_))))))))))
   · cases F
   refine zo bT (by rfl) (fun w I=>di rfl rfl (fun _=>br) (uO n6)) (zB bT bT (by rfl) (zQ (uF aI 7) (by rfl) (by rfl) (zo (uN cN bO cO) (by rfl) (fun w I=>ag I 11 (uN cN bO cO) mv rfl rfl rfl br) (bt F (fun m n7 F=>?_)))))
   obtain ⟨qI,rfl,qJ⟩:=n4.at_ bx (by decide) n7
   refine zo (uF qI (0 * 8)) (by rfl) (fun w I=>be 0 nt md rfl rfl rfl (fa n7 rfl) br) (zo (.agg (qg m).toArray) (by rfl) (fun w I=>cq I 3 (qg m) mh md rfl rfl rfl qJ br) (zo (.agg #[iv q,iv r,iv s,iv x,iv y,iv z,iv A,uE B]) (by rfl) (fun w I=>ma I 4 mh md rfl rfl rfl br) (ifN F (fun n8 F=>?_) (fun n8 F=>?_))))
   · cases F
   refine zo bT (by kernel_rfl) (fun w I=>kz (b:=decide (m.p=q) && decide (m.n=r) && decide (m.k=s) && decide (m.d=x) && decide (m.kn=y) && decide (m.op=z) && decide (m.on=A) && decide (m.t=B)) rfl rfl (by kernel_rfl) (fun w=>eq25 _ m.p m.n m.k m.d m.kn m.op m.on m.t q r s x y z A B w) (fun _=>br) (uO n8)) (zB bT bT (by kernel_rfl) (zh (fun w I=>aa (aj ?_))))
   cases F
   exact uJ I rfl
  obtain ⟨j9,jA,jB,jC,jD,jE,jF,jG,jH,t7,gK⟩:=qD
  replace I:=I.pk [0,2,3,4,5,6,7,1] rfl
  refine dh I [0,1,2,3,4,5,6] (by decide) rfl (by kernel_rfl) (by kernel_rfl) fun hsub=>alp 1 (.slice (some ⟨b0,0,none⟩) 1 1) hsub rfl (by kernel_rfl) (fun _=>(by kernel_rfl)) (ap 2 (pt b0) hsub rfl (by kernel_rfl) (fun w I=>lj 0 0 zu100 zs83 rfl rfl (by decide) rfl br) (ap 3 (.agg #[iv e.1,iv e.2.1,iv e.2.2.1,iv e.2.2.2.1,iv e.2.2.2.2.1,uN cL e.2.2.2.2.2 e4]) hsub rfl (by kernel_rfl) (fun w I=>ma I 5 zi83 zs83 rfl rfl rfl br) (bc [0] (by kernel_rfl) rfl (cz fun w I=>dg rfl (ma I 7 mu ml rfl rfl rfl (⟨_,I,dc (fun _ h=>h.pk [0,1,2,3,4,5,6] rfl) ?_⟩))))))
  intro hsub
  refine bc [4] (by kernel_rfl) rfl (cz fun w I=>dg rfl (co 55 _ (by kernel_rfl) (L55 _ H (uG R) aE J (uG S) aF K (uG T) aG L M O P (uG U) aH Q G e.1 e.2.1 e.2.2.1 e.2.2.2.1 e.2.2.2.2.1 (uG cL) e4 e.2.2.2.2.2 (hG.up I) (I.rowCells 1 rfl aT) (am rfl aT.big) (am rfl aT.cap) (I.rowCells 2 rfl aU) (am rfl aU.big) (am rfl aU.cap) (I.rowCells 3 rfl aV) (am rfl aV.big) (am rfl aV.cap) (I.rowCells 4 rfl aW) (am rfl aW.big) (am rfl aW.cap) (I.rowCells 6 rfl cM) (am rfl cM.big) (am rfl cM.cap) N _ qE) ?_))
  intro v w
  refine xPP fun jI jJ t8 jK jL t9 jM jN tB jO jP tC jQ tD tF tG=>xaa fun hv=>xaa fun hN=>xaa fun qK=>xaa fun qL=>xaa fun qM=>xaa fun qN=>fun qO=>?_
  dsimp only at hv hN qK qL qM qN qO; subst hv
  have I:=I.join hN; clear hN
  refine ⟨_,I,dc (fun _ h=>h.pk [6,7,8,9,10,11,12] rfl) ?_⟩
  intro hsub
  refine alp 5 (.tuple #[.agg ([iv j9,uN jI jA jJ,uN jK jB jL,uN jM jC jN,iv jD,iv jE,iv jF,uN jO jG jP]++KN jH).toArray,.slice (some ⟨jQ,0,none⟩) 1 1,iv gK]) hsub rfl (by kernel_rfl) (fun _=>(by kernel_rfl)) (alp 6 (.agg ([iv j9,uN jI jA jJ,uN jK jB jL,uN jM jC jN,iv jD,iv jE,iv jF,uN jO jG jP]++KN jH).toArray) hsub rfl (by kernel_rfl) (fun _=>(by kernel_rfl)) (alp 7 (.slice (some ⟨jQ,0,none⟩) 1 1) hsub rfl (by kernel_rfl) (fun _=>(by kernel_rfl)) (alp 8 (iv gK) hsub rfl (by kernel_rfl) (fun _=>(by kernel_rfl)) (bc [9] (by kernel_rfl) rfl (cz fun w I=>dg rfl (mb I 13 ([iv j9,uN jI jA jJ,uN jK jB jL,uN jM jC jN,iv jD,iv jE,iv jF,uN jO jG jP]++KN jH) ml rfl rfl rfl rfl rfl rfl fun w I=>⟨_,I,dc (fun _ h=>h.pk [6,7,8,9,10,11,12] rfl) ?_⟩))))))
  intro hsub
  refine alp 10 (.slice (some ⟨jQ,0,none⟩) 1 1) hsub rfl (by kernel_rfl) (fun _=>(by kernel_rfl)) (alp 11 (iv gK) hsub rfl (by kernel_rfl) (fun _=>(by kernel_rfl)) (cp (by kernel_rfl) (fun w I=>ab (gm 22 I (by kernel_rfl) (zP (iv gK) (by kernel_rfl) (ifE F (fun qP F=>?_) (fun qP F=>?_)))))))
  · cases F
  cases F
 intro w I
 refine dg rfl (bh I ([iv 0,uD,uD,uD,iv 0,iv 0,iv 0,uD]++KN vz) zeroValue81 rfl fun tH w I=>⟨_,I,dc (fun _ h=>h.pk [1,2,3,4,5,6,7,8,9,10,11,12,13] rfl) ?_⟩)
 intro hsub
 refine bc [4] (by kernel_rfl) rfl (cz fun w I=>dg rfl (co 55 _ (by kernel_rfl) (L55 _ a1 (uG aA) aL a2 (uG aB) aM a3 (uG aC) aN a4 a5 a6 a7 (uG aD) aO a8 a9 f.1 f.2.1 f.2.2.1 f.2.2.2.1 f.2.2.2.2.1 (uG bX) cK f.2.2.2.2.2 (hG.up I) (I.rowCells 3 rfl aP) (am rfl aP.big) (am rfl aP.cap) (I.rowCells 4 rfl aQ) (am rfl aQ.big) (am rfl aQ.cap) (I.rowCells 5 rfl aR) (am rfl aR.big) (am rfl aR.cap) (I.rowCells 6 rfl aS) (am rfl aS.big) (am rfl aS.cap) (I.rowCells 13 rfl aX) (am rfl aX.big) (am rfl aX.cap) N _ n1) ?_))
 intro v w
 refine xPP fun jR jS tI jT jU tJ jV jW tK jX jY tL b1 cP e5 qQ=>xaa fun hv=>xaa fun hN=>xaa fun qR=>xaa fun qS=>xaa fun qT=>xaa fun qU=>fun cQ=>?_
 dsimp only at hv hN qR qS qT qU cQ; subst hv
 have I:=I.join hN; clear hN
 refine ⟨_,I,dc (fun _ h=>h.pk [7,8,9,10,11,12,13,14,15,16,17,18,19] rfl) ?_⟩
 intro hsub
 refine alp 5 (.tuple #[.agg ([iv dV,uN jR dW jS,uN jT dX jU,uN jV dY jW,iv dZ,iv e0,iv e1,uN jX e2 jY]++KN e3).toArray,.slice (some ⟨b1,0,none⟩) 1 1,iv bZ]) hsub rfl (by kernel_rfl) (fun _=>(by kernel_rfl)) (alp 6 (.agg ([iv dV,uN jR dW jS,uN jT dX jU,uN jV dY jW,iv dZ,iv e0,iv e1,uN jX e2 jY]++KN e3).toArray) hsub rfl (by kernel_rfl) (fun _=>(by kernel_rfl)) (alp 7 (.slice (some ⟨b1,0,none⟩) 1 1) hsub rfl (by kernel_rfl) (fun _=>(by kernel_rfl)) (alp 8 (iv bZ) hsub rfl (by kernel_rfl) (fun _=>(by kernel_rfl)) (bc [10] (by kernel_rfl) rfl (cz fun w I=>dg rfl (mb I 6 ([iv dV,uN jR dW jS,uN jT dX jU,uN jV dY jW,iv dZ,iv e0,iv e1,uN jX e2 jY]++KN e3) ml rfl rfl rfl rfl rfl rfl fun w I=>⟨_,I,dc (fun _ h=>h.pk [7,8,9,10,11,12,13,14,15,16,17,18,19] rfl) ?_⟩))))))
 intro hsub
 refine alp 11 (.slice (some ⟨b1,0,none⟩) 1 1) hsub rfl (by kernel_rfl) (fun _=>(by kernel_rfl)) (alp 12 (iv bZ) hsub rfl (by kernel_rfl) (fun _=>(by kernel_rfl)) (cp (by kernel_rfl) (fun w I=>dn (fun ρ w=>cd ρ [(1,pt V),(25,pt aI),(30,.slice (some ⟨b1,0,none⟩) 1 1)]∧Inv [] w0 w [(some V,blk [iv q,iv r,iv s,iv x,iv y,iv z,iv A,uE B] 25),(some aI,blk ([iv H,uN R J aE,uN S K aF,uN T L aG,iv M,iv O,iv P,uN U Q aH]++KN G) 81),(R,blk i3 35),(S,blk i4 35),(T,blk i5 35),(U,blk i6 25),(some b1,blk [iv e.1,iv e.2.1,iv e.2.2.1,iv e.2.2.2.1,iv e.2.2.2.2.1,uN cP e.2.2.2.2.2 e5] 83),(cP,blk qQ 25)]∧F19j8 N q r s x y z A B H J K L M O P Q G e=some true) ?_ ?_)))
 ·
  refine uL (by rfl) (pu (iv bZ) (by rfl) (ifN F (fun n9 F=>?_) (fun n9 F=>?_)))
  · cases F
  refine xn rfl (uO n9) (fun _=>pu bF (by kernel_rfl) (pup (.slice (some ⟨b1,0,none⟩) 1 1) (by kernel_rfl) (pup (iv ((1:Nat):Int)) (by kernel_rfl) (aw (by kernel_rfl) (de rfl rfl (fun h=>absurd (by decide) h) (fun _=>pu2 bF bF (by kernel_rfl) (pup (.slice (some ⟨b1,0,none⟩) 1 1) (by kernel_rfl) (aw (by kernel_rfl) (lj 0 0 zu100 zs83 rfl rfl (by decide) rfl (pup (uF b1 5) (by kernel_rfl) (aw (by kernel_rfl) (ag I 4 (uN cP e.2.2.2.2.2 e5) mv rfl rfl rfl (pup (iv ((e.2.2.2.2.2.length:Nat):Int)) (by kernel_rfl) (ifN F (fun nA F=>?_) (fun nA F=>?_)))))))))))))))
  · cases F
  refine aw (by rfl) (de rfl rfl (uO nA) (fun _=>pu bF (by rfl) (aa (ai rfl (ak (.inl ⟨rfl,⟨⟨rfl,rfl,rfl,trivial⟩,I.pk [7,13,14,15,16,17,4,5] rfl,F⟩⟩))))))
 intro ρ w hJ
 obtain ⟨hag,I,F⟩:=hJ
 obtain ⟨ρ,rfl⟩:=hag.form
 unfold F19j8 at F
 refine ab (bindSE F (fun qV qW F=>?_) (fun qX qY F=>?_))
 ·
  obtain ⟨jZ,k0,k1,k2,k3,k4,k5,bP,k6,gL⟩:=qV
  replace I:=I.pk [0,2,3,4,5,6,7,1] rfl
  refine dh I [0,1,2,3,4,5,6] (by decide) rfl (by kernel_rfl) (by kernel_rfl) fun hsub=>alp 1 (.slice (some ⟨b1,0,none⟩) 1 1) hsub rfl (by kernel_rfl) (fun _=>(by kernel_rfl)) (ap 2 (pt b1) hsub rfl (by kernel_rfl) (fun w I=>lj 0 0 zu100 zs83 rfl rfl (by decide) rfl br) (ap 3 (.agg #[iv e.1,iv e.2.1,iv e.2.2.1,iv e.2.2.2.1,iv e.2.2.2.2.1,uN cP e.2.2.2.2.2 e5]) hsub rfl (by kernel_rfl) (fun w I=>ma I 5 zi83 zs83 rfl rfl rfl br) (bc [0] (by kernel_rfl) rfl (cz fun w I=>dg rfl (ma I 7 mu ml rfl rfl rfl (⟨_,I,dc (fun _ h=>h.pk [0,1,2,3,4,5,6] rfl) ?_⟩))))))
  intro hsub
  refine bc [4] (by kernel_rfl) rfl (cz fun w I=>dg rfl (co 55 _ (by kernel_rfl) (L55 _ H (uG R) aE J (uG S) aF K (uG T) aG L M O P (uG U) aH Q G e.1 e.2.1 e.2.2.1 e.2.2.2.1 e.2.2.2.2.1 (uG cP) e5 e.2.2.2.2.2 (hG.up I) (I.rowCells 1 rfl aT) (am rfl aT.big) (am rfl aT.cap) (I.rowCells 2 rfl aU) (am rfl aU.big) (am rfl aU.cap) (I.rowCells 3 rfl aV) (am rfl aV.big) (am rfl aV.cap) (I.rowCells 4 rfl aW) (am rfl aW.big) (am rfl aW.cap) (I.rowCells 6 rfl cQ) (am rfl cQ.big) (am rfl cQ.cap) N _ qW) ?_))
  intro v w
  refine xHH fun k7 k8 tM k9 kA tN kB kC=>xFF fun tO cR cS tP=>xaa fun hv=>xaa fun hN=>xaa fun qZ=>xaa fun r4=>xaa fun r5=>fun nB=>?_
  dsimp only at hv hN qZ r4 r5 nB; subst hv
  have I:=I.join hN; clear hN
  refine ⟨_,I,dc (fun _ h=>h.pk [4,5,6,7,8,9,10] rfl) ?_⟩
  intro hsub
  refine alp 5 (.tuple #[.agg ([iv jZ,uN k7 k0 k8,uN k9 k1 kA,uN kB k2 kC,iv k3,iv k4,iv k5,uN cR bP cS]++KN k6).toArray,uD,iv gL]) hsub rfl (by kernel_rfl) (fun _=>(by kernel_rfl)) (alp 6 (.agg ([iv jZ,uN k7 k0 k8,uN k9 k1 kA,uN kB k2 kC,iv k3,iv k4,iv k5,uN cR bP cS]++KN k6).toArray) hsub rfl (by kernel_rfl) (fun _=>(by kernel_rfl)) (alp 7 uD hsub rfl (by kernel_rfl) (fun _=>(by kernel_rfl)) (alp 8 (iv gL) hsub rfl (by kernel_rfl) (fun _=>(by kernel_rfl)) (bc [9] (by kernel_rfl) rfl (cz fun w I=>dg rfl (mb I 11 ([iv jZ,uN k7 k0 k8,uN k9 k1 kA,uN kB k2 kC,iv k3,iv k4,iv k5,uN cR bP cS]++KN k6) ml rfl rfl rfl rfl rfl rfl fun w I=>⟨_,I,dc (fun _ h=>h.pk [4,5,6,7,8,9,10] rfl) ?_⟩))))))
  intro hsub
  refine alp 10 uD hsub rfl (by kernel_rfl) (fun _=>(by kernel_rfl)) (alp 11 (iv gL) hsub rfl (by kernel_rfl) (fun _=>(by kernel_rfl)) (cp (by kernel_rfl) (fun w I=>ab (gm 22 I (by kernel_rfl) (zP (iv gL) (by kernel_rfl) (ifN F (fun nC F=>?_) (fun nC F=>?_)))))))
  · cases F
  refine zc bT (fun w I=>di rfl rfl (fun _=>br) (uO nC)) (zP bT (by kernel_rfl) (zQ uD (by kernel_rfl) (by kernel_rfl) (zo (iv 0) (by kernel_rfl) (fun w I=>kl (iv ((0:Nat):Int)) (by kernel_rfl) br) (zo bT (by kernel_rfl) (fun w I=>di rfl rfl (fun _=>br) (fun h=>absurd (by decide) h)) (zB bT bT (by kernel_rfl) (zQ (uF aI 7) (by kernel_rfl) (by kernel_rfl) (zo (uN cR bP cS) (by kernel_rfl) (fun w I=>ag I 11 (uN cR bP cS) mv rfl rfl rfl br) (zo (iv (bP.length:Int)) (by kernel_rfl) (fun w I=>kl (iv ((bP.length:Nat):Int)) (by kernel_rfl) br) (ifN F (fun nD F=>?_) (fun nD F=>?_))))))))))
  · cases F
  refine zo bT (by rfl) (fun w I=>di rfl rfl (fun _=>br) (uO nD)) (zB bT bT (by rfl) (zQ (uF aI 7) (by rfl) (by rfl) (zo (uN cR bP cS) (by rfl) (fun w I=>ag I 11 (uN cR bP cS) mv rfl rfl rfl br) (bt F (fun o nE F=>?_)))))
  obtain ⟨r6,rfl,r7⟩:=nB.at_ bx (by decide) nE
  refine zo (uF r6 (0 * 8)) (by rfl) (fun w I=>be 0 nt md rfl rfl rfl (fa nE rfl) br) (zo (.agg (qg o).toArray) (by rfl) (fun w I=>cq I 3 (qg o) mh md rfl rfl rfl r7 br) (zo (.agg #[iv q,iv r,iv s,iv x,iv y,iv z,iv A,uE B]) (by rfl) (fun w I=>ma I 4 mh md rfl rfl rfl br) (ifN F (fun nF F=>?_) (fun nF F=>?_))))
  · cases F
  refine zo bT (by kernel_rfl) (fun w I=>kz (b:=decide (o.p=q) && decide (o.n=r) && decide (o.k=s) && decide (o.d=x) && decide (o.kn=y) && decide (o.op=z) && decide (o.on=A) && decide (o.t=B)) rfl rfl (by kernel_rfl) (fun w=>eq25 _ o.p o.n o.k o.d o.kn o.op o.on o.t q r s x y z A B w) (fun _=>br) (uO nF)) (zB bT bT (by kernel_rfl) (zh (fun w I=>aa (aj ?_))))
  cases F
  exact uJ I rfl
 obtain ⟨kD,kE,kF,kG,kH,kI,kJ,kK,kL,tQ,gM⟩:=qX
 replace I:=I.pk [0,2,3,4,5,6,7,1] rfl
 refine dh I [0,1,2,3,4,5,6] (by decide) rfl (by kernel_rfl) (by kernel_rfl) fun hsub=>alp 1 (.slice (some ⟨b1,0,none⟩) 1 1) hsub rfl (by kernel_rfl) (fun _=>(by kernel_rfl)) (ap 2 (pt b1) hsub rfl (by kernel_rfl) (fun w I=>lj 0 0 zu100 zs83 rfl rfl (by decide) rfl br) (ap 3 (.agg #[iv e.1,iv e.2.1,iv e.2.2.1,iv e.2.2.2.1,iv e.2.2.2.2.1,uN cP e.2.2.2.2.2 e5]) hsub rfl (by kernel_rfl) (fun w I=>ma I 5 zi83 zs83 rfl rfl rfl br) (bc [0] (by kernel_rfl) rfl (cz fun w I=>dg rfl (ma I 7 mu ml rfl rfl rfl (⟨_,I,dc (fun _ h=>h.pk [0,1,2,3,4,5,6] rfl) ?_⟩))))))
 intro hsub
 refine bc [4] (by kernel_rfl) rfl (cz fun w I=>dg rfl (co 55 _ (by kernel_rfl) (L55 _ H (uG R) aE J (uG S) aF K (uG T) aG L M O P (uG U) aH Q G e.1 e.2.1 e.2.2.1 e.2.2.2.1 e.2.2.2.2.1 (uG cP) e5 e.2.2.2.2.2 (hG.up I) (I.rowCells 1 rfl aT) (am rfl aT.big) (am rfl aT.cap) (I.rowCells 2 rfl aU) (am rfl aU.big) (am rfl aU.cap) (I.rowCells 3 rfl aV) (am rfl aV.big) (am rfl aV.cap) (I.rowCells 4 rfl aW) (am rfl aW.big) (am rfl aW.cap) (I.rowCells 6 rfl cQ) (am rfl cQ.big) (am rfl cQ.cap) N _ qY) ?_))
 intro v w
 refine xPP fun kM kN tR kO kP tT kQ kR tU kS kT tV kU tW tX tY=>xaa fun hv=>xaa fun hN=>xaa fun r8=>xaa fun r9=>xaa fun rA=>xaa fun rB=>fun rC=>?_
 dsimp only at hv hN r8 r9 rA rB rC; subst hv
 have I:=I.join hN; clear hN
 refine ⟨_,I,dc (fun _ h=>h.pk [6,7,8,9,10,11,12] rfl) ?_⟩
 intro hsub
 refine alp 5 (.tuple #[.agg ([iv kD,uN kM kE kN,uN kO kF kP,uN kQ kG kR,iv kH,iv kI,iv kJ,uN kS kK kT]++KN kL).toArray,.slice (some ⟨kU,0,none⟩) 1 1,iv gM]) hsub rfl (by kernel_rfl) (fun _=>(by kernel_rfl)) (alp 6 (.agg ([iv kD,uN kM kE kN,uN kO kF kP,uN kQ kG kR,iv kH,iv kI,iv kJ,uN kS kK kT]++KN kL).toArray) hsub rfl (by kernel_rfl) (fun _=>(by kernel_rfl)) (alp 7 (.slice (some ⟨kU,0,none⟩) 1 1) hsub rfl (by kernel_rfl) (fun _=>(by kernel_rfl)) (alp 8 (iv gM) hsub rfl (by kernel_rfl) (fun _=>(by kernel_rfl)) (bc [9] (by kernel_rfl) rfl (cz fun w I=>dg rfl (mb I 13 ([iv kD,uN kM kE kN,uN kO kF kP,uN kQ kG kR,iv kH,iv kI,iv kJ,uN kS kK kT]++KN kL) ml rfl rfl rfl rfl rfl rfl fun w I=>⟨_,I,dc (fun _ h=>h.pk [6,7,8,9,10,11,12] rfl) ?_⟩))))))
 intro hsub
 refine alp 10 (.slice (some ⟨kU,0,none⟩) 1 1) hsub rfl (by kernel_rfl) (fun _=>(by kernel_rfl)) (alp 11 (iv gM) hsub rfl (by kernel_rfl) (fun _=>(by kernel_rfl)) (cp (by kernel_rfl) (fun w I=>ab (gm 22 I (by kernel_rfl) (zP (iv gM) (by kernel_rfl) (ifE F (fun rD F=>?_) (fun rD F=>?_)))))))
 · cases F
 cases F
theorem L164 (w0:World) (a:Int) (b:Int) (r:Int) (F:F164 a b=some r):bn Tryz.prog 164 [.int .u8 a,.int .u8 b] w0 fun v w=>v=.int .u8 r∧Below w0.heap.size w0 w:=by
 refine az (n:=15) func164 rfl ntmps164 rfl ?_
 have I:=Inv.start w0
 unfold F164 at F
 refine uL rfl (pu (.int .u8 0) rfl (aa (uL rfl (pu (.int .u8 a) rfl (ckE F (fun h7 F=>ph (s_conv8 zu3 zu5 rfl h7 (ckE F (fun h8 F=>ph (s_sub rfl rfl h8 (pu (.int .u8 b) rfl (ckE F (fun h9 F=>ph (s_conv8 zu3 zu5 rfl h9 (ckE F (fun d F=>xa rfl d (ckE F (fun e F=>ph (s_sub rfl rfl e (ph (s_rem rfl rfl (by decide) (ckE F (fun f F=>xa rfl f (ph (s_convTo8 zu5 zu3 rfl (pu (.int .u8 (w8 (32+((((a - 32)+b) - 32).tmod 95)))) rfl (aa (aj ?_))))))))))))))))))))))))))))
 cases F
 exact uJ I rfl


theorem L148 (w0:World) (e:Str) (f:Int) (N:Nat) (r:Str) (F:F148 N e f=some r):bn Tryz.prog 148 [uE e,iv f] w0 fun v w=>v=uE r∧Below w0.heap.size w0 w:=by
 refine az (n:=48) func148 rfl ntmps148 rfl ?_
 have I:=Inv.start w0
 unfold F148 at F
 refine uL rfl (pu (uE []) rfl (aa (uL rfl (ph (fu I [] 5 (fun b=>slv (some b) 0 0) (by kernel_rfl) fun C w I=>pu (.slice (some ⟨C,0,none⟩) 0 0) (by kernel_rfl) (aa (ab (uL rfl (pu (iv 0) rfl (aa (au ?_)))))))))))
 have Y:Row 1 (some C) 0 0 [] (al eB ([]:List Int)):=Row.lit ew (l:=([]:List Int)) rfl (mx rfl)
 refine cb (fun m ρ w=>∃ (o p x:_) (a:List Int) (d mm:_),cd ρ [(0,uE e),(1,iv f),(5,uN o a p),(6,iv d)]∧Inv [] w0 w [(o,blk x 5)]∧(Row 1 o (a.length) p x (al eB a))∧F148l1 e f mm a d=some r∧mm=m) (m:=N) ⟨some C,0,[],([]:List Int),0,N,(uK rfl),I.pk [0] rfl,(Y.to rfl rfl),F,rfl⟩ ?_
 rintro m ρ w ⟨o,p,x,a,d,mm,hag,I,y,F,hm⟩
 subst hm; obtain ⟨ρ,rfl⟩:=hag.form
 obtain _ | m1:=mm
 ·cases (show (none:Option Str)=some r from F)
 replace F:F148b1 e f (F148l1 e f m1) a d=some r:=F; unfold F148b1 at F
 refine ab (uL rfl (pu3 (iv d) (uE e) (iv (e.length:Int)) (by kernel_rfl) (ifN F (fun D F=>?_) (fun D F=>?_))))
 ·
  refine xl rfl (uP D) (fun _=>aa (ai rfl (bw (uL rfl (pu (uN o a p) rfl (ph (fx (l:=a) mg zu5 zu9 rfl rfl (I.rowCells 0 rfl y) (pu (uE (bl a)) rfl (aa (aj ?_))))))))))
  cases F
  exact uJ I rfl


 refine xl rfl (fun _=>?_) (uO D)
 refine aa (ah rfl (ak (dn (fun ρ w=>∃ (t A B:_) (s:List Int),cd ρ [(0,uE e),(1,iv f),(5,uN t s A),(6,iv d)]∧Inv [] w0 w [(t,blk B 5)]∧(Row 1 t (s.length) A B (al eB s))∧F148j2 (F148l1 e f m1) d s=some r) ?_ ?_)))
 ·
  refine au (uL rfl (pu2 (uE e) (iv d) rfl (gdE F (fun Z F=>bt F (fun g a0 F=>ph (fb (d).toNat zu9 rfl rfl (Int.toNat_of_nonneg Z).symm a0 (pu (.int .u8 (nb g)) rfl (aa (uL rfl (pu (.int .u8 32) rfl (aa (dn (fun ρ w=>∃ i,cd ρ [(0,uE e),(1,iv f),(5,uN o a p),(6,iv d),(7,.int .u8 (nb g)),(8,.int .u8 i)]∧Inv [] w0 w [(o,blk x 5)]∧F148j3 f (F148l1 e f m1) a d g i=some r) ?_ ?_))))))))))))
  ·
   refine uL rfl (pu (iv d) rfl (ckE F (fun T F=>xa rfl T (pu2 (uE e) (iv (e.length:Int)) (by kernel_rfl) (ifN F (fun E F=>?_) (fun E F=>?_))))))
   ·
    refine xl rfl (uP E) (fun _=>aa (ai rfl (ak (.inl ⟨rfl,⟨32,(uK rfl),I.pk [0] rfl,F⟩⟩))))
   refine xl rfl (fun _=>?_) (uO E)
   refine aa (ah rfl (rgn rfl (pu2 (uE e) (iv d) rfl (xa rfl T (gdE F (fun a1 F=>bt F (fun U a2 F=>ph (fb ((d+1).toNat) zu9 rfl rfl (Int.toNat_of_nonneg a1).symm a2 (pu (.int .u8 (nb U)) rfl (aa (.inl ⟨rfl,⟨nb U,(uK rfl),I.pk [0] rfl,F⟩⟩)))))))))))
  intro ρ w hJ
  obtain ⟨i,hag,I,F⟩:=hJ
  obtain ⟨ρ,rfl⟩:=hag.form
  unfold F148j3 at F
  refine uL rfl (pu (iv f) rfl (ifE F (fun G F=>?_) (fun G F=>?_)))
  ·
   refine xe rfl (fun _=>?_) (uO G)
   refine aa (ah rfl (rgn rfl (pu2 (uN o a p) (.int .u8 (nb g)) rfl (ph (fu I [.int .u8 (nb g)] 5 (fun b=>slv (some b) 1 1) (by kernel_rfl) fun a6 w I=>gdE F (fun a7 F=>ph (xk I xb 1 y (nb g) 0 rfl (by omega) ?_)))))))
   intro H J V w I K
   refine pu (slv H ((a++[nb g]).length) J) rfl (aa (.inl ⟨rfl,⟨H,J,V,a++[nb g],(uK rfl),I.pk [1] rfl,(K.to rfl rfl),F⟩⟩))
  refine xe rfl (uP G) (fun _=>aa (ai rfl (uL rfl (pu (iv f) rfl (ifE F (fun L F=>?_) (fun L F=>?_))))))
  ·
   refine xe rfl (fun _=>?_) (uO L)
   refine aa (ah rfl (rgn rfl (pu2 (uN o a p) (.int .u8 i) rfl (ph (fu I [.int .u8 i] 5 (fun b=>slv (some b) 1 1) (by kernel_rfl) fun a8 w I=>gdE F (fun a9 F=>ph (xk I xb 1 y i 0 rfl (by omega) ?_)))))))
   intro M O W w I P
   refine pu (slv M ((a++[i]).length) O) rfl (aa (.inl ⟨rfl,⟨M,O,W,a++[i],(uK rfl),I.pk [1] rfl,(P.to rfl rfl),F⟩⟩))
  refine xe rfl (uP L) (fun _=>aa (ai rfl (rgn (by kernel_rfl) (pu3 (uN o a p) (.int .u8 (nb g)) (.int .u8 i) (by kernel_rfl) (bt F (fun q a3 F=>ph (bg I 164 _ _ (by kernel_rfl) (L164 _ (nb g) i _ a3) fun w I=>ph (fu I [.int .u8 q] 5 (fun b=>slv (some b) 1 1) (by kernel_rfl) fun aA w I=>gdE F (fun aB F=>ph (xk I xb 1 y q 0 rfl (by omega) ?_))))))))))
  intro Q R X w I S
  refine pu (slv Q ((a++[q]).length) R) rfl (aa (.inl ⟨rfl,⟨Q,R,X,a++[q],(uK rfl),I.pk [1] rfl,(S.to rfl rfl),F⟩⟩))
 intro ρ w hJ
 obtain ⟨t,A,B,s,hag,I,a4,F⟩:=hJ
 obtain ⟨ρ,rfl⟩:=hag.form
 unfold F148j2 at F
 refine rgn rfl (pu (iv d) rfl (ckE F (fun a5 F=>xa rfl a5 (pu (iv (d+2)) rfl (aa (⟨rfl,m1,Nat.lt_succ_self _,⟨t,A,B,s,d+2,m1,(uK rfl),I.pk [0] rfl,(a4.to rfl rfl),F,rfl⟩⟩))))))
theorem L89 (w0:World) (g:Rc) (e:Int) (N:Nat) (r:List Sp3) (F:F89 N g e=some r):bn Tryz.prog 89 [.agg (qg g).toArray,iv e] w0 fun v w=>∃ z0 z1 z2,v=uN z0 r z1∧Inv [] w0 w [(z0,blk z2 35)]∧Row 3 z0 r.length z1 z2 (al bb r):=by
 refine az (n:=25) func89 rfl ntmps89 rfl ?_
 have I:=Inv.start w0
 unfold F89 at F
 refine uL (by kernel_rfl) (ph (ca I _ rfl fun J w I=>pu uD (by kernel_rfl) (aa (uL (by kernel_rfl) (xm I 0 mh md rfl (bt F (fun a E F=>ph (bg I 70 _ _ (by kernel_rfl) (L70 _ g N _ E) fun w I=>pu (uE a) (by kernel_rfl) (aa (uL (by kernel_rfl) (pu uD (by kernel_rfl) (aa (ab (uL (by kernel_rfl) (pu (iv 0) (by kernel_rfl) (aa (au ?_)))))))))))))))))
 have I:=I.nilRow 35
 refine cb (fun m ρ w=>∃ (l q s:_) (f:List Sp3) (i mm:_),cd ρ [(1,iv e),(5,uE a),(6,uN l f q),(7,iv i)]∧Inv [] w0 w [(l,blk s 35)]∧(Row 3 l (f.length) q s (al bb f))∧F89l1 e N a mm f i=some r∧mm=m) (m:=N) ⟨none,0,[],[],0,N,(uK rfl),I.pk [0] rfl,(Row.nil_ 3),F,rfl⟩ ?_
 rintro m ρ w ⟨l,q,s,f,i,mm,hag,I,C,F,hm⟩
 subst hm; obtain ⟨ρ,rfl⟩:=hag.form
 obtain _ | m1:=mm
 ·cases (show (none:Option (List Sp3))=some r from F)
 replace F:F89b1 e N a (F89l1 e N a m1) f i=some r:=F; unfold F89b1 at F
 refine ab (uL (by rfl) (pu (iv i) (by rfl) (ifN F (fun x F=>?_) (fun x F=>?_))))
 ·
  refine xl rfl (uP x) (fun _=>aa (ai rfl (bw (uL (by rfl) (pu2 (uN l f q) (uN l f q) (by rfl) (aa (aj ?_)))))))
  cases F
  exact ⟨_,Ret.r1 rfl rfl,⟨l,q,s,rfl,I.pk [0] rfl,C.to rfl rfl⟩⟩


 refine xl rfl (fun _=>?_) (uO x)
 refine aa (ah rfl (ak (ab (au (rgn (by kernel_rfl) (pu3 (uN l f q) (iv e) (uE a) (by kernel_rfl) (pu3 (iv (a.length:Int)) (uE a) (iv i) (by kernel_rfl) (bt F (fun o G F=>ph (bg I 148 _ _ (by kernel_rfl) (L148 _ a i N _ G) fun w I=>pu (.agg #[iv e,iv (a.length:Int),uE o]) (by kernel_rfl) (ph (fu I [iv e,iv (a.length:Int),uE o] 35 (fun b=>slv (some b) 1 1) (by kernel_rfl) fun K w I=>gdE F (fun L F=>ph (xk I xd 1 C (⟨e,(a.length:Int),o⟩:Sp3) 0 rfl (by omega) ?_))))))))))))))
 intro y A D w I B
 refine pu (slv y ((f++[(⟨e,(a.length:Int),o⟩:Sp3)]).length) A) (by rfl) (aa (rgn (by rfl) (pu (iv i) (by rfl) (ckE F (fun H F=>xa rfl H (pu (iv (i+1)) (by rfl) (aa (⟨rfl,m1,Nat.lt_succ_self _,⟨y,A,D,f++[(⟨e,(a.length:Int),o⟩:Sp3)],i+1,m1,(uK rfl),I.pk [1] rfl,(B.to rfl rfl),F,rfl⟩⟩))))))))
theorem L94 (w0:World) (d:Int) (a:Sp3) (N:Nat) (r:Bool) (F:F94 N d a=some r):bn Tryz.prog 94 [iv d,.agg (qh a).toArray] w0 fun v w=>v=.bool r∧Below w0.heap.size w0 w:=by
 refine az (n:=49) func94 rfl ntmps94 rfl ?_
 have I:=Inv.start w0
 unfold F94 at F
 refine uL (by rfl) (ph (ca I _ rfl fun b w I=>pu bF (by rfl) (aa (ab (uL (by rfl) (pu (pt b) (by rfl) (xg I 0 (iv a.no) zi3 rfl (bt F (fun y m F=>ifN F (fun e F=>?_) (fun e F=>?_))))))))))
 ·
  refine ph (bg I 82 _ _ (by kernel_rfl) (bn.mono (L82 _ a.no 0 59 _ m) (uH (Bool.eq_false_iff.2 e))) fun w I=>pu2 bT bT (by kernel_rfl) (sf 4 (by kernel_rfl) (pu2 bT bT (by kernel_rfl) (sf 8 (by kernel_rfl) (pu2 bT bT (by kernel_rfl) (sf 4 (by kernel_rfl) (pu bT (by kernel_rfl) (aa (ah rfl (uL (by kernel_rfl) (pu bF (by kernel_rfl) (aa (aj ?_)))))))))))))
  cases F
  exact uJ I rfl


 refine ph (bg I 82 _ _ (by kernel_rfl) (bn.mono (L82 _ a.no 0 59 _ m) (uH e)) fun w I=>pu2 bF bF (by kernel_rfl) (pup (uF b 1) (by kernel_rfl) (aw (by kernel_rfl) (ag I 0 (iv a.sz) zi3 rfl rfl rfl (bt F (fun z o F=>ifN F (fun f F=>?_) (fun f F=>?_)))))))
 ·
  refine aw (by kernel_rfl) (bg I 82 _ _ (by kernel_rfl) (bn.mono (L82 _ a.sz 14 240 _ o) (uH (Bool.eq_false_iff.2 f))) fun w I=>pup bT (by kernel_rfl) (pu2 bT bT (by kernel_rfl) (sf 8 (by kernel_rfl) (pu2 bT bT (by kernel_rfl) (sf 4 (by kernel_rfl) (pu bT (by kernel_rfl) (aa (ah rfl (uL (by kernel_rfl) (pu bF (by kernel_rfl) (aa (aj ?_))))))))))))
  cases F
  exact uJ I rfl
 refine aw (by kernel_rfl) (bg I 82 _ _ (by kernel_rfl) (bn.mono (L82 _ a.sz 14 240 _ o) (uH f)) fun w I=>pup bF (by kernel_rfl) (pu2 bF bF (by kernel_rfl) (pup (uF b 2) (by kernel_rfl) (aw (by kernel_rfl) (ag I 0 (uE a.t) zi9 rfl rfl rfl (pup (iv (a.t.length:Int)) (by kernel_rfl) (pup (uF b 1) (by kernel_rfl) (aw (by kernel_rfl) (ag I 0 (iv a.sz) zi3 rfl rfl rfl (ckE F (fun p F=>aw (by kernel_rfl) (cj rfl rfl p (aw (by kernel_rfl) (s_quo rfl rfl (by decide) p (ifN F (fun g F=>?_) (fun g F=>?_))))))))))))))))
 ·
  refine aw (by rfl) (de rfl rfl (fun _=>?_) (uP g))
  refine pu2 bT bT (by rfl) (sf 4 (by rfl) (pu bT (by rfl) (aa (ah rfl (uL (by rfl) (pu bF (by rfl) (aa (aj ?_))))))))
  cases F
  exact uJ I rfl
 refine aw (by rfl) (de rfl rfl (uO g) (fun _=>pu2 bF bF (by rfl) (pup (uF b 2) (by rfl) (aw (by rfl) (ag I 0 (uE a.t) zi9 rfl rfl rfl (bt F (fun A q F=>ifN F (fun i F=>?_) (fun i F=>?_))))))))
 ·
  refine aw (by kernel_rfl) (bg I 84 _ _ (by kernel_rfl) (bn.mono (L84 _ a.t N _ q) (uH (Bool.eq_false_iff.2 i))) fun w I=>pup bT (by kernel_rfl) (pu bT (by kernel_rfl) (aa (ah rfl (uL (by kernel_rfl) (pu bF (by kernel_rfl) (aa (aj ?_))))))))
  cases F
  exact uJ I rfl
 refine aw (by kernel_rfl) (bg I 84 _ _ (by kernel_rfl) (bn.mono (L84 _ a.t N _ q) (uH i)) fun w I=>pup bF (by kernel_rfl) (pu bF (by kernel_rfl) (aa (ai rfl (ak (uL (by kernel_rfl) (pu (iv d) (by kernel_rfl) (ifN F (fun j F=>?_) (fun j F=>?_)))))))))
 ·
  refine xn rfl (fun _=>?_) (uP j)
  refine pu bT (by rfl) (sf 4 (by rfl) (pu2 bT bT (by rfl) (sf 8 (by rfl) (pu2 bT bT (by rfl) (aa (aj ?_))))))
  cases F
  exact uJ I rfl
 refine xn rfl (uO j) (fun _=>pu bF (by rfl) (pup (uF b 1) (by rfl) (aw (by rfl) (ag I 0 (iv a.sz) zi3 rfl rfl rfl (aw (by rfl) (s_rem rfl rfl (by decide) (ifE F (fun k F=>?_) (fun k F=>?_))))))))
 ·
  refine aw (by rfl) (di rfl rfl (fun _=>?_) (uO k))
  refine pu2 bT bT (by rfl) (sf 8 (by rfl) (pu2 bT bT (by rfl) (aa (aj ?_))))
  cases F
  exact uJ I rfl
 refine aw (by rfl) (di rfl rfl (uP k) (fun _=>pu2 bF bF (by rfl) (pup (uF b 2) (by rfl) (aw (by rfl) (ag I 0 (uE a.t) zi9 rfl rfl rfl (pup (uF b 2) (by rfl) (aw (by rfl) (ag I 0 (uE a.t) zi9 rfl rfl rfl (pup (iv (a.t.length:Int)) (by kernel_rfl) (ckE F (fun s F=>aw (by rfl) (s_sub rfl rfl s (gdE F (fun u F=>bt F (fun B x F=>aw (by rfl) (fb (((a.t.length:Int) - 1).toNat) zu9 rfl rfl (Int.toNat_of_nonneg u).symm x (ifE F (fun l F=>?_) (fun l F=>?_))))))))))))))))))
 ·
  refine aw (by rfl) (s_eql8 rfl rfl (fun _=>?_) (uO l))
  refine pu2 bT bT (by rfl) (aa (aj ?_))
  cases F
  exact uJ I rfl
 refine aw (by rfl) (s_eql8 rfl rfl (uP l) (fun _=>pu2 bF bF (by rfl) (aa (aj ?_))))
 cases F
 exact uJ I rfl
theorem L150 (w0:World) (a:Int) (b:Int) (r:Int) (F:F150 a b=some r):bn Tryz.prog 150 [.int .u8 a,.int .u8 b] w0 fun v w=>v=.int .u8 r∧Below w0.heap.size w0 w:=by
 refine az (n:=14) func150 rfl ntmps150 rfl ?_
 have I:=Inv.start w0
 unfold F150 at F
 refine uL rfl (pu (.int .u8 0) rfl (aa (uL rfl (pu (.int .u8 a) rfl (ckE F (fun h6 F=>ph (s_conv8 zu3 zu5 rfl h6 (pu (.int .u8 b) rfl (ckE F (fun h7 F=>ph (s_conv8 zu3 zu5 rfl h7 (ckE F (fun h8 F=>ph (s_sub rfl rfl h8 (ckE F (fun h9 F=>xa rfl h9 (ph (s_rem rfl rfl (by decide) (ckE F (fun d F=>xa rfl d (ph (s_convTo8 zu5 zu3 rfl (pu (.int .u8 (w8 (32+(((a - b)+95).tmod 95)))) rfl (aa (aj ?_)))))))))))))))))))))))))
 cases F
 exact uJ I rfl


theorem L95 (w0:World) (g:Int) (i:Int) (a:Sp3) (f:Sp3) (N:Nat) (r:Str) (F:F95 N g i a f=some r):bn Tryz.prog 95 [.agg #[iv g,iv i],.agg (qh a).toArray,.agg (qh f).toArray] w0 fun v w=>v=uE r∧Below w0.heap.size w0 w:=by
 refine az (n:=59) func95 rfl ntmps95 rfl ?_
 have I:=Inv.start w0
 unfold F95 at F
 refine uL rfl (ph (ca I _ rfl fun E w I=>ph (ca I _ rfl fun p w I=>ph (ca I _ rfl fun B w I=>pu (uE []) rfl (aa (uL rfl (ph (fu I [] 5 (fun b=>slv (some b) 0 0) (by kernel_rfl) fun P w I=>pu (.slice (some ⟨P,0,none⟩) 0 0) (by kernel_rfl) (aa (dn (fun ρ w=>∃ (H J L:_) (y:List Int),cd ρ [(4,pt p),(7,uN H y J)]∧Inv [] w0 w [(some p,blk (qh a) 35),(H,blk L 5)]∧(Row 1 H (y.length) J L (al eB y))∧F95j1 a y=some r) ?_ ?_))))))))))
 ·
  refine uL rfl (pu (iv 0) rfl (aa (au ?_)))
  have a3:Row 1 (some P) 0 0 [] (al eB ([]:List Int)):=Row.lit ew (l:=([]:List Int)) rfl (mx rfl)
  refine cb (fun m ρ w=>∃ (A D G:_) (o:List Int) (e mm:_),cd ρ [(3,pt E),(4,pt p),(5,pt B),(7,uN A o D),(8,iv e)]∧Inv [] w0 w [(some E,blk [iv g,iv i] 130),(some p,blk (qh a) 35),(some B,blk (qh f) 35),(A,blk G 5)]∧(Row 1 A (o.length) D G (al eB o))∧F95l2 g i a f mm o e=some r∧mm=m) (m:=N) ⟨some P,0,[],([]:List Int),0,N,(uK rfl),I.pk [3,2,1,0] rfl,(a3.to rfl rfl),F,rfl⟩ ?_
  rintro m ρ w ⟨A,D,G,o,e,mm,hag,I,Z,F,hm⟩
  subst hm; obtain ⟨ρ,rfl⟩:=hag.form
  obtain _ | m2:=mm
  ·cases (show (none:Option Str)=some r from F)
  replace F:F95b2 g i a f (F95l2 g i a f m2) o e=some r:=F; unfold F95b2 at F
  refine ab (uL rfl (pu2 (iv e) (uF p 2) rfl (xg I 1 (uE a.t) zi9 rfl (pu (iv (a.t.length:Int)) (by kernel_rfl) (ifN F (fun Q F=>?_) (fun Q F=>?_))))))
  ·
   refine xl rfl (uP Q) (fun _=>aa (ai rfl (bw (.inl ⟨rfl,⟨A,D,G,o,⟨rfl,rfl,trivial⟩,I.pk [1,3] rfl,(Z.to rfl rfl),F⟩⟩))))
  refine xl rfl (fun _=>?_) (uO Q)
  refine aa (ah rfl (ak (ab (au (uL rfl (pu (uF p 2) rfl (xg I 1 (uE a.t) zi9 rfl (pu (iv e) rfl (gdE F (fun K F=>bt F (fun q R F=>ph (fb (e).toNat zu9 rfl rfl (Int.toNat_of_nonneg K).symm R (pu (.int .u8 (nb q)) rfl (aa (uL rfl (pu (uF B 2) rfl (xg I 2 (uE f.t) zi9 rfl (pu (iv e) rfl (bt F (fun C a0 F=>ph (fb (e).toNat zu9 rfl rfl (Int.toNat_of_nonneg K).symm a0 (pu (.int .u8 (nb C)) rfl (aa (dn (fun ρ w=>∃ M,cd ρ [(3,pt E),(4,pt p),(5,pt B),(7,uN A o D),(8,iv e),(9,.int .u8 (nb q)),(10,.int .u8 M)]∧Inv [] w0 w [(some E,blk [iv g,iv i] 130),(some p,blk (qh a) 35),(some B,blk (qh f) 35),(A,blk G 5)]∧F95j3 g i (F95l2 g i a f m2) o e q C M=some r) ?_ ?_))))))))))))))))))))))))
  ·
   refine uL rfl (xm I 0 zi130 zs130 rfl (pu (.agg #[iv 0,iv 2]) (by kernel_rfl) (ifN F (fun S F=>?_) (fun S F=>?_))))
   ·
    refine ph (kz (b:=decide (([g,i]:List Int)=[0,2])) rfl rfl (by kernel_rfl) (run_eqInts (d:=9998) (xs:=[g,i]) (ys:=[0,2]) zu130 zs3 zu3 zi3 rfl rfl) (uP S) (fun _=>aa (ai rfl (ak (.inl ⟨rfl,⟨nb C,(uK rfl),I.pk [0,1,2,3] rfl,F⟩⟩)))))
   refine ph (kz (b:=decide (([g,i]:List Int)=[0,2])) rfl rfl (by kernel_rfl) (run_eqInts (d:=9998) (xs:=[g,i]) (ys:=[0,2]) zu130 zs3 zu3 zi3 rfl rfl) (fun _=>?_) (uO S))
   refine aa (ah rfl (rgn (by kernel_rfl) (pu2 (.int .u8 (nb C)) (.int .u8 (nb q)) (by kernel_rfl) (bt F (fun a1 a4 F=>ph (bg I 150 _ _ (by kernel_rfl) (L150 _ (nb C) (nb q) _ a4) fun w I=>pu (.int .u8 a1) (by kernel_rfl) (aa (.inl ⟨rfl,⟨a1,(uK rfl),I.pk [0,1,2,3] rfl,F⟩⟩))))))))
  intro ρ w hJ
  obtain ⟨M,hag,I,F⟩:=hJ
  obtain ⟨ρ,rfl⟩:=hag.form
  unfold F95j3 at F
  refine dn (fun ρ w=>∃ s x,cd ρ [(3,pt E),(4,pt p),(5,pt B),(7,uN A o D),(8,iv e),(9,.int .u8 s),(10,.int .u8 x)]∧Inv [] w0 w [(some E,blk [iv g,iv i] 130),(some p,blk (qh a) 35),(some B,blk (qh f) 35),(A,blk G 5)]∧F95j4 (F95l2 g i a f m2) o e s x=some r) ?_ ?_
  ·
   refine uL rfl (xm I 0 zi130 zs130 rfl (pu (.agg #[iv 1,iv 2]) (by kernel_rfl) (ifN F (fun T F=>?_) (fun T F=>?_))))
   ·
    refine ph (kz (b:=decide (([g,i]:List Int)=[1,2])) rfl rfl (by kernel_rfl) (run_eqInts (d:=9998) (xs:=[g,i]) (ys:=[1,2]) zu130 zs3 zu3 zi3 rfl rfl) (uP T) (fun _=>aa (ai rfl (ak (.inl ⟨rfl,⟨nb q,M,(uK rfl),I.pk [0,1,2,3] rfl,F⟩⟩)))))
   refine ph (kz (b:=decide (([g,i]:List Int)=[1,2])) rfl rfl (by kernel_rfl) (run_eqInts (d:=9998) (xs:=[g,i]) (ys:=[1,2]) zu130 zs3 zu3 zi3 rfl rfl) (fun _=>?_) (uO T))
   refine aa (ah rfl (ab (gm 10 I (by kernel_rfl) (zP (uF B 2) rfl (zg 2 (uE f.t) zi9 rfl (zP (iv e) rfl (zc (.int .u8 (nb C)) (fun w I=>fb (e).toNat zu9 rfl rfl (Int.toNat_of_nonneg K).symm a0 br) (zP (uF p 2) rfl (zg 1 (uE a.t) zi9 rfl (zP (iv e) rfl (zc (.int .u8 (nb q)) (fun w I=>fb (e).toNat zu9 rfl rfl (Int.toNat_of_nonneg K).symm R br) (bt F (fun U a5 F=>zc (.int .u8 U) (fun w I=>co 150 [.int .u8 (nb C),.int .u8 (nb q)] (by kernel_rfl) (L150 _ (nb C) (nb q) _ a5) uI) (zP (.int .u8 U) rfl (zh (fun w I=>aa (rgn rfl (pu (uF p 2) rfl (xg I 1 (uE a.t) zi9 rfl (pu (iv e) rfl (ph (fb (e).toNat zu9 rfl rfl (Int.toNat_of_nonneg K).symm R (pu (.int .u8 (nb q)) rfl (aa (.inl ⟨rfl,⟨U,nb q,(uK rfl),I.pk [0,1,2,3] rfl,F⟩⟩)))))))))))))))))))))))))
  intro ρ w hJ
  obtain ⟨s,x,hag,I,F⟩:=hJ
  obtain ⟨ρ,rfl⟩:=hag.form
  unfold F95j4 at F
  refine rgn rfl (pu3 (uN A o D) (.int .u8 s) (.int .u8 x) (by kernel_rfl) (ph (fu I [.int .u8 s,.int .u8 x] 5 (fun b=>slv (some b) 2 2) (by kernel_rfl) fun aB w I=>gdE F (fun aC F=>ph (ks I mg (z:=.int .u8 0) (k:=1) (bytes:=1) rfl rfl rfl 4 rfl rfl Z [.int .u8 s,.int .u8 x] rfl rfl (I.cells 0 (off:=0) rfl (fun j u h=>by rw [Nat.zero_add]; exact h)) (by simp [Value.oneCell']) (by omega) (by omega) (n2:=(o++[s,x]).length) (kr rfl rfl) ?_)))))
  intro V W a2 w I X
  have X:Row 1 V ((o++[s,x]).length) W a2 (al eB (o++[s,x])):=X.more
  refine pu (slv V ((o++[s,x]).length) W) rfl (aa (rgn rfl (pu (iv e) rfl (ckE F (fun a6 F=>xa rfl a6 (pu (iv (e+1)) rfl (aa (⟨rfl,m2,Nat.lt_succ_self _,⟨V,W,a2,o++[s,x],e+1,m2,(uK rfl),I.pk [1,2,3,4] rfl,(X.to rfl rfl),F,rfl⟩⟩))))))))
 intro ρ w hJ
 obtain ⟨H,J,L,y,hag,I,Y,F⟩:=hJ
 obtain ⟨ρ,rfl⟩:=hag.form
 unfold F95j1 at F
 refine uL rfl (pu2 (uN H y J) (uF p 1) rfl (xg I 0 (iv a.sz) zi3 rfl (gdE F (fun a7 F=>?_))))
 obtain ⟨a8,rfl⟩:=Y.some_ (ll rfl a7)
 refine gdE F (fun a9 F=>gdE F (fun O F=>?_))
 have aA:Row 1 (some a8) (y.take ((a.sz).toNat)).length J L (al eB (y.take ((a.sz).toNat))):=(Y.cut ew (by decide) ((a.sz).toNat) (ll rfl O)).to rfl (take_len2 O)
 refine ph (s_sliceHiN mg zs5 rfl (congrArg (Value.int .i64) (Int.toNat_of_nonneg a9).symm) (take_len2 O) (Nat.le_trans O (am rfl Y.cap)) (ph (fx (l:=y.take ((a.sz).toNat)) mg zu5 zu9 rfl rfl (I.rowCells 1 rfl aA) (pu (uE (bl (y.take ((a.sz).toNat)))) rfl (aa (aj ?_))))))
 cases F
 exact uJ I rfl


end Go.K
