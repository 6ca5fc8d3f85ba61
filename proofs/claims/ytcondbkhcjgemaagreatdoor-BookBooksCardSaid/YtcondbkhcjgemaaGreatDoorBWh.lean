import Derived.Test.YtcondbkhcjgemaaGreatDoorBWg
namespace Go.K
open Go.Proofs.Tryz
open Go.Proofs Go.RowKit
set_option linter.unusedVariables false
set_option linter.unusedSimpArgs false
set_option maxRecDepth 100000
attribute [local irreducible] Seq cw cx fl opX
theorem xO {A:Type}{Z:A→Prop}{z:Prop}(y:∀ a,Z a→z):(∃ a,Z a)→z:=fun⟨a,x⟩=>y a x
theorem xD {A B:Type}{Z:A→B→Prop}{z:Prop}(y:∀ a b,Z a b→z):(∃ a b,Z a b)→z:=fun⟨a,b,x⟩=>y a b x
theorem xF {A B C D:Type}{Z:A→B→C→D→Prop}{z:Prop}(y:∀ a b c d,Z a b c d→z):(∃ a b c d,Z a b c d)→z:=fun⟨a,b,c,d,x⟩=>y a b c d x
theorem xH {A B C D E F G H:Type}{Z:A→B→C→D→E→F→G→H→Prop}{z:Prop}(y:∀ a b c d e f g h,Z a b c d e f g h→z):(∃ a b c d e f g h,Z a b c d e f g h)→z:=fun⟨a,b,c,d,e,f,g,h,x⟩=>y a b c d e f g h x
theorem xP {A B C D E F G H I J K L M N O P:Type}{Z:A→B→C→D→E→F→G→H→I→J→K→L→M→N→O→P→Prop}{z:Prop}(y:∀ a b c d e f g h i j k l m n o p,Z a b c d e f g h i j k l m n o p→z):(∃ a b c d e f g h i j k l m n o p,Z a b c d e f g h i j k l m n o p)→z:=fun⟨a,b,c,d,e,f,g,h,i,j,k,l,m,n,o,p,x⟩=>y a b c d e f g h i j k l m n o p x
theorem xa {p q r:Prop}(k:p→q→r):p∧q→r:=fun h=>k h.1 h.2
set_option maxHeartbeats 8000000 in
theorem L19 (w0:World) (hG:Gl w0) (N:Nat) (r:Bool) (F:F19 N=some r):bn Tryz.prog 19 [] w0 fun v w=>v=.bool r∧Below w0.heap.size w0 w:=by
 refine az (n:=326) func19 rfl ntmps19 rfl ?_
 have I:=Inv.start w0
 unfold F19 at F
 refine ab (rgn (by kernel_rfl) (pu bF (by kernel_rfl) (aa (ab (rgn (by kernel_rfl) (bt F (fun BM BN F=>?_)))))))
 obtain ⟨q,s,x,y,z,A,B,C⟩:=BM
 refine ac (bg I 85 _ _ (by kernel_rfl) (L85 _ _ BN) fun w I=>ac (bh I _ zeroValue25 rfl fun G w I=>ac (mb I 0 _ md rfl rfl rfl rfl rfl rfl fun w I=>aa (ab (rgn (by kernel_rfl) (ac (ma I 0 mh md rfl rfl rfl (bt F (fun H BO F=>ac (co 20 _ (by kernel_rfl) (L20 _ (⟨q,s,x,y,z,A,B,C⟩:Rc) 0 (hG.up I) N _ BO) ?_))))))))))
 rintro v w ⟨hY,T,FW,rfl,hN,r7⟩
 have I:=I.join hN; clear hN
 refine pu3 (.tuple #[slv hY H.1.length T,iv H.2]) (slv hY H.1.length T) (iv H.2) (by kernel_rfl) (pu2 (slv hY H.1.length T) (iv H.2) (by kernel_rfl) (aa (ab (ab (rgn (by kernel_rfl) (pu (iv H.2) (by kernel_rfl) (ifN F (fun r8 F=>?_) (fun r8 F=>?_))))))))
 ·
  refine ac (de rfl rfl (fun _=>?_) (fun h=>absurd h r8))
  refine pu bT (by kernel_rfl) (sf 3 (by kernel_rfl) (pu2 bT bT (by kernel_rfl) (sf 5 (by kernel_rfl) (pu2 bT bT (by kernel_rfl) (sf 5 (by kernel_rfl) (pu2 bT bT (by kernel_rfl) (sf 5 (by kernel_rfl) (pu bT (by kernel_rfl) (aa (ah rfl (ab (rgn (by kernel_rfl) (pu bF (by kernel_rfl) (aa (aj ?_)))))))))))))))
  cases F
  exact ⟨_,Ret.r1 rfl rfl,⟨rfl,I.below⟩⟩


 refine ac (de rfl rfl (fun h=>absurd r8 h) (fun _=>pu bF (by kernel_rfl) (pup (slv hY H.1.length T) (by kernel_rfl) (pup (iv ((H.1.length:Nat):Int)) (by kernel_rfl) (ifN F (fun r9 F=>?_) (fun r9 F=>?_))))))
 ·
  refine aw (by kernel_rfl) (de rfl rfl (fun _=>?_) (fun h=>absurd h r9))
  refine pu2 bT bT (by kernel_rfl) (sf 5 (by kernel_rfl) (pu2 bT bT (by kernel_rfl) (sf 5 (by kernel_rfl) (pu2 bT bT (by kernel_rfl) (sf 5 (by kernel_rfl) (pu bT (by kernel_rfl) (aa (ah rfl (ab (rgn (by kernel_rfl) (pu bF (by kernel_rfl) (aa (aj ?_)))))))))))))
  cases F
  exact ⟨_,Ret.r1 rfl rfl,⟨rfl,I.below⟩⟩
 refine aw (by kernel_rfl) (de rfl rfl (fun h=>absurd r9 h) (fun _=>pu2 bF bF (by kernel_rfl) (pup (slv hY H.1.length T) (by kernel_rfl) (bt F (fun f eL F=>?_)))))
 obtain ⟨K,rfl,hZ⟩:=r7.at_ bk (by decide) eL
 refine aw (by kernel_rfl) (be 0 mj mc rfl rfl rfl (fa eL rfl) (aw (by kernel_rfl) (cq I 0 (qh f) me mc rfl rfl rfl hZ (pup (.agg #[iv 0,iv 21,.string (bts [50,48,53,49,32,50,48,48,97,107,121])]) (by kernel_rfl) (ifN F (fun rA F=>?_) (fun rA F=>?_))))))
 ·
  refine aw (by kernel_rfl) (lg (b:=decide (f.no=0) && decide (f.sz=21) && decide (f.t=[50,48,53,49,32,50,48,48,97,107,121])) rfl rfl (by kernel_rfl) (fun w=>eq35 _ f.no f.sz f.t 0 21 [50,48,53,49,32,50,48,48,97,107,121] w) (fun _=>?_) (fun h=>absurd h rA))
  refine pu2 bT bT (by kernel_rfl) (sf 5 (by kernel_rfl) (pu2 bT bT (by kernel_rfl) (sf 5 (by kernel_rfl) (pu bT (by kernel_rfl) (aa (ah rfl (ab (rgn (by kernel_rfl) (pu bF (by kernel_rfl) (aa (aj ?_)))))))))))
  cases F
  exact ⟨_,Ret.r1 rfl rfl,⟨rfl,I.below⟩⟩
 refine aw (by kernel_rfl) (lg (b:=decide (f.no=0) && decide (f.sz=21) && decide (f.t=[50,48,53,49,32,50,48,48,97,107,121])) rfl rfl (by kernel_rfl) (fun w=>eq35 _ f.no f.sz f.t 0 21 [50,48,53,49,32,50,48,48,97,107,121] w) (fun h=>absurd rA h) (fun _=>pu2 bF bF (by kernel_rfl) (pup (slv (some K) H.1.length T) (by kernel_rfl) (bt F (fun E k0 F=>?_)))))
 have rB:=r7.atS bk (by decide) k0
 refine aw (by kernel_rfl) (be 1 mj mc rfl rfl rfl (fa k0 rfl) (aw (by kernel_rfl) (cq I 0 (qh E) me mc rfl rfl rfl rB (pup (.agg #[iv 0,iv 21,.string (bts [32,32,32,48,49,32,32,32,32,101,32])]) (by kernel_rfl) (ifN F (fun rC F=>?_) (fun rC F=>?_))))))
 ·
  refine aw (by kernel_rfl) (lg (b:=decide (E.no=0) && decide (E.sz=21) && decide (E.t=[32,32,32,48,49,32,32,32,32,101,32])) rfl rfl (by kernel_rfl) (fun w=>eq35 _ E.no E.sz E.t 0 21 [32,32,32,48,49,32,32,32,32,101,32] w) (fun _=>?_) (fun h=>absurd h rC))
  refine pu2 bT bT (by kernel_rfl) (sf 5 (by kernel_rfl) (pu bT (by kernel_rfl) (aa (ah rfl (ab (rgn (by kernel_rfl) (pu bF (by kernel_rfl) (aa (aj ?_)))))))))
  cases F
  exact ⟨_,Ret.r1 rfl rfl,⟨rfl,I.below⟩⟩
 refine aw (by kernel_rfl) (lg (b:=decide (E.no=0) && decide (E.sz=21) && decide (E.t=[32,32,32,48,49,32,32,32,32,101,32])) rfl rfl (by kernel_rfl) (fun w=>eq35 _ E.no E.sz E.t 0 21 [32,32,32,48,49,32,32,32,32,101,32] w) (fun h=>absurd rC h) (fun _=>pu2 bF bF (by kernel_rfl) (pup (slv (some K) H.1.length T) (by kernel_rfl) (bt F (fun D k1 F=>?_)))))
 have rD:=r7.atS bk (by decide) k1
 refine aw (by kernel_rfl) (be 2 mj mc rfl rfl rfl (fa k1 rfl) (aw (by kernel_rfl) (cq I 0 (qh D) me mc rfl rfl rfl rD (pup (.agg #[iv 0,iv 21,.string (bts [50,48,53,65,49,50,48,48,97,81,121])]) (by kernel_rfl) (ifN F (fun rE F=>?_) (fun rE F=>?_))))))
 ·
  refine aw (by kernel_rfl) (lg (b:=decide (D.no=0) && decide (D.sz=21) && decide (D.t=[50,48,53,65,49,50,48,48,97,81,121])) rfl rfl (by kernel_rfl) (fun w=>eq35 _ D.no D.sz D.t 0 21 [50,48,53,65,49,50,48,48,97,81,121] w) (fun _=>?_) (fun h=>absurd h rE))
  refine pu bT (by kernel_rfl) (aa (ah rfl (ab (rgn (by kernel_rfl) (pu bF (by kernel_rfl) (aa (aj ?_)))))))
  cases F
  exact ⟨_,Ret.r1 rfl rfl,⟨rfl,I.below⟩⟩
 refine aw (by kernel_rfl) (lg (b:=decide (D.no=0) && decide (D.sz=21) && decide (D.t=[50,48,53,65,49,50,48,48,97,81,121])) rfl rfl (by kernel_rfl) (fun w=>eq35 _ D.no D.sz D.t 0 21 [50,48,53,65,49,50,48,48,97,81,121] w) (fun h=>absurd rE h) (fun _=>pu bF (by kernel_rfl) (aa (ai rfl (ak (ab (gm 12 I (by kernel_rfl) (zp (slv (some K) H.1.length T) (fun _=>(by kernel_rfl)) (zc (.pointer (some ⟨K,0 * 3,none⟩)) (fun w I=>be 0 mj mc rfl rfl rfl (fa eL rfl) br) (zc (.agg (qh f).toArray) (fun w I=>cq I 0 (qh f) me mc rfl rfl rfl hZ br) (zp (slv (some K) H.1.length T) (fun _=>(by kernel_rfl)) (zc (.pointer (some ⟨K,2 * 3,none⟩)) (fun w I=>be 2 mj mc rfl rfl rfl (fa k1 rfl) br) (zc (.agg (qh D).toArray) (fun w I=>cq I 0 (qh D) me mc rfl rfl rfl rD br) (bt F (fun U BP F=>zc (.tuple #[.string (bts U.1),iv U.2]) (fun w I=>co 22 [iv 0,.agg (qh f).toArray,iv 2,.agg (qh D).toArray] (by kernel_rfl) (L22 _ 0 f 2 D N _ BP) (fun v' w' h=>h)) (zp2 (.tuple #[.string (bts U.1),iv U.2]) (.string (bts U.1)) (fun _=>(by kernel_rfl)) (zp2 (iv U.2) (.string (bts U.1)) (fun _=>(by kernel_rfl)) (zp (iv U.2) (fun _=>(by kernel_rfl)) (zh (fun w I=>aa (ab (gm 12 I (by kernel_rfl) (zp (slv (some K) H.1.length T) (fun _=>(by kernel_rfl)) (zc (.pointer (some ⟨K,2 * 3,none⟩)) (fun w I=>be 2 mj mc rfl rfl rfl (fa k1 rfl) br) (zc (.agg (qh D).toArray) (fun w I=>cq I 0 (qh D) me mc rfl rfl rfl rD br) (zp (slv (some K) H.1.length T) (fun _=>(by kernel_rfl)) (zc (.pointer (some ⟨K,1 * 3,none⟩)) (fun w I=>be 1 mj mc rfl rfl rfl (fa k0 rfl) br) (zc (.agg (qh E).toArray) (fun w I=>cq I 0 (qh E) me mc rfl rfl rfl rB br) (bt F (fun a6 BQ F=>zc (.tuple #[.string (bts a6.1),iv a6.2]) (fun w I=>co 22 [iv 2,.agg (qh D).toArray,iv 1,.agg (qh E).toArray] (by kernel_rfl) (L22 _ 2 D 1 E N _ BQ) (fun v' w' h=>h)) (zp2 (.tuple #[.string (bts a6.1),iv a6.2]) (.string (bts a6.1)) (fun _=>(by kernel_rfl)) (zp2 (iv a6.2) (.string (bts a6.1)) (fun _=>(by kernel_rfl)) (zp (iv a6.2) (fun _=>(by kernel_rfl)) (zh (fun w I=>aa (ab (gm 12 I (by kernel_rfl) (zp (slv (some K) H.1.length T) (fun _=>(by kernel_rfl)) (zc (.pointer (some ⟨K,0 * 3,none⟩)) (fun w I=>be 0 mj mc rfl rfl rfl (fa eL rfl) br) (zc (.agg (qh f).toArray) (fun w I=>cq I 0 (qh f) me mc rfl rfl rfl hZ br) (zp (slv (some K) H.1.length T) (fun _=>(by kernel_rfl)) (zc (.pointer (some ⟨K,0 * 3,none⟩)) (fun w I=>be 0 mj mc rfl rfl rfl (fa eL rfl) br) (zc (.agg (qh f).toArray) (fun w I=>cq I 0 (qh f) me mc rfl rfl rfl hZ br) (bt F (fun dG BR F=>zc (.tuple #[.string (bts dG.1),iv dG.2]) (fun w I=>co 22 [iv 0,.agg (qh f).toArray,iv 0,.agg (qh f).toArray] (by kernel_rfl) (L22 _ 0 f 0 f N _ BR) (fun v' w' h=>h)) (zp2 (.tuple #[.string (bts dG.1),iv dG.2]) (.string (bts dG.1)) (fun _=>(by kernel_rfl)) (zp2 (iv dG.2) (.string (bts dG.1)) (fun _=>(by kernel_rfl)) (zp (iv dG.2) (fun _=>(by kernel_rfl)) (zh (fun w I=>aa (ab (ab (rgn (by kernel_rfl) (pu (.string (bts U.1)) (by kernel_rfl) (ifN F (fun rF F=>?_) (fun rF F=>?_))))))))))))))))))))))))))))))))))))))))))))))))))))))))
 ·
  refine ac (s_strNe (a:=U.1) (b:=[50,32,48,32,53,32,49,48,32,49,50,32,48,32,48,32,97,32,107,101,121]) rfl rfl (fun _=>?_) (fun h=>absurd h rF))
  refine pu bT (by kernel_rfl) (sf 3 (by kernel_rfl) (pu2 bT bT (by kernel_rfl) (sf 2 (by kernel_rfl) (pu2 bT bT (by kernel_rfl) (sf 2 (by kernel_rfl) (pu2 bT bT (by kernel_rfl) (sf 2 (by kernel_rfl) (pu2 bT bT (by kernel_rfl) (sf 5 (by kernel_rfl) (pu2 bT bT (by kernel_rfl) (sf 5 (by kernel_rfl) (pu bT (by kernel_rfl) (aa (ah rfl (ab (rgn (by kernel_rfl) (pu bF (by kernel_rfl) (aa (aj ?_)))))))))))))))))))
  cases F
  exact ⟨_,Ret.r1 rfl rfl,⟨rfl,I.below⟩⟩
 refine ac (s_strNe (a:=U.1) (b:=[50,32,48,32,53,32,49,48,32,49,50,32,48,32,48,32,97,32,107,101,121]) rfl rfl (fun h=>absurd rF h) (fun _=>pu bF (by kernel_rfl) (pup (.string (bts a6.1)) (by kernel_rfl) (pup (.string (bts U.1)) (by kernel_rfl) (ifN F (fun rG F=>?_) (fun rG F=>?_))))))
 ·
  refine aw (by kernel_rfl) (s_strNe (a:=a6.1) (b:=U.1) rfl rfl (fun _=>?_) (fun h=>absurd h rG))
  refine pu2 bT bT (by kernel_rfl) (sf 2 (by kernel_rfl) (pu2 bT bT (by kernel_rfl) (sf 2 (by kernel_rfl) (pu2 bT bT (by kernel_rfl) (sf 2 (by kernel_rfl) (pu2 bT bT (by kernel_rfl) (sf 5 (by kernel_rfl) (pu2 bT bT (by kernel_rfl) (sf 5 (by kernel_rfl) (pu bT (by kernel_rfl) (aa (ah rfl (ab (rgn (by kernel_rfl) (pu bF (by kernel_rfl) (aa (aj ?_)))))))))))))))))
  cases F
  exact ⟨_,Ret.r1 rfl rfl,⟨rfl,I.below⟩⟩
 refine aw (by kernel_rfl) (s_strNe (a:=a6.1) (b:=U.1) rfl rfl (fun h=>absurd rG h) (fun _=>pu2 bF bF (by kernel_rfl) (pup (iv U.2) (by kernel_rfl) (ifN F (fun rH F=>?_) (fun rH F=>?_)))))
 ·
  refine aw (by kernel_rfl) (de rfl rfl (fun _=>?_) (fun h=>absurd h rH))
  refine pu2 bT bT (by kernel_rfl) (sf 2 (by kernel_rfl) (pu2 bT bT (by kernel_rfl) (sf 2 (by kernel_rfl) (pu2 bT bT (by kernel_rfl) (sf 5 (by kernel_rfl) (pu2 bT bT (by kernel_rfl) (sf 5 (by kernel_rfl) (pu bT (by kernel_rfl) (aa (ah rfl (ab (rgn (by kernel_rfl) (pu bF (by kernel_rfl) (aa (aj ?_)))))))))))))))
  cases F
  exact ⟨_,Ret.r1 rfl rfl,⟨rfl,I.below⟩⟩
 refine aw (by kernel_rfl) (de rfl rfl (fun h=>absurd rH h) (fun _=>pu2 bF bF (by kernel_rfl) (pup (iv a6.2) (by kernel_rfl) (ifN F (fun rI F=>?_) (fun rI F=>?_)))))
 ·
  refine aw (by kernel_rfl) (de rfl rfl (fun _=>?_) (fun h=>absurd h rI))
  refine pu2 bT bT (by kernel_rfl) (sf 2 (by kernel_rfl) (pu2 bT bT (by kernel_rfl) (sf 5 (by kernel_rfl) (pu2 bT bT (by kernel_rfl) (sf 5 (by kernel_rfl) (pu bT (by kernel_rfl) (aa (ah rfl (ab (rgn (by kernel_rfl) (pu bF (by kernel_rfl) (aa (aj ?_)))))))))))))
  cases F
  exact ⟨_,Ret.r1 rfl rfl,⟨rfl,I.below⟩⟩
 refine aw (by kernel_rfl) (de rfl rfl (fun h=>absurd rI h) (fun _=>pu2 bF bF (by kernel_rfl) (pup (iv dG.2) (by kernel_rfl) (ifN F (fun rJ F=>?_) (fun rJ F=>?_)))))
 ·
  refine aw (by kernel_rfl) (de rfl rfl (fun _=>?_) (fun h=>absurd h rJ))
  refine pu2 bT bT (by kernel_rfl) (sf 5 (by kernel_rfl) (pu2 bT bT (by kernel_rfl) (sf 5 (by kernel_rfl) (pu bT (by kernel_rfl) (aa (ah rfl (ab (rgn (by kernel_rfl) (pu bF (by kernel_rfl) (aa (aj ?_)))))))))))
  cases F
  exact ⟨_,Ret.r1 rfl rfl,⟨rfl,I.below⟩⟩
 refine aw (by kernel_rfl) (de rfl rfl (fun h=>absurd rJ h) (fun _=>pu2 bF bF (by kernel_rfl) (pup (slv (some K) H.1.length T) (by kernel_rfl) (aw (by kernel_rfl) (be 1 mj mc rfl rfl rfl (fa k0 rfl) (aw (by kernel_rfl) (cq I 0 (qh E) me mc rfl rfl rfl rB (bt F (fun FX BS F=>aw (by kernel_rfl) (bg I 25 _ _ (by kernel_rfl) (L25 _ 0 E N _ BS) fun w I=>ifN F (fun rK F=>?_) (fun rK F=>?_)))))))))))
 ·
  refine aw (by kernel_rfl) (de rfl rfl (fun _=>?_) (fun h=>absurd h rK))
  refine pu2 bT bT (by kernel_rfl) (sf 5 (by kernel_rfl) (pu bT (by kernel_rfl) (aa (ah rfl (ab (rgn (by kernel_rfl) (pu bF (by kernel_rfl) (aa (aj ?_)))))))))
  cases F
  exact ⟨_,Ret.r1 rfl rfl,⟨rfl,I.below⟩⟩
 refine aw (by kernel_rfl) (de rfl rfl (fun h=>absurd rK h) (fun _=>pu2 bF bF (by kernel_rfl) (pup (slv (some K) H.1.length T) (by kernel_rfl) (aw (by kernel_rfl) (be 0 mj mc rfl rfl rfl (fa eL rfl) (aw (by kernel_rfl) (cq I 0 (qh f) me mc rfl rfl rfl hZ (bt F (fun FY BT F=>aw (by kernel_rfl) (bg I 25 _ _ (by kernel_rfl) (L25 _ 1 f N _ BT) fun w I=>ifN F (fun rL F=>?_) (fun rL F=>?_)))))))))))
 ·
  refine aw (by kernel_rfl) (de rfl rfl (fun _=>?_) (fun h=>absurd h rL))
  refine pu bT (by kernel_rfl) (aa (ah rfl (ab (rgn (by kernel_rfl) (pu bF (by kernel_rfl) (aa (aj ?_)))))))
  cases F
  exact ⟨_,Ret.r1 rfl rfl,⟨rfl,I.below⟩⟩
 refine aw (by kernel_rfl) (de rfl rfl (fun h=>absurd rL h) (fun _=>pu bF (by kernel_rfl) (aa (ai rfl (ak (ab (rgn (by kernel_rfl) (pu (.agg #[.slice none 0 0,.slice none 0 0,.slice none 0 0,iv 0,iv 0,iv 0]) (by kernel_rfl) (ac (ma I 1 mh md rfl rfl rfl (bt F (fun BU BV F=>?_))))))))))))
 obtain ⟨dH,dI,dJ,dK,dL,dM,a7,d2⟩:=BU
 refine ac (co 38 _ (by kernel_rfl) (L38 _ none 0 [] none 0 [] none 0 [] 0 0 0 none 0 [] (⟨q,s,x,y,z,A,B,C⟩:Rc) (hG.up I) bi.nil0 (by decide) (Nat.le_refl _) bi.nil0 (by decide) (Nat.le_refl _) bi.nil0 (by decide) (Nat.le_refl _) bi.nil0 (by decide) (Nat.le_refl _) N _ BV) ?_)
 intro v w
 refine xH fun dN e1 yR dO e2 yS dP e3=>xF fun yT d3 e4 rM=>xa fun hv=>xa fun hN=>xa fun d4=>xa fun d5=>xa fun d6=>fun BW=>?_
 dsimp only at hv hN d4 d5 d6 BW; subst hv
 have I:=I.join hN; clear hN
 refine pu3 (.tuple #[.agg #[slv dN dH.length e1,slv dO dI.length e2,slv dP dJ.length e3,iv dK,iv dL,iv dM],slv d3 a7.length e4,iv d2]) (.agg #[slv dN dH.length e1,slv dO dI.length e2,slv dP dJ.length e3,iv dK,iv dL,iv dM]) (slv d3 a7.length e4) (by kernel_rfl) (pu (iv d2) (by kernel_rfl) (ac (bh I _ zeroValue63 rfl fun k2 w I=>ac (mb I 0 _ mi rfl rfl rfl rfl rfl rfl fun w I=>pu2 (slv d3 a7.length e4) (iv d2) (by kernel_rfl) (aa (dn (fun ρ w=>∃ (d7:Option Nat) (e5:Nat) (i0:List Value) (V:List Rc),cd ρ [(1,pt G),(10,pt k2),(11,slv d3 a7.length e4),(12,iv d2),(14,slv d7 V.length e5)]∧Inv [] w0 w [(some G,blk [iv q,iv s,iv x,iv y,iv z,iv A,iv B,.string (bts C)] 25),(some k2,blk [slv dN dH.length e1,slv dO dI.length e2,slv dP dJ.length e3,iv dK,iv dL,iv dM] 63),(dN,blk yR 35),(dO,blk yS 35),(dP,blk yT 35),(d3,blk rM 25),(d7,blk i0 25)]∧(Row 8 d7 (V.length) e5 i0 (al eRc V))∧F19j1 N q s x y z A B C dH dI dJ dK dL dM a7 d2 V=some r) ?_ ?_))))))
 ·
  refine rgn (by kernel_rfl) (ac (ma I 0 mt mi rfl rfl rfl (ac (fu I [iv 3,iv 2,iv 0,iv 0,iv 0,iv 2,iv 0] 3 (fun b=>slv (some b) 7 7) (by kernel_rfl) fun BX w I=>bt F (fun eM BY F=>ac (co 45 _ (by kernel_rfl) (L45 _ (dN.map fun b=>⟨b,0,none⟩) e1 dH (dO.map fun b=>⟨b,0,none⟩) e2 dI (dP.map fun b=>⟨b,0,none⟩) e3 dJ dK dL dM (some ⟨BX,0,none⟩) 7 [3,2,0,0,0,2,0] (I.rowCells 2 rfl d4) (am rfl d4.big) (am rfl d4.cap) (I.rowCells 3 rfl d5) (am rfl d5.big) (am rfl d5.cap) (I.rowCells 4 rfl d6) (am rfl d6.big) (am rfl d6.cap) (I.cells 0 (off:=0) rfl (fun j u h=>by rw [Nat.zero_add]; exact h)) (mx rfl) (Nat.le_refl _) N _ BY) ?_))))))
  rintro v w ⟨BZ,C0,FZ,C1,C2,G0,C3,C4,G1,rfl,hN,rN,rO,rP⟩
  have I:=I.join hN; clear hN
  refine bt F (fun L C5 F=>ac (co 40 _ (by kernel_rfl) (L40 _ (BZ.map fun b=>⟨b,0,none⟩) C0 eM.1 (C1.map fun b=>⟨b,0,none⟩) C2 eM.2.1 (C3.map fun b=>⟨b,0,none⟩) C4 eM.2.2.1 eM.2.2.2.1 eM.2.2.2.2.1 eM.2.2.2.2.2 (hG.up I) (I.rowCells 0 rfl rN) (am rfl rN.big) (am rfl rN.cap) (I.rowCells 1 rfl rO) (am rfl rO.big) (am rfl rO.cap) (I.rowCells 2 rfl rP) (am rfl rP.big) (am rfl rP.cap) N _ C5) ?_))
  intro v w
  refine xH fun yU yV G2 yW yX G3 yY yZ=>xF fun G4 k3 k4 C6=>xa fun hv=>xa fun hN=>xa fun G5=>xa fun G6=>xa fun G7=>fun C7=>?_
  subst hv
  have I:=I.join hN; clear hN
  refine pu3 (.tuple #[.agg #[slv yU L.1.length yV,slv yW L.2.1.length yX,slv yY L.2.2.1.length yZ,iv L.2.2.2.1,iv L.2.2.2.2.1,iv L.2.2.2.2.2.1],slv k3 L.2.2.2.2.2.2.length k4]) (.agg #[slv yU L.1.length yV,slv yW L.2.1.length yX,slv yY L.2.2.1.length yZ,iv L.2.2.2.1,iv L.2.2.2.2.1,iv L.2.2.2.2.2.1]) (slv k3 L.2.2.2.2.2.2.length k4) (by kernel_rfl) (ac (bh I _ zeroValue63 rfl fun G8 w I=>ac (mb I 0 _ mi rfl rfl rfl rfl rfl rfl fun w I=>pu (slv k3 L.2.2.2.2.2.2.length k4) (by kernel_rfl) (aa (.inl ⟨rfl,⟨k3,k4,C6,L.2.2.2.2.2.2,⟨rfl,rfl,rfl,rfl,rfl,trivial⟩,I.pk [15,9,10,11,12,13,4] rfl rfl,(C7.to rfl rfl),F⟩⟩)))))
 intro ρ w hJ
 obtain ⟨d7,e5,i0,V,hag,I,C8,F⟩:=hJ
 obtain ⟨ρ,rfl⟩:=hag.form; clear hag
 unfold F19j1 at F
 refine dn (fun ρ w=>∃ (e6:Option Nat) (i1:Nat) (k5:List Value) (d8:List Rc),cd ρ [(1,pt G),(10,pt k2),(11,slv d3 a7.length e4),(12,iv d2),(14,slv d7 V.length e5),(16,slv e6 d8.length i1)]∧Inv [] w0 w [(some G,blk [iv q,iv s,iv x,iv y,iv z,iv A,iv B,.string (bts C)] 25),(some k2,blk [slv dN dH.length e1,slv dO dI.length e2,slv dP dJ.length e3,iv dK,iv dL,iv dM] 63),(dN,blk yR 35),(dO,blk yS 35),(dP,blk yT 35),(d3,blk rM 25),(d7,blk i0 25),(e6,blk k5 25)]∧(Row 8 e6 (d8.length) i1 k5 (al eRc d8))∧F19j2 N q s x y z A B C dH dI dJ dK dL dM a7 d2 V d8=some r) ?_ ?_
 ·
  refine rgn (by kernel_rfl) (ac (ma I 1 mt mi rfl rfl rfl (ac (fu I [iv 3,iv 2,iv 0,iv 0,iv 0,iv 1,iv 4] 3 (fun b=>slv (some b) 7 7) (by kernel_rfl) fun C9 w I=>bt F (fun eN CA F=>ac (co 45 _ (by kernel_rfl) (L45 _ (dN.map fun b=>⟨b,0,none⟩) e1 dH (dO.map fun b=>⟨b,0,none⟩) e2 dI (dP.map fun b=>⟨b,0,none⟩) e3 dJ dK dL dM (some ⟨C9,0,none⟩) 7 [3,2,0,0,0,1,4] (I.rowCells 3 rfl d4) (am rfl d4.big) (am rfl d4.cap) (I.rowCells 4 rfl d5) (am rfl d5.big) (am rfl d5.cap) (I.rowCells 5 rfl d6) (am rfl d6.big) (am rfl d6.cap) (I.cells 0 (off:=0) rfl (fun j u h=>by rw [Nat.zero_add]; exact h)) (mx rfl) (Nat.le_refl _) N _ CA) ?_))))))
  rintro v w ⟨CB,CC,G9,CD,CE,GA,CF,CG,GB,rfl,hN,rQ,rR,rS⟩
  have I:=I.join hN; clear hN
  refine bt F (fun M CH F=>ac (co 40 _ (by kernel_rfl) (L40 _ (CB.map fun b=>⟨b,0,none⟩) CC eN.1 (CD.map fun b=>⟨b,0,none⟩) CE eN.2.1 (CF.map fun b=>⟨b,0,none⟩) CG eN.2.2.1 eN.2.2.2.1 eN.2.2.2.2.1 eN.2.2.2.2.2 (hG.up I) (I.rowCells 0 rfl rQ) (am rfl rQ.big) (am rfl rQ.cap) (I.rowCells 1 rfl rR) (am rfl rR.big) (am rfl rR.cap) (I.rowCells 2 rfl rS) (am rfl rS.big) (am rfl rS.cap) N _ CH) ?_))
  intro v w
  refine xH fun z0 z1 GC z2 z3 GD z4 z5=>xF fun GE k6 k7 CI=>xa fun hv=>xa fun hN=>xa fun GF=>xa fun GG=>xa fun GH=>fun CJ=>?_
  subst hv
  have I:=I.join hN; clear hN
  refine pu3 (.tuple #[.agg #[slv z0 M.1.length z1,slv z2 M.2.1.length z3,slv z4 M.2.2.1.length z5,iv M.2.2.2.1,iv M.2.2.2.2.1,iv M.2.2.2.2.2.1],slv k6 M.2.2.2.2.2.2.length k7]) (.agg #[slv z0 M.1.length z1,slv z2 M.2.1.length z3,slv z4 M.2.2.1.length z5,iv M.2.2.2.1,iv M.2.2.2.2.1,iv M.2.2.2.2.2.1]) (slv k6 M.2.2.2.2.2.2.length k7) (by kernel_rfl) (ac (bh I _ zeroValue63 rfl fun GI w I=>ac (mb I 0 _ mi rfl rfl rfl rfl rfl rfl fun w I=>pu (slv k6 M.2.2.2.2.2.2.length k7) (by kernel_rfl) (aa (.inl ⟨rfl,⟨k6,k7,CI,M.2.2.2.2.2.2,⟨rfl,rfl,rfl,rfl,rfl,rfl,trivial⟩,I.pk [9,10,11,12,13,14,15,4] rfl rfl,(CJ.to rfl rfl),F⟩⟩)))))
 intro ρ w hJ
 obtain ⟨e6,i1,k5,d8,hag,I,GJ,F⟩:=hJ
 obtain ⟨ρ,rfl⟩:=hag.form; clear hag
 unfold F19j2 at F
 refine dn (fun ρ w=>∃ (eO:Option Nat) (i2:Nat) (rT:List Value) (dQ:List Rc),cd ρ [(1,pt G),(11,slv d3 a7.length e4),(12,iv d2),(14,slv d7 V.length e5),(16,slv e6 d8.length i1),(18,slv eO dQ.length i2)]∧Inv [] w0 w [(some G,blk [iv q,iv s,iv x,iv y,iv z,iv A,iv B,.string (bts C)] 25),(d3,blk rM 25),(d7,blk i0 25),(e6,blk k5 25),(eO,blk rT 25)]∧(Row 8 eO (dQ.length) i2 rT (al eRc dQ))∧F19j3 N q s x y z A B C a7 d2 V d8 dQ=some r) ?_ ?_
 ·
  refine rgn (by kernel_rfl) (ac (ma I 1 mt mi rfl rfl rfl (bt F (fun eP CK F=>ac (co 43 _ (by kernel_rfl) (L43 _ (dN.map fun b=>⟨b,0,none⟩) e1 dH (dO.map fun b=>⟨b,0,none⟩) e2 dI (dP.map fun b=>⟨b,0,none⟩) e3 dJ dK dL dM (I.rowCells 2 rfl d4) (am rfl d4.big) (am rfl d4.cap) (I.rowCells 3 rfl d5) (am rfl d5.big) (am rfl d5.cap) (I.rowCells 4 rfl d6) (am rfl d6.big) (am rfl d6.cap) _ CK) ?_)))))
  rintro v w ⟨CL,CM,GK,CN,CO,GL,CP,CQ,GM,rfl,hN,rU,rV,rW⟩
  have I:=I.join hN; clear hN
  refine ac (fu I [iv 1] 3 (fun b=>slv (some b) 1 1) (by kernel_rfl) fun CR w I=>bt F (fun eQ CS F=>ac (co 45 _ (by kernel_rfl) (L45 _ (CL.map fun b=>⟨b,0,none⟩) CM eP.1 (CN.map fun b=>⟨b,0,none⟩) CO eP.2.1 (CP.map fun b=>⟨b,0,none⟩) CQ eP.2.2.1 eP.2.2.2.1 eP.2.2.2.2.1 eP.2.2.2.2.2 (some ⟨CR,0,none⟩) 1 [1] (I.rowCells 1 rfl rU) (am rfl rU.big) (am rfl rU.cap) (I.rowCells 2 rfl rV) (am rfl rV.big) (am rfl rV.cap) (I.rowCells 3 rfl rW) (am rfl rW.big) (am rfl rW.cap) (I.cells 0 (off:=0) rfl (fun j u h=>by rw [Nat.zero_add]; exact h)) (mx rfl) (Nat.le_refl _) N _ CS) ?_)))
  rintro v w ⟨CT,CU,GN,CV,CW,GO,CX,CY,GP,rfl,hN,rX,rY,rZ⟩
  have I:=I.join hN; clear hN
  refine bt F (fun O CZ F=>ac (co 40 _ (by kernel_rfl) (L40 _ (CT.map fun b=>⟨b,0,none⟩) CU eQ.1 (CV.map fun b=>⟨b,0,none⟩) CW eQ.2.1 (CX.map fun b=>⟨b,0,none⟩) CY eQ.2.2.1 eQ.2.2.2.1 eQ.2.2.2.2.1 eQ.2.2.2.2.2 (hG.up I) (I.rowCells 0 rfl rX) (am rfl rX.big) (am rfl rX.cap) (I.rowCells 1 rfl rY) (am rfl rY.big) (am rfl rY.cap) (I.rowCells 2 rfl rZ) (am rfl rZ.big) (am rfl rZ.cap) N _ CZ) ?_))
  intro v w
  refine xH fun z6 z7 GQ z8 z9 GR zA zB=>xF fun GS k8 k9 D0=>xa fun hv=>xa fun hN=>xa fun GT=>xa fun GU=>xa fun GV=>fun D1=>?_
  subst hv
  have I:=I.join hN; clear hN
  refine pu3 (.tuple #[.agg #[slv z6 O.1.length z7,slv z8 O.2.1.length z9,slv zA O.2.2.1.length zB,iv O.2.2.2.1,iv O.2.2.2.2.1,iv O.2.2.2.2.2.1],slv k8 O.2.2.2.2.2.2.length k9]) (.agg #[slv z6 O.1.length z7,slv z8 O.2.1.length z9,slv zA O.2.2.1.length zB,iv O.2.2.2.1,iv O.2.2.2.2.1,iv O.2.2.2.2.2.1]) (slv k8 O.2.2.2.2.2.2.length k9) (by kernel_rfl) (ac (bh I _ zeroValue63 rfl fun GW w I=>ac (mb I 0 _ mi rfl rfl rfl rfl rfl rfl fun w I=>pu (slv k8 O.2.2.2.2.2.2.length k9) (by kernel_rfl) (aa (.inl ⟨rfl,⟨k8,k9,D0,O.2.2.2.2.2.2,⟨rfl,rfl,rfl,rfl,rfl,rfl,trivial⟩,I.pk [12,17,18,19,4] rfl rfl,(D1.to rfl rfl),F⟩⟩)))))
 intro ρ w hJ
 obtain ⟨eO,i2,rT,dQ,hag,I,D2,F⟩:=hJ
 obtain ⟨ρ,rfl⟩:=hag.form; clear hag
 unfold F19j3 at F
 refine ab (ab (gm 36 I (by kernel_rfl) (zp (iv d2) (fun _=>(by kernel_rfl)) (ifN F (fun s0 F=>?_) (fun s0 F=>?_)))))
 ·
  refine zc bT (fun w I=>de rfl rfl (fun _=>br) (fun h=>absurd h s0)) (zp bT (fun _=>(by kernel_rfl)) (zf 3 (by kernel_rfl) (zp2 bT bT (fun _=>(by kernel_rfl)) (zf 3 (by kernel_rfl) (zp2 bT bT (fun _=>(by kernel_rfl)) (zf 5 (by kernel_rfl) (zp2 bT bT (fun _=>(by kernel_rfl)) (zf 3 (by kernel_rfl) (zp2 bT bT (fun _=>(by kernel_rfl)) (zf 3 (by kernel_rfl) (zp2 bT bT (fun _=>(by kernel_rfl)) (zf 5 (by kernel_rfl) (zp bT (fun _=>(by kernel_rfl)) (zh (fun w I=>aa (ah rfl (ab (rgn (by kernel_rfl) (pu bF (by kernel_rfl) (aa (aj ?_)))))))))))))))))))))
  cases F
  exact ⟨_,Ret.r1 rfl rfl,⟨rfl,I.below⟩⟩
 refine zc bF (fun w I=>de rfl rfl (fun h=>absurd s0 h) (fun _=>br)) (zp bF (fun _=>(by kernel_rfl)) (zq (slv d3 a7.length e4) (by kernel_rfl) (fun _=>(by kernel_rfl)) (zo (iv (a7.length:Int)) (by kernel_rfl) (fun w I=>kl (iv ((a7.length:Nat):Int)) (by kernel_rfl) br) (ifN F (fun s1 F=>?_) (fun s1 F=>?_)))))
 ·
  refine zo bT (by kernel_rfl) (fun w I=>de rfl rfl (fun _=>br) (fun h=>absurd h s1)) (zp2 bT bT (fun _=>(by kernel_rfl)) (zf 3 (by kernel_rfl) (zp2 bT bT (fun _=>(by kernel_rfl)) (zf 5 (by kernel_rfl) (zp2 bT bT (fun _=>(by kernel_rfl)) (zf 1 (by kernel_rfl) (zf 2 (by kernel_rfl) (zp2 bT bT (fun _=>(by kernel_rfl)) (zf 3 (by kernel_rfl) (zp2 bT bT (fun _=>(by kernel_rfl)) (zf 5 (by kernel_rfl) (zp bT (fun _=>(by kernel_rfl)) (zh (fun w I=>aa (ah rfl (ab (rgn (by kernel_rfl) (pu bF (by kernel_rfl) (aa (aj ?_))))))))))))))))))))
  cases F
  exact ⟨_,Ret.r1 rfl rfl,⟨rfl,I.below⟩⟩
 refine zo bF (by kernel_rfl) (fun w I=>de rfl rfl (fun h=>absurd s1 h) (fun _=>br)) (zp2 bF bF (fun _=>(by kernel_rfl)) (zq (slv d7 V.length e5) (by kernel_rfl) (fun _=>(by kernel_rfl)) (zo (iv (V.length:Int)) (by kernel_rfl) (fun w I=>kl (iv ((V.length:Nat):Int)) (by kernel_rfl) br) (ifN F (fun s2 F=>?_) (fun s2 F=>?_)))))
 ·
  refine zo bT (by kernel_rfl) (fun w I=>de rfl rfl (fun _=>br) (fun h=>absurd h s2)) (zp2 bT bT (fun _=>(by kernel_rfl)) (zf 5 (by kernel_rfl) (zp2 bT bT (fun _=>(by kernel_rfl)) (zf 3 (by kernel_rfl) (zp2 bT bT (fun _=>(by kernel_rfl)) (zf 1 (by kernel_rfl) (zf 2 (by kernel_rfl) (zp2 bT bT (fun _=>(by kernel_rfl)) (zf 5 (by kernel_rfl) (zp bT (fun _=>(by kernel_rfl)) (zh (fun w I=>aa (ah rfl (ab (rgn (by kernel_rfl) (pu bF (by kernel_rfl) (aa (aj ?_))))))))))))))))))
  cases F
  exact ⟨_,Ret.r1 rfl rfl,⟨rfl,I.below⟩⟩
 refine zo bF (by kernel_rfl) (fun w I=>de rfl rfl (fun h=>absurd s2 h) (fun _=>br)) (zp2 bF bF (fun _=>(by kernel_rfl)) (zq (slv d7 V.length e5) (by kernel_rfl) (fun _=>(by kernel_rfl)) (bt F (fun g zC F=>?_))))
 obtain ⟨D3,rfl,D4⟩:=C8.at_ bx (by decide) zC
 refine zo (.pointer (some ⟨D3,0 * 8,none⟩)) (by kernel_rfl) (fun w I=>be 0 nt md rfl rfl rfl (fa zC rfl) br) (zo (.agg (qg g).toArray) (by kernel_rfl) (fun w I=>cq I 2 (qg g) mh md rfl rfl rfl D4 br) (zo (.agg #[iv q,iv s,iv x,iv y,iv z,iv A,iv B,.string (bts C)]) (by kernel_rfl) (fun w I=>ma I 0 mh md rfl rfl rfl br) (ifN F (fun s3 F=>?_) (fun s3 F=>?_))))
 ·
  refine zo bT (by kernel_rfl) (fun w I=>lg (b:=decide (g.p=q) && decide (g.n=s) && decide (g.k=x) && decide (g.d=y) && decide (g.kn=z) && decide (g.op=A) && decide (g.on=B) && decide (g.t=C)) rfl rfl (by kernel_rfl) (fun w=>eq25 _ g.p g.n g.k g.d g.kn g.op g.on g.t q s x y z A B C w) (fun _=>br) (fun h=>absurd h s3)) (zp2 bT bT (fun _=>(by kernel_rfl)) (zf 3 (by kernel_rfl) (zp2 bT bT (fun _=>(by kernel_rfl)) (zf 3 (by kernel_rfl) (zp2 bT bT (fun _=>(by kernel_rfl)) (zf 1 (by kernel_rfl) (zf 4 (by kernel_rfl) (zp bT (fun _=>(by kernel_rfl)) (zh (fun w I=>aa (ah rfl (ab (rgn (by kernel_rfl) (pu bF (by kernel_rfl) (aa (aj ?_))))))))))))))))
  cases F
  exact ⟨_,Ret.r1 rfl rfl,⟨rfl,I.below⟩⟩
 refine zo bF (by kernel_rfl) (fun w I=>lg (b:=decide (g.p=q) && decide (g.n=s) && decide (g.k=x) && decide (g.d=y) && decide (g.kn=z) && decide (g.op=A) && decide (g.on=B) && decide (g.t=C)) rfl rfl (by kernel_rfl) (fun w=>eq25 _ g.p g.n g.k g.d g.kn g.op g.on g.t q s x y z A B C w) (fun h=>absurd s3 h) (fun _=>br)) (zp2 bF bF (fun _=>(by kernel_rfl)) (zq (slv e6 d8.length i1) (by kernel_rfl) (fun _=>(by kernel_rfl)) (zo (iv (d8.length:Int)) (by kernel_rfl) (fun w I=>kl (iv ((d8.length:Nat):Int)) (by kernel_rfl) br) (ifN F (fun s4 F=>?_) (fun s4 F=>?_)))))
 ·
  refine zo bT (by kernel_rfl) (fun w I=>de rfl rfl (fun _=>br) (fun h=>absurd h s4)) (zp2 bT bT (fun _=>(by kernel_rfl)) (zf 3 (by kernel_rfl) (zp2 bT bT (fun _=>(by kernel_rfl)) (zf 5 (by kernel_rfl) (zp bT (fun _=>(by kernel_rfl)) (zh (fun w I=>aa (ah rfl (ab (rgn (by kernel_rfl) (pu bF (by kernel_rfl) (aa (aj ?_)))))))))))))
  cases F
  exact ⟨_,Ret.r1 rfl rfl,⟨rfl,I.below⟩⟩
 refine zo bF (by kernel_rfl) (fun w I=>de rfl rfl (fun h=>absurd s4 h) (fun _=>br)) (zp2 bF bF (fun _=>(by kernel_rfl)) (zq (slv eO dQ.length i2) (by kernel_rfl) (fun _=>(by kernel_rfl)) (zo (iv (dQ.length:Int)) (by kernel_rfl) (fun w I=>kl (iv ((dQ.length:Nat):Int)) (by kernel_rfl) br) (ifN F (fun s5 F=>?_) (fun s5 F=>?_)))))
 ·
  refine zo bT (by kernel_rfl) (fun w I=>de rfl rfl (fun _=>br) (fun h=>absurd h s5)) (zp2 bT bT (fun _=>(by kernel_rfl)) (zf 5 (by kernel_rfl) (zp bT (fun _=>(by kernel_rfl)) (zh (fun w I=>aa (ah rfl (ab (rgn (by kernel_rfl) (pu bF (by kernel_rfl) (aa (aj ?_)))))))))))
  cases F
  exact ⟨_,Ret.r1 rfl rfl,⟨rfl,I.below⟩⟩
 refine zo bF (by kernel_rfl) (fun w I=>de rfl rfl (fun h=>absurd s5 h) (fun _=>br)) (zp2 bF bF (fun _=>(by kernel_rfl)) (zq (slv eO dQ.length i2) (by kernel_rfl) (fun _=>(by kernel_rfl)) (bt F (fun i zD F=>?_))))
 obtain ⟨D5,rfl,D6⟩:=D2.at_ bx (by decide) zD
 refine zo (.pointer (some ⟨D5,0 * 8,none⟩)) (by kernel_rfl) (fun w I=>be 0 nt md rfl rfl rfl (fa zD rfl) br) (zo (.agg (qg i).toArray) (by kernel_rfl) (fun w I=>cq I 4 (qg i) mh md rfl rfl rfl D6 br) (zo (.agg #[iv q,iv s,iv x,iv y,iv z,iv A,iv B,.string (bts C)]) (by kernel_rfl) (fun w I=>ma I 0 mh md rfl rfl rfl br) (ifN F (fun s6 F=>?_) (fun s6 F=>?_))))
 ·
  refine zo bT (by kernel_rfl) (fun w I=>lg (b:=decide (i.p=q) && decide (i.n=s) && decide (i.k=x) && decide (i.d=y) && decide (i.kn=z) && decide (i.op=A) && decide (i.on=B) && decide (i.t=C)) rfl rfl (by kernel_rfl) (fun w=>eq25 _ i.p i.n i.k i.d i.kn i.op i.on i.t q s x y z A B C w) (fun _=>br) (fun h=>absurd h s6)) (zp bT (fun _=>(by kernel_rfl)) (zh (fun w I=>aa (ah rfl (ab (rgn (by kernel_rfl) (pu bF (by kernel_rfl) (aa (aj ?_)))))))))
  cases F
  exact ⟨_,Ret.r1 rfl rfl,⟨rfl,I.below⟩⟩
 refine zo bF (by kernel_rfl) (fun w I=>lg (b:=decide (i.p=q) && decide (i.n=s) && decide (i.k=x) && decide (i.d=y) && decide (i.kn=z) && decide (i.op=A) && decide (i.on=B) && decide (i.t=C)) rfl rfl (by kernel_rfl) (fun w=>eq25 _ i.p i.n i.k i.d i.kn i.op i.on i.t q s x y z A B C w) (fun h=>absurd s6 h) (fun _=>br)) (zp bF (fun _=>(by kernel_rfl)) (zh (fun w I=>aa (ai rfl (ak (ab (rgn (by kernel_rfl) (bt F (fun D7 D8 F=>?_)))))))))
 obtain ⟨s7,s8,s9,sA,sB,sC,sD,sE,sF,sG,sH,sI,sJ,sK,sL,sM,sN,sO,sP,sQ,sR,sS,sT,sU,sV,sW,sX,sY,sZ,t0,t1,t2,t3,t4,t5,t6,t7,t8,t9,tB,tC,tD,tF,tG,dR⟩:=D7
 refine ac (co 49 _ (by kernel_rfl) (L49 _ 2 _ D8) ?_)
 intro v w
 refine xH fun tH tI GX tJ tK GY tL tM=>xF fun GZ tN tO H0=>xa fun hv=>xa fun hN=>xa fun kA=>xa fun kB=>xa fun kC=>fun kD=>?_
 dsimp only at hv hN kA kB kC kD; subst hv
 have I:=I.join hN; clear hN
 refine pu3 (.tuple #[.agg (qf s7 tH s8 tI tJ s9 tK tL sA tM sB sC sD tN sE tO sF sG sH sI sJ sK sL sM sN sO sP sQ sR sS sT sU sV sW sX sY sZ t0 t1 t2 t3 t4 t5 t6 t7 t8 t9 tB tC tD tF tG).toArray,iv dR]) (.agg (qf s7 tH s8 tI tJ s9 tK tL sA tM sB sC sD tN sE tO sF sG sH sI sJ sK sL sM sN sO sP sQ sR sS sT sU sV sW sX sY sZ t0 t1 t2 t3 t4 t5 t6 t7 t8 t9 tB tC tD tF tG).toArray) (iv dR) (by kernel_rfl) (ac (bh I _ zeroValue81 rfl fun eR w I=>ac (mb I 0 _ ml rfl rfl rfl rfl rfl rfl fun w I=>pu (iv dR) (by kernel_rfl) (aa (dn (fun ρ w=>∃ (i3:Option Nat) (kE:Nat) (tP:List Value) (i4:Option Nat) (kF:Nat) (tQ:List Value) (i5:Option Nat) (kG:Nat) (tR:List Value) (i6:Option Nat) (kH:Nat) (tT:List Value) (kI:Int) (eS:List Sp3) (eT:List Sp3) (eU:List Sp3) (kJ:Int) (kK:Int) (kL:Int) (eV:List Rc) (kM:Int) (kN:Int) (kO:Int) (kP:Int) (kQ:Int) (kR:Int) (kS:Int) (kT:Int) (kU:Int) (kV:Int) (kW:Int) (kX:Int) (kY:Int) (kZ:Int) (l0:Int) (l1:Int) (l2:Int) (l3:Int) (l4:Int) (l5:Int) (l6:Int) (l7:Int) (l8:Int) (l9:Int) (lA:Int) (lB:Int) (lC:Int) (lD:Int) (lE:Int) (lF:Int) (lG:Int) (lH:Int) (lI:Int) (lJ:Int) (lK:Int) (lL:Int) (e7:Int),cd ρ [(1,pt G),(19,pt eR),(20,iv dR),(22,iv e7)]∧Inv [] w0 w [(some G,blk [iv q,iv s,iv x,iv y,iv z,iv A,iv B,.string (bts C)] 25),(some eR,blk (qf kI i3 eS kE i4 eT kF i5 eU kG kJ kK kL i6 eV kH kM kN kO kP kQ kR kS kT kU kV kW kX kY kZ l0 l1 l2 l3 l4 l5 l6 l7 l8 l9 lA lB lC lD lE lF lG lH lI lJ lK lL) 81),(i3,blk tP 35),(i4,blk tQ 35),(i5,blk tR 35),(i6,blk tT 25)]∧(Row 3 i3 (eS.length) kE tP (al bb eS))∧(Row 3 i4 (eT.length) kF tQ (al bb eT))∧(Row 3 i5 (eU.length) kG tR (al bb eU))∧(Row 8 i6 (eV.length) kH tT (al eRc eV))∧F19j4 N q s x y z A B C dR kI eS eT eU kJ kK kL eV kM kN kO kP kQ kR kS kT kU kV kW kX kY kZ l0 l1 l2 l3 l4 l5 l6 l7 l8 l9 lA lB lC lD lE lF lG lH lI lJ lK lL e7=some r) ?_ ?_)))))
 ·
  refine rgn (by kernel_rfl) (ac (ma I 0 mu ml rfl rfl rfl (ac (ma I 5 mh md rfl rfl rfl (bt F (fun D9 DA F=>?_))))))
  obtain ⟨tU,tV,tW,tX,tY,tZ,u0,u1,u2,u3,u4,u5,u6,u7,u8,u9,uA,uB,uC,uD,uE,uF,uG,uH,uI,uJ,uK,uL,uM,uN,uO,uP,uQ,uR,uS,uT,uU,uV,uW,uX,uY,uZ,v0,v1,zE,zF,zG,zH,zI,zJ,zK,zL,lM⟩:=D9
  refine ac (co 51 _ (by kernel_rfl) (L51 _ s7 (tH.map fun b=>⟨b,0,none⟩) tI s8 (tJ.map fun b=>⟨b,0,none⟩) tK s9 (tL.map fun b=>⟨b,0,none⟩) tM sA sB sC sD (tN.map fun b=>⟨b,0,none⟩) tO sE sF sG sH sI sJ sK sL sM sN sO sP sQ sR sS sT sU sV sW sX sY sZ t0 t1 t2 t3 t4 t5 t6 t7 t8 t9 tB tC tD tF tG (⟨q,s,x,y,z,A,B,C⟩:Rc) (hG.up I) (I.rowCells 1 rfl kA) (am rfl kA.big) (am rfl kA.cap) (I.rowCells 2 rfl kB) (am rfl kB.big) (am rfl kB.cap) (I.rowCells 3 rfl kC) (am rfl kC.big) (am rfl kC.cap) (I.rowCells 4 rfl kD) (am rfl kD.big) (am rfl kD.cap) N _ DA) ?_)
  intro v w
  refine xH fun v2 v3 DB v4 v5 DC v6 v7=>xF fun DD v8 v9 DE=>xa fun hv=>xa fun hN=>xa fun zM=>xa fun zN=>xa fun zO=>fun zP=>?_
  dsimp only at hv hN zM zN zO zP; subst hv
  have I:=I.join hN; clear hN
  refine pu3 (.tuple #[.agg (qf tU v2 tV v3 v4 tW v5 v6 tX v7 tY tZ u0 v8 u1 v9 u2 u3 u4 u5 u6 u7 u8 u9 uA uB uC uD uE uF uG uH uI uJ uK uL uM uN uO uP uQ uR uS uT uU uV uW uX uY uZ v0 v1).toArray,.agg #[iv zE,iv zF,iv zG,iv zH,iv zI,iv zJ,iv zK,.string (bts zL)],iv lM]) (.agg (qf tU v2 tV v3 v4 tW v5 v6 tX v7 tY tZ u0 v8 u1 v9 u2 u3 u4 u5 u6 u7 u8 u9 uA uB uC uD uE uF uG uH uI uJ uK uL uM uN uO uP uQ uR uS uT uU uV uW uX uY uZ v0 v1).toArray) (.agg #[iv zE,iv zF,iv zG,iv zH,iv zI,iv zJ,iv zK,.string (bts zL)]) (by kernel_rfl) (pu (iv lM) (by kernel_rfl) (ac (bh I _ zeroValue25 rfl fun H1 w I=>ac (mb I 5 _ ml rfl rfl rfl rfl rfl rfl fun w I=>ac (mb I 0 _ md rfl rfl rfl rfl rfl rfl fun w I=>pu (iv lM) (by kernel_rfl) (aa (.inl ⟨rfl,⟨v2,v3,DB,v4,v5,DC,v6,v7,DD,v8,v9,DE,tU,tV,tW,tX,tY,tZ,u0,u1,u2,u3,u4,u5,u6,u7,u8,u9,uA,uB,uC,uD,uE,uF,uG,uH,uI,uJ,uK,uL,uM,uN,uO,uP,uQ,uR,uS,uT,uU,uV,uW,uX,uY,uZ,v0,v1,lM,⟨rfl,rfl,rfl,rfl,trivial⟩,I.pk [10,5,1,2,3,4] rfl rfl,(zM.to rfl rfl),(zN.to rfl rfl),(zO.to rfl rfl),(zP.to rfl rfl),F⟩⟩)))))))
 intro ρ w
 refine xP fun i3 kE tP i4 kF tQ i5 kG tR i6 kH tT kI eS eT eU=>xP fun kJ kK kL eV kM kN kO kP kQ kR kS kT kU kV kW kX=>xP fun kY kZ l0 l1 l2 l3 l4 l5 l6 l7 l8 l9 lA lB lC lD=>xH fun lE lF lG lH lI lJ lK lL=>xO fun e7=>xa fun hag=>xa fun I=>xa fun vA=>xa fun vB=>xa fun vC=>xa fun vD=>fun F=>?_
 obtain ⟨ρ,rfl⟩:=hag.form; clear hag
 unfold F19j4 at F
 refine ab (rgn (by kernel_rfl) (ac (ma I 1 mu ml rfl rfl rfl (bt F (fun DF DG F=>?_)))))
 obtain ⟨a8,a9,aA,aB,aC,aD,aE,aF,aG,aH,aI,aJ,aK,aL,aM,aN,aO,aP,aQ,aR,aS,aT,aU,aV,aW,aX,aY,aZ,b0,b1,b2,b3,b4,b5,b6,b7,b8,b9,bA,bB,bC,bD,bE,bG,eW,eX,eY,dU,eZ,d9,e8⟩:=DF
 refine ac (co 53 _ (by kernel_rfl) (L53 _ kI (i3.map fun b=>⟨b,0,none⟩) kE eS (i4.map fun b=>⟨b,0,none⟩) kF eT (i5.map fun b=>⟨b,0,none⟩) kG eU kJ kK kL (i6.map fun b=>⟨b,0,none⟩) kH eV kM kN kO kP kQ kR kS kT kU kV kW kX kY kZ l0 l1 l2 l3 l4 l5 l6 l7 l8 l9 lA lB lC lD lE lF lG lH lI lJ lK lL 3 2 (hG.up I) (I.rowCells 2 rfl vA) (am rfl vA.big) (am rfl vA.cap) (I.rowCells 3 rfl vB) (am rfl vB.big) (am rfl vB.cap) (I.rowCells 4 rfl vC) (am rfl vC.big) (am rfl vC.cap) (I.rowCells 5 rfl vD) (am rfl vD.big) (am rfl vD.cap) N _ DG) ?_)
 intro v w
 refine xH fun bH dA zQ bI dB zR bJ dC=>xF fun zS bK dD zT=>xD fun dV e9=>xO fun DH=>xa fun hv=>xa fun hN=>xa fun W=>xa fun X=>xa fun Y=>xa fun Z=>fun eA=>?_
 dsimp only at hv hN W X Y Z eA; subst hv
 have I:=I.join hN; clear hN
 refine pu3 (.tuple #[.agg (qf a8 bH a9 dA bI aA dB bJ aB dC aC aD aE bK aF dD aG aH aI aJ aK aL aM aN aO aP aQ aR aS aT aU aV aW aX aY aZ b0 b1 b2 b3 b4 b5 b6 b7 b8 b9 bA bB bC bD bE bG).toArray,.agg #[iv eW,iv eX,iv eY,iv dU,iv eZ,slv dV d9.length e9],iv e8]) (.agg (qf a8 bH a9 dA bI aA dB bJ aB dC aC aD aE bK aF dD aG aH aI aJ aK aL aM aN aO aP aQ aR aS aT aU aV aW aX aY aZ b0 b1 b2 b3 b4 b5 b6 b7 b8 b9 bA bB bC bD bE bG).toArray) (.agg #[iv eW,iv eX,iv eY,iv dU,iv eZ,slv dV d9.length e9]) (by kernel_rfl) (pu (iv e8) (by kernel_rfl) (ac (bh I _ zeroValue83 rfl fun f0 w I=>ac (mb I 7 _ ml rfl rfl rfl rfl rfl rfl fun w I=>ac (mb I 0 _ zs83 rfl rfl rfl rfl rfl rfl fun w I=>pu (iv e8) (by kernel_rfl) (aa (dn (fun ρ w=>∃ (J:Nat) (f1:Option Nat) (i7:Nat) (vF:List Value) (f2:Option Nat) (i8:Nat) (vG:List Value) (f3:Option Nat) (i9:Nat) (vH:List Value) (f4:Option Nat) (iA:Nat) (vI:List Value) (iB:Int) (eC:List Sp3) (eD:List Sp3) (eE:List Sp3) (iC:Int) (iD:Int) (iE:Int) (eF:List Rc) (iF:Int) (iG:Int) (iH:Int) (iI:Int) (iJ:Int) (iK:Int) (iL:Int) (iM:Int) (iN:Int) (iO:Int) (iP:Int) (iQ:Int) (iR:Int) (iS:Int) (iT:Int) (iU:Int) (iV:Int) (iW:Int) (iX:Int) (iY:Int) (iZ:Int) (j0:Int) (j1:Int) (j2:Int) (j3:Int) (j4:Int) (j5:Int) (j6:Int) (j7:Int) (j8:Int) (j9:Int) (jA:Int) (jB:Int) (jC:Int) (jD:Int) (jE:Int) (jF:Int),cd ρ [(1,pt G),(19,pt eR),(20,iv dR),(22,iv e7),(23,pt f0),(24,iv e8),(25,pt J),(26,iv jF)]∧Inv [] w0 w [(some G,blk [iv q,iv s,iv x,iv y,iv z,iv A,iv B,.string (bts C)] 25),(some eR,blk (qf a8 bH a9 dA bI aA dB bJ aB dC aC aD aE bK aF dD aG aH aI aJ aK aL aM aN aO aP aQ aR aS aT aU aV aW aX aY aZ b0 b1 b2 b3 b4 b5 b6 b7 b8 b9 bA bB bC bD bE bG) 81),(bH,blk zQ 35),(bI,blk zR 35),(bJ,blk zS 35),(bK,blk zT 25),(some f0,blk [iv eW,iv eX,iv eY,iv dU,iv eZ,slv dV d9.length e9] 83),(dV,blk DH 25),(some J,blk (qf iB f1 eC i7 f2 eD i8 f3 eE i9 iC iD iE f4 eF iA iF iG iH iI iJ iK iL iM iN iO iP iQ iR iS iT iU iV iW iX iY iZ j0 j1 j2 j3 j4 j5 j6 j7 j8 j9 jA jB jC jD jE) 81),(f1,blk vF 35),(f2,blk vG 35),(f3,blk vH 35),(f4,blk vI 25)]∧(Row 3 f1 (eC.length) i7 vF (al bb eC))∧(Row 3 f2 (eD.length) i8 vG (al bb eD))∧(Row 3 f3 (eE.length) i9 vH (al bb eE))∧(Row 8 f4 (eF.length) iA vI (al eRc eF))∧F19j5 N q s x y z A B C dR e7 a8 a9 aA aB aC aD aE aF aG aH aI aJ aK aL aM aN aO aP aQ aR aS aT aU aV aW aX aY aZ b0 b1 b2 b3 b4 b5 b6 b7 b8 b9 bA bB bC bD bE bG eW eX eY dU eZ d9 e8 iB eC eD eE iC iD iE eF iF iG iH iI iJ iK iL iM iN iO iP iQ iR iS iT iU iV iW iX iY iZ j0 j1 j2 j3 j4 j5 j6 j7 j8 j9 jA jB jC jD jE jF=some r) ?_ ?_)))))))
 ·
  refine rgn (by kernel_rfl) (bt F (fun DI DJ F=>?_))
  obtain ⟨vJ,vK,vL,vM,vN,vO,vP,vQ,vR,vS,vT,vU,vV,vW,vX,vY,vZ,w1,w2,w3,w4,w5,w6,w7,w9,wA,wB,wC,wD,wE,wF,wG,wH,wI,wJ,wK,wL,wM,wN,wO,wP,wQ,wR,wS,lN⟩:=DI
  refine ac (co 49 _ (by kernel_rfl) (L49 _ 3 _ DJ) ?_)
  intro v w
  refine xH fun wT wU DK wV wW DL wX wY=>xF fun DM wZ x0 DN=>xa fun hv=>xa fun hN=>xa fun zU=>xa fun zV=>xa fun zW=>fun zX=>?_
  dsimp only at hv hN zU zV zW zX; subst hv
  have I:=I.join hN; clear hN
  refine pu3 (.tuple #[.agg (qf vJ wT vK wU wV vL wW wX vM wY vN vO vP wZ vQ x0 vR vS vT vU vV vW vX vY vZ w1 w2 w3 w4 w5 w6 w7 w9 wA wB wC wD wE wF wG wH wI wJ wK wL wM wN wO wP wQ wR wS).toArray,iv lN]) (.agg (qf vJ wT vK wU wV vL wW wX vM wY vN vO vP wZ vQ x0 vR vS vT vU vV vW vX vY vZ w1 w2 w3 w4 w5 w6 w7 w9 wA wB wC wD wE wF wG wH wI wJ wK wL wM wN wO wP wQ wR wS).toArray) (iv lN) (by kernel_rfl) (ac (bh I _ zeroValue81 rfl fun DO w I=>ac (mb I 0 _ ml rfl rfl rfl rfl rfl rfl fun w I=>pu (iv lN) (by kernel_rfl) (aa (.inl ⟨rfl,⟨DO,wT,wU,DK,wV,wW,DL,wX,wY,DM,wZ,x0,DN,vJ,vK,vL,vM,vN,vO,vP,vQ,vR,vS,vT,vU,vV,vW,vX,vY,vZ,w1,w2,w3,w4,w5,w6,w7,w9,wA,wB,wC,wD,wE,wF,wG,wH,wI,wJ,wK,wL,wM,wN,wO,wP,wQ,wR,wS,lN,⟨rfl,rfl,rfl,rfl,rfl,rfl,rfl,rfl,trivial⟩,I.pk [11,12,6,7,8,9,5,10,0,1,2,3,4] rfl rfl,(zU.to rfl rfl),(zV.to rfl rfl),(zW.to rfl rfl),(zX.to rfl rfl),F⟩⟩)))))
 intro ρ w
 refine xP fun J f1 i7 vF f2 i8 vG f3 i9 vH f4 iA vI iB eC eD=>xP fun eE iC iD iE eF iF iG iH iI iJ iK iL iM iN iO iP=>xP fun iQ iR iS iT iU iV iW iX iY iZ j0 j1 j2 j3 j4 j5=>xH fun j6 j7 j8 j9 jA jB jC jD=>xD fun jE jF=>xa fun hag=>xa fun I=>xa fun f5=>xa fun f6=>xa fun f7=>xa fun f8=>fun F=>?_
 obtain ⟨ρ,rfl⟩:=hag.form; clear hag
 unfold F19j5 at F
 refine ab (rgn (by kernel_rfl) (ac (ma I 8 mu ml rfl rfl rfl (ac (ma I 6 zi83 zs83 rfl rfl rfl (bindSE F (fun DP DQ F=>?_) (fun DR DS F=>?_)))))))
 ·
  obtain ⟨zY,zZ,A0,A1,A2,A3,A4,A5,A6,A7,A8,A9,AA,AB,AC,AD,AE,AF,AG,AH,AI,AJ,AK,AL,AM,AN,AO,AP,AQ,AR,AS,AT,AU,AV,AW,AX,AY,AZ,B0,B1,B2,B3,B4,B5,lO⟩:=DP
  refine ac (co 55 _ (by kernel_rfl) (L55 _ iB (f1.map fun b=>⟨b,0,none⟩) i7 eC (f2.map fun b=>⟨b,0,none⟩) i8 eD (f3.map fun b=>⟨b,0,none⟩) i9 eE iC iD iE (f4.map fun b=>⟨b,0,none⟩) iA eF iF iG iH iI iJ iK iL iM iN iO iP iQ iR iS iT iU iV iW iX iY iZ j0 j1 j2 j3 j4 j5 j6 j7 j8 j9 jA jB jC jD jE eW eX eY dU eZ (dV.map fun b=>⟨b,0,none⟩) e9 d9 (hG.up I) (I.rowCells 9 rfl f5) (am rfl f5.big) (am rfl f5.cap) (I.rowCells 10 rfl f6) (am rfl f6.big) (am rfl f6.cap) (I.rowCells 11 rfl f7) (am rfl f7.big) (am rfl f7.cap) (I.rowCells 12 rfl f8) (am rfl f8.big) (am rfl f8.cap) (I.rowCells 7 rfl eA) (am rfl eA.big) (am rfl eA.cap) N _ DQ) ?_)
  intro v w
  refine xH fun B6 B7 H2 B8 B9 H3 BA BB=>xF fun H4 BC BD H5=>xa fun hv=>xa fun hN=>xa fun DT=>xa fun DU=>xa fun DV=>fun DW=>?_
  dsimp only at hv hN DT DU DV DW; subst hv
  have I:=I.join hN; clear hN
  refine pu3 (.tuple #[.agg (qf zY B6 zZ B7 B8 A0 B9 BA A1 BB A2 A3 A4 BC A5 BD A6 A7 A8 A9 AA AB AC AD AE AF AG AH AI AJ AK AL AM AN AO AP AQ AR AS AT AU AV AW AX AY AZ B0 B1 B2 B3 B4 B5).toArray,.slice none 0 0,iv lO]) (.agg (qf zY B6 zZ B7 B8 A0 B9 BA A1 BB A2 A3 A4 BC A5 BD A6 A7 A8 A9 AA AB AC AD AE AF AG AH AI AJ AK AL AM AN AO AP AQ AR AS AT AU AV AW AX AY AZ B0 B1 B2 B3 B4 B5).toArray) (.slice none 0 0) (by kernel_rfl) (pu (iv lO) (by kernel_rfl) (ac (mb I 12 _ ml rfl rfl rfl rfl rfl rfl fun w I=>pu2 (.slice none 0 0) (iv lO) (by kernel_rfl) (aa (ab (ab (rgn (by kernel_rfl) (pu (iv dR) (by kernel_rfl) (ifN F (fun x1 F=>?_) (fun x1 F=>?_))))))))))
  ·
   refine ac (de rfl rfl (fun _=>?_) (fun h=>absurd h x1))
   refine pu bT (by kernel_rfl) (sf 2 (by kernel_rfl) (pu2 bT bT (by kernel_rfl) (sf 2 (by kernel_rfl) (pu2 bT bT (by kernel_rfl) (sf 2 (by kernel_rfl) (pu2 bT bT (by kernel_rfl) (sf 2 (by kernel_rfl) (pu2 bT bT (by kernel_rfl) (sf 3 (by kernel_rfl) (pu2 bT bT (by kernel_rfl) (sf 4 (by kernel_rfl) (pu2 bT bT (by kernel_rfl) (of_ (by kernel_rfl) (sf 2 (by kernel_rfl) (pu2 bT bT (by kernel_rfl) (sf 5 (by kernel_rfl) (pu2 bT bT (by kernel_rfl) (sf 5 (by kernel_rfl) (pu bT (by kernel_rfl) (aa (ah rfl (ab (rgn (by kernel_rfl) (pu bF (by kernel_rfl) (aa (aj ?_))))))))))))))))))))))))))
   cases F
   exact ⟨_,Ret.r1 rfl rfl,⟨rfl,I.below⟩⟩
  refine ac (de rfl rfl (fun h=>absurd x1 h) (fun _=>pu bF (by kernel_rfl) (pup (iv e7) (by kernel_rfl) (ifN F (fun x2 F=>?_) (fun x2 F=>?_)))))
  ·
   refine aw (by kernel_rfl) (de rfl rfl (fun _=>?_) (fun h=>absurd h x2))
   refine pu2 bT bT (by kernel_rfl) (sf 2 (by kernel_rfl) (pu2 bT bT (by kernel_rfl) (sf 2 (by kernel_rfl) (pu2 bT bT (by kernel_rfl) (sf 2 (by kernel_rfl) (pu2 bT bT (by kernel_rfl) (sf 3 (by kernel_rfl) (pu2 bT bT (by kernel_rfl) (sf 4 (by kernel_rfl) (pu2 bT bT (by kernel_rfl) (sf 3 (by kernel_rfl) (pu2 bT bT (by kernel_rfl) (sf 5 (by kernel_rfl) (pu2 bT bT (by kernel_rfl) (sf 5 (by kernel_rfl) (pu bT (by kernel_rfl) (aa (ah rfl (ab (rgn (by kernel_rfl) (pu bF (by kernel_rfl) (aa (aj ?_)))))))))))))))))))))))
   cases F
   exact ⟨_,Ret.r1 rfl rfl,⟨rfl,I.below⟩⟩
  refine aw (by kernel_rfl) (de rfl rfl (fun h=>absurd x2 h) (fun _=>pu2 bF bF (by kernel_rfl) (pup (iv e8) (by kernel_rfl) (ifN F (fun x3 F=>?_) (fun x3 F=>?_)))))
  ·
   refine aw (by kernel_rfl) (de rfl rfl (fun _=>?_) (fun h=>absurd h x3))
   refine pu2 bT bT (by kernel_rfl) (sf 2 (by kernel_rfl) (pu2 bT bT (by kernel_rfl) (sf 2 (by kernel_rfl) (pu2 bT bT (by kernel_rfl) (sf 3 (by kernel_rfl) (pu2 bT bT (by kernel_rfl) (sf 4 (by kernel_rfl) (pu2 bT bT (by kernel_rfl) (sf 3 (by kernel_rfl) (pu2 bT bT (by kernel_rfl) (sf 5 (by kernel_rfl) (pu2 bT bT (by kernel_rfl) (sf 5 (by kernel_rfl) (pu bT (by kernel_rfl) (aa (ah rfl (ab (rgn (by kernel_rfl) (pu bF (by kernel_rfl) (aa (aj ?_)))))))))))))))))))))
   cases F
   exact ⟨_,Ret.r1 rfl rfl,⟨rfl,I.below⟩⟩
  refine aw (by kernel_rfl) (de rfl rfl (fun h=>absurd x3 h) (fun _=>pu2 bF bF (by kernel_rfl) (pup (iv jF) (by kernel_rfl) (ifN F (fun x4 F=>?_) (fun x4 F=>?_)))))
  ·
   refine aw (by kernel_rfl) (de rfl rfl (fun _=>?_) (fun h=>absurd h x4))
   refine pu2 bT bT (by kernel_rfl) (sf 2 (by kernel_rfl) (pu2 bT bT (by kernel_rfl) (sf 3 (by kernel_rfl) (pu2 bT bT (by kernel_rfl) (sf 4 (by kernel_rfl) (pu2 bT bT (by kernel_rfl) (sf 3 (by kernel_rfl) (pu2 bT bT (by kernel_rfl) (sf 5 (by kernel_rfl) (pu2 bT bT (by kernel_rfl) (sf 5 (by kernel_rfl) (pu bT (by kernel_rfl) (aa (ah rfl (ab (rgn (by kernel_rfl) (pu bF (by kernel_rfl) (aa (aj ?_)))))))))))))))))))
   cases F
   exact ⟨_,Ret.r1 rfl rfl,⟨rfl,I.below⟩⟩
  refine aw (by kernel_rfl) (de rfl rfl (fun h=>absurd x4 h) (fun _=>pu2 bF bF (by kernel_rfl) (pup (iv lO) (by kernel_rfl) (ifN F (fun x5 F=>?_) (fun x5 F=>?_)))))
  ·
   refine aw (by kernel_rfl) (de rfl rfl (fun _=>?_) (fun h=>absurd h x5))
   refine pu2 bT bT (by kernel_rfl) (sf 3 (by kernel_rfl) (pu2 bT bT (by kernel_rfl) (sf 4 (by kernel_rfl) (pu2 bT bT (by kernel_rfl) (sf 3 (by kernel_rfl) (pu2 bT bT (by kernel_rfl) (sf 5 (by kernel_rfl) (pu2 bT bT (by kernel_rfl) (sf 5 (by kernel_rfl) (pu bT (by kernel_rfl) (aa (ah rfl (ab (rgn (by kernel_rfl) (pu bF (by kernel_rfl) (aa (aj ?_)))))))))))))))))
   cases F
   exact ⟨_,Ret.r1 rfl rfl,⟨rfl,I.below⟩⟩
  refine aw (by kernel_rfl) (de rfl rfl (fun h=>absurd x5 h) (fun _=>pu2 bF bF (by kernel_rfl) (pup (.pointer (some ⟨f0,3,none⟩)) (by kernel_rfl) (aw (by kernel_rfl) (ag I 10 (iv dU) zi3 rfl rfl rfl (ifN F (fun x6 F=>?_) (fun x6 F=>?_)))))))
  ·
   refine aw (by kernel_rfl) (de rfl rfl (fun _=>?_) (fun h=>absurd h x6))
   refine pu2 bT bT (by kernel_rfl) (sf 4 (by kernel_rfl) (pu2 bT bT (by kernel_rfl) (sf 3 (by kernel_rfl) (pu2 bT bT (by kernel_rfl) (sf 5 (by kernel_rfl) (pu2 bT bT (by kernel_rfl) (sf 5 (by kernel_rfl) (pu bT (by kernel_rfl) (aa (ah rfl (ab (rgn (by kernel_rfl) (pu bF (by kernel_rfl) (aa (aj ?_)))))))))))))))
   cases F
   exact ⟨_,Ret.r1 rfl rfl,⟨rfl,I.below⟩⟩
  refine aw (by kernel_rfl) (de rfl rfl (fun h=>absurd x6 h) (fun _=>pu2 bF bF (by kernel_rfl) (pup (.pointer (some ⟨f0,5,none⟩)) (by kernel_rfl) (aw (by kernel_rfl) (ag I 10 (slv dV d9.length e9) mv rfl rfl rfl (pup (iv ((d9.length:Nat):Int)) (by kernel_rfl) (ifN F (fun x7 F=>?_) (fun x7 F=>?_))))))))
  ·
   refine aw (by kernel_rfl) (de rfl rfl (fun _=>?_) (fun h=>absurd h x7))
   refine pu2 bT bT (by kernel_rfl) (sf 3 (by kernel_rfl) (pu2 bT bT (by kernel_rfl) (sf 5 (by kernel_rfl) (pu2 bT bT (by kernel_rfl) (sf 5 (by kernel_rfl) (pu bT (by kernel_rfl) (aa (ah rfl (ab (rgn (by kernel_rfl) (pu bF (by kernel_rfl) (aa (aj ?_)))))))))))))
   cases F
   exact ⟨_,Ret.r1 rfl rfl,⟨rfl,I.below⟩⟩
  refine aw (by kernel_rfl) (de rfl rfl (fun h=>absurd x7 h) (fun _=>pu2 bF bF (by kernel_rfl) (pup (.slice none 0 0) (by kernel_rfl) (pup (iv ((0:Nat):Int)) (by kernel_rfl) (aw (by kernel_rfl) (de rfl rfl (fun _=>?_) (fun h=>absurd h (by decide))))))))
  refine pu2 bT bT (by kernel_rfl) (sf 5 (by kernel_rfl) (pu2 bT bT (by kernel_rfl) (sf 5 (by kernel_rfl) (pu bT (by kernel_rfl) (aa (ah rfl (ab (rgn (by kernel_rfl) (pu bF (by kernel_rfl) (aa (aj ?_)))))))))))
  cases F
  exact ⟨_,Ret.r1 rfl rfl,⟨rfl,I.below⟩⟩
 obtain ⟨bL,bM,bN,bO,bP,bQ,bR,bS,bU,bV,bW,bX,bY,bZ,c0,c1,c2,c4,c5,c6,c7,c8,a0,cA,cB,cC,cD,cE,cF,cG,cH,cI,cJ,cK,cL,cM,cN,cO,cP,cQ,cR,cS,cT,cU,o,lP⟩:=DR
 refine ac (co 55 _ (by kernel_rfl) (L55 _ iB (f1.map fun b=>⟨b,0,none⟩) i7 eC (f2.map fun b=>⟨b,0,none⟩) i8 eD (f3.map fun b=>⟨b,0,none⟩) i9 eE iC iD iE (f4.map fun b=>⟨b,0,none⟩) iA eF iF iG iH iI iJ iK iL iM iN iO iP iQ iR iS iT iU iV iW iX iY iZ j0 j1 j2 j3 j4 j5 j6 j7 j8 j9 jA jB jC jD jE eW eX eY dU eZ (dV.map fun b=>⟨b,0,none⟩) e9 d9 (hG.up I) (I.rowCells 9 rfl f5) (am rfl f5.big) (am rfl f5.cap) (I.rowCells 10 rfl f6) (am rfl f6.big) (am rfl f6.cap) (I.rowCells 11 rfl f7) (am rfl f7.big) (am rfl f7.cap) (I.rowCells 12 rfl f8) (am rfl f8.big) (am rfl f8.cap) (I.rowCells 7 rfl eA) (am rfl eA.big) (am rfl eA.cap) N _ DS) ?_)
 intro v w
 refine xP fun P cW jG Q cX jH R cY jI S cZ jJ cV dW eG DX=>xa fun hv=>xa fun hN=>xa fun a1=>xa fun a2=>xa fun a3=>xa fun a4=>fun a5=>?_
 dsimp only at hv hN a1 a2 a3 a4 a5; subst hv
 have I:=I.join hN; clear hN
 refine pu3 (.tuple #[.agg (qf bL P bM cW Q bN cX R bO cY bP bQ bR S bS cZ bU bV bW bX bY bZ c0 c1 c2 c4 c5 c6 c7 c8 a0 cA cB cC cD cE cF cG cH cI cJ cK cL cM cN cO cP cQ cR cS cT cU).toArray,.slice (some ⟨cV,0,none⟩) 1 1,iv lP]) (.agg (qf bL P bM cW Q bN cX R bO cY bP bQ bR S bS cZ bU bV bW bX bY bZ c0 c1 c2 c4 c5 c6 c7 c8 a0 cA cB cC cD cE cF cG cH cI cJ cK cL cM cN cO cP cQ cR cS cT cU).toArray) (.slice (some ⟨cV,0,none⟩) 1 1) (by kernel_rfl) (pu (iv lP) (by kernel_rfl) (ac (mb I 14 _ ml rfl rfl rfl rfl rfl rfl fun w I=>pu2 (.slice (some ⟨cV,0,none⟩) 1 1) (iv lP) (by kernel_rfl) (aa (dn (fun ρ w=>cd ρ [(1,pt G),(19,pt eR),(25,pt J),(27,.slice (some ⟨cV,0,none⟩) 1 1)]∧Inv [] w0 w [(some G,blk [iv q,iv s,iv x,iv y,iv z,iv A,iv B,.string (bts C)] 25),(some eR,blk (qf a8 bH a9 dA bI aA dB bJ aB dC aC aD aE bK aF dD aG aH aI aJ aK aL aM aN aO aP aQ aR aS aT aU aV aW aX aY aZ b0 b1 b2 b3 b4 b5 b6 b7 b8 b9 bA bB bC bD bE bG) 81),(bH,blk zQ 35),(bI,blk zR 35),(bJ,blk zS 35),(bK,blk zT 25),(some J,blk (qf bL P bM cW Q bN cX R bO cY bP bQ bR S bS cZ bU bV bW bX bY bZ c0 c1 c2 c4 c5 c6 c7 c8 a0 cA cB cC cD cE cF cG cH cI cJ cK cL cM cN cO cP cQ cR cS cT cU) 81),(P,blk jG 35),(Q,blk jH 35),(R,blk jI 35),(S,blk jJ 25),(some cV,blk [iv o.1,iv o.2.1,iv o.2.2.1,iv o.2.2.2.1,iv o.2.2.2.2.1,slv dW o.2.2.2.2.2.length eG] 83),(dW,blk DX 25)]∧F19j6 N q s x y z A B C a8 a9 aA aB aC aD aE aF aG aH aI aJ aK aL aM aN aO aP aQ aR aS aT aU aV aW aX aY aZ b0 b1 b2 b3 b4 b5 b6 b7 b8 b9 bA bB bC bD bE bG bL bM bN bO bP bQ bR bS bU bV bW bX bY bZ c0 c1 c2 c4 c5 c6 c7 c8 a0 cA cB cC cD cE cF cG cH cI cJ cK cL cM cN cO cP cQ cR cS cT cU o=some r) ?_ ?_)))))
 ·
  refine ab (rgn (by kernel_rfl) (pu (iv dR) (by kernel_rfl) (ifN F (fun x8 F=>?_) (fun x8 F=>?_))))
  ·
   refine ac (de rfl rfl (fun _=>?_) (fun h=>absurd h x8))
   refine pu bT (by kernel_rfl) (sf 2 (by kernel_rfl) (pu2 bT bT (by kernel_rfl) (sf 2 (by kernel_rfl) (pu2 bT bT (by kernel_rfl) (sf 2 (by kernel_rfl) (pu2 bT bT (by kernel_rfl) (sf 2 (by kernel_rfl) (pu2 bT bT (by kernel_rfl) (sf 3 (by kernel_rfl) (pu2 bT bT (by kernel_rfl) (sf 4 (by kernel_rfl) (pu2 bT bT (by kernel_rfl) (of_ (by kernel_rfl) (sf 2 (by kernel_rfl) (pu2 bT bT (by kernel_rfl) (sf 5 (by kernel_rfl) (pu2 bT bT (by kernel_rfl) (sf 5 (by kernel_rfl) (pu bT (by kernel_rfl) (aa (ah rfl (ab (rgn (by kernel_rfl) (pu bF (by kernel_rfl) (aa (aj ?_))))))))))))))))))))))))))
   cases F
   exact ⟨_,Ret.r1 rfl rfl,⟨rfl,I.below⟩⟩
  refine ac (de rfl rfl (fun h=>absurd x8 h) (fun _=>pu bF (by kernel_rfl) (pup (iv e7) (by kernel_rfl) (ifN F (fun x9 F=>?_) (fun x9 F=>?_)))))
  ·
   refine aw (by kernel_rfl) (de rfl rfl (fun _=>?_) (fun h=>absurd h x9))
   refine pu2 bT bT (by kernel_rfl) (sf 2 (by kernel_rfl) (pu2 bT bT (by kernel_rfl) (sf 2 (by kernel_rfl) (pu2 bT bT (by kernel_rfl) (sf 2 (by kernel_rfl) (pu2 bT bT (by kernel_rfl) (sf 3 (by kernel_rfl) (pu2 bT bT (by kernel_rfl) (sf 4 (by kernel_rfl) (pu2 bT bT (by kernel_rfl) (sf 3 (by kernel_rfl) (pu2 bT bT (by kernel_rfl) (sf 5 (by kernel_rfl) (pu2 bT bT (by kernel_rfl) (sf 5 (by kernel_rfl) (pu bT (by kernel_rfl) (aa (ah rfl (ab (rgn (by kernel_rfl) (pu bF (by kernel_rfl) (aa (aj ?_)))))))))))))))))))))))
   cases F
   exact ⟨_,Ret.r1 rfl rfl,⟨rfl,I.below⟩⟩
  refine aw (by kernel_rfl) (de rfl rfl (fun h=>absurd x9 h) (fun _=>pu2 bF bF (by kernel_rfl) (pup (iv e8) (by kernel_rfl) (ifN F (fun xA F=>?_) (fun xA F=>?_)))))
  ·
   refine aw (by kernel_rfl) (de rfl rfl (fun _=>?_) (fun h=>absurd h xA))
   refine pu2 bT bT (by kernel_rfl) (sf 2 (by kernel_rfl) (pu2 bT bT (by kernel_rfl) (sf 2 (by kernel_rfl) (pu2 bT bT (by kernel_rfl) (sf 3 (by kernel_rfl) (pu2 bT bT (by kernel_rfl) (sf 4 (by kernel_rfl) (pu2 bT bT (by kernel_rfl) (sf 3 (by kernel_rfl) (pu2 bT bT (by kernel_rfl) (sf 5 (by kernel_rfl) (pu2 bT bT (by kernel_rfl) (sf 5 (by kernel_rfl) (pu bT (by kernel_rfl) (aa (ah rfl (ab (rgn (by kernel_rfl) (pu bF (by kernel_rfl) (aa (aj ?_)))))))))))))))))))))
   cases F
   exact ⟨_,Ret.r1 rfl rfl,⟨rfl,I.below⟩⟩
  refine aw (by kernel_rfl) (de rfl rfl (fun h=>absurd xA h) (fun _=>pu2 bF bF (by kernel_rfl) (pup (iv jF) (by kernel_rfl) (ifN F (fun xB F=>?_) (fun xB F=>?_)))))
  ·
   refine aw (by kernel_rfl) (de rfl rfl (fun _=>?_) (fun h=>absurd h xB))
   refine pu2 bT bT (by kernel_rfl) (sf 2 (by kernel_rfl) (pu2 bT bT (by kernel_rfl) (sf 3 (by kernel_rfl) (pu2 bT bT (by kernel_rfl) (sf 4 (by kernel_rfl) (pu2 bT bT (by kernel_rfl) (sf 3 (by kernel_rfl) (pu2 bT bT (by kernel_rfl) (sf 5 (by kernel_rfl) (pu2 bT bT (by kernel_rfl) (sf 5 (by kernel_rfl) (pu bT (by kernel_rfl) (aa (ah rfl (ab (rgn (by kernel_rfl) (pu bF (by kernel_rfl) (aa (aj ?_)))))))))))))))))))
   cases F
   exact ⟨_,Ret.r1 rfl rfl,⟨rfl,I.below⟩⟩
  refine aw (by kernel_rfl) (de rfl rfl (fun h=>absurd xB h) (fun _=>pu2 bF bF (by kernel_rfl) (pup (iv lP) (by kernel_rfl) (ifN F (fun xC F=>?_) (fun xC F=>?_)))))
  ·
   refine aw (by kernel_rfl) (de rfl rfl (fun _=>?_) (fun h=>absurd h xC))
   refine pu2 bT bT (by kernel_rfl) (sf 3 (by kernel_rfl) (pu2 bT bT (by kernel_rfl) (sf 4 (by kernel_rfl) (pu2 bT bT (by kernel_rfl) (sf 3 (by kernel_rfl) (pu2 bT bT (by kernel_rfl) (sf 5 (by kernel_rfl) (pu2 bT bT (by kernel_rfl) (sf 5 (by kernel_rfl) (pu bT (by kernel_rfl) (aa (ah rfl (ab (rgn (by kernel_rfl) (pu bF (by kernel_rfl) (aa (aj ?_)))))))))))))))))
   cases F
   exact ⟨_,Ret.r1 rfl rfl,⟨rfl,I.below⟩⟩
  refine aw (by kernel_rfl) (de rfl rfl (fun h=>absurd xC h) (fun _=>pu2 bF bF (by kernel_rfl) (pup (.pointer (some ⟨f0,3,none⟩)) (by kernel_rfl) (aw (by kernel_rfl) (ag I 12 (iv dU) zi3 rfl rfl rfl (ifN F (fun xD F=>?_) (fun xD F=>?_)))))))
  ·
   refine aw (by kernel_rfl) (de rfl rfl (fun _=>?_) (fun h=>absurd h xD))
   refine pu2 bT bT (by kernel_rfl) (sf 4 (by kernel_rfl) (pu2 bT bT (by kernel_rfl) (sf 3 (by kernel_rfl) (pu2 bT bT (by kernel_rfl) (sf 5 (by kernel_rfl) (pu2 bT bT (by kernel_rfl) (sf 5 (by kernel_rfl) (pu bT (by kernel_rfl) (aa (ah rfl (ab (rgn (by kernel_rfl) (pu bF (by kernel_rfl) (aa (aj ?_)))))))))))))))
   cases F
   exact ⟨_,Ret.r1 rfl rfl,⟨rfl,I.below⟩⟩
  refine aw (by kernel_rfl) (de rfl rfl (fun h=>absurd xD h) (fun _=>pu2 bF bF (by kernel_rfl) (pup (.pointer (some ⟨f0,5,none⟩)) (by kernel_rfl) (aw (by kernel_rfl) (ag I 12 (slv dV d9.length e9) mv rfl rfl rfl (pup (iv ((d9.length:Nat):Int)) (by kernel_rfl) (ifN F (fun xE F=>?_) (fun xE F=>?_))))))))
  ·
   refine aw (by kernel_rfl) (de rfl rfl (fun _=>?_) (fun h=>absurd h xE))
   refine pu2 bT bT (by kernel_rfl) (sf 3 (by kernel_rfl) (pu2 bT bT (by kernel_rfl) (sf 5 (by kernel_rfl) (pu2 bT bT (by kernel_rfl) (sf 5 (by kernel_rfl) (pu bT (by kernel_rfl) (aa (ah rfl (ab (rgn (by kernel_rfl) (pu bF (by kernel_rfl) (aa (aj ?_)))))))))))))
   cases F
   exact ⟨_,Ret.r1 rfl rfl,⟨rfl,I.below⟩⟩
  refine aw (by kernel_rfl) (de rfl rfl (fun h=>absurd xE h) (fun _=>pu2 bF bF (by kernel_rfl) (pup (.slice (some ⟨cV,0,none⟩) 1 1) (by kernel_rfl) (pup (iv ((1:Nat):Int)) (by kernel_rfl) (aw (by kernel_rfl) (de rfl rfl (fun h=>absurd (by decide) h) (fun _=>pu2 bF bF (by kernel_rfl) (pup (.slice (some ⟨cV,0,none⟩) 1 1) (by kernel_rfl) (aw (by kernel_rfl) (lj 0 0 zu100 zs83 rfl rfl (by decide) rfl (pup (.pointer (some ⟨cV,3,none⟩)) (by kernel_rfl) (aw (by kernel_rfl) (ag I 4 (iv o.2.2.2.1) zi3 rfl rfl rfl (ifN F (fun xF F=>?_) (fun xF F=>?_)))))))))))))))
  ·
   refine aw (by kernel_rfl) (de rfl rfl (fun _=>?_) (fun h=>absurd h xF))
   refine pu2 bT bT (by kernel_rfl) (sf 5 (by kernel_rfl) (pu bT (by kernel_rfl) (aa (ah rfl (ab (rgn (by kernel_rfl) (pu bF (by kernel_rfl) (aa (aj ?_)))))))))
   cases F
   exact ⟨_,Ret.r1 rfl rfl,⟨rfl,I.below⟩⟩
  refine aw (by kernel_rfl) (de rfl rfl (fun h=>absurd xF h) (fun _=>pu2 bF bF (by kernel_rfl) (pup (.pointer (some ⟨J,8,none⟩)) (by kernel_rfl) (pup (.pointer (some ⟨J,20,none⟩)) (by kernel_rfl) (pup (.pointer (some ⟨J,22,none⟩)) (by kernel_rfl) (aw (by kernel_rfl) (ag I 14 (iv a0) zi3 rfl rfl rfl (ifE F (fun xG F=>?_) (fun xG F=>?_)))))))))
  ·
   refine aw (by kernel_rfl) (de rfl rfl (fun h=>absurd xG h) (fun _=>pu bF (by kernel_rfl) (aa (ai rfl (ak (.inl ⟨rfl,⟨⟨rfl,rfl,rfl,rfl,trivial⟩,I.pk [6,7,8,9,10,11,14,0,1,2,3,4,5] rfl rfl,F⟩⟩))))))
  refine aw (by kernel_rfl) (de rfl rfl (fun _=>?_) (fun h=>absurd h xG))
  refine pu bT (by kernel_rfl) (aa (ah rfl (ab (rgn (by kernel_rfl) (pu bF (by kernel_rfl) (aa (aj ?_)))))))
  cases F
  exact ⟨_,Ret.r1 rfl rfl,⟨rfl,I.below⟩⟩
 intro ρ w hJ
 obtain ⟨hag,I,F⟩:=hJ
 obtain ⟨ρ,rfl⟩:=hag.form; clear hag
 unfold F19j6 at F
 refine ab (bindSE F (fun DY BE F=>?_) (fun DZ BF F=>?_))
 ·
  obtain ⟨f9,fA,fB,fC,fD,fE,fF,fG,fH,fI,fJ,fK,fL,fM,fN,fO,fP,fQ,fR,fS,fT,fU,fV,fW,fX,fY,fZ,g0,g1,g2,g3,g4,g5,g6,g7,g8,g9,gA,gB,gC,gD,gE,gF,gG,dX⟩:=DY
  refine dh I [0,1,2,3,4,5,6,7,8,9,10,11,12] (by decide) rfl (by kernel_rfl) (by kernel_rfl) fun hsub=>ap 0 (.agg (qf a8 bH a9 dA bI aA dB bJ aB dC aC aD aE bK aF dD aG aH aI aJ aK aL aM aN aO aP aQ aR aS aT aU aV aW aX aY aZ b0 b1 b2 b3 b4 b5 b6 b7 b8 b9 bA bB bC bD bE bG).toArray) hsub rfl (by kernel_rfl) (fun w I=>ma I 1 mu ml rfl rfl rfl br) (alp 1 (.slice (some ⟨cV,0,none⟩) 1 1) hsub rfl (by kernel_rfl) (fun _=>(by kernel_rfl)) (ap 2 (pt cV) hsub rfl (by kernel_rfl) (fun w I=>lj 0 0 zu100 zs83 rfl rfl (by decide) rfl br) (ap 3 (.agg #[iv o.1,iv o.2.1,iv o.2.2.1,iv o.2.2.2.1,iv o.2.2.2.2.1,slv dW o.2.2.2.2.2.length eG]) hsub rfl (by kernel_rfl) (fun w I=>ma I 11 zi83 zs83 rfl rfl rfl br) (bc [4,9] (by kernel_rfl) rfl (each2 ?_ ?_)))))
  ·intro w I
   refine dg rfl (co 55 _ (by kernel_rfl) (L55 _ a8 (bH.map fun b=>⟨b,0,none⟩) dA a9 (bI.map fun b=>⟨b,0,none⟩) dB aA (bJ.map fun b=>⟨b,0,none⟩) dC aB aC aD aE (bK.map fun b=>⟨b,0,none⟩) dD aF aG aH aI aJ aK aL aM aN aO aP aQ aR aS aT aU aV aW aX aY aZ b0 b1 b2 b3 b4 b5 b6 b7 b8 b9 bA bB bC bD bE bG o.1 o.2.1 o.2.2.1 o.2.2.2.1 o.2.2.2.2.1 (dW.map fun b=>⟨b,0,none⟩) eG o.2.2.2.2.2 (hG.up I) (I.rowCells 2 rfl W) (am rfl W.big) (am rfl W.cap) (I.rowCells 3 rfl X) (am rfl X.big) (am rfl X.cap) (I.rowCells 4 rfl Y) (am rfl Y.big) (am rfl Y.cap) (I.rowCells 5 rfl Z) (am rfl Z.big) (am rfl Z.cap) (I.rowCells 12 rfl a5) (am rfl a5.big) (am rfl a5.cap) N _ BE) ?_)
   intro v w
   refine xH fun xH xI H6 xJ xK H7 xL xM=>xF fun H8 xN xO H9=>xa fun hv=>xa fun hN=>xa fun E0=>xa fun E1=>xa fun E2=>fun E3=>?_
   dsimp only at hv hN E0 E1 E2 E3; subst hv
   have I:=I.join hN; clear hN
   refine ⟨_,I,dc (fun _ h=>h.pk [4,5,6,7,8,9,10,11,12,13,14,15,16] rfl rfl) ?_⟩
   intro hsub
   refine alp 5 (.tuple #[.agg (qf f9 xH fA xI xJ fB xK xL fC xM fD fE fF xN fG xO fH fI fJ fK fL fM fN fO fP fQ fR fS fT fU fV fW fX fY fZ g0 g1 g2 g3 g4 g5 g6 g7 g8 g9 gA gB gC gD gE gF gG).toArray,.slice none 0 0,iv dX]) hsub rfl (by kernel_rfl) (fun _=>(by kernel_rfl)) (alp 6 (.agg (qf f9 xH fA xI xJ fB xK xL fC xM fD fE fF xN fG xO fH fI fJ fK fL fM fN fO fP fQ fR fS fT fU fV fW fX fY fZ g0 g1 g2 g3 g4 g5 g6 g7 g8 g9 gA gB gC gD gE gF gG).toArray) hsub rfl (by kernel_rfl) (fun _=>(by kernel_rfl)) (alp 7 (.slice none 0 0) hsub rfl (by kernel_rfl) (fun _=>(by kernel_rfl)) (alp 8 (iv dX) hsub rfl (by kernel_rfl) (fun _=>(by kernel_rfl)) (bc [9] (by kernel_rfl) rfl (cz fun w I=>dg rfl (bh I qe zeroValue81 rfl fun HA w I=>⟨_,I,dc (fun _ h=>h.pk [5,6,7,8,9,10,11,12,13,14,15,16,17] rfl rfl) ?_⟩))))))
   intro hsub
   refine bc [10] (by kernel_rfl) rfl (cz fun w I=>dg rfl (aq I 0 44 (qf f9 xH fA xI xJ fB xK xL fC xM fD fE fF xN fG xO fH fI fJ fK fL fM fN fO fP fQ fR fS fT fU fV fW fX fY fZ g0 g1 g2 g3 g4 g5 g6 g7 g8 g9 gA gB gC gD gE gF gG) ml rfl rfl rfl rfl rfl (mx rfl) fun w I=>⟨_,I,dc (fun _ h=>h.pk [5,6,7,8,9,10,11,12,13,14,15,16,17] rfl rfl) ?_⟩))
   intro hsub
   refine alp 11 (.slice none 0 0) hsub rfl (by kernel_rfl) (fun _=>(by kernel_rfl)) (alp 12 (iv dX) hsub rfl (by kernel_rfl) (fun _=>(by kernel_rfl)) (cp (by kernel_rfl) (fun w I=>?_)))
   have I:Inv [] w0 w [(some G,blk [iv q,iv s,iv x,iv y,iv z,iv A,iv B,.string (bts C)] 25),(some J,blk (qf bL P bM cW Q bN cX R bO cY bP bQ bR S bS cZ bU bV bW bX bY bZ c0 c1 c2 c4 c5 c6 c7 c8 a0 cA cB cC cD cE cF cG cH cI cJ cK cL cM cN cO cP cQ cR cS cT cU) 81),(P,blk jG 35),(Q,blk jH 35),(R,blk jI 35),(S,blk jJ 25)]:=I.pk [5,11,12,13,14,15] rfl (by kernel_rfl)
   refine ab (ab (rgn (by kernel_rfl) (pu (iv dX) (by kernel_rfl) (ifN F (fun xP F=>?_) (fun xP F=>?_)))))
   ·
    refine ac (de rfl rfl (fun _=>?_) (fun h=>absurd h xP))
    refine pu bT (by kernel_rfl) (sf 3 (by kernel_rfl) (pu2 bT bT (by kernel_rfl) (sf 6 (by kernel_rfl) (pu bT (by kernel_rfl) (aa (ah rfl (ab (rgn (by kernel_rfl) (pu bF (by kernel_rfl) (aa (aj ?_)))))))))))
    cases F
    exact ⟨_,Ret.r1 rfl rfl,⟨rfl,I.below⟩⟩
   refine ac (de rfl rfl (fun h=>absurd xP h) (fun _=>pu bF (by kernel_rfl) (pup (.slice none 0 0) (by kernel_rfl) (pup (iv ((0:Nat):Int)) (by kernel_rfl) (aw (by kernel_rfl) (de rfl rfl (fun _=>?_) (fun h=>absurd h (by decide))))))))
   refine pu2 bT bT (by kernel_rfl) (sf 6 (by kernel_rfl) (pu bT (by kernel_rfl) (aa (ah rfl (ab (rgn (by kernel_rfl) (pu bF (by kernel_rfl) (aa (aj ?_)))))))))
   cases F
   exact ⟨_,Ret.r1 rfl rfl,⟨rfl,I.below⟩⟩
  intro w I
  refine dg rfl (bh I qe zeroValue81 rfl fun HB w I=>⟨_,I,dc (fun _ h=>h.pk [1,2,3,4,5,6,7,8,9,10,11,12,13] rfl rfl) ?_⟩)
  intro hsub
  refine bc [4] (by kernel_rfl) rfl (cz fun w I=>dg rfl (co 55 _ (by kernel_rfl) (L55 _ a8 (bH.map fun b=>⟨b,0,none⟩) dA a9 (bI.map fun b=>⟨b,0,none⟩) dB aA (bJ.map fun b=>⟨b,0,none⟩) dC aB aC aD aE (bK.map fun b=>⟨b,0,none⟩) dD aF aG aH aI aJ aK aL aM aN aO aP aQ aR aS aT aU aV aW aX aY aZ b0 b1 b2 b3 b4 b5 b6 b7 b8 b9 bA bB bC bD bE bG o.1 o.2.1 o.2.2.1 o.2.2.2.1 o.2.2.2.2.1 (dW.map fun b=>⟨b,0,none⟩) eG o.2.2.2.2.2 (hG.up I) (I.rowCells 3 rfl W) (am rfl W.big) (am rfl W.cap) (I.rowCells 4 rfl X) (am rfl X.big) (am rfl X.cap) (I.rowCells 5 rfl Y) (am rfl Y.big) (am rfl Y.cap) (I.rowCells 6 rfl Z) (am rfl Z.big) (am rfl Z.cap) (I.rowCells 13 rfl a5) (am rfl a5.big) (am rfl a5.cap) N _ BE) ?_))
  intro v w
  refine xH fun xQ xR HC xS xT HD xU xV=>xF fun HE xW xX HF=>xa fun hv=>xa fun hN=>xa fun E4=>xa fun E5=>xa fun E6=>fun E7=>?_
  dsimp only at hv hN E4 E5 E6 E7; subst hv
  have I:=I.join hN; clear hN
  refine ⟨_,I,dc (fun _ h=>h.pk [5,6,7,8,9,10,11,12,13,14,15,16,17] rfl rfl) ?_⟩
  intro hsub
  refine alp 5 (.tuple #[.agg (qf f9 xQ fA xR xS fB xT xU fC xV fD fE fF xW fG xX fH fI fJ fK fL fM fN fO fP fQ fR fS fT fU fV fW fX fY fZ g0 g1 g2 g3 g4 g5 g6 g7 g8 g9 gA gB gC gD gE gF gG).toArray,.slice none 0 0,iv dX]) hsub rfl (by kernel_rfl) (fun _=>(by kernel_rfl)) (alp 6 (.agg (qf f9 xQ fA xR xS fB xT xU fC xV fD fE fF xW fG xX fH fI fJ fK fL fM fN fO fP fQ fR fS fT fU fV fW fX fY fZ g0 g1 g2 g3 g4 g5 g6 g7 g8 g9 gA gB gC gD gE gF gG).toArray) hsub rfl (by kernel_rfl) (fun _=>(by kernel_rfl)) (alp 7 (.slice none 0 0) hsub rfl (by kernel_rfl) (fun _=>(by kernel_rfl)) (alp 8 (iv dX) hsub rfl (by kernel_rfl) (fun _=>(by kernel_rfl)) (bc [10] (by kernel_rfl) rfl (cz fun w I=>dg rfl (aq I 4 44 (qf f9 xQ fA xR xS fB xT xU fC xV fD fE fF xW fG xX fH fI fJ fK fL fM fN fO fP fQ fR fS fT fU fV fW fX fY fZ g0 g1 g2 g3 g4 g5 g6 g7 g8 g9 gA gB gC gD gE gF gG) ml rfl rfl rfl rfl rfl (mx rfl) fun w I=>⟨_,I,dc (fun _ h=>h.pk [5,6,7,8,9,10,11,12,13,14,15,16,17] rfl rfl) ?_⟩))))))
  intro hsub
  refine alp 11 (.slice none 0 0) hsub rfl (by kernel_rfl) (fun _=>(by kernel_rfl)) (alp 12 (iv dX) hsub rfl (by kernel_rfl) (fun _=>(by kernel_rfl)) (cp (by kernel_rfl) (fun w I=>?_)))
  have I:Inv [] w0 w [(some G,blk [iv q,iv s,iv x,iv y,iv z,iv A,iv B,.string (bts C)] 25),(some J,blk (qf bL P bM cW Q bN cX R bO cY bP bQ bR S bS cZ bU bV bW bX bY bZ c0 c1 c2 c4 c5 c6 c7 c8 a0 cA cB cC cD cE cF cG cH cI cJ cK cL cM cN cO cP cQ cR cS cT cU) 81),(P,blk jG 35),(Q,blk jH 35),(R,blk jI 35),(S,blk jJ 25)]:=I.pk [5,11,12,13,14,15] rfl (by kernel_rfl)
  refine ab (ab (rgn (by kernel_rfl) (pu (iv dX) (by kernel_rfl) (ifN F (fun xY F=>?_) (fun xY F=>?_)))))
  ·
   refine ac (de rfl rfl (fun _=>?_) (fun h=>absurd h xY))
   refine pu bT (by kernel_rfl) (sf 3 (by kernel_rfl) (pu2 bT bT (by kernel_rfl) (sf 6 (by kernel_rfl) (pu bT (by kernel_rfl) (aa (ah rfl (ab (rgn (by kernel_rfl) (pu bF (by kernel_rfl) (aa (aj ?_)))))))))))
   cases F
   exact ⟨_,Ret.r1 rfl rfl,⟨rfl,I.below⟩⟩
  refine ac (de rfl rfl (fun h=>absurd xY h) (fun _=>pu bF (by kernel_rfl) (pup (.slice none 0 0) (by kernel_rfl) (pup (iv ((0:Nat):Int)) (by kernel_rfl) (aw (by kernel_rfl) (de rfl rfl (fun _=>?_) (fun h=>absurd h (by decide))))))))
  refine pu2 bT bT (by kernel_rfl) (sf 6 (by kernel_rfl) (pu bT (by kernel_rfl) (aa (ah rfl (ab (rgn (by kernel_rfl) (pu bF (by kernel_rfl) (aa (aj ?_)))))))))
  cases F
  exact ⟨_,Ret.r1 rfl rfl,⟨rfl,I.below⟩⟩
 obtain ⟨gH,gI,gJ,gK,gL,gM,gN,gO,gP,gQ,gR,gS,gT,gU,gV,gW,gX,gY,gZ,h0,h1,h2,h3,h4,h5,h6,h7,h8,h9,hA,hB,hC,hD,hE,hH,hK,hL,hM,hO,hP,hQ,hR,hS,hT,e,dY⟩:=DZ
 refine dh I [0,1,2,3,4,5,6,7,8,9,10,11,12] (by decide) rfl (by kernel_rfl) (by kernel_rfl) fun hsub=>ap 0 (.agg (qf a8 bH a9 dA bI aA dB bJ aB dC aC aD aE bK aF dD aG aH aI aJ aK aL aM aN aO aP aQ aR aS aT aU aV aW aX aY aZ b0 b1 b2 b3 b4 b5 b6 b7 b8 b9 bA bB bC bD bE bG).toArray) hsub rfl (by kernel_rfl) (fun w I=>ma I 1 mu ml rfl rfl rfl br) (alp 1 (.slice (some ⟨cV,0,none⟩) 1 1) hsub rfl (by kernel_rfl) (fun _=>(by kernel_rfl)) (ap 2 (pt cV) hsub rfl (by kernel_rfl) (fun w I=>lj 0 0 zu100 zs83 rfl rfl (by decide) rfl br) (ap 3 (.agg #[iv o.1,iv o.2.1,iv o.2.2.1,iv o.2.2.2.1,iv o.2.2.2.2.1,slv dW o.2.2.2.2.2.length eG]) hsub rfl (by kernel_rfl) (fun w I=>ma I 11 zi83 zs83 rfl rfl rfl br) (bc [4,9] (by kernel_rfl) rfl (each2 ?_ ?_)))))
 ·intro w I
  refine dg rfl (co 55 _ (by kernel_rfl) (L55 _ a8 (bH.map fun b=>⟨b,0,none⟩) dA a9 (bI.map fun b=>⟨b,0,none⟩) dB aA (bJ.map fun b=>⟨b,0,none⟩) dC aB aC aD aE (bK.map fun b=>⟨b,0,none⟩) dD aF aG aH aI aJ aK aL aM aN aO aP aQ aR aS aT aU aV aW aX aY aZ b0 b1 b2 b3 b4 b5 b6 b7 b8 b9 bA bB bC bD bE bG o.1 o.2.1 o.2.2.1 o.2.2.2.1 o.2.2.2.2.1 (dW.map fun b=>⟨b,0,none⟩) eG o.2.2.2.2.2 (hG.up I) (I.rowCells 2 rfl W) (am rfl W.big) (am rfl W.cap) (I.rowCells 3 rfl X) (am rfl X.big) (am rfl X.cap) (I.rowCells 4 rfl Y) (am rfl Y.big) (am rfl Y.cap) (I.rowCells 5 rfl Z) (am rfl Z.big) (am rfl Z.cap) (I.rowCells 12 rfl a5) (am rfl a5.big) (am rfl a5.cap) N _ BF) ?_)
  intro v w
  refine xP fun xZ y0 HG y1 y2 HH y3 y4 HI y5 y6 HJ d0 eH hU E8=>xa fun hv=>xa fun hN=>xa fun E9=>xa fun EA=>xa fun EB=>xa fun EC=>fun eI=>?_
  dsimp only at hv hN E9 EA EB EC eI; subst hv
  have I:=I.join hN; clear hN
  refine ⟨_,I,dc (fun _ h=>h.pk [6,7,8,9,10,11,12,13,14,15,16,17,18] rfl rfl) ?_⟩
  intro hsub
  refine alp 5 (.tuple #[.agg (qf gH xZ gI y0 y1 gJ y2 y3 gK y4 gL gM gN y5 gO y6 gP gQ gR gS gT gU gV gW gX gY gZ h0 h1 h2 h3 h4 h5 h6 h7 h8 h9 hA hB hC hD hE hH hK hL hM hO hP hQ hR hS hT).toArray,.slice (some ⟨d0,0,none⟩) 1 1,iv dY]) hsub rfl (by kernel_rfl) (fun _=>(by kernel_rfl)) (alp 6 (.agg (qf gH xZ gI y0 y1 gJ y2 y3 gK y4 gL gM gN y5 gO y6 gP gQ gR gS gT gU gV gW gX gY gZ h0 h1 h2 h3 h4 h5 h6 h7 h8 h9 hA hB hC hD hE hH hK hL hM hO hP hQ hR hS hT).toArray) hsub rfl (by kernel_rfl) (fun _=>(by kernel_rfl)) (alp 7 (.slice (some ⟨d0,0,none⟩) 1 1) hsub rfl (by kernel_rfl) (fun _=>(by kernel_rfl)) (alp 8 (iv dY) hsub rfl (by kernel_rfl) (fun _=>(by kernel_rfl)) (bc [9] (by kernel_rfl) rfl (cz fun w I=>dg rfl (bh I qe zeroValue81 rfl fun HK w I=>⟨_,I,dc (fun _ h=>h.pk [7,8,9,10,11,12,13,14,15,16,17,18,19] rfl rfl) ?_⟩))))))
  intro hsub
  refine bc [10] (by kernel_rfl) rfl (cz fun w I=>dg rfl (aq I 0 44 (qf gH xZ gI y0 y1 gJ y2 y3 gK y4 gL gM gN y5 gO y6 gP gQ gR gS gT gU gV gW gX gY gZ h0 h1 h2 h3 h4 h5 h6 h7 h8 h9 hA hB hC hD hE hH hK hL hM hO hP hQ hR hS hT) ml rfl rfl rfl rfl rfl (mx rfl) fun w I=>⟨_,I,dc (fun _ h=>h.pk [7,8,9,10,11,12,13,14,15,16,17,18,19] rfl rfl) ?_⟩))
  intro hsub
  refine alp 11 (.slice (some ⟨d0,0,none⟩) 1 1) hsub rfl (by kernel_rfl) (fun _=>(by kernel_rfl)) (alp 12 (iv dY) hsub rfl (by kernel_rfl) (fun _=>(by kernel_rfl)) (cp (by kernel_rfl) (fun w I=>?_)))
  have I:Inv [] w0 w [(some d0,blk [iv e.1,iv e.2.1,iv e.2.2.1,iv e.2.2.2.1,iv e.2.2.2.2.1,slv eH e.2.2.2.2.2.length hU] 83),(eH,blk E8 25),(some G,blk [iv q,iv s,iv x,iv y,iv z,iv A,iv B,.string (bts C)] 25),(some J,blk (qf bL P bM cW Q bN cX R bO cY bP bQ bR S bS cZ bU bV bW bX bY bZ c0 c1 c2 c4 c5 c6 c7 c8 a0 cA cB cC cD cE cF cG cH cI cJ cK cL cM cN cO cP cQ cR cS cT cU) 81),(P,blk jG 35),(Q,blk jH 35),(R,blk jI 35),(S,blk jJ 25)]:=I.pk [5,6,7,13,14,15,16,17] rfl (by kernel_rfl)
  refine ab (ab (rgn (by kernel_rfl) (pu (iv dY) (by kernel_rfl) (ifN F (fun y7 F=>?_) (fun y7 F=>?_)))))
  ·
   refine ac (de rfl rfl (fun _=>?_) (fun h=>absurd h y7))
   refine pu bT (by kernel_rfl) (sf 3 (by kernel_rfl) (pu2 bT bT (by kernel_rfl) (sf 6 (by kernel_rfl) (pu bT (by kernel_rfl) (aa (ah rfl (ab (rgn (by kernel_rfl) (pu bF (by kernel_rfl) (aa (aj ?_)))))))))))
   cases F
   exact ⟨_,Ret.r1 rfl rfl,⟨rfl,I.below⟩⟩
  refine ac (de rfl rfl (fun h=>absurd y7 h) (fun _=>pu bF (by kernel_rfl) (pup (.slice (some ⟨d0,0,none⟩) 1 1) (by kernel_rfl) (pup (iv ((1:Nat):Int)) (by kernel_rfl) (aw (by kernel_rfl) (de rfl rfl (fun h=>absurd (by decide) h) (fun _=>pu2 bF bF (by kernel_rfl) (pup (.slice (some ⟨d0,0,none⟩) 1 1) (by kernel_rfl) (aw (by kernel_rfl) (lj 0 0 zu100 zs83 rfl rfl (by decide) rfl (pup (.pointer (some ⟨d0,5,none⟩)) (by kernel_rfl) (aw (by kernel_rfl) (ag I 0 (slv eH e.2.2.2.2.2.length hU) mv rfl rfl rfl (pup (iv ((e.2.2.2.2.2.length:Nat):Int)) (by kernel_rfl) (ifN F (fun y8 F=>?_) (fun y8 F=>?_))))))))))))))))
  ·
   refine aw (by kernel_rfl) (de rfl rfl (fun _=>?_) (fun h=>absurd h y8))
   refine pu bT (by kernel_rfl) (aa (ah rfl (ab (rgn (by kernel_rfl) (pu bF (by kernel_rfl) (aa (aj ?_)))))))
   cases F
   exact ⟨_,Ret.r1 rfl rfl,⟨rfl,I.below⟩⟩
  refine aw (by kernel_rfl) (de rfl rfl (fun h=>absurd y8 h) (fun _=>pu bF (by kernel_rfl) (aa (ai rfl (ak (ab (bindSE F (fun ED EE F=>?_) (fun EF EG F=>?_))))))))
  ·
   obtain ⟨lQ,lR,lS,lT,lU,lV,lW,dE,lX,lY,lZ,m0,m1,m2,m3,m4,m5,m6,m7,m8,m9,mA,mB,mC,mD,mE,mF,mG,mH,mI,mJ,mK,mL,mM,mN,mO,mP,mQ,mR,mS,mT,mU,mV,mW,mX⟩:=ED
   replace I:=I.pk [0,1,2,4,5,6,7,3] rfl rfl
   refine dh I [0,1,2,3,4,5,6] (by decide) rfl (by kernel_rfl) (by kernel_rfl) fun hsub=>alp 1 (.slice (some ⟨d0,0,none⟩) 1 1) hsub rfl (by kernel_rfl) (fun _=>(by kernel_rfl)) (ap 2 (pt d0) hsub rfl (by kernel_rfl) (fun w I=>lj 0 0 zu100 zs83 rfl rfl (by decide) rfl br) (ap 3 (.agg #[iv e.1,iv e.2.1,iv e.2.2.1,iv e.2.2.2.1,iv e.2.2.2.2.1,slv eH e.2.2.2.2.2.length hU]) hsub rfl (by kernel_rfl) (fun w I=>ma I 0 zi83 zs83 rfl rfl rfl br) (bc [0] (by kernel_rfl) rfl (cz fun w I=>dg rfl (ma I 7 mu ml rfl rfl rfl (⟨_,I,dc (fun _ h=>h.pk [0,1,2,3,4,5,6] rfl rfl) ?_⟩))))))
   intro hsub
   refine bc [4] (by kernel_rfl) rfl (cz fun w I=>dg rfl (co 55 _ (by kernel_rfl) (L55 _ bL (P.map fun b=>⟨b,0,none⟩) cW bM (Q.map fun b=>⟨b,0,none⟩) cX bN (R.map fun b=>⟨b,0,none⟩) cY bO bP bQ bR (S.map fun b=>⟨b,0,none⟩) cZ bS bU bV bW bX bY bZ c0 c1 c2 c4 c5 c6 c7 c8 a0 cA cB cC cD cE cF cG cH cI cJ cK cL cM cN cO cP cQ cR cS cT cU e.1 e.2.1 e.2.2.1 e.2.2.2.1 e.2.2.2.2.1 (eH.map fun b=>⟨b,0,none⟩) hU e.2.2.2.2.2 (hG.up I) (I.rowCells 3 rfl a1) (am rfl a1.big) (am rfl a1.cap) (I.rowCells 4 rfl a2) (am rfl a2.big) (am rfl a2.cap) (I.rowCells 5 rfl a3) (am rfl a3.big) (am rfl a3.cap) (I.rowCells 6 rfl a4) (am rfl a4.big) (am rfl a4.cap) (I.rowCells 1 rfl eI) (am rfl eI.big) (am rfl eI.cap) N _ EE) ?_))
   intro v w
   refine xH fun jK mY EH jL mZ EI jM n0=>xF fun EJ dS dZ EK=>xa fun hv=>xa fun hN=>xa fun EL=>xa fun EM=>xa fun EN=>fun BG=>?_
   dsimp only at hv hN EL EM EN BG; subst hv
   have I:=I.join hN; clear hN
   refine ⟨_,I,dc (fun _ h=>h.pk [4,5,6,7,8,9,10] rfl rfl) ?_⟩
   intro hsub
   refine alp 5 (.tuple #[.agg (qf lQ jK lR mY jL lS mZ jM lT n0 lU lV lW dS dE dZ lX lY lZ m0 m1 m2 m3 m4 m5 m6 m7 m8 m9 mA mB mC mD mE mF mG mH mI mJ mK mL mM mN mO mP mQ mR mS mT mU mV mW).toArray,.slice none 0 0,iv mX]) hsub rfl (by kernel_rfl) (fun _=>(by kernel_rfl)) (alp 6 (.agg (qf lQ jK lR mY jL lS mZ jM lT n0 lU lV lW dS dE dZ lX lY lZ m0 m1 m2 m3 m4 m5 m6 m7 m8 m9 mA mB mC mD mE mF mG mH mI mJ mK mL mM mN mO mP mQ mR mS mT mU mV mW).toArray) hsub rfl (by kernel_rfl) (fun _=>(by kernel_rfl)) (alp 7 (.slice none 0 0) hsub rfl (by kernel_rfl) (fun _=>(by kernel_rfl)) (alp 8 (iv mX) hsub rfl (by kernel_rfl) (fun _=>(by kernel_rfl)) (bc [9] (by kernel_rfl) rfl (cz fun w I=>dg rfl (aq I 11 44 (qf lQ jK lR mY jL lS mZ jM lT n0 lU lV lW dS dE dZ lX lY lZ m0 m1 m2 m3 m4 m5 m6 m7 m8 m9 mA mB mC mD mE mF mG mH mI mJ mK mL mM mN mO mP mQ mR mS mT mU mV mW) ml rfl rfl rfl rfl rfl (mx rfl) fun w I=>⟨_,I,dc (fun _ h=>h.pk [4,5,6,7,8,9,10] rfl rfl) ?_⟩))))))
   intro hsub
   refine alp 10 (.slice none 0 0) hsub rfl (by kernel_rfl) (fun _=>(by kernel_rfl)) (alp 11 (iv mX) hsub rfl (by kernel_rfl) (fun _=>(by kernel_rfl)) (cp (by kernel_rfl) (fun w I=>?_)))
   have I:Inv [] w0 w [(jK,blk EH 35),(jL,blk EI 35),(jM,blk EJ 35),(dS,blk EK 25),(some G,blk [iv q,iv s,iv x,iv y,iv z,iv A,iv B,.string (bts C)] 25),(some J,blk (qf lQ jK lR mY jL lS mZ jM lT n0 lU lV lW dS dE dZ lX lY lZ m0 m1 m2 m3 m4 m5 m6 m7 m8 m9 mA mB mC mD mE mF mG mH mI mJ mK mL mM mN mO mP mQ mR mS mT mU mV mW) 81)]:=I.pk [0,1,2,3,6,11] rfl (by kernel_rfl)
   refine ab (gm 22 I (by kernel_rfl) (zp (iv mX) (fun _=>(by kernel_rfl)) (ifN F (fun y9 F=>?_) (fun y9 F=>?_))))
   ·
    refine zc bF (fun w I=>di rfl rfl (fun h=>absurd h y9) (fun _=>br)) (zp bF (fun _=>(by kernel_rfl)) (zf 3 (by kernel_rfl) (zp2 bF bF (fun _=>(by kernel_rfl)) (zf 4 (by kernel_rfl) (zp2 bF bF (fun _=>(by kernel_rfl)) (zf 6 (by kernel_rfl) (zp2 bF bF (fun _=>(by kernel_rfl)) (zh (fun w I=>aa (aj ?_))))))))))
    cases F
    exact ⟨_,Ret.r1 rfl rfl,⟨rfl,I.below⟩⟩
   refine zc bT (fun w I=>di rfl rfl (fun _=>br) (fun h=>absurd y9 h)) (zp bT (fun _=>(by kernel_rfl)) (zq (.slice none 0 0) (by kernel_rfl) (fun _=>(by kernel_rfl)) (zo (iv 0) (by kernel_rfl) (fun w I=>kl (iv ((0:Nat):Int)) (by kernel_rfl) br) (zo bT (by kernel_rfl) (fun w I=>di rfl rfl (fun _=>br) (fun h=>absurd (by decide) h)) (zp2 bT bT (fun _=>(by kernel_rfl)) (zq (.pointer (some ⟨J,7,none⟩)) (by kernel_rfl) (fun _=>(by kernel_rfl)) (zo (slv dS dE.length dZ) (by kernel_rfl) (fun w I=>ag I 5 (slv dS dE.length dZ) mv rfl rfl rfl br) (zo (iv (dE.length:Int)) (by kernel_rfl) (fun w I=>kl (iv ((dE.length:Nat):Int)) (by kernel_rfl) br) (ifN F (fun yA F=>?_) (fun yA F=>?_))))))))))
   ·
    refine zo bF (by kernel_rfl) (fun w I=>di rfl rfl (fun h=>absurd h yA) (fun _=>br)) (zp2 bF bF (fun _=>(by kernel_rfl)) (zf 6 (by kernel_rfl) (zp2 bF bF (fun _=>(by kernel_rfl)) (zh (fun w I=>aa (aj ?_))))))
    cases F
    exact ⟨_,Ret.r1 rfl rfl,⟨rfl,I.below⟩⟩
   refine zo bT (by kernel_rfl) (fun w I=>di rfl rfl (fun _=>br) (fun h=>absurd yA h)) (zp2 bT bT (fun _=>(by kernel_rfl)) (zq (.pointer (some ⟨J,7,none⟩)) (by kernel_rfl) (fun _=>(by kernel_rfl)) (zo (slv dS dE.length dZ) (by kernel_rfl) (fun w I=>ag I 5 (slv dS dE.length dZ) mv rfl rfl rfl br) (bt F (fun l BH F=>?_)))))
   obtain ⟨EO,rfl,EP⟩:=BG.at_ bx (by decide) BH
   refine zo (.pointer (some ⟨EO,0 * 8,none⟩)) (by kernel_rfl) (fun w I=>be 0 nt md rfl rfl rfl (fa BH rfl) br) (zo (.agg (qg l).toArray) (by kernel_rfl) (fun w I=>cq I 3 (qg l) mh md rfl rfl rfl EP br) (zo (.agg #[iv q,iv s,iv x,iv y,iv z,iv A,iv B,.string (bts C)]) (by kernel_rfl) (fun w I=>ma I 4 mh md rfl rfl rfl br) (ifE F (fun yB F=>?_) (fun yB F=>?_))))
   ·
    refine zo bT (by kernel_rfl) (fun w I=>kz (b:=decide (l.p=q) && decide (l.n=s) && decide (l.k=x) && decide (l.d=y) && decide (l.kn=z) && decide (l.op=A) && decide (l.on=B) && decide (l.t=C)) rfl rfl (by kernel_rfl) (fun w=>eq25 _ l.p l.n l.k l.d l.kn l.op l.on l.t q s x y z A B C w) (fun _=>br) (fun h=>absurd yB h)) (zp2 bT bT (fun _=>(by kernel_rfl)) (zh (fun w I=>aa (aj ?_))))
    cases F
    exact ⟨_,Ret.r1 rfl rfl,⟨rfl,I.below⟩⟩
   refine zo bF (by kernel_rfl) (fun w I=>kz (b:=decide (l.p=q) && decide (l.n=s) && decide (l.k=x) && decide (l.d=y) && decide (l.kn=z) && decide (l.op=A) && decide (l.on=B) && decide (l.t=C)) rfl rfl (by kernel_rfl) (fun w=>eq25 _ l.p l.n l.k l.d l.kn l.op l.on l.t q s x y z A B C w) (fun h=>absurd h yB) (fun _=>br)) (zp2 bF bF (fun _=>(by kernel_rfl)) (zh (fun w I=>aa (aj ?_))))
   cases F
   exact ⟨_,Ret.r1 rfl rfl,⟨rfl,I.below⟩⟩
  obtain ⟨n1,n2,n3,n4,n5,n6,n7,n8,n9,nA,nB,nC,nD,nE,nF,nG,nH,nI,nJ,nK,nL,nM,nN,nO,nP,nQ,nR,nS,nT,nU,nV,nW,nX,nY,nZ,o0,o1,o2,o3,o4,o5,o6,o7,o8,hV,o9⟩:=EF
  replace I:=I.pk [0,1,2,4,5,6,7,3] rfl rfl
  refine dh I [0,1,2,3,4,5,6] (by decide) rfl (by kernel_rfl) (by kernel_rfl) fun hsub=>alp 1 (.slice (some ⟨d0,0,none⟩) 1 1) hsub rfl (by kernel_rfl) (fun _=>(by kernel_rfl)) (ap 2 (pt d0) hsub rfl (by kernel_rfl) (fun w I=>lj 0 0 zu100 zs83 rfl rfl (by decide) rfl br) (ap 3 (.agg #[iv e.1,iv e.2.1,iv e.2.2.1,iv e.2.2.2.1,iv e.2.2.2.2.1,slv eH e.2.2.2.2.2.length hU]) hsub rfl (by kernel_rfl) (fun w I=>ma I 0 zi83 zs83 rfl rfl rfl br) (bc [0] (by kernel_rfl) rfl (cz fun w I=>dg rfl (ma I 7 mu ml rfl rfl rfl (⟨_,I,dc (fun _ h=>h.pk [0,1,2,3,4,5,6] rfl rfl) ?_⟩))))))
  intro hsub
  refine bc [4] (by kernel_rfl) rfl (cz fun w I=>dg rfl (co 55 _ (by kernel_rfl) (L55 _ bL (P.map fun b=>⟨b,0,none⟩) cW bM (Q.map fun b=>⟨b,0,none⟩) cX bN (R.map fun b=>⟨b,0,none⟩) cY bO bP bQ bR (S.map fun b=>⟨b,0,none⟩) cZ bS bU bV bW bX bY bZ c0 c1 c2 c4 c5 c6 c7 c8 a0 cA cB cC cD cE cF cG cH cI cJ cK cL cM cN cO cP cQ cR cS cT cU e.1 e.2.1 e.2.2.1 e.2.2.2.1 e.2.2.2.2.1 (eH.map fun b=>⟨b,0,none⟩) hU e.2.2.2.2.2 (hG.up I) (I.rowCells 3 rfl a1) (am rfl a1.big) (am rfl a1.cap) (I.rowCells 4 rfl a2) (am rfl a2.big) (am rfl a2.cap) (I.rowCells 5 rfl a3) (am rfl a3.big) (am rfl a3.cap) (I.rowCells 6 rfl a4) (am rfl a4.big) (am rfl a4.cap) (I.rowCells 1 rfl eI) (am rfl eI.big) (am rfl eI.cap) N _ EG) ?_))
  intro v w
  refine xP fun jN oA EQ jO oB ER jP oC ES jQ oD ET jR BI EU EV=>xa fun hv=>xa fun hN=>xa fun EW=>xa fun EX=>xa fun EY=>xa fun EZ=>fun F0=>?_
  dsimp only at hv hN EW EX EY EZ F0; subst hv
  have I:=I.join hN; clear hN
  refine ⟨_,I,dc (fun _ h=>h.pk [6,7,8,9,10,11,12] rfl rfl) ?_⟩
  intro hsub
  refine alp 5 (.tuple #[.agg (qf n1 jN n2 oA jO n3 oB jP n4 oC n5 n6 n7 jQ n8 oD n9 nA nB nC nD nE nF nG nH nI nJ nK nL nM nN nO nP nQ nR nS nT nU nV nW nX nY nZ o0 o1 o2 o3 o4 o5 o6 o7 o8).toArray,.slice (some ⟨jR,0,none⟩) 1 1,iv o9]) hsub rfl (by kernel_rfl) (fun _=>(by kernel_rfl)) (alp 6 (.agg (qf n1 jN n2 oA jO n3 oB jP n4 oC n5 n6 n7 jQ n8 oD n9 nA nB nC nD nE nF nG nH nI nJ nK nL nM nN nO nP nQ nR nS nT nU nV nW nX nY nZ o0 o1 o2 o3 o4 o5 o6 o7 o8).toArray) hsub rfl (by kernel_rfl) (fun _=>(by kernel_rfl)) (alp 7 (.slice (some ⟨jR,0,none⟩) 1 1) hsub rfl (by kernel_rfl) (fun _=>(by kernel_rfl)) (alp 8 (iv o9) hsub rfl (by kernel_rfl) (fun _=>(by kernel_rfl)) (bc [9] (by kernel_rfl) rfl (cz fun w I=>dg rfl (aq I 13 44 (qf n1 jN n2 oA jO n3 oB jP n4 oC n5 n6 n7 jQ n8 oD n9 nA nB nC nD nE nF nG nH nI nJ nK nL nM nN nO nP nQ nR nS nT nU nV nW nX nY nZ o0 o1 o2 o3 o4 o5 o6 o7 o8) ml rfl rfl rfl rfl rfl (mx rfl) fun w I=>⟨_,I,dc (fun _ h=>h.pk [6,7,8,9,10,11,12] rfl rfl) ?_⟩))))))
  intro hsub
  refine alp 10 (.slice (some ⟨jR,0,none⟩) 1 1) hsub rfl (by kernel_rfl) (fun _=>(by kernel_rfl)) (alp 11 (iv o9) hsub rfl (by kernel_rfl) (fun _=>(by kernel_rfl)) (cp (by kernel_rfl) (fun w I=>?_)))
  have I:Inv [] w0 w [(jN,blk EQ 35),(jO,blk ER 35),(jP,blk ES 35),(jQ,blk ET 25),(some jR,blk [iv hV.1,iv hV.2.1,iv hV.2.2.1,iv hV.2.2.2.1,iv hV.2.2.2.2.1,slv BI hV.2.2.2.2.2.length EU] 83),(BI,blk EV 25),(some G,blk [iv q,iv s,iv x,iv y,iv z,iv A,iv B,.string (bts C)] 25),(some J,blk (qf n1 jN n2 oA jO n3 oB jP n4 oC n5 n6 n7 jQ n8 oD n9 nA nB nC nD nE nF nG nH nI nJ nK nL nM nN nO nP nQ nR nS nT nU nV nW nX nY nZ o0 o1 o2 o3 o4 o5 o6 o7 o8) 81)]:=I.pk [0,1,2,3,4,5,8,13] rfl (by kernel_rfl)
  refine ab (gm 22 I (by kernel_rfl) (zp (iv o9) (fun _=>(by kernel_rfl)) (ifN F (fun yC F=>?_) (fun yC F=>?_))))
  ·
   refine zc bF (fun w I=>di rfl rfl (fun h=>absurd h yC) (fun _=>br)) (zp bF (fun _=>(by kernel_rfl)) (zf 3 (by kernel_rfl) (zp2 bF bF (fun _=>(by kernel_rfl)) (zf 4 (by kernel_rfl) (zp2 bF bF (fun _=>(by kernel_rfl)) (zf 6 (by kernel_rfl) (zp2 bF bF (fun _=>(by kernel_rfl)) (zh (fun w I=>aa (aj ?_))))))))))
   cases F
   exact ⟨_,Ret.r1 rfl rfl,⟨rfl,I.below⟩⟩
  refine zc bT (fun w I=>di rfl rfl (fun _=>br) (fun h=>absurd yC h)) (zp bT (fun _=>(by kernel_rfl)) (zq (.slice (some ⟨jR,0,none⟩) 1 1) (by kernel_rfl) (fun _=>(by kernel_rfl)) (zo (iv 1) (by kernel_rfl) (fun w I=>kl (iv ((1:Nat):Int)) (by kernel_rfl) br) (zo bF (by kernel_rfl) (fun w I=>di rfl rfl (fun h=>absurd h (by decide)) (fun _=>br)) (zp2 bF bF (fun _=>(by kernel_rfl)) (zf 4 (by kernel_rfl) (zp2 bF bF (fun _=>(by kernel_rfl)) (zf 6 (by kernel_rfl) (zp2 bF bF (fun _=>(by kernel_rfl)) (zh (fun w I=>aa (aj ?_))))))))))))
  cases F
  exact ⟨_,Ret.r1 rfl rfl,⟨rfl,I.below⟩⟩
 intro w I
 refine dg rfl (bh I qe zeroValue81 rfl fun HL w I=>⟨_,I,dc (fun _ h=>h.pk [1,2,3,4,5,6,7,8,9,10,11,12,13] rfl rfl) ?_⟩)
 intro hsub
 refine bc [4] (by kernel_rfl) rfl (cz fun w I=>dg rfl (co 55 _ (by kernel_rfl) (L55 _ a8 (bH.map fun b=>⟨b,0,none⟩) dA a9 (bI.map fun b=>⟨b,0,none⟩) dB aA (bJ.map fun b=>⟨b,0,none⟩) dC aB aC aD aE (bK.map fun b=>⟨b,0,none⟩) dD aF aG aH aI aJ aK aL aM aN aO aP aQ aR aS aT aU aV aW aX aY aZ b0 b1 b2 b3 b4 b5 b6 b7 b8 b9 bA bB bC bD bE bG o.1 o.2.1 o.2.2.1 o.2.2.2.1 o.2.2.2.2.1 (dW.map fun b=>⟨b,0,none⟩) eG o.2.2.2.2.2 (hG.up I) (I.rowCells 3 rfl W) (am rfl W.big) (am rfl W.cap) (I.rowCells 4 rfl X) (am rfl X.big) (am rfl X.cap) (I.rowCells 5 rfl Y) (am rfl Y.big) (am rfl Y.cap) (I.rowCells 6 rfl Z) (am rfl Z.big) (am rfl Z.cap) (I.rowCells 13 rfl a5) (am rfl a5.big) (am rfl a5.cap) N _ BF) ?_))
 intro v w
 refine xP fun yD yE HM yF yG HN yH yI HO yJ yK HP d1 eJ hW F1=>xa fun hv=>xa fun hN=>xa fun F2=>xa fun F3=>xa fun F4=>xa fun F6=>fun eK=>?_
 dsimp only at hv hN F2 F3 F4 F6 eK; subst hv
 have I:=I.join hN; clear hN
 refine ⟨_,I,dc (fun _ h=>h.pk [7,8,9,10,11,12,13,14,15,16,17,18,19] rfl rfl) ?_⟩
 intro hsub
 refine alp 5 (.tuple #[.agg (qf gH yD gI yE yF gJ yG yH gK yI gL gM gN yJ gO yK gP gQ gR gS gT gU gV gW gX gY gZ h0 h1 h2 h3 h4 h5 h6 h7 h8 h9 hA hB hC hD hE hH hK hL hM hO hP hQ hR hS hT).toArray,.slice (some ⟨d1,0,none⟩) 1 1,iv dY]) hsub rfl (by kernel_rfl) (fun _=>(by kernel_rfl)) (alp 6 (.agg (qf gH yD gI yE yF gJ yG yH gK yI gL gM gN yJ gO yK gP gQ gR gS gT gU gV gW gX gY gZ h0 h1 h2 h3 h4 h5 h6 h7 h8 h9 hA hB hC hD hE hH hK hL hM hO hP hQ hR hS hT).toArray) hsub rfl (by kernel_rfl) (fun _=>(by kernel_rfl)) (alp 7 (.slice (some ⟨d1,0,none⟩) 1 1) hsub rfl (by kernel_rfl) (fun _=>(by kernel_rfl)) (alp 8 (iv dY) hsub rfl (by kernel_rfl) (fun _=>(by kernel_rfl)) (bc [10] (by kernel_rfl) rfl (cz fun w I=>dg rfl (aq I 6 44 (qf gH yD gI yE yF gJ yG yH gK yI gL gM gN yJ gO yK gP gQ gR gS gT gU gV gW gX gY gZ h0 h1 h2 h3 h4 h5 h6 h7 h8 h9 hA hB hC hD hE hH hK hL hM hO hP hQ hR hS hT) ml rfl rfl rfl rfl rfl (mx rfl) fun w I=>⟨_,I,dc (fun _ h=>h.pk [7,8,9,10,11,12,13,14,15,16,17,18,19] rfl rfl) ?_⟩))))))
 intro hsub
 refine alp 11 (.slice (some ⟨d1,0,none⟩) 1 1) hsub rfl (by kernel_rfl) (fun _=>(by kernel_rfl)) (alp 12 (iv dY) hsub rfl (by kernel_rfl) (fun _=>(by kernel_rfl)) (cp (by kernel_rfl) (fun w I=>?_)))
 have I:Inv [] w0 w [(some d1,blk [iv e.1,iv e.2.1,iv e.2.2.1,iv e.2.2.2.1,iv e.2.2.2.2.1,slv eJ e.2.2.2.2.2.length hW] 83),(eJ,blk F1 25),(some G,blk [iv q,iv s,iv x,iv y,iv z,iv A,iv B,.string (bts C)] 25),(some J,blk (qf bL P bM cW Q bN cX R bO cY bP bQ bR S bS cZ bU bV bW bX bY bZ c0 c1 c2 c4 c5 c6 c7 c8 a0 cA cB cC cD cE cF cG cH cI cJ cK cL cM cN cO cP cQ cR cS cT cU) 81),(P,blk jG 35),(Q,blk jH 35),(R,blk jI 35),(S,blk jJ 25)]:=I.pk [4,5,7,13,14,15,16,17] rfl (by kernel_rfl)
 refine ab (ab (rgn (by kernel_rfl) (pu (iv dY) (by kernel_rfl) (ifN F (fun yL F=>?_) (fun yL F=>?_)))))
 ·
  refine ac (de rfl rfl (fun _=>?_) (fun h=>absurd h yL))
  refine pu bT (by kernel_rfl) (sf 3 (by kernel_rfl) (pu2 bT bT (by kernel_rfl) (sf 6 (by kernel_rfl) (pu bT (by kernel_rfl) (aa (ah rfl (ab (rgn (by kernel_rfl) (pu bF (by kernel_rfl) (aa (aj ?_)))))))))))
  cases F
  exact ⟨_,Ret.r1 rfl rfl,⟨rfl,I.below⟩⟩
 refine ac (de rfl rfl (fun h=>absurd yL h) (fun _=>pu bF (by kernel_rfl) (pup (.slice (some ⟨d1,0,none⟩) 1 1) (by kernel_rfl) (pup (iv ((1:Nat):Int)) (by kernel_rfl) (aw (by kernel_rfl) (de rfl rfl (fun h=>absurd (by decide) h) (fun _=>pu2 bF bF (by kernel_rfl) (pup (.slice (some ⟨d1,0,none⟩) 1 1) (by kernel_rfl) (aw (by kernel_rfl) (lj 0 0 zu100 zs83 rfl rfl (by decide) rfl (pup (.pointer (some ⟨d1,5,none⟩)) (by kernel_rfl) (aw (by kernel_rfl) (ag I 0 (slv eJ e.2.2.2.2.2.length hW) mv rfl rfl rfl (pup (iv ((e.2.2.2.2.2.length:Nat):Int)) (by kernel_rfl) (ifN F (fun yM F=>?_) (fun yM F=>?_))))))))))))))))
 ·
  refine aw (by kernel_rfl) (de rfl rfl (fun _=>?_) (fun h=>absurd h yM))
  refine pu bT (by kernel_rfl) (aa (ah rfl (ab (rgn (by kernel_rfl) (pu bF (by kernel_rfl) (aa (aj ?_)))))))
  cases F
  exact ⟨_,Ret.r1 rfl rfl,⟨rfl,I.below⟩⟩
 refine aw (by kernel_rfl) (de rfl rfl (fun h=>absurd yM h) (fun _=>pu bF (by kernel_rfl) (aa (ai rfl (ak (ab (bindSE F (fun F7 F8 F=>?_) (fun F9 FA F=>?_))))))))
 ·
  obtain ⟨oE,oF,oG,oH,oI,oJ,oK,dF,oL,oM,oN,oO,oP,oQ,oR,oS,oT,oU,oV,oW,oX,oY,oZ,p0,p1,p2,p3,p4,p5,p6,p7,p8,p9,pA,pB,pC,pD,pF,pG,pH,pI,pJ,pK,pL,pM⟩:=F7
  replace I:=I.pk [0,1,2,4,5,6,7,3] rfl rfl
  refine dh I [0,1,2,3,4,5,6] (by decide) rfl (by kernel_rfl) (by kernel_rfl) fun hsub=>alp 1 (.slice (some ⟨d1,0,none⟩) 1 1) hsub rfl (by kernel_rfl) (fun _=>(by kernel_rfl)) (ap 2 (pt d1) hsub rfl (by kernel_rfl) (fun w I=>lj 0 0 zu100 zs83 rfl rfl (by decide) rfl br) (ap 3 (.agg #[iv e.1,iv e.2.1,iv e.2.2.1,iv e.2.2.2.1,iv e.2.2.2.2.1,slv eJ e.2.2.2.2.2.length hW]) hsub rfl (by kernel_rfl) (fun w I=>ma I 0 zi83 zs83 rfl rfl rfl br) (bc [0] (by kernel_rfl) rfl (cz fun w I=>dg rfl (ma I 7 mu ml rfl rfl rfl (⟨_,I,dc (fun _ h=>h.pk [0,1,2,3,4,5,6] rfl rfl) ?_⟩))))))
  intro hsub
  refine bc [4] (by kernel_rfl) rfl (cz fun w I=>dg rfl (co 55 _ (by kernel_rfl) (L55 _ bL (P.map fun b=>⟨b,0,none⟩) cW bM (Q.map fun b=>⟨b,0,none⟩) cX bN (R.map fun b=>⟨b,0,none⟩) cY bO bP bQ bR (S.map fun b=>⟨b,0,none⟩) cZ bS bU bV bW bX bY bZ c0 c1 c2 c4 c5 c6 c7 c8 a0 cA cB cC cD cE cF cG cH cI cJ cK cL cM cN cO cP cQ cR cS cT cU e.1 e.2.1 e.2.2.1 e.2.2.2.1 e.2.2.2.2.1 (eJ.map fun b=>⟨b,0,none⟩) hW e.2.2.2.2.2 (hG.up I) (I.rowCells 3 rfl a1) (am rfl a1.big) (am rfl a1.cap) (I.rowCells 4 rfl a2) (am rfl a2.big) (am rfl a2.cap) (I.rowCells 5 rfl a3) (am rfl a3.big) (am rfl a3.cap) (I.rowCells 6 rfl a4) (am rfl a4.big) (am rfl a4.cap) (I.rowCells 1 rfl eK) (am rfl eK.big) (am rfl eK.cap) N _ F8) ?_))
  intro v w
  refine xH fun jS pN FB jT pO FC jU pP=>xF fun FD dT e0 FE=>xa fun hv=>xa fun hN=>xa fun FF=>xa fun FG=>xa fun FH=>fun BJ=>?_
  dsimp only at hv hN FF FG FH BJ; subst hv
  have I:=I.join hN; clear hN
  refine ⟨_,I,dc (fun _ h=>h.pk [4,5,6,7,8,9,10] rfl rfl) ?_⟩
  intro hsub
  refine alp 5 (.tuple #[.agg (qf oE jS oF pN jT oG pO jU oH pP oI oJ oK dT dF e0 oL oM oN oO oP oQ oR oS oT oU oV oW oX oY oZ p0 p1 p2 p3 p4 p5 p6 p7 p8 p9 pA pB pC pD pF pG pH pI pJ pK pL).toArray,.slice none 0 0,iv pM]) hsub rfl (by kernel_rfl) (fun _=>(by kernel_rfl)) (alp 6 (.agg (qf oE jS oF pN jT oG pO jU oH pP oI oJ oK dT dF e0 oL oM oN oO oP oQ oR oS oT oU oV oW oX oY oZ p0 p1 p2 p3 p4 p5 p6 p7 p8 p9 pA pB pC pD pF pG pH pI pJ pK pL).toArray) hsub rfl (by kernel_rfl) (fun _=>(by kernel_rfl)) (alp 7 (.slice none 0 0) hsub rfl (by kernel_rfl) (fun _=>(by kernel_rfl)) (alp 8 (iv pM) hsub rfl (by kernel_rfl) (fun _=>(by kernel_rfl)) (bc [9] (by kernel_rfl) rfl (cz fun w I=>dg rfl (aq I 11 44 (qf oE jS oF pN jT oG pO jU oH pP oI oJ oK dT dF e0 oL oM oN oO oP oQ oR oS oT oU oV oW oX oY oZ p0 p1 p2 p3 p4 p5 p6 p7 p8 p9 pA pB pC pD pF pG pH pI pJ pK pL) ml rfl rfl rfl rfl rfl (mx rfl) fun w I=>⟨_,I,dc (fun _ h=>h.pk [4,5,6,7,8,9,10] rfl rfl) ?_⟩))))))
  intro hsub
  refine alp 10 (.slice none 0 0) hsub rfl (by kernel_rfl) (fun _=>(by kernel_rfl)) (alp 11 (iv pM) hsub rfl (by kernel_rfl) (fun _=>(by kernel_rfl)) (cp (by kernel_rfl) (fun w I=>?_)))
  have I:Inv [] w0 w [(jS,blk FB 35),(jT,blk FC 35),(jU,blk FD 35),(dT,blk FE 25),(some G,blk [iv q,iv s,iv x,iv y,iv z,iv A,iv B,.string (bts C)] 25),(some J,blk (qf oE jS oF pN jT oG pO jU oH pP oI oJ oK dT dF e0 oL oM oN oO oP oQ oR oS oT oU oV oW oX oY oZ p0 p1 p2 p3 p4 p5 p6 p7 p8 p9 pA pB pC pD pF pG pH pI pJ pK pL) 81)]:=I.pk [0,1,2,3,6,11] rfl (by kernel_rfl)
  refine ab (gm 22 I (by kernel_rfl) (zp (iv pM) (fun _=>(by kernel_rfl)) (ifN F (fun yN F=>?_) (fun yN F=>?_))))
  ·
   refine zc bF (fun w I=>di rfl rfl (fun h=>absurd h yN) (fun _=>br)) (zp bF (fun _=>(by kernel_rfl)) (zf 3 (by kernel_rfl) (zp2 bF bF (fun _=>(by kernel_rfl)) (zf 4 (by kernel_rfl) (zp2 bF bF (fun _=>(by kernel_rfl)) (zf 6 (by kernel_rfl) (zp2 bF bF (fun _=>(by kernel_rfl)) (zh (fun w I=>aa (aj ?_))))))))))
   cases F
   exact ⟨_,Ret.r1 rfl rfl,⟨rfl,I.below⟩⟩
  refine zc bT (fun w I=>di rfl rfl (fun _=>br) (fun h=>absurd yN h)) (zp bT (fun _=>(by kernel_rfl)) (zq (.slice none 0 0) (by kernel_rfl) (fun _=>(by kernel_rfl)) (zo (iv 0) (by kernel_rfl) (fun w I=>kl (iv ((0:Nat):Int)) (by kernel_rfl) br) (zo bT (by kernel_rfl) (fun w I=>di rfl rfl (fun _=>br) (fun h=>absurd (by decide) h)) (zp2 bT bT (fun _=>(by kernel_rfl)) (zq (.pointer (some ⟨J,7,none⟩)) (by kernel_rfl) (fun _=>(by kernel_rfl)) (zo (slv dT dF.length e0) (by kernel_rfl) (fun w I=>ag I 5 (slv dT dF.length e0) mv rfl rfl rfl br) (zo (iv (dF.length:Int)) (by kernel_rfl) (fun w I=>kl (iv ((dF.length:Nat):Int)) (by kernel_rfl) br) (ifN F (fun yO F=>?_) (fun yO F=>?_))))))))))
  ·
   refine zo bF (by kernel_rfl) (fun w I=>di rfl rfl (fun h=>absurd h yO) (fun _=>br)) (zp2 bF bF (fun _=>(by kernel_rfl)) (zf 6 (by kernel_rfl) (zp2 bF bF (fun _=>(by kernel_rfl)) (zh (fun w I=>aa (aj ?_))))))
   cases F
   exact ⟨_,Ret.r1 rfl rfl,⟨rfl,I.below⟩⟩
  refine zo bT (by kernel_rfl) (fun w I=>di rfl rfl (fun _=>br) (fun h=>absurd yO h)) (zp2 bT bT (fun _=>(by kernel_rfl)) (zq (.pointer (some ⟨J,7,none⟩)) (by kernel_rfl) (fun _=>(by kernel_rfl)) (zo (slv dT dF.length e0) (by kernel_rfl) (fun w I=>ag I 5 (slv dT dF.length e0) mv rfl rfl rfl br) (bt F (fun m BK F=>?_)))))
  obtain ⟨FI,rfl,FJ⟩:=BJ.at_ bx (by decide) BK
  refine zo (.pointer (some ⟨FI,0 * 8,none⟩)) (by kernel_rfl) (fun w I=>be 0 nt md rfl rfl rfl (fa BK rfl) br) (zo (.agg (qg m).toArray) (by kernel_rfl) (fun w I=>cq I 3 (qg m) mh md rfl rfl rfl FJ br) (zo (.agg #[iv q,iv s,iv x,iv y,iv z,iv A,iv B,.string (bts C)]) (by kernel_rfl) (fun w I=>ma I 4 mh md rfl rfl rfl br) (ifE F (fun yP F=>?_) (fun yP F=>?_))))
  ·
   refine zo bT (by kernel_rfl) (fun w I=>kz (b:=decide (m.p=q) && decide (m.n=s) && decide (m.k=x) && decide (m.d=y) && decide (m.kn=z) && decide (m.op=A) && decide (m.on=B) && decide (m.t=C)) rfl rfl (by kernel_rfl) (fun w=>eq25 _ m.p m.n m.k m.d m.kn m.op m.on m.t q s x y z A B C w) (fun _=>br) (fun h=>absurd yP h)) (zp2 bT bT (fun _=>(by kernel_rfl)) (zh (fun w I=>aa (aj ?_))))
   cases F
   exact ⟨_,Ret.r1 rfl rfl,⟨rfl,I.below⟩⟩
  refine zo bF (by kernel_rfl) (fun w I=>kz (b:=decide (m.p=q) && decide (m.n=s) && decide (m.k=x) && decide (m.d=y) && decide (m.kn=z) && decide (m.op=A) && decide (m.on=B) && decide (m.t=C)) rfl rfl (by kernel_rfl) (fun w=>eq25 _ m.p m.n m.k m.d m.kn m.op m.on m.t q s x y z A B C w) (fun h=>absurd h yP) (fun _=>br)) (zp2 bF bF (fun _=>(by kernel_rfl)) (zh (fun w I=>aa (aj ?_))))
  cases F
  exact ⟨_,Ret.r1 rfl rfl,⟨rfl,I.below⟩⟩
 obtain ⟨pQ,pR,pS,pT,pU,pV,pW,pX,pY,pZ,q0,q1,q2,q3,q4,q5,q6,q7,q8,q9,qA,qB,qC,qD,qE,qF,qG,qH,qI,qJ,qK,qL,qM,qN,qO,qP,qQ,qR,qS,qT,qU,qV,qW,qX,hX,qY⟩:=F9
 replace I:=I.pk [0,1,2,4,5,6,7,3] rfl rfl
 refine dh I [0,1,2,3,4,5,6] (by decide) rfl (by kernel_rfl) (by kernel_rfl) fun hsub=>alp 1 (.slice (some ⟨d1,0,none⟩) 1 1) hsub rfl (by kernel_rfl) (fun _=>(by kernel_rfl)) (ap 2 (pt d1) hsub rfl (by kernel_rfl) (fun w I=>lj 0 0 zu100 zs83 rfl rfl (by decide) rfl br) (ap 3 (.agg #[iv e.1,iv e.2.1,iv e.2.2.1,iv e.2.2.2.1,iv e.2.2.2.2.1,slv eJ e.2.2.2.2.2.length hW]) hsub rfl (by kernel_rfl) (fun w I=>ma I 0 zi83 zs83 rfl rfl rfl br) (bc [0] (by kernel_rfl) rfl (cz fun w I=>dg rfl (ma I 7 mu ml rfl rfl rfl (⟨_,I,dc (fun _ h=>h.pk [0,1,2,3,4,5,6] rfl rfl) ?_⟩))))))
 intro hsub
 refine bc [4] (by kernel_rfl) rfl (cz fun w I=>dg rfl (co 55 _ (by kernel_rfl) (L55 _ bL (P.map fun b=>⟨b,0,none⟩) cW bM (Q.map fun b=>⟨b,0,none⟩) cX bN (R.map fun b=>⟨b,0,none⟩) cY bO bP bQ bR (S.map fun b=>⟨b,0,none⟩) cZ bS bU bV bW bX bY bZ c0 c1 c2 c4 c5 c6 c7 c8 a0 cA cB cC cD cE cF cG cH cI cJ cK cL cM cN cO cP cQ cR cS cT cU e.1 e.2.1 e.2.2.1 e.2.2.2.1 e.2.2.2.2.1 (eJ.map fun b=>⟨b,0,none⟩) hW e.2.2.2.2.2 (hG.up I) (I.rowCells 3 rfl a1) (am rfl a1.big) (am rfl a1.cap) (I.rowCells 4 rfl a2) (am rfl a2.big) (am rfl a2.cap) (I.rowCells 5 rfl a3) (am rfl a3.big) (am rfl a3.cap) (I.rowCells 6 rfl a4) (am rfl a4.big) (am rfl a4.cap) (I.rowCells 1 rfl eK) (am rfl eK.big) (am rfl eK.cap) N _ FA) ?_))
 intro v w
 refine xP fun jV qZ FK jW r4 FL jX r5 FM jY r6 FN jZ BL FO FP=>xa fun hv=>xa fun hN=>xa fun FQ=>xa fun FR=>xa fun FT=>xa fun FU=>fun FV=>?_
 dsimp only at hv hN FQ FR FT FU FV; subst hv
 have I:=I.join hN; clear hN
 refine ⟨_,I,dc (fun _ h=>h.pk [6,7,8,9,10,11,12] rfl rfl) ?_⟩
 intro hsub
 refine alp 5 (.tuple #[.agg (qf pQ jV pR qZ jW pS r4 jX pT r5 pU pV pW jY pX r6 pY pZ q0 q1 q2 q3 q4 q5 q6 q7 q8 q9 qA qB qC qD qE qF qG qH qI qJ qK qL qM qN qO qP qQ qR qS qT qU qV qW qX).toArray,.slice (some ⟨jZ,0,none⟩) 1 1,iv qY]) hsub rfl (by kernel_rfl) (fun _=>(by kernel_rfl)) (alp 6 (.agg (qf pQ jV pR qZ jW pS r4 jX pT r5 pU pV pW jY pX r6 pY pZ q0 q1 q2 q3 q4 q5 q6 q7 q8 q9 qA qB qC qD qE qF qG qH qI qJ qK qL qM qN qO qP qQ qR qS qT qU qV qW qX).toArray) hsub rfl (by kernel_rfl) (fun _=>(by kernel_rfl)) (alp 7 (.slice (some ⟨jZ,0,none⟩) 1 1) hsub rfl (by kernel_rfl) (fun _=>(by kernel_rfl)) (alp 8 (iv qY) hsub rfl (by kernel_rfl) (fun _=>(by kernel_rfl)) (bc [9] (by kernel_rfl) rfl (cz fun w I=>dg rfl (aq I 13 44 (qf pQ jV pR qZ jW pS r4 jX pT r5 pU pV pW jY pX r6 pY pZ q0 q1 q2 q3 q4 q5 q6 q7 q8 q9 qA qB qC qD qE qF qG qH qI qJ qK qL qM qN qO qP qQ qR qS qT qU qV qW qX) ml rfl rfl rfl rfl rfl (mx rfl) fun w I=>⟨_,I,dc (fun _ h=>h.pk [6,7,8,9,10,11,12] rfl rfl) ?_⟩))))))
 intro hsub
 refine alp 10 (.slice (some ⟨jZ,0,none⟩) 1 1) hsub rfl (by kernel_rfl) (fun _=>(by kernel_rfl)) (alp 11 (iv qY) hsub rfl (by kernel_rfl) (fun _=>(by kernel_rfl)) (cp (by kernel_rfl) (fun w I=>?_)))
 have I:Inv [] w0 w [(jV,blk FK 35),(jW,blk FL 35),(jX,blk FM 35),(jY,blk FN 25),(some jZ,blk [iv hX.1,iv hX.2.1,iv hX.2.2.1,iv hX.2.2.2.1,iv hX.2.2.2.2.1,slv BL hX.2.2.2.2.2.length FO] 83),(BL,blk FP 25),(some G,blk [iv q,iv s,iv x,iv y,iv z,iv A,iv B,.string (bts C)] 25),(some J,blk (qf pQ jV pR qZ jW pS r4 jX pT r5 pU pV pW jY pX r6 pY pZ q0 q1 q2 q3 q4 q5 q6 q7 q8 q9 qA qB qC qD qE qF qG qH qI qJ qK qL qM qN qO qP qQ qR qS qT qU qV qW qX) 81)]:=I.pk [0,1,2,3,4,5,8,13] rfl (by kernel_rfl)
 refine ab (gm 22 I (by kernel_rfl) (zp (iv qY) (fun _=>(by kernel_rfl)) (ifN F (fun yQ F=>?_) (fun yQ F=>?_))))
 ·
  refine zc bF (fun w I=>di rfl rfl (fun h=>absurd h yQ) (fun _=>br)) (zp bF (fun _=>(by kernel_rfl)) (zf 3 (by kernel_rfl) (zp2 bF bF (fun _=>(by kernel_rfl)) (zf 4 (by kernel_rfl) (zp2 bF bF (fun _=>(by kernel_rfl)) (zf 6 (by kernel_rfl) (zp2 bF bF (fun _=>(by kernel_rfl)) (zh (fun w I=>aa (aj ?_))))))))))
  cases F
  exact ⟨_,Ret.r1 rfl rfl,⟨rfl,I.below⟩⟩
 refine zc bT (fun w I=>di rfl rfl (fun _=>br) (fun h=>absurd yQ h)) (zp bT (fun _=>(by kernel_rfl)) (zq (.slice (some ⟨jZ,0,none⟩) 1 1) (by kernel_rfl) (fun _=>(by kernel_rfl)) (zo (iv 1) (by kernel_rfl) (fun w I=>kl (iv ((1:Nat):Int)) (by kernel_rfl) br) (zo bF (by kernel_rfl) (fun w I=>di rfl rfl (fun h=>absurd h (by decide)) (fun _=>br)) (zp2 bF bF (fun _=>(by kernel_rfl)) (zf 4 (by kernel_rfl) (zp2 bF bF (fun _=>(by kernel_rfl)) (zf 6 (by kernel_rfl) (zp2 bF bF (fun _=>(by kernel_rfl)) (zh (fun w I=>aa (aj ?_))))))))))))
 cases F
 exact ⟨_,Ret.r1 rfl rfl,⟨rfl,I.below⟩⟩
end Go.K
