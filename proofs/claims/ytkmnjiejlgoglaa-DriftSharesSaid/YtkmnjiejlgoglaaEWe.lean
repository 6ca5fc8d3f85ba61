import Derived.Test.YtkmnjiejlgoglaaEWd
namespace Go.K
open Go.Proofs Go.RowKit
set_option linter.unusedVariables false
set_option linter.unusedSimpArgs false
set_option maxRecDepth 100000
attribute [local irreducible] Seq cw CallV AnyE opX
theorem L5 (w0:World) (j:Option Addr) (k:Nat) (g:List Ch) (l:Option Addr) (o:Nat) (i:List Ce) (e:Option Addr) (f:Nat) (d:List Cl) (K:Option Addr) (L:Nat) (q:List Dr) (O:Int) (P:Int) (Q:Int) (Y:Option Addr) (Z:Nat) (x:List Int) (R:Int) (S:Int) (y:bi w0 j (al eCh g)) (z:g.length≤9223372036854775807) (A:g.length≤k) (B:bi w0 l (al eCe i)) (C:i.length≤9223372036854775807) (D:i.length≤o) (E:bi w0 e (al eCl d)) (G:d.length≤9223372036854775807) (H:d.length≤f) (aT:bi w0 K (al eDr q)) (aU:q.length≤9223372036854775807) (aV:q.length≤L) (c1:bi w0 Y (al dv x)) (c2:x.length≤9223372036854775807) (c4:x.length≤Z) (N:Nat) (r:Bool) (F:F5 N g i d q O P Q x R S=some r):cc Try.prog 5 [.agg #[.slice j g.length k,.slice l i.length o],.slice e d.length f,.agg #[.slice K q.length L,iv O,iv P,iv Q,.slice Y x.length Z,iv R,iv S]] w0 fun v w=>v=.bool r∧Below w0.heap.size w0 w:=by
 refine az (n:=257) Try.func5 rfl Try.ntmps5 rfl ?_
 have I:=Inv.start w0
 unfold F5 at F
 refine ab (rgn (by kernel_rfl) (ph (ca I _ rfl fun a3 w I=>ph (ca I _ rfl fun M w I=>pu bF (by kernel_rfl) (aa (dn (fun ρ w=>∃ (a4:Bool),cd ρ [(1,.slice e d.length f),(3,pt a3),(5,pt M),(7,.bool a4)]∧Inv [] w0 w [(some a3,blk [.slice j g.length k,.slice l i.length o] 25),(some M,blk [.slice K q.length L,iv O,iv P,iv Q,.slice Y x.length Z,iv R,iv S] 71)]∧F5j1 g i d q O P Q x R S N a4=some r) ?_ ?_))))))
 ·
  refine rgn (by kernel_rfl) (bt F (fun d8 c5 F=>ifE F (fun b5 F=>?_) (fun b5 F=>?_)))
  ·
   refine ph (ac I 11 _ _ (by kernel_rfl) (cc.mono (L11 _ N _ c5) (fun v' w' h=>⟨h.1.trans (congrArg Value.bool b5),h.2⟩)) fun w I=>pu bT (by kernel_rfl) (aa (.inl ⟨rfl,⟨true,⟨rfl,rfl,rfl,rfl,trivial⟩,I.pk [1,0] rfl rfl,F⟩⟩)))
  refine ph (ac I 11 _ _ (by kernel_rfl) (cc.mono (L11 _ N _ c5) (fun v' w' h=>⟨h.1.trans (congrArg Value.bool (Bool.eq_false_iff.2 b5)),h.2⟩)) fun w I=>pu bF (by kernel_rfl) (aa (.inl ⟨rfl,⟨false,⟨rfl,rfl,rfl,rfl,trivial⟩,I.pk [1,0] rfl rfl,F⟩⟩)))
 intro ρ w hJ
 obtain ⟨a4,hag,I,F⟩:=hJ
 obtain ⟨ρ,rfl⟩:=hag.form; clear hag
 unfold F5j1 at F
 refine ab (rgn (by kernel_rfl) (ph (ma I 0 Try.isAgg25 Try.sizeOf25 rfl rfl rfl (pu2 (.slice e d.length f) (pt M) (by kernel_rfl) (ph (ag I 1 (.slice K q.length L) Try.isAgg63 rfl rfl rfl (bt F (fun U cB F=>ph (co 35 _ (by kernel_rfl) (L35 _ j k g l o i e f d K L q (y.inv0 I) z A (B.inv0 I) C D (E.inv0 I) G H (aT.inv0 I) aU aV N _ cB) ?_)))))))))
 rintro v w ⟨aE,aF,d9,rfl,hN,aG⟩
 have I:=I.join hN; clear hN
 refine pu3 (.tuple #[slv aE U.1.length aF,iv U.2]) (slv aE U.1.length aF) (iv U.2) (by kernel_rfl) (pu2 (slv aE U.1.length aF) (iv U.2) (by kernel_rfl) (aa (ab (rgn (by kernel_rfl) (ph (ma I 1 Try.isAgg25 Try.sizeOf25 rfl rfl rfl (pu2 (.slice e d.length f) (pt M) (by kernel_rfl) (ph (ag I 2 (.slice K q.length L) Try.isAgg63 rfl rfl rfl (bt F (fun V cC F=>ph (co 36 _ (by kernel_rfl) (L36 _ j k g l o i e f d K L q (y.inv0 I) z A (B.inv0 I) C D (E.inv0 I) G H (aT.inv0 I) aU aV N _ cC) ?_))))))))))))
 rintro v w ⟨aH,aI,dA,rfl,hN,aJ⟩
 have I:=I.join hN; clear hN
 refine pu3 (.tuple #[slv aH V.1.length aI,iv V.2]) (slv aH V.1.length aI) (iv V.2) (by kernel_rfl) (pu2 (slv aH V.1.length aI) (iv V.2) (by kernel_rfl) (aa (ab (rgn (by kernel_rfl) (ph (ma I 2 Try.isAgg25 Try.sizeOf25 rfl rfl rfl (pu (.slice e d.length f) (by kernel_rfl) (bt F (fun p cD F=>ph (ac I 37 _ _ (by kernel_rfl) (L37 _ j k g l o i e f d (y.inv0 I) z A (B.inv0 I) C D (E.inv0 I) G H N _ cD) fun w I=>pu3 (.tuple #[.agg #[iv p.1,iv p.2.1],iv p.2.2]) (.agg #[iv p.1,iv p.2.1]) (iv p.2.2) (by kernel_rfl) (ph (bh I _ Try.zeroValue51 rfl fun aW w I=>ph (mb I 0 _ Try.sizeOf51 rfl rfl rfl rfl rfl rfl fun w I=>pu (iv p.2.2) (by kernel_rfl) (aa (ab (rgn (by kernel_rfl) (ph (ma I 3 Try.isAgg25 Try.sizeOf25 rfl rfl rfl (pu (.slice e d.length f) (by kernel_rfl) (bt F (fun a cE F=>ph (ac I 38 _ _ (by kernel_rfl) (L38 _ j k g l o i e f d (y.inv0 I) z A (B.inv0 I) C D (E.inv0 I) G H N _ cE) fun w I=>pu3 (.tuple #[.agg #[iv a.1,iv a.2.1],iv a.2.2]) (.agg #[iv a.1,iv a.2.1]) (iv a.2.2) (by kernel_rfl) (ph (bh I _ Try.zeroValue51 rfl fun a1 w I=>ph (mb I 0 _ Try.sizeOf51 rfl rfl rfl rfl rfl rfl fun w I=>pu (iv a.2.2) (by kernel_rfl) (aa (ab (rgn (by kernel_rfl) (ph (ma I 4 Try.isAgg25 Try.sizeOf25 rfl rfl rfl (pu (.slice e d.length f) (by kernel_rfl) (bt F (fun W cF F=>ph (co 39 _ (by kernel_rfl) (L39 _ j k g l o i e f d (y.inv0 I) z A (B.inv0 I) C D (E.inv0 I) G H N _ cF) ?_))))))))))))))))))))))))))))))))))
 rintro v w ⟨a5,a8,cG,rfl,hN,aK⟩
 have I:=I.join hN; clear hN
 refine pu3 (.tuple #[slv a5 W.1.length a8,iv W.2]) (slv a5 W.1.length a8) (iv W.2) (by kernel_rfl) (pu2 (slv a5 W.1.length a8) (iv W.2) (by kernel_rfl) (aa (ab (rgn (by kernel_rfl) (ph (ma I 5 Try.isAgg25 Try.sizeOf25 rfl rfl rfl (pu (.slice e d.length f) (by kernel_rfl) (bt F (fun X cH F=>ph (co 40 _ (by kernel_rfl) (L40 _ j k g l o i e f d (y.inv0 I) z A (B.inv0 I) C D (E.inv0 I) G H N _ cH) ?_))))))))))
 rintro v w ⟨a6,a9,cI,rfl,hN,aL⟩
 have I:=I.join hN; clear hN
 refine pu3 (.tuple #[slv a6 X.1.length a9,iv X.2]) (slv a6 X.1.length a9) (iv X.2) (by kernel_rfl) (pu2 (slv a6 X.1.length a9) (iv X.2) (by kernel_rfl) (aa (dn (fun ρ w=>∃ (aA:Bool),cd ρ [(1,.slice e d.length f),(3,pt a3),(5,pt M),(7,.bool a4),(9,iv U.2),(11,iv V.2),(12,pt aW),(13,iv p.2.2),(14,pt a1),(15,iv a.2.2),(16,slv a5 W.1.length a8),(17,iv W.2),(18,slv a6 X.1.length a9),(19,iv X.2),(20,.bool aA)]∧Inv [] w0 w [(some a3,blk [.slice j g.length k,.slice l i.length o] 25),(some M,blk [.slice K q.length L,iv O,iv P,iv Q,.slice Y x.length Z,iv R,iv S] 71),(some aW,blk [iv p.1,iv p.2.1] 51),(some a1,blk [iv a.1,iv a.2.1] 51),(a5,blk cG 3),(a6,blk cI 3)]∧F5j2 g i d q O P Q x R S N a4 U V p a W X aA=some r) ?_ ?_)))
 ·
  refine rgn (by kernel_rfl) (pu2 (slv aE U.1.length aF) (slv aH V.1.length aI) (by kernel_rfl) (bt F (fun dB c6 F=>ifE F (fun b6 F=>?_) (fun b6 F=>?_))))
  ·
   refine ph (ac I 41 _ _ (by kernel_rfl) (cc.mono (L41 _ (aE.map fun b=>⟨b,0,none⟩) aF U.1 (aH.map fun b=>⟨b,0,none⟩) aI V.1 (I.rowCells 5 rfl aG) (am rfl aG.big) (am rfl aG.cap) (I.rowCells 4 rfl aJ) (am rfl aJ.big) (am rfl aJ.cap) N _ c6) (fun v' w' h=>⟨h.1.trans (congrArg Value.bool b6),h.2⟩)) fun w I=>pu bT (by kernel_rfl) (aa (.inl ⟨rfl,⟨true,⟨rfl,rfl,rfl,rfl,rfl,rfl,rfl,rfl,rfl,rfl,rfl,rfl,rfl,rfl,rfl,trivial⟩,I.pk [6,7,3,2,1,0] rfl rfl,F⟩⟩)))
  refine ph (ac I 41 _ _ (by kernel_rfl) (cc.mono (L41 _ (aE.map fun b=>⟨b,0,none⟩) aF U.1 (aH.map fun b=>⟨b,0,none⟩) aI V.1 (I.rowCells 5 rfl aG) (am rfl aG.big) (am rfl aG.cap) (I.rowCells 4 rfl aJ) (am rfl aJ.big) (am rfl aJ.cap) N _ c6) (fun v' w' h=>⟨h.1.trans (congrArg Value.bool (Bool.eq_false_iff.2 b6)),h.2⟩)) fun w I=>pu bF (by kernel_rfl) (aa (.inl ⟨rfl,⟨false,⟨rfl,rfl,rfl,rfl,rfl,rfl,rfl,rfl,rfl,rfl,rfl,rfl,rfl,rfl,rfl,trivial⟩,I.pk [6,7,3,2,1,0] rfl rfl,F⟩⟩)))
 intro ρ w hJ
 obtain ⟨aA,hag,I,F⟩:=hJ
 obtain ⟨ρ,rfl⟩:=hag.form; clear hag
 unfold F5j2 at F
 refine dn (fun ρ w=>∃ (aB:Bool),cd ρ [(1,.slice e d.length f),(3,pt a3),(5,pt M),(7,.bool a4),(9,iv U.2),(11,iv V.2),(12,pt aW),(13,iv p.2.2),(14,pt a1),(15,iv a.2.2),(17,iv W.2),(19,iv X.2),(20,.bool aA),(21,.bool aB)]∧Inv [] w0 w [(some a3,blk [.slice j g.length k,.slice l i.length o] 25),(some M,blk [.slice K q.length L,iv O,iv P,iv Q,.slice Y x.length Z,iv R,iv S] 71),(some aW,blk [iv p.1,iv p.2.1] 51),(some a1,blk [iv a.1,iv a.2.1] 51)]∧F5j3 g i d q O P Q x R S N a4 U V p a W X aA aB=some r) ?_ ?_
 ·
  refine rgn (by kernel_rfl) (pu2 (slv a5 W.1.length a8) (slv a6 X.1.length a9) (by kernel_rfl) (bt F (fun dC c7 F=>ifE F (fun b7 F=>?_) (fun b7 F=>?_))))
  ·
   refine ph (ac I 42 _ _ (by kernel_rfl) (cc.mono (L42 _ (a5.map fun b=>⟨b,0,none⟩) a8 W.1 (a6.map fun b=>⟨b,0,none⟩) a9 X.1 (I.rowCells 4 rfl aK) (am rfl aK.big) (am rfl aK.cap) (I.rowCells 5 rfl aL) (am rfl aL.big) (am rfl aL.cap) N _ c7) (fun v' w' h=>⟨h.1.trans (congrArg Value.bool b7),h.2⟩)) fun w I=>pu bT (by kernel_rfl) (aa (.inl ⟨rfl,⟨true,⟨rfl,rfl,rfl,rfl,rfl,rfl,rfl,rfl,rfl,rfl,rfl,rfl,rfl,rfl,trivial⟩,I.pk [0,1,2,3] rfl rfl,F⟩⟩)))
  refine ph (ac I 42 _ _ (by kernel_rfl) (cc.mono (L42 _ (a5.map fun b=>⟨b,0,none⟩) a8 W.1 (a6.map fun b=>⟨b,0,none⟩) a9 X.1 (I.rowCells 4 rfl aK) (am rfl aK.big) (am rfl aK.cap) (I.rowCells 5 rfl aL) (am rfl aL.big) (am rfl aL.cap) N _ c7) (fun v' w' h=>⟨h.1.trans (congrArg Value.bool (Bool.eq_false_iff.2 b7)),h.2⟩)) fun w I=>pu bF (by kernel_rfl) (aa (.inl ⟨rfl,⟨false,⟨rfl,rfl,rfl,rfl,rfl,rfl,rfl,rfl,rfl,rfl,rfl,rfl,rfl,rfl,trivial⟩,I.pk [0,1,2,3] rfl rfl,F⟩⟩)))
 intro ρ w hJ
 obtain ⟨aB,hag,I,F⟩:=hJ
 obtain ⟨ρ,rfl⟩:=hag.form; clear hag
 unfold F5j3 at F
 refine ab (ab ?_)
 have hG:=F; rcases Bool.eq_false_or_eq_true a4 with rfl | rfl
 ·
  have F:=hG; clear hG
  refine ifE F (fun _ F=>?_) (fun h=>absurd rfl h)
  have hG:=F; rcases Bool.eq_false_or_eq_true aA with rfl | rfl
  ·
   have F:=hG; clear hG
   refine ifE F (fun _ F=>?_) (fun h=>absurd rfl h)
   have hG:=F; rcases Bool.eq_false_or_eq_true aB with rfl | rfl
   ·
    have F:=hG; clear hG
    refine ifE F (fun _ F=>?_) (fun h=>absurd rfl h)
    refine gm 43 I (by kernel_rfl) (zp2 bT bF (fun _=>(by kernel_rfl)) (zp bF (fun _=>(by kernel_rfl)) (zq bT (by kernel_rfl) (fun _=>(by kernel_rfl)) (zq bF (by kernel_rfl) (fun _=>(by kernel_rfl)) (zp2 bF bF (fun _=>(by kernel_rfl)) (zq (iv U.2) (by kernel_rfl) (fun _=>(by kernel_rfl)) (zq (iv V.2) (by kernel_rfl) (fun _=>(by kernel_rfl)) (ifN F (fun b8 F=>?_) (fun b8 F=>?_)))))))))
    ·
     refine zo bT (by kernel_rfl) (fun w I=>de rfl rfl (fun _=>br) (fun h=>absurd h b8)) (zp2 bT bT (fun _=>(by kernel_rfl)) (zf 3 (by kernel_rfl) (zp2 bT bT (fun _=>(by kernel_rfl)) (zf 3 (by kernel_rfl) (zp2 bT bT (fun _=>(by kernel_rfl)) (zf 1 (by kernel_rfl) (zf 1 (by kernel_rfl) (zp2 bT bT (fun _=>(by kernel_rfl)) (zf 3 (by kernel_rfl) (zp2 bT bT (fun _=>(by kernel_rfl)) (zf 11 (by kernel_rfl) (zp bT (fun _=>(by kernel_rfl)) (zh (fun w I=>aa (ah rfl (ab (rgn (by kernel_rfl) (pu bF (by kernel_rfl) (aa (aj ?_))))))))))))))))))))
     cases F
     exact ⟨_,Ret.r1 rfl rfl,⟨rfl,I.below⟩⟩
    refine zo bF (by kernel_rfl) (fun w I=>de rfl rfl (fun h=>absurd b8 h) (fun _=>br)) (zp2 bF bF (fun _=>(by kernel_rfl)) (zo (.agg #[iv p.1,iv p.2.1]) (by kernel_rfl) (fun w I=>ma I 2 Try.isAgg51 Try.sizeOf51 rfl rfl rfl br) (zo (.agg #[iv a.1,iv a.2.1]) (by kernel_rfl) (fun w I=>ma I 3 Try.isAgg51 Try.sizeOf51 rfl rfl rfl br) (ifN F (fun b9 F=>?_) (fun b9 F=>?_)))))
    ·
     refine zo bT (by kernel_rfl) (fun w I=>s_neqA (b:=decide (p.1=a.1) && decide (p.2.1=a.2.1)) rfl rfl (by kernel_rfl) (fun w=>eq51 _ p.1 p.2.1 a.1 a.2.1 w) (fun _=>br) (fun h=>absurd h b9)) (zp2 bT bT (fun _=>(by kernel_rfl)) (zf 3 (by kernel_rfl) (zp2 bT bT (fun _=>(by kernel_rfl)) (zf 2 (by kernel_rfl) (zp2 bT bT (fun _=>(by kernel_rfl)) (zf 1 (by kernel_rfl) (zf 2 (by kernel_rfl) (zp2 bT bT (fun _=>(by kernel_rfl)) (zf 11 (by kernel_rfl) (zp bT (fun _=>(by kernel_rfl)) (zh (fun w I=>aa (ah rfl (ab (rgn (by kernel_rfl) (pu bF (by kernel_rfl) (aa (aj ?_))))))))))))))))))
     cases F
     exact ⟨_,Ret.r1 rfl rfl,⟨rfl,I.below⟩⟩
    refine zo bF (by kernel_rfl) (fun w I=>s_neqA (b:=decide (p.1=a.1) && decide (p.2.1=a.2.1)) rfl rfl (by kernel_rfl) (fun w=>eq51 _ p.1 p.2.1 a.1 a.2.1 w) (fun h=>absurd b9 h) (fun _=>br)) (zp2 bF bF (fun _=>(by kernel_rfl)) (zq (iv p.2.2) (by kernel_rfl) (fun _=>(by kernel_rfl)) (zq (iv a.2.2) (by kernel_rfl) (fun _=>(by kernel_rfl)) (ifN F (fun bA F=>?_) (fun bA F=>?_)))))
    ·
     refine zo bT (by kernel_rfl) (fun w I=>de rfl rfl (fun _=>br) (fun h=>absurd h bA)) (zp2 bT bT (fun _=>(by kernel_rfl)) (zf 2 (by kernel_rfl) (zp2 bT bT (fun _=>(by kernel_rfl)) (zf 3 (by kernel_rfl) (zp2 bT bT (fun _=>(by kernel_rfl)) (zf 1 (by kernel_rfl) (zf 10 (by kernel_rfl) (zp bT (fun _=>(by kernel_rfl)) (zh (fun w I=>aa (ah rfl (ab (rgn (by kernel_rfl) (pu bF (by kernel_rfl) (aa (aj ?_))))))))))))))))
     cases F
     exact ⟨_,Ret.r1 rfl rfl,⟨rfl,I.below⟩⟩
    refine zo bF (by kernel_rfl) (fun w I=>de rfl rfl (fun h=>absurd bA h) (fun _=>br)) (zp2 bF bF (fun _=>(by kernel_rfl)) (zq bT (by kernel_rfl) (fun _=>(by kernel_rfl)) (zq bF (by kernel_rfl) (fun _=>(by kernel_rfl)) (zp2 bF bF (fun _=>(by kernel_rfl)) (zq (iv W.2) (by kernel_rfl) (fun _=>(by kernel_rfl)) (zq (iv X.2) (by kernel_rfl) (fun _=>(by kernel_rfl)) (ifN F (fun bB F=>?_) (fun bB F=>?_))))))))
    ·
     refine zo bT (by kernel_rfl) (fun w I=>de rfl rfl (fun _=>br) (fun h=>absurd h bB)) (zp2 bT bT (fun _=>(by kernel_rfl)) (zf 11 (by kernel_rfl) (zp bT (fun _=>(by kernel_rfl)) (zh (fun w I=>aa (ah rfl (ab (rgn (by kernel_rfl) (pu bF (by kernel_rfl) (aa (aj ?_)))))))))))
     cases F
     exact ⟨_,Ret.r1 rfl rfl,⟨rfl,I.below⟩⟩
    refine zo bF (by kernel_rfl) (fun w I=>de rfl rfl (fun h=>absurd bB h) (fun _=>br)) (zp2 bF bF (fun _=>(by kernel_rfl)) (zo (.agg #[.slice j g.length k,.slice l i.length o]) (by kernel_rfl) (fun w I=>ma I 0 Try.isAgg25 Try.sizeOf25 rfl rfl rfl br) (zq (.slice e d.length f) (by kernel_rfl) (fun _=>(by kernel_rfl)) (zq (pt M) (by kernel_rfl) (fun _=>(by kernel_rfl)) (zo (.slice K q.length L) (by kernel_rfl) (fun w I=>ag I 1 (.slice K q.length L) Try.isAgg63 rfl rfl rfl br) (bt F (fun cJ cK F=>zo (iv cJ) (by kernel_rfl) (fun w I=>co 43 [.agg #[.slice j g.length k,.slice l i.length o],.slice e d.length f,.slice K q.length L] (by kernel_rfl) (L43 _ j k g l o i e f d K L q (y.inv0 I) z A (B.inv0 I) C D (E.inv0 I) G H (aT.inv0 I) aU aV N _ cK) (fun v' w' h=>h)) (zo (.agg #[.slice j g.length k,.slice l i.length o]) (by kernel_rfl) (fun w I=>ma I 0 Try.isAgg25 Try.sizeOf25 rfl rfl rfl br) (zq (.slice e d.length f) (by kernel_rfl) (fun _=>(by kernel_rfl)) (zq (pt M) (by kernel_rfl) (fun _=>(by kernel_rfl)) (zo (.slice K q.length L) (by kernel_rfl) (fun w I=>ag I 1 (.slice K q.length L) Try.isAgg63 rfl rfl rfl br) (bt F (fun cL cM F=>zo (iv cL) (by kernel_rfl) (fun w I=>co 44 [.agg #[.slice j g.length k,.slice l i.length o],.slice e d.length f,.slice K q.length L] (by kernel_rfl) (L44 _ j k g l o i e f d K L q (y.inv0 I) z A (B.inv0 I) C D (E.inv0 I) G H (aT.inv0 I) aU aV N _ cM) (fun v' w' h=>h)) (ifN F (fun bC F=>?_) (fun bC F=>?_)))))))))))))))
    ·
     refine zo bT (by kernel_rfl) (fun w I=>de rfl rfl (fun _=>br) (fun h=>absurd h bC)) (zp bT (fun _=>(by kernel_rfl)) (zh (fun w I=>aa (ah rfl (ab (rgn (by kernel_rfl) (pu bF (by kernel_rfl) (aa (aj ?_)))))))))
     cases F
     exact ⟨_,Ret.r1 rfl rfl,⟨rfl,I.below⟩⟩
    refine zo bF (by kernel_rfl) (fun w I=>de rfl rfl (fun h=>absurd bC h) (fun _=>br)) (zp bF (fun _=>(by kernel_rfl)) (zh (fun w I=>aa (ai rfl (ak (ab (ab (gm 28 I (by kernel_rfl) (zc (.agg #[.slice j g.length k,.slice l i.length o]) (fun w I=>ma I 0 Try.isAgg25 Try.sizeOf25 rfl rfl rfl br) (zp2 (.slice e d.length f) (.pointer (some ⟨M,1,none⟩)) (fun _=>(by kernel_rfl)) (zc (.agg #[iv O,iv P]) (fun w I=>ar I 1 2 [iv O,iv P] Try.isAgg65 Try.sizeOf65 rfl rfl rfl rfl br) (bt F (fun cN cO F=>zc (iv cN) (fun w I=>co 45 [.agg #[.slice j g.length k,.slice l i.length o],.slice e d.length f,.agg #[iv O,iv P]] (by kernel_rfl) (L45 _ j k g l o i e f d (⟨O,P⟩:Cw) (y.inv0 I) z A (B.inv0 I) C D (E.inv0 I) G H N _ cO) (fun v' w' h=>h)) (zc (.agg #[.slice j g.length k,.slice l i.length o]) (fun w I=>ma I 0 Try.isAgg25 Try.sizeOf25 rfl rfl rfl br) (zp2 (.slice e d.length f) (.pointer (some ⟨M,1,none⟩)) (fun _=>(by kernel_rfl)) (zc (.agg #[iv O,iv P]) (fun w I=>ar I 1 2 [iv O,iv P] Try.isAgg65 Try.sizeOf65 rfl rfl rfl rfl br) (bt F (fun cP cQ F=>zc (iv cP) (fun w I=>co 46 [.agg #[.slice j g.length k,.slice l i.length o],.slice e d.length f,.agg #[iv O,iv P]] (by kernel_rfl) (L46 _ j k g l o i e f d (⟨O,P⟩:Cw) (y.inv0 I) z A (B.inv0 I) C D (E.inv0 I) G H N _ cQ) (fun v' w' h=>h)) (ifN F (fun bD F=>?_) (fun bD F=>?_))))))))))))))))))))
    ·
     refine zc bT (fun w I=>de rfl rfl (fun _=>br) (fun h=>absurd h bD)) (zp bT (fun _=>(by kernel_rfl)) (zf 15 (by kernel_rfl) (zp bT (fun _=>(by kernel_rfl)) (zh (fun w I=>aa (ah rfl (ab (rgn (by kernel_rfl) (pu bF (by kernel_rfl) (aa (aj ?_)))))))))))
     cases F
     exact ⟨_,Ret.r1 rfl rfl,⟨rfl,I.below⟩⟩
    refine zc bF (fun w I=>de rfl rfl (fun h=>absurd bD h) (fun _=>br)) (zp bF (fun _=>(by kernel_rfl)) (zo (.agg #[.slice j g.length k,.slice l i.length o]) (by kernel_rfl) (fun w I=>ma I 0 Try.isAgg25 Try.sizeOf25 rfl rfl rfl br) (zq (.slice e d.length f) (by kernel_rfl) (fun _=>(by kernel_rfl)) (zq (.pointer (some ⟨M,3,none⟩)) (by kernel_rfl) (fun _=>(by kernel_rfl)) (zq (.pointer (some ⟨M,3,none⟩)) (by kernel_rfl) (fun _=>(by kernel_rfl)) (zo (.agg #[iv Q,.slice Y x.length Z]) (by kernel_rfl) (fun w I=>ar I 1 2 [iv Q,.slice Y x.length Z] Try.isAgg67 Try.sizeOf67 rfl rfl rfl rfl br) (zq (.pointer (some ⟨M,3,none⟩)) (by kernel_rfl) (fun _=>(by kernel_rfl)) (zq (.pointer (some ⟨M,5,none⟩)) (by kernel_rfl) (fun _=>(by kernel_rfl)) (zo (.agg #[iv R,iv S]) (by kernel_rfl) (fun w I=>ar I 1 2 [iv R,iv S] Try.isAgg51 Try.sizeOf51 rfl rfl rfl rfl br) (bt F (fun cR cS F=>zo (iv cR) (by kernel_rfl) (fun w I=>co 47 [.agg #[.slice j g.length k,.slice l i.length o],.slice e d.length f,.agg #[iv Q,.slice Y x.length Z],.agg #[iv R,iv S]] (by kernel_rfl) (L47 _ j k g l o i e f d Q Y Z x (⟨R,S⟩:Gn) (y.inv0 I) z A (B.inv0 I) C D (E.inv0 I) G H (c1.inv0 I) c2 c4 N _ cS) (fun v' w' h=>h)) (zo (.agg #[.slice j g.length k,.slice l i.length o]) (by kernel_rfl) (fun w I=>ma I 0 Try.isAgg25 Try.sizeOf25 rfl rfl rfl br) (zq (.slice e d.length f) (by kernel_rfl) (fun _=>(by kernel_rfl)) (zq (.pointer (some ⟨M,3,none⟩)) (by kernel_rfl) (fun _=>(by kernel_rfl)) (zo (.agg #[iv Q,.slice Y x.length Z,iv R,iv S]) (by kernel_rfl) (fun w I=>ar I 1 4 [iv Q,.slice Y x.length Z,iv R,iv S] Try.isAgg69 Try.sizeOf69 rfl rfl rfl rfl br) (bt F (fun cT cU F=>zo (iv cT) (by kernel_rfl) (fun w I=>co 48 [.agg #[.slice j g.length k,.slice l i.length o],.slice e d.length f,.agg #[iv Q,.slice Y x.length Z,iv R,iv S]] (by kernel_rfl) (L48 _ j k g l o i e f d Q Y Z x R S (y.inv0 I) z A (B.inv0 I) C D (E.inv0 I) G H (c1.inv0 I) c2 c4 N _ cU) (fun v' w' h=>h)) (ifN F (fun bE F=>?_) (fun bE F=>?_)))))))))))))))))))
    ·
     refine zo bT (by kernel_rfl) (fun w I=>de rfl rfl (fun _=>br) (fun h=>absurd h bE)) (zp bT (fun _=>(by kernel_rfl)) (zh (fun w I=>aa (ah rfl (ab (rgn (by kernel_rfl) (pu bF (by kernel_rfl) (aa (aj ?_)))))))))
     cases F
     exact ⟨_,Ret.r1 rfl rfl,⟨rfl,I.below⟩⟩
    refine zo bF (by kernel_rfl) (fun w I=>de rfl rfl (fun h=>absurd bE h) (fun _=>br)) (zp bF (fun _=>(by kernel_rfl)) (zh (fun w I=>aa (ai rfl (ak (ab (rgn (by kernel_rfl) (ph (ma I 0 Try.isAgg25 Try.sizeOf25 rfl rfl rfl (pu (.slice e d.length f) (by kernel_rfl) (bt F (fun a0 cV F=>ph (co 49 _ (by kernel_rfl) (L49 _ j k g l o i e f d (y.inv0 I) z A (B.inv0 I) C D (E.inv0 I) G H N _ cV) ?_)))))))))))))
    rintro v w ⟨a7,aC,cW,rfl,hN,bG⟩
    have I:=I.join hN; clear hN
    refine pu3 (.tuple #[slv a7 a0.1.length aC,iv a0.2]) (slv a7 a0.1.length aC) (iv a0.2) (by kernel_rfl) (pu2 (slv a7 a0.1.length aC) (iv a0.2) (by kernel_rfl) (aa (ab (rgn (by kernel_rfl) (ph (ma I 1 Try.isAgg25 Try.sizeOf25 rfl rfl rfl (pu (.slice e d.length f) (by kernel_rfl) (bt F (fun J cX F=>ph (co 50 _ (by kernel_rfl) (L50 _ j k g l o i e f d (y.inv0 I) z A (B.inv0 I) C D (E.inv0 I) G H N _ cX) ?_))))))))))
    rintro v w ⟨aD,aM,cY,rfl,hN,bH⟩
    have I:=I.join hN; clear hN
    refine pu3 (.tuple #[.agg #[iv J.1,slv aD J.2.1.length aM],iv J.2.2]) (.agg #[iv J.1,slv aD J.2.1.length aM]) (iv J.2.2) (by kernel_rfl) (ph (bh I _ Try.zeroValue67 rfl fun aX w I=>ph (mb I 0 _ Try.sizeOf67 rfl rfl rfl rfl rfl rfl fun w I=>pu (iv J.2.2) (by kernel_rfl) (aa (ab (rgn (by kernel_rfl) (ph (ma I 3 Try.isAgg25 Try.sizeOf25 rfl rfl rfl (pu (.slice e d.length f) (by kernel_rfl) (bt F (fun t cZ F=>ph (ac I 51 _ _ (by kernel_rfl) (L51 _ j k g l o i e f d (y.inv0 I) z A (B.inv0 I) C D (E.inv0 I) G H N _ cZ) fun w I=>pu3 (.tuple #[.agg #[iv t.1,iv t.2.1],iv t.2.2]) (.agg #[iv t.1,iv t.2.1]) (iv t.2.2) (by kernel_rfl) (ph (bh I _ Try.zeroValue65 rfl fun dD w I=>ph (mb I 0 _ Try.sizeOf65 rfl rfl rfl rfl rfl rfl fun w I=>pu (iv t.2.2) (by kernel_rfl) (aa (ab (ab (rgn (by kernel_rfl) (pu2 (iv a0.2) (iv a.2.2) (by kernel_rfl) (ifN F (fun bI F=>?_) (fun bI F=>?_))))))))))))))))))))))
    ·
     refine ph (de rfl rfl (fun _=>?_) (fun h=>absurd h bI))
     refine pu bT (by kernel_rfl) (sf 3 (by kernel_rfl) (pu2 bT bT (by kernel_rfl) (sf 5 (by kernel_rfl) (pu bT (by kernel_rfl) (aa (ah rfl (ab (rgn (by kernel_rfl) (pu bF (by kernel_rfl) (aa (aj ?_)))))))))))
     cases F
     exact ⟨_,Ret.r1 rfl rfl,⟨rfl,I.below⟩⟩
    refine ph (de rfl rfl (fun h=>absurd bI h) (fun _=>pu bF (by kernel_rfl) (pup (iv J.2.2) (by kernel_rfl) (pup (iv a.2.2) (by kernel_rfl) (ifN F (fun bJ F=>?_) (fun bJ F=>?_))))))
    ·
     refine aw (by kernel_rfl) (de rfl rfl (fun _=>?_) (fun h=>absurd h bJ))
     refine pu2 bT bT (by kernel_rfl) (sf 5 (by kernel_rfl) (pu bT (by kernel_rfl) (aa (ah rfl (ab (rgn (by kernel_rfl) (pu bF (by kernel_rfl) (aa (aj ?_)))))))))
     cases F
     exact ⟨_,Ret.r1 rfl rfl,⟨rfl,I.below⟩⟩
    refine aw (by kernel_rfl) (de rfl rfl (fun h=>absurd bJ h) (fun _=>pu2 bF bF (by kernel_rfl) (pup (iv t.2.2) (by kernel_rfl) (aw (by kernel_rfl) (ma I 4 Try.isAgg25 Try.sizeOf25 rfl rfl rfl (pup (.slice e d.length f) (by kernel_rfl) (bt F (fun dE d0 F=>aw (by kernel_rfl) (ac I 52 _ _ (by kernel_rfl) (L52 _ j k g l o i e f d (y.inv0 I) z A (B.inv0 I) C D (E.inv0 I) G H N _ d0) fun w I=>ifN F (fun bK F=>?_) (fun bK F=>?_))))))))))
    ·
     refine aw (by kernel_rfl) (de rfl rfl (fun _=>?_) (fun h=>absurd h bK))
     refine pu bT (by kernel_rfl) (aa (ah rfl (ab (rgn (by kernel_rfl) (pu bF (by kernel_rfl) (aa (aj ?_)))))))
     cases F
     exact ⟨_,Ret.r1 rfl rfl,⟨rfl,I.below⟩⟩
    refine aw (by kernel_rfl) (de rfl rfl (fun h=>absurd bK h) (fun _=>pu bF (by kernel_rfl) (aa (ai rfl (ak (ab (dn (fun ρ w=>cd ρ [(1,.slice e d.length f),(3,pt a3),(14,pt a1),(15,iv a.2.2),(22,slv a7 a0.1.length aC),(24,pt aX),(200,bF)]∧Inv [] w0 w [(some a3,blk [.slice j g.length k,.slice l i.length o] 25),(some a1,blk [iv a.1,iv a.2.1] 51),(a7,blk cW 49),(some aX,blk [iv J.1,slv aD J.2.1.length aM] 67),(aD,blk cY 3)]∧F5j4 g i d N a a0 J=some r) ?_ ?_)))))))
    ·
     refine rgn (by kernel_rfl) (pu (iv t.2.2) (by kernel_rfl) (ifN F (fun aR F=>?_) (fun aR F=>?_)))
     ·
      refine ph (di rfl rfl (fun h=>absurd h aR) (fun _=>pu bF (by kernel_rfl) (sf 5 (by kernel_rfl) (pu2 bF bF (by kernel_rfl) (pup (iv t.2.2) (by kernel_rfl) (aw (by kernel_rfl) (de rfl rfl (fun _=>?_) (fun h=>absurd h aR))))))))
      refine pup bT (by kernel_rfl) (aw (by kernel_rfl) (ma I 0 Try.isAgg65 Try.sizeOf65 rfl rfl rfl (pup (.agg #[iv 0,iv 0]) (by kernel_rfl) (ifE F (fun bL F=>?_) (fun bL F=>?_)))))
      ·
       refine aw (by kernel_rfl) (s_neqA (b:=decide (t.1=0) && decide (t.2.1=0)) rfl rfl (by kernel_rfl) (fun w=>eq65 _ t.1 t.2.1 0 0 w) (fun h=>absurd bL h) (fun _=>pup bF (by kernel_rfl) (pu bF (by kernel_rfl) (aa (.inl ⟨rfl,⟨⟨rfl,rfl,rfl,rfl,rfl,rfl,rfl,trivial⟩,I.pk [4,7,3,1,2] rfl rfl,F⟩⟩)))))
      refine aw (by kernel_rfl) (s_neqA (b:=decide (t.1=0) && decide (t.2.1=0)) rfl rfl (by kernel_rfl) (fun w=>eq65 _ t.1 t.2.1 0 0 w) (fun _=>?_) (fun h=>absurd h bL))
      refine pup bT (by kernel_rfl) (pu bT (by kernel_rfl) (aa (.inr (ah rfl (ab (rgn (by kernel_rfl) (pu bF (by kernel_rfl) (aa (aj ?_)))))))))
      cases F
      exact ⟨_,Ret.r1 rfl rfl,⟨rfl,I.below⟩⟩
     refine ph (di rfl rfl (fun _=>?_) (fun h=>absurd aR h))
     refine pu bT (by kernel_rfl) (aw (by kernel_rfl) (ma I 4 Try.isAgg25 Try.sizeOf25 rfl rfl rfl (pup (.slice e d.length f) (by kernel_rfl) (aw (by kernel_rfl) (ma I 0 Try.isAgg65 Try.sizeOf65 rfl rfl rfl (bt F (fun dF d1 F=>aw (by kernel_rfl) (ac I 46 _ _ (by kernel_rfl) (L46 _ j k g l o i e f d (⟨t.1,t.2.1⟩:Cw) (y.inv0 I) z A (B.inv0 I) C D (E.inv0 I) G H N _ d1) fun w I=>ifE F (fun bM F=>?_) (fun bM F=>?_)))))))))
     ·
      refine aw (by kernel_rfl) (de rfl rfl (fun h=>absurd bM h) (fun _=>pu2 bF bF (by kernel_rfl) (pup (iv t.2.2) (by kernel_rfl) (aw (by kernel_rfl) (de rfl rfl (fun h=>absurd aR h) (fun _=>pup bF (by kernel_rfl) (sf 3 (by kernel_rfl) (pup bF (by kernel_rfl) (pu bF (by kernel_rfl) (aa (.inl ⟨rfl,⟨⟨rfl,rfl,rfl,rfl,rfl,rfl,rfl,trivial⟩,I.pk [4,7,3,1,2] rfl rfl,F⟩⟩)))))))))))
     refine aw (by kernel_rfl) (de rfl rfl (fun _=>?_) (fun h=>absurd h bM))
     refine pu2 bT bT (by kernel_rfl) (sf 3 (by kernel_rfl) (seq_offN (by kernel_rfl) (seq_offN (by kernel_rfl) (seq_offN (by kernel_rfl) (of_ (by kernel_rfl) (pu bT (by kernel_rfl) (aa (.inr (ah rfl (ab (rgn (by kernel_rfl) (pu bF (by kernel_rfl) (aa (aj ?_))))))))))))))
     cases F
     exact ⟨_,Ret.r1 rfl rfl,⟨rfl,I.below⟩⟩
    intro ρ w hJ
    obtain ⟨hag,I,F⟩:=hJ
    obtain ⟨ρ,rfl⟩:=hag.form; clear hag
    unfold F5j4 at F
    refine ai rfl (ak (ab (ab (rgn (by kernel_rfl) (pu (iv a.2.2) (by kernel_rfl) (ifN F (fun bN F=>?_) (fun bN F=>?_)))))))
    ·
     refine ph (de rfl rfl (fun _=>?_) (fun h=>absurd h bN))
     refine aa (ah rfl (ab (rgn (by kernel_rfl) (pu2 (slv a7 a0.1.length aC) (iv ((a0.1.length:Nat):Int)) (by kernel_rfl) (ifN F (fun bO F=>?_) (fun bO F=>?_))))))
     ·
      refine ph (di rfl rfl (fun h=>absurd h bO) (fun _=>pu bF (by kernel_rfl) (sf 3 (by kernel_rfl) (pu2 bF bF (by kernel_rfl) (sf 4 (by kernel_rfl) (pu2 bF bF (by kernel_rfl) (aa (aj ?_))))))))
      cases F
      exact ⟨_,Ret.r1 rfl rfl,⟨rfl,I.below⟩⟩
     refine ph (di rfl rfl (fun _=>?_) (fun h=>absurd bO h))
     refine pu bT (by kernel_rfl) (pup (pt aX) (by kernel_rfl) (aw (by kernel_rfl) (ag I 3 (iv J.1) Try.isAgg3 rfl rfl rfl (ifN F (fun bP F=>?_) (fun bP F=>?_)))))
     ·
      refine aw (by kernel_rfl) (di rfl rfl (fun h=>absurd h bP) (fun _=>pu2 bF bF (by kernel_rfl) (sf 4 (by kernel_rfl) (pu2 bF bF (by kernel_rfl) (aa (aj ?_))))))
      cases F
      exact ⟨_,Ret.r1 rfl rfl,⟨rfl,I.below⟩⟩
     refine aw (by kernel_rfl) (di rfl rfl (fun _=>?_) (fun h=>absurd bP h))
     refine pu2 bT bT (by kernel_rfl) (pup (.pointer (some ⟨aX,1,none⟩)) (by kernel_rfl) (aw (by kernel_rfl) (ag I 3 (slv aD J.2.1.length aM) Try.isAgg52 rfl rfl rfl (pup (iv ((J.2.1.length:Nat):Int)) (by kernel_rfl) (ifE F (fun bQ F=>?_) (fun bQ F=>?_))))))
     ·
      refine aw (by kernel_rfl) (di rfl rfl (fun _=>?_) (fun h=>absurd bQ h))
      refine pu2 bT bT (by kernel_rfl) (aa (aj ?_))
      cases F
      exact ⟨_,Ret.r1 rfl rfl,⟨rfl,I.below⟩⟩
     refine aw (by kernel_rfl) (di rfl rfl (fun h=>absurd h bQ) (fun _=>pu2 bF bF (by kernel_rfl) (aa (aj ?_))))
     cases F
     exact ⟨_,Ret.r1 rfl rfl,⟨rfl,I.below⟩⟩
    refine ph (de rfl rfl (fun h=>absurd bN h) (fun _=>aa (ai rfl (ak (ab (rgn (by kernel_rfl) (ph (ma I 0 Try.isAgg25 Try.sizeOf25 rfl rfl rfl (pu2 (.slice e d.length f) (slv a7 a0.1.length aC) (by kernel_rfl) (bt F (fun u d2 F=>ph (co 36 _ (by kernel_rfl) (L36 _ j k g l o i e f d (a7.map fun b=>⟨b,0,none⟩) aC a0.1 (y.inv0 I) z A (B.inv0 I) C D (E.inv0 I) G H (I.rowCells 2 rfl bG) (am rfl bG.big) (am rfl bG.cap) N _ d2) ?_))))))))))))
    rintro v w ⟨aY,aZ,d3,rfl,hN,d4⟩
    have I:=I.join hN; clear hN
    refine pu3 (.tuple #[slv aY u.1.length aZ,iv u.2]) (slv aY u.1.length aZ) (iv u.2) (by kernel_rfl) (pu2 (slv aY u.1.length aZ) (iv u.2) (by kernel_rfl) (aa (ab (ab (rgn (by kernel_rfl) (pu (iv u.2) (by kernel_rfl) (ifN F (fun bR F=>?_) (fun bR F=>?_))))))))
    ·
     refine ph (de rfl rfl (fun _=>?_) (fun h=>absurd h bR))
     refine pu bT (by kernel_rfl) (sf 7 (by kernel_rfl) (pu bT (by kernel_rfl) (aa (ah rfl (ab (rgn (by kernel_rfl) (pu bF (by kernel_rfl) (aa (aj ?_)))))))))
     cases F
     exact ⟨_,Ret.r1 rfl rfl,⟨rfl,I.below⟩⟩
    refine ph (de rfl rfl (fun h=>absurd bR h) (fun _=>pu bF (by kernel_rfl) (aw (by kernel_rfl) (ma I 1 Try.isAgg25 Try.sizeOf25 rfl rfl rfl (pup (.slice e d.length f) (by kernel_rfl) (aw (by kernel_rfl) (ma I 4 Try.isAgg67 Try.sizeOf67 rfl rfl rfl (aw (by kernel_rfl) (ma I 2 Try.isAgg51 Try.sizeOf51 rfl rfl rfl (pup (.agg #[iv J.1,slv aD J.2.1.length aM,iv a.1,iv a.2.1]) (by kernel_rfl) (bt F (fun dG d5 F=>aw (by kernel_rfl) (ac I 48 _ _ (by kernel_rfl) (L48 _ j k g l o i e f d J.1 (aD.map fun b=>⟨b,0,none⟩) aM J.2.1 a.1 a.2.1 (y.inv0 I) z A (B.inv0 I) C D (E.inv0 I) G H (I.rowCells 5 rfl bH) (am rfl bH.big) (am rfl bH.cap) N _ d5) fun w I=>ifN F (fun bS F=>?_) (fun bS F=>?_))))))))))))))
    ·
     refine aw (by kernel_rfl) (de rfl rfl (fun _=>?_) (fun h=>absurd h bS))
     refine pu bT (by kernel_rfl) (aa (ah rfl (ab (rgn (by kernel_rfl) (pu bF (by kernel_rfl) (aa (aj ?_)))))))
     cases F
     exact ⟨_,Ret.r1 rfl rfl,⟨rfl,I.below⟩⟩
    refine aw (by kernel_rfl) (de rfl rfl (fun h=>absurd bS h) (fun _=>pu bF (by kernel_rfl) (aa (ai rfl (ak (ab (rgn (by kernel_rfl) (pu bF (by kernel_rfl) (aa (dn (fun ρ w=>∃ (b0:Bool),cd ρ [(30,.bool b0)]∧Inv [] w0 w []∧F5j5 b0=some r) ?_ ?_))))))))))
    ·
     refine ab (rgn (by kernel_rfl) (pu (iv 0) (by kernel_rfl) (aa (au (cb (fun m ρ w=>∃ (aN:Option Nat) (a2:Nat) (aO:List Value) (aP:Bool) (T:Int) (mm:Nat),cd ρ [(14,pt a1),(28,slv aN u.1.length a2),(30,.bool aP),(31,iv T)]∧Inv [] w0 w [(some a1,blk [iv a.1,iv a.2.1] 51),(aN,blk aO 51)]∧(Row 2 aN (u.1.length) a2 aO (al eGn u.1))∧F5l6 a u mm aP T=some r∧mm=m) (m:=N) ⟨aY,aZ,d3,false,0,N,⟨rfl,rfl,rfl,rfl,trivial⟩,I.pk [2,0] rfl rfl,(d4.to rfl rfl),F,rfl⟩ ?_)))))
     rintro m ρ w ⟨aN,a2,aO,aP,T,mm,hag,I,b1,F,hm⟩
     subst hm; obtain ⟨ρ,rfl⟩:=hag.form; clear hag
     obtain _ | m6:=mm
     ·cases (show (none:Option Bool)=some r from F)
     replace F:F5b6 a u (F5l6 a u m6) aP T=some r:=F; unfold F5b6 at F
     refine ab (ab (rgn (by kernel_rfl) (pu3 (iv T) (slv aN u.1.length a2) (iv ((u.1.length:Nat):Int)) (by kernel_rfl) (ifN F (fun bU F=>?_) (fun bU F=>?_)))))
     ·
      refine ph (cm rfl rfl (fun h=>absurd h bU) (fun _=>aa (ai rfl (bw (.inl ⟨rfl,⟨aP,⟨rfl,trivial⟩,I.pk [] rfl rfl,F⟩⟩)))))
     refine ph (cm rfl rfl (fun _=>?_) (fun h=>absurd bU h))
     refine aa (ah rfl (ak (dn (fun ρ w=>∃ (aS:Option Nat) (b2:Nat) (b3:List Value) (b4:Bool),cd ρ [(14,pt a1),(28,slv aS u.1.length b2),(30,.bool b4),(31,iv T)]∧Inv [] w0 w [(some a1,blk [iv a.1,iv a.2.1] 51),(aS,blk b3 51)]∧(Row 2 aS (u.1.length) b2 b3 (al eGn u.1))∧F5j7 (F5l6 a u m6) T b4=some r) ?_ ?_)))
     ·
      refine au (ab (ab (gm 6 I (by kernel_rfl) (zp2 (slv aN u.1.length a2) (iv T) (fun _=>(by kernel_rfl)) (gdE F (fun c8 F=>bt F (fun s bV F=>?_)))))))
      obtain ⟨aQ,rfl,c9⟩:=b1.at_ ms (by decide) bV
      refine zc (.pointer (some ⟨aQ,(T).toNat * 2,none⟩)) (fun w I=>be (T).toNat Try.underlying72 Try.sizeOf51 rfl rfl (Int.toNat_of_nonneg c8).symm (fa bV rfl) br) (zc (.agg #[iv s.num,iv s.den]) (fun w I=>cq I 1 [iv s.num,iv s.den] Try.isAgg51 Try.sizeOf51 rfl rfl rfl c9 br) (zc (.agg #[iv a.1,iv a.2.1]) (fun w I=>ma I 0 Try.isAgg51 Try.sizeOf51 rfl rfl rfl br) (bt F (fun dH cA F=>ifE F (fun bW F=>?_) (fun bW F=>?_)))))
      ·
       refine zc bT (fun w I=>co 53 [.agg #[iv s.num,iv s.den],.agg #[iv a.1,iv a.2.1]] (by kernel_rfl) (cc.mono (L53 _ s (⟨a.1,a.2.1⟩:Gn) _ cA) (fun v' w' h=>⟨h.1.trans (congrArg Value.bool bW),h.2⟩)) (fun v' w' h=>h)) (zh (fun w I=>aa (ah rfl (ab (rgn (by kernel_rfl) (pu bF (by kernel_rfl) (aa (aj ?_))))))))
       cases F
       exact ⟨_,Ret.r1 rfl rfl,⟨rfl,I.below⟩⟩
      refine zc bF (fun w I=>co 53 [.agg #[iv s.num,iv s.den],.agg #[iv a.1,iv a.2.1]] (by kernel_rfl) (cc.mono (L53 _ s (⟨a.1,a.2.1⟩:Gn) _ cA) (fun v' w' h=>⟨h.1.trans (congrArg Value.bool (Bool.eq_false_iff.2 bW)),h.2⟩)) (fun v' w' h=>h)) (zh (fun w I=>aa (ai rfl (ak ?_))))
      have hG:=F; rcases Bool.eq_false_or_eq_true aP with rfl | rfl
      ·
       have F:=hG; clear hG
       refine ifE F (fun _ F=>?_) (fun h=>absurd rfl h)
       refine gm 10 I (by kernel_rfl) (zp2 bT bT (fun _=>(by kernel_rfl)) (zf 6 (by kernel_rfl) (zp2 bT bT (fun _=>(by kernel_rfl)) (zh (fun w I=>aa (.inl ⟨rfl,⟨some aQ,a2,aO,true,⟨rfl,rfl,rfl,rfl,trivial⟩,I.pk [0,1] rfl rfl,(b1.to rfl rfl),F⟩⟩))))))
      have F:=hG; clear hG
      refine ifE F (fun h=>absurd h (by decide)) (fun _ F=>gm 10 I (by kernel_rfl) (zp2 bF bF (fun _=>(by kernel_rfl)) (zq (slv (some aQ) u.1.length a2) (by kernel_rfl) (fun _=>(by kernel_rfl)) (zq (iv T) (by kernel_rfl) (fun _=>(by kernel_rfl)) (zo (.pointer (some ⟨aQ,(T).toNat * 2,none⟩)) (by kernel_rfl) (fun w I=>be (T).toNat Try.underlying72 Try.sizeOf51 rfl rfl (Int.toNat_of_nonneg c8).symm (fa bV rfl) br) (zo (.agg #[iv s.num,iv s.den]) (by kernel_rfl) (fun w I=>cq I 1 [iv s.num,iv s.den] Try.isAgg51 Try.sizeOf51 rfl rfl rfl c9 br) (zo (.agg #[iv a.1,iv a.2.1]) (by kernel_rfl) (fun w I=>ma I 0 Try.isAgg51 Try.sizeOf51 rfl rfl rfl br) (ifE F (fun bX F=>?_) (fun bX F=>?_)))))))))
      ·
       refine zo bT (by kernel_rfl) (fun w I=>kz (b:=decide (s.num=a.1) && decide (s.den=a.2.1)) rfl rfl (by kernel_rfl) (fun w=>eq51 _ s.num s.den a.1 a.2.1 w) (fun _=>br) (fun h=>absurd bX h)) (zp2 bT bT (fun _=>(by kernel_rfl)) (zh (fun w I=>aa (.inl ⟨rfl,⟨some aQ,a2,aO,true,⟨rfl,rfl,rfl,rfl,trivial⟩,I.pk [0,1] rfl rfl,(b1.to rfl rfl),F⟩⟩))))
      refine zo bF (by kernel_rfl) (fun w I=>kz (b:=decide (s.num=a.1) && decide (s.den=a.2.1)) rfl rfl (by kernel_rfl) (fun w=>eq51 _ s.num s.den a.1 a.2.1 w) (fun h=>absurd h bX) (fun _=>br)) (zp2 bF bF (fun _=>(by kernel_rfl)) (zh (fun w I=>aa (.inl ⟨rfl,⟨some aQ,a2,aO,false,⟨rfl,rfl,rfl,rfl,trivial⟩,I.pk [0,1] rfl rfl,(b1.to rfl rfl),F⟩⟩))))
     intro ρ w hJ
     obtain ⟨aS,b2,b3,b4,hag,I,d6,F⟩:=hJ
     obtain ⟨ρ,rfl⟩:=hag.form; clear hag
     unfold F5j7 at F
     refine rgn (by kernel_rfl) (pu (iv T) (by kernel_rfl) (ckE F (fun d7 F=>ph (cj rfl rfl d7 (pu (iv (T+1)) (by kernel_rfl) (aa (⟨rfl,m6,Nat.lt_succ_self _,⟨aS,b2,b3,b4,T+1,m6,⟨rfl,rfl,rfl,rfl,trivial⟩,I.pk [0,1] rfl rfl,(d6.to rfl rfl),F,rfl⟩⟩)))))))
    intro ρ w hJ
    obtain ⟨b0,hag,I,F⟩:=hJ
    obtain ⟨ρ,rfl⟩:=hag.form; clear hag
    unfold F5j5 at F
    refine ab ?_
    have hG:=F; rcases Bool.eq_false_or_eq_true b0 with rfl | rfl
    ·
     have F:=hG; clear hG
     refine ifE F (fun _ F=>?_) (fun h=>absurd rfl h)
     refine rgn (by kernel_rfl) (pu2 bT bT (by kernel_rfl) (aa (aj ?_)))
     cases F
     exact ⟨_,Ret.r1 rfl rfl,⟨rfl,I.below⟩⟩
    have F:=hG; clear hG
    refine ifE F (fun h=>absurd h (by decide)) (fun _ F=>rgn (by kernel_rfl) (pu2 bF bF (by kernel_rfl) (aa (aj ?_))))
    cases F
    exact ⟨_,Ret.r1 rfl rfl,⟨rfl,I.below⟩⟩
   have F:=hG; clear hG
   refine ifE F (fun h=>absurd h (by decide)) (fun _ F=>gm 43 I (by kernel_rfl) (zp2 bT bF (fun _=>(by kernel_rfl)) (zp bF (fun _=>(by kernel_rfl)) (zq bT (by kernel_rfl) (fun _=>(by kernel_rfl)) (zq bF (by kernel_rfl) (fun _=>(by kernel_rfl)) (zp2 bF bF (fun _=>(by kernel_rfl)) (zq (iv U.2) (by kernel_rfl) (fun _=>(by kernel_rfl)) (zq (iv V.2) (by kernel_rfl) (fun _=>(by kernel_rfl)) (ifN F (fun bY F=>?_) (fun bY F=>?_))))))))))
   ·
    refine zo bT (by kernel_rfl) (fun w I=>de rfl rfl (fun _=>br) (fun h=>absurd h bY)) (zp2 bT bT (fun _=>(by kernel_rfl)) (zf 3 (by kernel_rfl) (zp2 bT bT (fun _=>(by kernel_rfl)) (zf 3 (by kernel_rfl) (zp2 bT bT (fun _=>(by kernel_rfl)) (zf 1 (by kernel_rfl) (zf 1 (by kernel_rfl) (zp2 bT bT (fun _=>(by kernel_rfl)) (zf 3 (by kernel_rfl) (zp2 bT bT (fun _=>(by kernel_rfl)) (zf 11 (by kernel_rfl) (zp bT (fun _=>(by kernel_rfl)) (zh (fun w I=>aa (ah rfl (ab (rgn (by kernel_rfl) (pu bF (by kernel_rfl) (aa (aj ?_))))))))))))))))))))
    cases F
    exact ⟨_,Ret.r1 rfl rfl,⟨rfl,I.below⟩⟩
   refine zo bF (by kernel_rfl) (fun w I=>de rfl rfl (fun h=>absurd bY h) (fun _=>br)) (zp2 bF bF (fun _=>(by kernel_rfl)) (zo (.agg #[iv p.1,iv p.2.1]) (by kernel_rfl) (fun w I=>ma I 2 Try.isAgg51 Try.sizeOf51 rfl rfl rfl br) (zo (.agg #[iv a.1,iv a.2.1]) (by kernel_rfl) (fun w I=>ma I 3 Try.isAgg51 Try.sizeOf51 rfl rfl rfl br) (ifN F (fun bZ F=>?_) (fun bZ F=>?_)))))
   ·
    refine zo bT (by kernel_rfl) (fun w I=>s_neqA (b:=decide (p.1=a.1) && decide (p.2.1=a.2.1)) rfl rfl (by kernel_rfl) (fun w=>eq51 _ p.1 p.2.1 a.1 a.2.1 w) (fun _=>br) (fun h=>absurd h bZ)) (zp2 bT bT (fun _=>(by kernel_rfl)) (zf 3 (by kernel_rfl) (zp2 bT bT (fun _=>(by kernel_rfl)) (zf 2 (by kernel_rfl) (zp2 bT bT (fun _=>(by kernel_rfl)) (zf 1 (by kernel_rfl) (zf 2 (by kernel_rfl) (zp2 bT bT (fun _=>(by kernel_rfl)) (zf 11 (by kernel_rfl) (zp bT (fun _=>(by kernel_rfl)) (zh (fun w I=>aa (ah rfl (ab (rgn (by kernel_rfl) (pu bF (by kernel_rfl) (aa (aj ?_))))))))))))))))))
    cases F
    exact ⟨_,Ret.r1 rfl rfl,⟨rfl,I.below⟩⟩
   refine zo bF (by kernel_rfl) (fun w I=>s_neqA (b:=decide (p.1=a.1) && decide (p.2.1=a.2.1)) rfl rfl (by kernel_rfl) (fun w=>eq51 _ p.1 p.2.1 a.1 a.2.1 w) (fun h=>absurd bZ h) (fun _=>br)) (zp2 bF bF (fun _=>(by kernel_rfl)) (zq (iv p.2.2) (by kernel_rfl) (fun _=>(by kernel_rfl)) (zq (iv a.2.2) (by kernel_rfl) (fun _=>(by kernel_rfl)) (ifN F (fun c0 F=>?_) (fun c0 F=>?_)))))
   ·
    refine zo bT (by kernel_rfl) (fun w I=>de rfl rfl (fun _=>br) (fun h=>absurd h c0)) (zp2 bT bT (fun _=>(by kernel_rfl)) (zf 2 (by kernel_rfl) (zp2 bT bT (fun _=>(by kernel_rfl)) (zf 3 (by kernel_rfl) (zp2 bT bT (fun _=>(by kernel_rfl)) (zf 1 (by kernel_rfl) (zf 10 (by kernel_rfl) (zp bT (fun _=>(by kernel_rfl)) (zh (fun w I=>aa (ah rfl (ab (rgn (by kernel_rfl) (pu bF (by kernel_rfl) (aa (aj ?_))))))))))))))))
    cases F
    exact ⟨_,Ret.r1 rfl rfl,⟨rfl,I.below⟩⟩
   refine zo bF (by kernel_rfl) (fun w I=>de rfl rfl (fun h=>absurd c0 h) (fun _=>br)) (zp2 bF bF (fun _=>(by kernel_rfl)) (zq bF (by kernel_rfl) (fun _=>(by kernel_rfl)) (zq bT (by kernel_rfl) (fun _=>(by kernel_rfl)) (zp2 bT bT (fun _=>(by kernel_rfl)) (zf 3 (by kernel_rfl) (zp2 bT bT (fun _=>(by kernel_rfl)) (zf 11 (by kernel_rfl) (zp bT (fun _=>(by kernel_rfl)) (zh (fun w I=>aa (ah rfl (ab (rgn (by kernel_rfl) (pu bF (by kernel_rfl) (aa (aj ?_))))))))))))))))
   cases F
   exact ⟨_,Ret.r1 rfl rfl,⟨rfl,I.below⟩⟩
  have F:=hG; clear hG
  refine ifE F (fun h=>absurd h (by decide)) (fun _ F=>?_)
  have hG:=F; rcases Bool.eq_false_or_eq_true aB with rfl | rfl
  ·
   have F:=hG; clear hG
   refine ifE F (fun _ F=>?_) (fun h=>absurd rfl h)
   refine gm 43 I (by kernel_rfl) (zp2 bT bF (fun _=>(by kernel_rfl)) (zp bF (fun _=>(by kernel_rfl)) (zq bF (by kernel_rfl) (fun _=>(by kernel_rfl)) (zq bT (by kernel_rfl) (fun _=>(by kernel_rfl)) (zp2 bT bT (fun _=>(by kernel_rfl)) (zf 3 (by kernel_rfl) (zp2 bT bT (fun _=>(by kernel_rfl)) (zf 3 (by kernel_rfl) (zp2 bT bT (fun _=>(by kernel_rfl)) (zf 3 (by kernel_rfl) (zp2 bT bT (fun _=>(by kernel_rfl)) (zf 2 (by kernel_rfl) (zp2 bT bT (fun _=>(by kernel_rfl)) (zf 1 (by kernel_rfl) (zf 2 (by kernel_rfl) (zp2 bT bT (fun _=>(by kernel_rfl)) (zf 11 (by kernel_rfl) (zp bT (fun _=>(by kernel_rfl)) (zh (fun w I=>aa (ah rfl (ab (rgn (by kernel_rfl) (pu bF (by kernel_rfl) (aa (aj ?_))))))))))))))))))))))))))
   cases F
   exact ⟨_,Ret.r1 rfl rfl,⟨rfl,I.below⟩⟩
  have F:=hG; clear hG
  refine ifE F (fun h=>absurd h (by decide)) (fun _ F=>gm 43 I (by kernel_rfl) (zp2 bT bF (fun _=>(by kernel_rfl)) (zp bF (fun _=>(by kernel_rfl)) (zq bF (by kernel_rfl) (fun _=>(by kernel_rfl)) (zq bT (by kernel_rfl) (fun _=>(by kernel_rfl)) (zp2 bT bT (fun _=>(by kernel_rfl)) (zf 3 (by kernel_rfl) (zp2 bT bT (fun _=>(by kernel_rfl)) (zf 3 (by kernel_rfl) (zp2 bT bT (fun _=>(by kernel_rfl)) (zf 3 (by kernel_rfl) (zp2 bT bT (fun _=>(by kernel_rfl)) (zf 2 (by kernel_rfl) (zp2 bT bT (fun _=>(by kernel_rfl)) (zf 1 (by kernel_rfl) (zf 2 (by kernel_rfl) (zp2 bT bT (fun _=>(by kernel_rfl)) (zf 11 (by kernel_rfl) (zp bT (fun _=>(by kernel_rfl)) (zh (fun w I=>aa (ah rfl (ab (rgn (by kernel_rfl) (pu bF (by kernel_rfl) (aa (aj ?_)))))))))))))))))))))))))))
  cases F
  exact ⟨_,Ret.r1 rfl rfl,⟨rfl,I.below⟩⟩
 have F:=hG; clear hG
 refine ifE F (fun h=>absurd h (by decide)) (fun _ F=>?_)
 have hG:=F; rcases Bool.eq_false_or_eq_true aA with rfl | rfl
 ·
  have F:=hG; clear hG
  refine ifE F (fun _ F=>?_) (fun h=>absurd rfl h)
  have hG:=F; rcases Bool.eq_false_or_eq_true aB with rfl | rfl
  ·
   have F:=hG; clear hG
   refine ifE F (fun _ F=>?_) (fun h=>absurd rfl h)
   refine gm 43 I (by kernel_rfl) (zp2 bF bT (fun _=>(by kernel_rfl)) (zp bT (fun _=>(by kernel_rfl)) (zf 2 (by kernel_rfl) (zp2 bT bT (fun _=>(by kernel_rfl)) (zf 3 (by kernel_rfl) (zp2 bT bT (fun _=>(by kernel_rfl)) (zf 1 (by kernel_rfl) (zf 2 (by kernel_rfl) (zp2 bT bT (fun _=>(by kernel_rfl)) (zf 3 (by kernel_rfl) (zp2 bT bT (fun _=>(by kernel_rfl)) (zf 2 (by kernel_rfl) (zp2 bT bT (fun _=>(by kernel_rfl)) (zf 1 (by kernel_rfl) (zf 2 (by kernel_rfl) (zp2 bT bT (fun _=>(by kernel_rfl)) (zf 11 (by kernel_rfl) (zp bT (fun _=>(by kernel_rfl)) (zh (fun w I=>aa (ah rfl (ab (rgn (by kernel_rfl) (pu bF (by kernel_rfl) (aa (aj ?_))))))))))))))))))))))))))
   cases F
   exact ⟨_,Ret.r1 rfl rfl,⟨rfl,I.below⟩⟩
  have F:=hG; clear hG
  refine ifE F (fun h=>absurd h (by decide)) (fun _ F=>gm 43 I (by kernel_rfl) (zp2 bF bT (fun _=>(by kernel_rfl)) (zp bT (fun _=>(by kernel_rfl)) (zf 2 (by kernel_rfl) (zp2 bT bT (fun _=>(by kernel_rfl)) (zf 3 (by kernel_rfl) (zp2 bT bT (fun _=>(by kernel_rfl)) (zf 1 (by kernel_rfl) (zf 2 (by kernel_rfl) (zp2 bT bT (fun _=>(by kernel_rfl)) (zf 3 (by kernel_rfl) (zp2 bT bT (fun _=>(by kernel_rfl)) (zf 2 (by kernel_rfl) (zp2 bT bT (fun _=>(by kernel_rfl)) (zf 1 (by kernel_rfl) (zf 2 (by kernel_rfl) (zp2 bT bT (fun _=>(by kernel_rfl)) (zf 11 (by kernel_rfl) (zp bT (fun _=>(by kernel_rfl)) (zh (fun w I=>aa (ah rfl (ab (rgn (by kernel_rfl) (pu bF (by kernel_rfl) (aa (aj ?_)))))))))))))))))))))))))))
  cases F
  exact ⟨_,Ret.r1 rfl rfl,⟨rfl,I.below⟩⟩
 have F:=hG; clear hG
 refine ifE F (fun h=>absurd h (by decide)) (fun _ F=>?_)
 have hG:=F; rcases Bool.eq_false_or_eq_true aB with rfl | rfl
 ·
  have F:=hG; clear hG
  refine ifE F (fun _ F=>?_) (fun h=>absurd rfl h)
  refine gm 43 I (by kernel_rfl) (zp2 bF bT (fun _=>(by kernel_rfl)) (zp bT (fun _=>(by kernel_rfl)) (zf 2 (by kernel_rfl) (zp2 bT bT (fun _=>(by kernel_rfl)) (zf 3 (by kernel_rfl) (zp2 bT bT (fun _=>(by kernel_rfl)) (zf 1 (by kernel_rfl) (zf 2 (by kernel_rfl) (zp2 bT bT (fun _=>(by kernel_rfl)) (zf 3 (by kernel_rfl) (zp2 bT bT (fun _=>(by kernel_rfl)) (zf 2 (by kernel_rfl) (zp2 bT bT (fun _=>(by kernel_rfl)) (zf 1 (by kernel_rfl) (zf 2 (by kernel_rfl) (zp2 bT bT (fun _=>(by kernel_rfl)) (zf 11 (by kernel_rfl) (zp bT (fun _=>(by kernel_rfl)) (zh (fun w I=>aa (ah rfl (ab (rgn (by kernel_rfl) (pu bF (by kernel_rfl) (aa (aj ?_))))))))))))))))))))))))))
  cases F
  exact ⟨_,Ret.r1 rfl rfl,⟨rfl,I.below⟩⟩
 have F:=hG; clear hG
 refine ifE F (fun h=>absurd h (by decide)) (fun _ F=>gm 43 I (by kernel_rfl) (zp2 bF bT (fun _=>(by kernel_rfl)) (zp bT (fun _=>(by kernel_rfl)) (zf 2 (by kernel_rfl) (zp2 bT bT (fun _=>(by kernel_rfl)) (zf 3 (by kernel_rfl) (zp2 bT bT (fun _=>(by kernel_rfl)) (zf 1 (by kernel_rfl) (zf 2 (by kernel_rfl) (zp2 bT bT (fun _=>(by kernel_rfl)) (zf 3 (by kernel_rfl) (zp2 bT bT (fun _=>(by kernel_rfl)) (zf 2 (by kernel_rfl) (zp2 bT bT (fun _=>(by kernel_rfl)) (zf 1 (by kernel_rfl) (zf 2 (by kernel_rfl) (zp2 bT bT (fun _=>(by kernel_rfl)) (zf 11 (by kernel_rfl) (zp bT (fun _=>(by kernel_rfl)) (zh (fun w I=>aa (ah rfl (ab (rgn (by kernel_rfl) (pu bF (by kernel_rfl) (aa (aj ?_)))))))))))))))))))))))))))
 cases F
 exact ⟨_,Ret.r1 rfl rfl,⟨rfl,I.below⟩⟩


end Go.K
