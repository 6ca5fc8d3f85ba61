import Derived.Test.YtcondbkhcjgemaaGreatDoorEWe
namespace Go.K
open Go.Proofs.Tryz
open Go.Proofs Go.RowKit
set_option linter.unusedVariables false
set_option linter.unusedSimpArgs false
set_option maxRecDepth 100000
attribute [local irreducible] Seq cw cx fl opX
set_option maxHeartbeats 8000000 in
theorem L55 (w0:World) (l:Int) (a8:Option Addr) (a9:Nat) (V:List Sp3) (aA:Option Addr) (aB:Nat) (W:List Sp3) (aC:Option Addr) (aD:Nat) (Y:List Sp3) (a5:Int) (a6:Int) (a7:Int) (a3:Option Addr) (a4:Nat) (L:List Rc) (s:V36) (o:Int) (B:Int) (q:Int) (x:Int) (C:Int) (J:Option Addr) (K:Nat) (z:List Rc) (hG:Gl w0) (fS:bi w0 a8 (al bb V)) (fT:V.length≤9223372036854775807) (fU:V.length≤a9) (fV:bi w0 aA (al bb W)) (fW:W.length≤9223372036854775807) (fX:W.length≤aB) (fY:bi w0 aC (al bb Y)) (fZ:Y.length≤9223372036854775807) (g0:Y.length≤aD) (g1:bi w0 a3 (al eRc L)) (g2:L.length≤9223372036854775807) (g3:L.length≤a4) (d7:bi w0 J (al eRc z)) (dZ:z.length≤9223372036854775807) (e0:z.length≤K) (N:Nat) (r:((Int × List Sp3 × List Sp3 × List Sp3 × Int × Int × Int × List Rc × V36 × Int) ⊕ (Int × List Sp3 × List Sp3 × List Sp3 × Int × Int × Int × List Rc × V36 × (Int × Int × Int × Int × Int × List Rc) × Int))) (F:F55 N l V W Y a5 a6 a7 L s o B q x C z=some r):bn Tryz.prog 55 [.agg ([iv l,uM a8 V a9,uM aA W aB,uM aC Y aD,iv a5,iv a6,iv a7,uM a3 L a4]++KN s).toArray,.agg #[iv o,iv B,iv q,iv x,iv C,uM J z K]] w0 fun v w=>(match r with | .inl ra0=>∃ z0 z1 z2 z3 z4 z5 z6 z7 z8 z9 d8 d9,v=.tuple #[.agg ([iv ra0.1,uN z0 ra0.2.1 z1,uN z3 ra0.2.2.1 z4,uN z6 ra0.2.2.2.1 z7,iv ra0.2.2.2.2.1,iv ra0.2.2.2.2.2.1,iv ra0.2.2.2.2.2.2.1,uN z9 ra0.2.2.2.2.2.2.2.1 d8]++KN ra0.2.2.2.2.2.2.2.2.1).toArray,uD,iv ra0.2.2.2.2.2.2.2.2.2]∧Inv [] w0 w [(z0,blk z2 35),(z3,blk z5 35),(z6,blk z8 35),(z9,blk d9 25)]∧Row 3 z0 ra0.2.1.length z1 z2 (al bb ra0.2.1)∧Row 3 z3 ra0.2.2.1.length z4 z5 (al bb ra0.2.2.1)∧Row 3 z6 ra0.2.2.2.1.length z7 z8 (al bb ra0.2.2.2.1)∧Row 8 z9 ra0.2.2.2.2.2.2.2.1.length d8 d9 (al eRc ra0.2.2.2.2.2.2.2.1) | .inr rb0=>∃ z0 z1 z2 z3 z4 z5 z6 z7 z8 z9 d8 d9 g4 f2 g5 g6,v=.tuple #[.agg ([iv rb0.1,uN z0 rb0.2.1 z1,uN z3 rb0.2.2.1 z4,uN z6 rb0.2.2.2.1 z7,iv rb0.2.2.2.2.1,iv rb0.2.2.2.2.2.1,iv rb0.2.2.2.2.2.2.1,uN z9 rb0.2.2.2.2.2.2.2.1 d8]++KN rb0.2.2.2.2.2.2.2.2.1).toArray,.slice (some ⟨g4,0,none⟩) 1 1,iv rb0.2.2.2.2.2.2.2.2.2.2]∧Inv [] w0 w [(z0,blk z2 35),(z3,blk z5 35),(z6,blk z8 35),(z9,blk d9 25),(some g4,blk [iv rb0.2.2.2.2.2.2.2.2.2.1.1,iv rb0.2.2.2.2.2.2.2.2.2.1.2.1,iv rb0.2.2.2.2.2.2.2.2.2.1.2.2.1,iv rb0.2.2.2.2.2.2.2.2.2.1.2.2.2.1,iv rb0.2.2.2.2.2.2.2.2.2.1.2.2.2.2.1,uN f2 rb0.2.2.2.2.2.2.2.2.2.1.2.2.2.2.2 g5] 83),(f2,blk g6 25)]∧Row 3 z0 rb0.2.1.length z1 z2 (al bb rb0.2.1)∧Row 3 z3 rb0.2.2.1.length z4 z5 (al bb rb0.2.2.1)∧Row 3 z6 rb0.2.2.2.1.length z7 z8 (al bb rb0.2.2.2.1)∧Row 8 z9 rb0.2.2.2.2.2.2.2.1.length d8 d9 (al eRc rb0.2.2.2.2.2.2.2.1)∧Row 8 f2 rb0.2.2.2.2.2.2.2.2.2.1.2.2.2.2.2.length g5 g6 (al eRc rb0.2.2.2.2.2.2.2.2.2.1.2.2.2.2.2)):=by
 refine az (n:=46) func55 rfl ntmps55 rfl ?_
 have I:=Inv.start w0
 unfold F55 at F
 refine uL (by rfl) (ph (ca I _ rfl fun b7 w I=>ph (ca I _ rfl fun aH w I=>ph (bh I _ zeroValue81 rfl fun aE w I=>pu2 uD (iv 0) (by rfl) (aa (dn (fun ρ w=>∃ dA,cd ρ [(2,pt b7),(3,pt aH),(4,pt aE),(7,.bool dA)]∧Inv [] w0 w [(some b7,blk ([iv l,uM a8 V a9,uM aA W aB,uM aC Y aD,iv a5,iv a6,iv a7,uM a3 L a4]++KN s) 81),(some aH,blk [iv o,iv B,iv q,iv x,iv C,uM J z K] 83),(some aE,blk ([iv 0,uD,uD,uD,iv 0,iv 0,iv 0,uD]++KN vz) 81)]∧F55j1 l V W Y a5 a6 a7 L s o B q x C z N dA=some r) ?_ ?_))))))
 ·
  refine rgn (by rfl) (xm I 1 zi83 zs83 rfl (bt F (fun i5 g7 F=>ifN F (fun f3 F=>?_) (fun f3 F=>?_))))
  ·
   refine ph (bg I 136 _ _ (by kernel_rfl) (bn.mono (L136 _ o B q x C J K z (d7.inv0 I) dZ e0 N _ g7) (uH (Bool.eq_false_iff.2 f3))) fun w I=>pu bF (by kernel_rfl) (sf 5 (by kernel_rfl) (pu2 bF bF (by kernel_rfl) (aa (.inl ⟨rfl,⟨false,(uK rfl),I.pk [2,1,0] rfl,F⟩⟩)))))
  refine ph (bg I 136 _ _ (by kernel_rfl) (bn.mono (L136 _ o B q x C J K z (d7.inv0 I) dZ e0 N _ g7) (uH f3)) fun w I=>pu bT (by kernel_rfl) (pup (uF aH 1) (by kernel_rfl) (aw (by kernel_rfl) (ag I 1 (iv B) zi3 rfl rfl rfl (pup (pt b7) (by kernel_rfl) (aw (by kernel_rfl) (ag I 2 (iv l) zi3 rfl rfl rfl (ifE F (fun f4 F=>?_) (fun f4 F=>?_)))))))))
  ·
   refine aw (by rfl) (di rfl rfl (fun _=>?_) (uO f4))
   refine pu2 bT bT (by rfl) (aa (.inl ⟨rfl,⟨true,(uK rfl),I.pk [2,1,0] rfl,F⟩⟩))
  refine aw (by rfl) (di rfl rfl (uP f4) (fun _=>pu2 bF bF (by rfl) (aa (.inl ⟨rfl,⟨false,(uK rfl),I.pk [2,1,0] rfl,F⟩⟩))))
 intro ρ w hJ
 obtain ⟨dA,hag,I,F⟩:=hJ
 obtain ⟨ρ,rfl⟩:=hag.form
 unfold F55j1 at F
 refine ab (uL (by kernel_rfl) (xm I 0 mu ml rfl (bt F (fun bE gV F=>ph (bg I 128 _ _ (by kernel_rfl) (L128 _ l a8 a9 V aA aB W aC aD Y a5 a6 a7 a3 a4 L s (hG.up I) (fS.inv0 I) fT fU (fV.inv0 I) fW fX (fY.inv0 I) fZ g0 (g1.inv0 I) g2 g3 N _ gV) fun w I=>pu (.bool dA) (by kernel_rfl) (bt F (fun bG gW F=>ph (bg I 78 _ _ (by kernel_rfl) (L78 _ dA 87 _ gW) fun w I=>ph (fu I [iv bE,iv bG] 26 (fun b=>slv (some b) 2 2) (by kernel_rfl) fun bM w I=>bt F (fun e1 gX F=>ph (bg I 86 _ _ (by kernel_rfl) (L86 _ (some ⟨bM,0,none⟩) 2 [bE,bG] (I.cells 0 (off:=0) rfl (fun j u h=>by rw [Nat.zero_add]; exact h)) (mx rfl) (Nat.le_refl _) N _ gX) fun w I=>pu (iv e1) (by kernel_rfl) (aa (uL (by kernel_rfl) (pu (iv e1) (by kernel_rfl) (ifN F (fun f5 F=>?_) (fun f5 F=>?_))))))))))))))))
 ·
  refine xn rfl (fun _=>?_) (uP f5)
  refine aa (ah rfl (uL (by kernel_rfl) (pu2 (.agg ([iv 0,uD,uD,uD,iv 0,iv 0,iv 0,uD]++KN vz).toArray) (iv e1) (by kernel_rfl) (xi I 3 _ ml rfl fun w I=>pu2 uD (iv e1) (by kernel_rfl) (aa (aj ?_))))))
  have I:=I.nilRow 35
  have I:=I.nilRow 35
  have I:=I.nilRow 35
  have I:=I.nilRow 25
  cases F
  exact ⟨_,Ret.ctt rfl rfl (ce I 7 44 ([iv 0,uD,uD,uD,iv 0,iv 0,iv 0,uD]++KN vz) mu ml rfl (by rfl) (by rfl)) rfl rfl,⟨none,0,[],none,0,[],none,0,[],none,0,[],rfl,I.pk [1,2,3,0] rfl,Row.nil_ 3,Row.nil_ 3,Row.nil_ 3,Row.nil_ 8⟩⟩


 refine xn rfl (uO f5) (fun _=>aa (ai rfl (ak (uL (by kernel_rfl) (xm I 1 mu ml rfl (ph (gr 129 [.agg ([iv l,uM a8 V a9,uM aA W aB,uM aC Y aD,iv a5,iv a6,iv a7,uM a3 L a4]++KN s).toArray] (by kernel_rfl) (az (n:=14) func129 rfl ntmps129 rfl (uL (by kernel_rfl) (ph (ca I _ rfl fun aW w I=>pu (.pointer none) (by kernel_rfl) (aa (ab (bt F (fun f gY F=>bt F (fun aP gZ F=>kx [tv (fun _=>(uF aW 1)),tr (fun _=>(.agg #[uM a8 V a9,uM aA W aB,uM aC Y aD,iv a5,iv a6,iv a7])) [10],⟨fun y=>(.agg #[slv ((y 2).g 0) f.1.length ((y 2).c 0),slv ((y 2).g 1) f.2.1.length ((y 2).c 1),slv ((y 2).g 2) f.2.2.1.length ((y 2).c 2),iv f.2.2.2.1,iv f.2.2.2.2.1,iv f.2.2.2.2.2]),fun y=>[(((y 2).g 0),blk ((y 2).cl 0) 35),(((y 2).g 1),blk ((y 2).cl 1) 35),(((y 2).g 2),blk ((y 2).cl 2) 35)],fun y=>(Row 3 ((y 2).g 0) f.1.length ((y 2).c 0) ((y 2).cl 0) (al bb f.1))∧(Row 3 ((y 2).g 1) f.2.1.length ((y 2).c 1) ((y 2).cl 1) (al bb f.2.1))∧(Row 3 ((y 2).g 2) f.2.2.1.length ((y 2).c 2) ((y 2).cl 2) (al bb f.2.2.1)),[],[]⟩,tv (fun _=>(uF aW 7)),tr (fun _=>(uM a3 L a4)) [10],⟨fun y=>(slv ((y 5).g 0) aP.length ((y 5).c 0)),fun y=>[(((y 5).g 0),blk ((y 5).cl 0) 25)],fun y=>(Row 8 ((y 5).g 0) aP.length ((y 5).c 0) ((y 5).cl 0) (al eRc aP)),[],[]⟩,tv (fun _=>(uF aW 1)),tst (fun y=>[(some aW,blk ([iv l,slv ((y 2).g 0) f.1.length ((y 2).c 0),slv ((y 2).g 1) f.2.1.length ((y 2).c 1),slv ((y 2).g 2) f.2.2.1.length ((y 2).c 2),iv f.2.2.2.1,iv f.2.2.2.2.1,iv f.2.2.2.2.2,uM a3 L a4]++KN s) 81)]) 10,tv (fun _=>(uF aW 7)),tst (fun y=>[(some aW,blk ([iv l,slv ((y 2).g 0) f.1.length ((y 2).c 0),slv ((y 2).g 1) f.2.1.length ((y 2).c 1),slv ((y 2).g 2) f.2.2.1.length ((y 2).c 2),iv f.2.2.2.1,iv f.2.2.2.2.1,iv f.2.2.2.2.2,slv ((y 5).g 0) aP.length ((y 5).c 0)]++KN s) 81)]) 7] (fun _=>[(1,pt aW)]) (fun y=>[(((y 2).g 0),blk ((y 2).cl 0) 35),(((y 2).g 1),blk ((y 2).cl 1) 35),(((y 2).g 2),blk ((y 2).cl 2) 35),(((y 5).g 0),blk ((y 5).cl 0) 25),(some aW,blk ([iv l,slv ((y 2).g 0) f.1.length ((y 2).c 0),slv ((y 2).g 1) f.2.1.length ((y 2).c 1),slv ((y 2).g 2) f.2.2.1.length ((y 2).c 2),iv f.2.2.2.1,iv f.2.2.2.2.1,iv f.2.2.2.2.2,slv ((y 5).g 0) aP.length ((y 5).c 0)]++KN s) 81),(some bM,blk [iv bE,iv bG] 26),(some b7,blk ([iv l,uM a8 V a9,uM aA W aB,uM aC Y aD,iv a5,iv a6,iv a7,uM a3 L a4]++KN s) 81),(some aH,blk [iv o,iv B,iv q,iv x,iv C,uM J z K] 83),(some aE,blk ([iv 0,uD,uD,uD,iv 0,iv 0,iv 0,uD]++KN vz) 81)]) I (by kernel_rfl) (fun y=>⟨(by kernel_rfl),(by kernel_rfl)⟩) (fun y=>?_) ?_))))))))))))))))
 ·
  refine tt rfl (by rfl) (tl1 [(some aW,blk ([iv l,uM a8 V a9,uM aA W aB,uM aC Y aD,iv a5,iv a6,iv a7,uM a3 L a4]++KN s) 81)] rfl (by rfl) (fun X w I=>ar I 0 6 [uM a8 V a9,uM aA W aB,uM aC Y aD,iv a5,iv a6,iv a7] mt mi rfl rfl rfl rfl br) (tg (.agg #[slv ((y 2).g 0) f.1.length ((y 2).c 0),slv ((y 2).g 1) f.2.1.length ((y 2).c 1),slv ((y 2).g 2) f.2.2.1.length ((y 2).c 2),iv f.2.2.2.1,iv f.2.2.2.2.1,iv f.2.2.2.2.2]) [] [] rfl ⟨(by rfl),(by rfl),(by rfl)⟩ ?_ ?_))
  ·intro hp X w I
   refine co 109 _ (by kernel_rfl) (L109 _ a8 a9 V aA aB W aC aD Y a5 a6 a7 (fS.inv0 I) fT fU (fV.inv0 I) fW fX (fY.inv0 I) fZ g0 _ gY) ?_
   rintro v w ⟨cM,cN,f6,cO,cP,f7,cQ,cR,f8,rfl,hN,f9,fA,fB⟩
   have I:=I.join hN; clear hN
   exact ⟨wit 0 [cM,cO,cQ] [cN,cP,cR] [f6,f7,f8] [],(by rfl),Eq.mp (by rfl) (And.intro f9 (And.intro fA fB)),I.castL (by rfl)⟩
  refine tt rfl (by rfl) (tl1 [(some aW,blk ([iv l,uM a8 V a9,uM aA W aB,uM aC Y aD,iv a5,iv a6,iv a7,uM a3 L a4]++KN s) 81)] rfl (by rfl) (fun X w I=>ag I 0 (uM a3 L a4) mv rfl rfl rfl br) (tg (slv ((y 5).g 0) aP.length ((y 5).c 0)) [] [] rfl ⟨(by rfl),(by rfl),(by rfl)⟩ ?_ ?_))
  ·intro hp X w I
   refine co 102 _ (by kernel_rfl) (L102 _ a3 a4 L (g1.inv0 I) g2 g3 _ gZ) ?_
   rintro v w ⟨cS,cT,fC,rfl,hN,fD⟩
   have I:=I.join hN; clear hN
   exact ⟨wit 0 [cS] [cT] [fC] [],(by rfl),Eq.mp (by rfl) fD,I.castL (by rfl)⟩
  refine tt rfl (by rfl) (tS [(some aW,blk ([iv l,uM a8 V a9,uM aA W aB,uM aC Y aD,iv a5,iv a6,iv a7,uM a3 L a4]++KN s) 81)] rfl ⟨(by rfl),(by rfl)⟩ (fun X w I=>aq I 0 6 [slv ((y 2).g 0) f.1.length ((y 2).c 0),slv ((y 2).g 1) f.2.1.length ((y 2).c 1),slv ((y 2).g 2) f.2.2.1.length ((y 2).c 2),iv f.2.2.2.1,iv f.2.2.2.2.1,iv f.2.2.2.2.2] mi rfl rfl rfl rfl rfl (mx rfl) fun w I=>⟨rfl,I.castL (by rfl)⟩) (tt rfl (by rfl) (tS [(some aW,blk ([iv l,slv ((y 2).g 0) f.1.length ((y 2).c 0),slv ((y 2).g 1) f.2.1.length ((y 2).c 1),slv ((y 2).g 2) f.2.2.1.length ((y 2).c 2),iv f.2.2.2.1,iv f.2.2.2.2.1,iv f.2.2.2.2.2,uM a3 L a4]++KN s) 81)] rfl ⟨(by rfl),(by rfl)⟩ (fun X w I=>aq I 0 1 [slv ((y 5).g 0) aP.length ((y 5).c 0)] zs45 rfl rfl rfl rfl rfl (mx rfl) fun w I=>⟨rfl,I.castL (by rfl)⟩) (tn))))
 intro y hp ρ w hag I
 obtain ⟨f9,fA,fB⟩:(Row 3 ((y 2).g 0) f.1.length ((y 2).c 0) ((y 2).cl 0) (al bb f.1))∧(Row 3 ((y 2).g 1) f.2.1.length ((y 2).c 1) ((y 2).cl 1) (al bb f.2.1))∧(Row 3 ((y 2).g 2) f.2.2.1.length ((y 2).c 2) ((y 2).cl 2) (al bb f.2.2.1)):=pgl hp (k:=2) (by decide) (by rfl)
 have fD:Row 8 ((y 5).g 0) aP.length ((y 5).c 0) ((y 5).cl 0) (al eRc aP):=pgl hp (k:=5) (by decide) (by rfl)
 clear hp
 generalize (y 2).g 0=cM at *
 generalize (y 2).c 0=cN at *
 generalize (y 2).cl 0=f6 at *
 generalize (y 2).g 1=cO at *
 generalize (y 2).c 1=cP at *
 generalize (y 2).cl 1=f7 at *
 generalize (y 2).g 2=cQ at *
 generalize (y 2).c 2=cR at *
 generalize (y 2).cl 2=f8 at *
 generalize (y 5).g 0=cS at *
 generalize (y 5).c 0=cT at *
 generalize (y 5).cl 0=fC at *
 obtain ⟨ρ,rfl⟩:=hag.form
 refine uL (by kernel_rfl) (xm I 4 mu ml rfl (pu (.agg ([iv l,uN cM f.1 cN,uN cO f.2.1 cP,uN cQ f.2.2.1 cR,iv f.2.2.2.1,iv f.2.2.2.2.1,iv f.2.2.2.2.2,uN cS aP cT]++KN s).toArray) (by kernel_rfl) (ph (ca I _ rfl fun a w I=>pu (pt a) (by kernel_rfl) (aa (aj (⟨pt a,Ret.r1 rfl rfl,?_⟩)))))))
 refine pu (pt a) (by rfl) (aa (ab (dn (fun ρ w=>∃ (D M aZ E O b0 G P b1 H Q b2:_) (R:List Sp3) (S:List Sp3) (T:List Sp3) (Z a0 a1:_) (U:List Rc) (a2:V36) (cU:_),cd ρ [(3,pt aH),(4,pt aE),(9,pt a),(10,iv cU)]∧Inv [] w0 w [(some aH,blk [iv o,iv B,iv q,iv x,iv C,uM J z K] 83),(some aE,blk ([iv 0,uD,uD,uD,iv 0,iv 0,iv 0,uD]++KN vz) 81),(some a,blk ([iv l,uN D R M,uN E S O,uN G T P,iv Z,iv a0,iv a1,uN H U Q]++KN a2) 189),(D,blk aZ 35),(E,blk b0 35),(G,blk b1 35),(H,blk b2 25)]∧(Row 3 D (R.length) M aZ (al bb R))∧(Row 3 E (S.length) O b0 (al bb S))∧(Row 3 G (T.length) P b1 (al bb T))∧(Row 8 H (U.length) Q b2 (al eRc U))∧F55j2 l o B q x C z N R S T Z a0 a1 U a2 cU=some r) ?_ ?_)))
 ·
  refine rgn (by rfl) (pu (pt a) (by rfl) (xm I 8 zi83 zs83 rfl (ph (gr 137 [pt a,.agg #[iv o,iv B,iv q,iv x,iv C,uM J z K]] (by kernel_rfl) (az (n:=60) func137 rfl ntmps137 rfl (uL (by rfl) (ph (ca I _ rfl fun aI w I=>pu (iv 0) (by rfl) (aa (dn (fun ρ w=>∃ (b8 bN e2 b9 bO e3 bA bP e4 bH c8 dB:_) (bB:List Sp3) (bC:List Sp3) (bD:List Sp3) (bQ bR bS:_) (bI:List Rc),cd ρ [(0,pt a),(3,pt aI)]∧Inv [] w0 w [(some a,blk ([iv l,uN b8 bB bN,uN b9 bC bO,uN bA bD bP,iv bQ,iv bR,iv bS,uN bH bI c8]++KN s) 189),(b8,blk e2 35),(b9,blk e3 35),(bA,blk e4 35),(bH,blk dB 25),(some aI,blk [iv o,iv B,iv q,iv x,iv C,uM J z K] 83),(some b7,blk ([iv l,uM a8 V a9,uM aA W aB,uM aC Y aD,iv a5,iv a6,iv a7,uM a3 L a4]++KN s) 81),(some aH,blk [iv o,iv B,iv q,iv x,iv C,uM J z K] 83),(some aE,blk ([iv 0,uD,uD,uD,iv 0,iv 0,iv 0,uD]++KN vz) 81),(some bM,blk [iv bE,iv bG] 26)]∧(Row 3 b8 (bB.length) bN e2 (al bb bB))∧(Row 3 b9 (bC.length) bO e3 (al bb bC))∧(Row 3 bA (bD.length) bP e4 (al bb bD))∧(Row 8 bH (bI.length) c8 dB (al eRc bI))∧F55j3 l s o B q x C z N bB bC bD bQ bR bS bI=some r) ?_ ?_))))))))))
  ·
   refine uL (by kernel_rfl) (pu (uF aI 5) (by kernel_rfl) (xg I 0 (uM J z K) mv rfl (pu2 (iv ((z.length:Nat):Int)) (iv 0) (by kernel_rfl) (aa (au (cb (fun m ρ w=>∃ (aQ b3 cA aR b4 cB aS b5 cC aG aL cD:_) (aM:List Sp3) (aN:List Sp3) (aO:List Sp3) (aT aU aV:_) (aF:List Rc) (b6 mm:_),cd ρ [(0,pt a),(3,pt aI),(9,uM J z K),(10,iv (z.length:Int)),(11,iv b6)]∧Inv [] w0 w [(some a,blk ([iv l,uN aQ aM b3,uN aR aN b4,uN aS aO b5,iv aT,iv aU,iv aV,uN aG aF aL]++KN s) 189),(aQ,blk cA 35),(aR,blk cB 35),(aS,blk cC 35),(aG,blk cD 25),(some aI,blk [iv o,iv B,iv q,iv x,iv C,uM J z K] 83),(some b7,blk ([iv l,uM a8 V a9,uM aA W aB,uM aC Y aD,iv a5,iv a6,iv a7,uM a3 L a4]++KN s) 81),(some aH,blk [iv o,iv B,iv q,iv x,iv C,uM J z K] 83),(some aE,blk ([iv 0,uD,uD,uD,iv 0,iv 0,iv 0,uD]++KN vz) 81),(some bM,blk [iv bE,iv bG] 26)]∧(Row 3 aQ (aM.length) b3 cA (al bb aM))∧(Row 3 aR (aN.length) b4 cB (al bb aN))∧(Row 3 aS (aO.length) b5 cC (al bb aO))∧(Row 8 aG (aF.length) aL cD (al eRc aF))∧F55l4 l s o B q x C z N mm aM aN aO aT aU aV aF b6=some r∧mm=m) (m:=N) ⟨cM,cN,f6,cO,cP,f7,cQ,cR,f8,cS,cT,fC,f.1,f.2.1,f.2.2.1,f.2.2.2.1,f.2.2.2.2.1,f.2.2.2.2.2,aP,0,N,(uK rfl),I.pk [1,2,3,4,5,0,8,9,10,7] rfl,(f9.to rfl rfl),(fA.to rfl rfl),(fB.to rfl rfl),(fD.to rfl rfl),F,rfl⟩ ?_))))))
   rintro m ρ w ⟨aQ,b3,cA,aR,b4,cB,aS,b5,cC,aG,aL,cD,aM,aN,aO,aT,aU,aV,aF,b6,mm,hag,I,bJ,bK,bL,aX,F,hm⟩
   subst hm; obtain ⟨ρ,rfl⟩:=hag.form
   obtain _ | m4:=mm
   ·cases (show (none:Option ((Int × List Sp3 × List Sp3 × List Sp3 × Int × Int × Int × List Rc × V36 × Int) ⊕ (Int × List Sp3 × List Sp3 × List Sp3 × Int × Int × Int × List Rc × V36 × (Int × Int × Int × Int × Int × List Rc) × Int)))=some r from F)
   replace F:F55b4 l s o B q x C z N (F55l4 l s o B q x C z N m4) aM aN aO aT aU aV aF b6=some r:=F; unfold F55b4 at F
   refine uL (by rfl) (ifN F (fun fE F=>?_) (fun fE F=>?_))
   ·
    refine xl rfl (uP fE) (fun _=>aa (ab (ai rfl (bw (.inl ⟨rfl,⟨aQ,b3,cA,aR,b4,cB,aS,b5,cC,aG,aL,cD,aM,aN,aO,aT,aU,aV,aF,⟨rfl,rfl,trivial⟩,I.pk [0,1,2,3,4,5,6,7,8,9] rfl,(bJ.to rfl rfl),(bK.to rfl rfl),(bL.to rfl rfl),(aX.to rfl rfl),F⟩⟩)))))
   refine xl rfl (fun _=>?_) (uO fE)
   refine aa (ab (ah rfl (ak (dn (fun ρ w=>∃ (dC e5 e6 dD e7 e8 dE e9 eA dF eC eD:_) (cV:List Sp3) (cW:List Sp3) (cX:List Sp3) (eE eF eG:_) (cY:List Rc),cd ρ [(0,pt a),(3,pt aI),(9,uM J z K),(10,iv (z.length:Int)),(11,iv b6)]∧Inv [] w0 w [(some a,blk ([iv l,uN dC cV e5,uN dD cW e7,uN dE cX e9,iv eE,iv eF,iv eG,uN dF cY eC]++KN s) 189),(dC,blk e6 35),(dD,blk e8 35),(dE,blk eA 35),(dF,blk eD 25),(some aI,blk [iv o,iv B,iv q,iv x,iv C,uM J z K] 83),(some b7,blk ([iv l,uM a8 V a9,uM aA W aB,uM aC Y aD,iv a5,iv a6,iv a7,uM a3 L a4]++KN s) 81),(some aH,blk [iv o,iv B,iv q,iv x,iv C,uM J z K] 83),(some aE,blk ([iv 0,uD,uD,uD,iv 0,iv 0,iv 0,uD]++KN vz) 81),(some bM,blk [iv bE,iv bG] 26)]∧(Row 3 dC (cV.length) e5 e6 (al bb cV))∧(Row 3 dD (cW.length) e7 e8 (al bb cW))∧(Row 3 dE (cX.length) e9 eA (al bb cX))∧(Row 8 dF (cY.length) eC eD (al eRc cY))∧F55j5 (F55l4 l s o B q x C z N m4) b6 cV cW cX eE eF eG cY=some r) ?_ ?_))))
   ·
    refine au (uL (by rfl) (gdE F (fun h0 F=>bt F (fun A g8 F=>?_))))
    obtain ⟨i6,i7,h1,h2,h3⟩:=d7.at_ bx (by decide) g8
    refine ph (cn (b6).toNat nt md rfl h1 rfl (Int.toNat_of_nonneg h0).symm (fa g8 rfl) (ph (ef I (qg A) mh md rfl rfl h2 (by simp) h3 (ph (bh I _ zeroValue25 rfl fun eH w I=>xi I 0 _ md rfl fun w I=>aa (ab (ab (gm 12 I (by kernel_rfl) (zB (pt eH) (uF eH 1) (by kernel_rfl) (zg 0 (iv A.n) zi3 rfl (zB (pt a) (pt a) (by kernel_rfl) (zB (pt a) (uF a 7) (by kernel_rfl) (zg 1 (uN aG aF aL) mv rfl (zP (uF aI 2) (by kernel_rfl) (zg 6 (iv q) zi3 rfl (bt F (fun h4 h5 F=>zc (iv h4) (fun w I=>co 101 [uN aG aF aL,iv q] (by kernel_rfl) (L101 _ (uG aG) aL aF q (I.rowCells 5 rfl aX) (am rfl aX.big) (am rfl aX.cap) N _ h5) uI) (ifE F (fun fF F=>?_) (fun fF F=>?_)))))))))))))))))))
    ·
     refine zc bT (fun w I=>fh rfl rfl (fun _=>br) (uO fF)) (zh (fun w I=>aa (ah rfl (bw (.inl ⟨rfl,⟨aQ,b3,cA,aR,b4,cB,aS,b5,cC,aG,aL,cD,aM,aN,aO,aT,aU,aV,aF,(uK rfl),I.pk [1,2,3,4,5,6,7,8,9,10] rfl,(bJ.to rfl rfl),(bK.to rfl rfl),(bL.to rfl rfl),(aX.to rfl rfl),F⟩⟩)))))
    refine zc bF (fun w I=>fh rfl rfl (uP fF) (fun _=>br)) (zh (fun w I=>aa (ai rfl (ak (uL (by rfl) (pu (pt a) (by rfl) (xm I 0 mh md rfl (ph (gr 130 [pt a,.agg (qg A).toArray] (by kernel_rfl) (az (n:=37) func130 rfl ntmps130 rfl (uL (by rfl) (ph (ca I _ rfl fun i8 w I=>pu (iv 0) (by rfl) (aa (dn (fun ρ w=>∃ (fG cZ dG eI d0 dH eJ d1 dI eK cE d2 eL:_) (cF:List Sp3) (cG:List Sp3) (cH:List Sp3) (dJ dK dL:_) (bU:List Rc) (aJ:_),cd ρ [(0,pt a),(5,pt fG),(6,uN cE bU d2),(7,iv aJ)]∧Inv [] w0 w [(some a,blk ([iv l,uN aQ aM b3,uN aR aN b4,uN aS aO b5,iv aT,iv aU,iv aV,uN aG aF aL]++KN s) 189),(aQ,blk cA 35),(aR,blk cB 35),(aS,blk cC 35),(aG,blk cD 25),(some fG,blk [uN cZ cF dG,uN d0 cG dH,uN d1 cH dI,iv dJ,iv dK,iv dL] 63),(cZ,blk eI 35),(d0,blk eJ 35),(d1,blk eK 35),(cE,blk eL 25),(some b7,blk ([iv l,uM a8 V a9,uM aA W aB,uM aC Y aD,iv a5,iv a6,iv a7,uM a3 L a4]++KN s) 81),(some aH,blk [iv o,iv B,iv q,iv x,iv C,uM J z K] 83),(some aE,blk ([iv 0,uD,uD,uD,iv 0,iv 0,iv 0,uD]++KN vz) 81),(some bM,blk [iv bE,iv bG] 26),(some aI,blk [iv o,iv B,iv q,iv x,iv C,uM J z K] 83),(some eH,blk (qg A) 25)]∧(Row 3 cZ (cF.length) dG eI (al bb cF))∧(Row 3 d0 (cG.length) dH eJ (al bb cG))∧(Row 3 d1 (cH.length) dI eK (al bb cH))∧(Row 8 cE (bU.length) d2 eL (al eRc bU))∧F55j6 l s o B q x C z N (F55l4 l s o B q x C z N m4) aM aN aO aT aU aV aF b6 cF cG cH dJ dK dL bU aJ=some r) ?_ ?_)))))))))))))))
    ·
     refine bt F (fun h6 g9 F=>?_)
     obtain ⟨bV,bW,bX,bY,bZ,c0,c1,c2⟩:=h6
     refine dh I [0,1,2,3,4,5,6,7,8,9,10,11] (by decide) rfl (by kernel_rfl) (by kernel_rfl) fun hsub=>alp 0 (pt a) hsub rfl (by kernel_rfl) (fun _=>(by kernel_rfl)) (alp 1 (pt a) hsub rfl (by kernel_rfl) (fun _=>(by kernel_rfl)) (alp 2 (pt a) hsub rfl (by kernel_rfl) (fun _=>(by kernel_rfl)) (alp 3 (uF a 1) hsub rfl (by kernel_rfl) (fun _=>(by kernel_rfl)) (ap 4 (.agg #[uN aQ aM b3,uN aR aN b4,uN aS aO b5,iv aT,iv aU,iv aV]) hsub rfl (by kernel_rfl) (fun w I=>ar I 2 6 [uN aQ aM b3,uN aR aN b4,uN aS aO b5,iv aT,iv aU,iv aV] mt mi rfl rfl rfl rfl br) (alp 5 (pt a) hsub rfl (by kernel_rfl) (fun _=>(by kernel_rfl)) (alp 6 (pt a) hsub rfl (by kernel_rfl) (fun _=>(by kernel_rfl)) (alp 7 (pt a) hsub rfl (by kernel_rfl) (fun _=>(by kernel_rfl)) (alp 8 (uF a 7) hsub rfl (by kernel_rfl) (fun _=>(by kernel_rfl)) (ap 9 (uN aG aF aL) hsub rfl (by kernel_rfl) (fun w I=>ag I 2 (uN aG aF aL) mv rfl rfl rfl br) (ap 10 (.agg (qg A).toArray) hsub rfl (by kernel_rfl) (fun w I=>ma I 0 mh md rfl rfl rfl br) (bc [11,16] (by kernel_rfl) rfl (each2 ?_ ?_))))))))))))
     ·intro w I
      refine dg rfl (co 38 _ (by kernel_rfl) (L38 _ (uG aQ) b3 aM (uG aR) b4 aN (uG aS) b5 aO aT aU aV (uG aG) aL aF A (hG.up I) (I.rowCells 3 rfl bJ) (am rfl bJ.big) (am rfl bJ.cap) (I.rowCells 4 rfl bK) (am rfl bK.big) (am rfl bK.cap) (I.rowCells 5 rfl bL) (am rfl bL.big) (am rfl bL.cap) (I.rowCells 6 rfl aX) (am rfl aX.big) (am rfl aX.cap) N _ g9) ?_)
      rintro v w ⟨eM,eN,h7,eO,eP,h8,eQ,eR,h9,eS,eT,hA,hv,hN,gA,gB,gC,gD⟩
      dsimp only at hv hN gA gB gC gD; subst hv
      have I:=I.join hN; clear hN
      refine ⟨_,I,dc (fun _ h=>h.pk [4,5,6,7,8,9,10,11,12,13,14,15] rfl) ?_⟩
      intro hsub
      refine alp 12 (.tuple #[.agg #[uN eM bV eN,uN eO bW eP,uN eQ bX eR,iv bY,iv bZ,iv c0],uN eS c1 eT,iv c2]) hsub rfl (by kernel_rfl) (fun _=>(by kernel_rfl)) (alp 13 (.agg #[uN eM bV eN,uN eO bW eP,uN eQ bX eR,iv bY,iv bZ,iv c0]) hsub rfl (by kernel_rfl) (fun _=>(by kernel_rfl)) (alp 14 (uN eS c1 eT) hsub rfl (by kernel_rfl) (fun _=>(by kernel_rfl)) (alp 15 (iv c2) hsub rfl (by kernel_rfl) (fun _=>(by kernel_rfl)) (bc [16] (by kernel_rfl) rfl (cz fun w I=>dg rfl (bh I [uD,uD,uD,iv 0,iv 0,iv 0] zeroValue63 rfl fun hB w I=>⟨_,I,dc (fun _ h=>h.pk [5,6,7,8,9,10,11,12,13,14,15,16] rfl) ?_⟩))))))
      intro hsub
      refine bc [17] (by kernel_rfl) rfl (cz fun w I=>dg rfl (aq I 0 6 [uN eM bV eN,uN eO bW eP,uN eQ bX eR,iv bY,iv bZ,iv c0] mi rfl rfl rfl rfl rfl (mx rfl) fun w I=>⟨_,I,dc (fun _ h=>h.pk [5,6,7,8,9,10,11,12,13,14,15,16] rfl) ?_⟩))
      intro hsub
      refine alp 18 (uN eS c1 eT) hsub rfl (by kernel_rfl) (fun _=>(by kernel_rfl)) (alp 19 (iv c2) hsub rfl (by kernel_rfl) (fun _=>(by kernel_rfl)) (cp (by kernel_rfl) (fun w I=>.inl ⟨rfl,⟨hB,eM,eN,h7,eO,eP,h8,eQ,eR,h9,eS,eT,hA,bV,bW,bX,bY,bZ,c0,c1,c2,(uK rfl),I.pk [7,8,9,10,11,0,1,2,3,4,13,14,15,16,12,6] rfl,(gA.to rfl rfl),(gB.to rfl rfl),(gC.to rfl rfl),(gD.to rfl rfl),F⟩⟩)))
     intro w I
     refine dg rfl (bh I [uD,uD,uD,iv 0,iv 0,iv 0] zeroValue63 rfl fun hC w I=>⟨_,I,dc (fun _ h=>h.pk [1,2,3,4,5,6,7,8,9,10,11,12] rfl) ?_⟩)
     intro hsub
     refine bc [11] (by kernel_rfl) rfl (cz fun w I=>dg rfl (co 38 _ (by kernel_rfl) (L38 _ (uG aQ) b3 aM (uG aR) b4 aN (uG aS) b5 aO aT aU aV (uG aG) aL aF A (hG.up I) (I.rowCells 4 rfl bJ) (am rfl bJ.big) (am rfl bJ.cap) (I.rowCells 5 rfl bK) (am rfl bK.big) (am rfl bK.cap) (I.rowCells 6 rfl bL) (am rfl bL.big) (am rfl bL.cap) (I.rowCells 7 rfl aX) (am rfl aX.big) (am rfl aX.cap) N _ g9) ?_))
     rintro v w ⟨eU,eV,hD,eW,eX,hE,eY,eZ,hH,f0,f1,hK,hv,hN,gE,gF,gG,gH⟩
     dsimp only at hv hN gE gF gG gH; subst hv
     have I:=I.join hN; clear hN
     refine ⟨_,I,dc (fun _ h=>h.pk [5,6,7,8,9,10,11,12,13,14,15,16] rfl) ?_⟩
     intro hsub
     refine alp 12 (.tuple #[.agg #[uN eU bV eV,uN eW bW eX,uN eY bX eZ,iv bY,iv bZ,iv c0],uN f0 c1 f1,iv c2]) hsub rfl (by kernel_rfl) (fun _=>(by kernel_rfl)) (alp 13 (.agg #[uN eU bV eV,uN eW bW eX,uN eY bX eZ,iv bY,iv bZ,iv c0]) hsub rfl (by kernel_rfl) (fun _=>(by kernel_rfl)) (alp 14 (uN f0 c1 f1) hsub rfl (by kernel_rfl) (fun _=>(by kernel_rfl)) (alp 15 (iv c2) hsub rfl (by kernel_rfl) (fun _=>(by kernel_rfl)) (bc [17] (by kernel_rfl) rfl (cz fun w I=>dg rfl (aq I 4 6 [uN eU bV eV,uN eW bW eX,uN eY bX eZ,iv bY,iv bZ,iv c0] mi rfl rfl rfl rfl rfl (mx rfl) fun w I=>⟨_,I,dc (fun _ h=>h.pk [5,6,7,8,9,10,11,12,13,14,15,16] rfl) ?_⟩))))))
     intro hsub
     refine alp 18 (uN f0 c1 f1) hsub rfl (by kernel_rfl) (fun _=>(by kernel_rfl)) (alp 19 (iv c2) hsub rfl (by kernel_rfl) (fun _=>(by kernel_rfl)) (cp (by kernel_rfl) (fun w I=>.inl ⟨rfl,⟨hC,eU,eV,hD,eW,eX,hE,eY,eZ,hH,f0,f1,hK,bV,bW,bX,bY,bZ,c0,c1,c2,(uK rfl),I.pk [7,8,9,10,11,4,0,1,2,3,13,14,15,16,12,6] rfl,(gE.to rfl rfl),(gF.to rfl rfl),(gG.to rfl rfl),(gH.to rfl rfl),F⟩⟩)))
    intro ρ w hJ
    obtain ⟨fG,cZ,dG,eI,d0,dH,eJ,d1,dI,eK,cE,d2,eL,cF,cG,cH,dJ,dK,dL,bU,aJ,hag,I,hL,hM,hO,hP,F⟩:=hJ
    obtain ⟨ρ,rfl⟩:=hag.form
    unfold F55j6 at F
    refine dn (fun ρ w=>∃ (d3 dM dN d4 dO dP d5 dQ dR d6 dS dT:_) (cI:List Sp3) (cJ:List Sp3) (cK:List Sp3) (dU dV dW:_) (cL:List Rc),cd ρ [(7,iv aJ)]∧Inv [] w0 w [(some b7,blk ([iv l,uM a8 V a9,uM aA W aB,uM aC Y aD,iv a5,iv a6,iv a7,uM a3 L a4]++KN s) 81),(some aH,blk [iv o,iv B,iv q,iv x,iv C,uM J z K] 83),(some aE,blk ([iv 0,uD,uD,uD,iv 0,iv 0,iv 0,uD]++KN vz) 81),(some bM,blk [iv bE,iv bG] 26),(some a,blk ([iv l,uN d3 cI dM,uN d4 cJ dO,uN d5 cK dQ,iv dU,iv dV,iv dW,uN d6 cL dS]++KN s) 189),(d3,blk dN 35),(d4,blk dP 35),(d5,blk dR 35),(d6,blk dT 25),(some aI,blk [iv o,iv B,iv q,iv x,iv C,uM J z K] 83),(some eH,blk (qg A) 25)]∧(Row 3 d3 (cI.length) dM dN (al bb cI))∧(Row 3 d4 (cJ.length) dO dP (al bb cJ))∧(Row 3 d5 (cK.length) dQ dR (al bb cK))∧(Row 8 d6 (cL.length) dS dT (al eRc cL))∧F55j7 l s o B q x C z N (F55l4 l s o B q x C z N m4) b6 aJ cI cJ cK dU dV dW cL=some r) ?_ ?_
    ·
     refine uL (by rfl) (pu (iv aJ) (by rfl) (ifN F (fun fH F=>?_) (fun fH F=>?_)))
     ·
      refine xe rfl (uP fH) (fun _=>aa (ai rfl (ak (.inl ⟨rfl,⟨aQ,b3,cA,aR,b4,cB,aS,b5,cC,aG,aL,cD,aM,aN,aO,aT,aU,aV,aF,⟨rfl,trivial⟩,I.pk [10,11,12,13,0,1,2,3,4,14,15] rfl,(bJ.to rfl rfl),(bK.to rfl rfl),(bL.to rfl rfl),(aX.to rfl rfl),F⟩⟩))))
     refine xe rfl (fun _=>?_) (uO fH)
     refine aa (ah rfl (rgn (by rfl) (pu2 (pt a) (pt a) (by rfl) (xm I 5 mt mi rfl (pu3 (uN cE bU d2) (pt a) (pt a) (by kernel_rfl) (pu (uF a 1) (by rfl) (xq I 0 6 [uN cZ cF dG,uN d0 cG dH,uN d1 cH dI,iv dJ,iv dK,iv dL] mi rfl (mx rfl) fun w I=>pu3 (pt a) (pt a) (uF a 7) (by rfl) (xq I 0 1 [uN cE bU d2] zs45 rfl (mx rfl) fun w I=>aa (.inl ⟨rfl,⟨cZ,dG,eI,d0,dH,eJ,d1,dI,eK,cE,d2,eL,cF,cG,cH,dJ,dK,dL,bU,⟨rfl,trivial⟩,I.pk [10,11,12,13,0,6,7,8,9,14,15] rfl,(hL.to rfl rfl),(hM.to rfl rfl),(hO.to rfl rfl),(hP.to rfl rfl),F⟩⟩)))))))))
    intro ρ w hJ
    obtain ⟨d3,dM,dN,d4,dO,dP,d5,dQ,dR,d6,dS,dT,cI,cJ,cK,dU,dV,dW,cL,hag,I,gI,gJ,gK,gL,F⟩:=hJ
    obtain ⟨ρ,rfl⟩:=hag.form
    unfold F55j7 at F
    refine uL (by rfl) (pu2 (iv aJ) (iv aJ) (by rfl) (aa (aj (⟨iv aJ,Ret.r1 rfl rfl,?_⟩))))
    refine pu (iv aJ) (by rfl) (aa (uL (by rfl) (pu (iv aJ) (by rfl) (ifE F (fun fI F=>?_) (fun fI F=>?_)))))
    ·
     refine xn rfl (uO fI) (fun _=>aa (ai rfl (ak (.inl ⟨rfl,⟨d3,dM,dN,d4,dO,dP,d5,dQ,dR,d6,dS,dT,cI,cJ,cK,dU,dV,dW,cL,(uK rfl),I.pk [4,5,6,7,8,9,0,1,2,3] rfl,(gI.to rfl rfl),(gJ.to rfl rfl),(gK.to rfl rfl),(gL.to rfl rfl),F⟩⟩))))
    refine xn rfl (fun _=>?_) (uP fI)
    refine aa (ah rfl (uL (by rfl) (pu2 (iv aJ) (iv aJ) (by rfl) (aa (aj (⟨iv aJ,Ret.r1 rfl rfl,?_⟩))))))
    refine pu (iv aJ) (by rfl) (aa (.inl ⟨rfl,⟨d3,dM,dN,d4,dO,dP,d5,dQ,dR,d6,dS,dT,cI,cJ,cK,dU,dV,dW,cL,s,aJ,(uK rfl),I.pk [1,2,4,5,6,7,8] rfl,(gI.to rfl rfl),(gJ.to rfl rfl),(gK.to rfl rfl),(gL.to rfl rfl),F⟩⟩))
   intro ρ w hJ
   obtain ⟨dC,e5,e6,dD,e7,e8,dE,e9,eA,dF,eC,eD,cV,cW,cX,eE,eF,eG,cY,hag,I,hQ,hR,hS,hT,F⟩:=hJ
   obtain ⟨ρ,rfl⟩:=hag.form
   unfold F55j5 at F
   refine rgn (by rfl) (ckE F (fun hU F=>xa rfl hU (pu (iv (b6+1)) (by rfl) (aa (⟨rfl,m4,Nat.lt_succ_self _,⟨dC,e5,e6,dD,e7,e8,dE,e9,eA,dF,eC,eD,cV,cW,cX,eE,eF,eG,cY,b6+1,m4,(uK rfl),I.pk [0,1,2,3,4,5,6,7,8,9] rfl,(hQ.to rfl rfl),(hR.to rfl rfl),(hS.to rfl rfl),(hT.to rfl rfl),F,rfl⟩⟩)))))
  intro ρ w hJ
  obtain ⟨b8,bN,e2,b9,bO,e3,bA,bP,e4,bH,c8,dB,bB,bC,bD,bQ,bR,bS,bI,hag,I,fJ,fK,fL,hV,F⟩:=hJ
  obtain ⟨ρ,rfl⟩:=hag.form
  unfold F55j3 at F
  refine ab (gm 24 I (by kernel_rfl) (zB (pt a) (pt aI) (by kernel_rfl) (zg 5 (iv o) zi3 rfl (zP (uF aI 2) (by kernel_rfl) (zg 5 (iv q) zi3 rfl (zB (pt a) (pt aI) (by kernel_rfl) (zg 5 (iv o) zi3 rfl (zP (uF aI 2) (by kernel_rfl) (zg 5 (iv q) zi3 rfl (zB (pt a) (pt a) (by kernel_rfl) (zP (uF a 8) (by kernel_rfl) (gdE F (fun gM F=>gdE F (fun dX F=>zc (uF a (8+(o).toNat * 6)) (fun w I=>av (o).toNat zu79 zs54 rfl rfl (Int.toNat_of_nonneg gM).symm dX (8+(o).toNat * 6) rfl br) (gdE F (fun gN F=>gdE F (fun dY F=>zc (uF a (8+((o).toNat * 6+(q).toNat))) (fun w I=>av (q).toNat zu54 zs3 rfl rfl (Int.toNat_of_nonneg gN).symm dY (8+((o).toNat * 6+(q).toNat)) (by omega) br) (zc (iv (s ((o).toNat * 6+(q).toNat))) (fun w I=>ag I 0 (iv (s ((o).toNat * 6+(q).toNat))) zi3 rfl rfl (kn_at s (row36 dX dY) [iv l,uN b8 bB bN,uN b9 bC bO,uN bA bD bP,iv bQ,iv bR,iv bS,uN bH bI c8] rfl) br) (zP (uF aI 3) (by kernel_rfl) (zg 5 (iv x) zi3 rfl (zB (iv (if x > (s ((o).toNat * 6+(q).toNat)) then x else (s ((o).toNat * 6+(q).toNat)))) (pt a) (by kernel_rfl) (zB (pt a) (uF a 8) (by kernel_rfl) (zc (uF a (8+(o).toNat * 6)) (fun w I=>av (o).toNat zu79 zs54 rfl rfl (Int.toNat_of_nonneg gM).symm dX (8+(o).toNat * 6) rfl br) (zc (uF a (8+((o).toNat * 6+(q).toNat))) (fun w I=>av (q).toNat zu54 zs3 rfl rfl (Int.toNat_of_nonneg gN).symm dY (8+((o).toNat * 6+(q).toNat)) (by omega) br) (zh (fun w I=>xq I 0 1 [iv (if x > (s ((o).toNat * 6+(q).toNat)) then x else (s ((o).toNat * 6+(q).toNat)))] zs3 rfl (by have:=(row36 dX dY); show 8+((o).toNat * 6+(q).toNat)+1≤44; omega) ?_))))))))))))))))))))))))))
  intro w I
  have I:Inv [] w0 w [(some a,blk ([iv l,uN b8 bB bN,uN b9 bC bO,uN bA bD bP,iv bQ,iv bR,iv bS,uN bH bI c8]++KN (vset s ((o).toNat * 6+(q).toNat) (if x > (s ((o).toNat * 6+(q).toNat)) then x else (s ((o).toNat * 6+(q).toNat))))) 189),(b8,blk e2 35),(b9,blk e3 35),(bA,blk e4 35),(bH,blk dB 25),(some aI,blk [iv o,iv B,iv q,iv x,iv C,uM J z K] 83),(some b7,blk ([iv l,uM a8 V a9,uM aA W aB,uM aC Y aD,iv a5,iv a6,iv a7,uM a3 L a4]++KN s) 81),(some aH,blk [iv o,iv B,iv q,iv x,iv C,uM J z K] 83),(some aE,blk ([iv 0,uD,uD,uD,iv 0,iv 0,iv 0,uD]++KN vz) 81),(some bM,blk [iv bE,iv bG] 26)]:=by have e:=kn_put (n:=8) s (row36 dX dY) (if x > (s ((o).toNat * 6+(q).toNat)) then x else (s ((o).toNat * 6+(q).toNat))) [iv l,uN b8 bB bN,uN b9 bC bO,uN bA bD bP,iv bQ,iv bR,iv bS,uN bH bI c8] rfl; rw [e] at I; exact I
  refine aa (uL (by kernel_rfl) (pu (pt a) (by kernel_rfl) (ph (gr 133 [pt a] (by kernel_rfl) (az (n:=12) func133 rfl ntmps133 rfl (rgn (by kernel_rfl) (pu3 (pt a) (pt a) (pt a) (by kernel_rfl) (pu2 (pt a) (uF a 1) (by kernel_rfl) (xr I 0 6 [uN b8 bB bN,uN b9 bC bO,uN bA bD bP,iv bQ,iv bR,iv bS] mt mi rfl (bt F (fun aY hW F=>ph (co 43 _ (by kernel_rfl) (L43 _ (uG b8) bN bB (uG b9) bO bC (uG bA) bP bD bQ bR bS (I.rowCells 1 rfl fJ) (am rfl fJ.big) (am rfl fJ.cap) (I.rowCells 2 rfl fK) (am rfl fK.big) (am rfl fK.cap) (I.rowCells 3 rfl fL) (am rfl fL.big) (am rfl fL.cap) _ hW) ?_))))))))))))
  rintro v w ⟨gO,gP,hX,gR,gS,hY,gT,gU,hZ,rfl,hN,i0,i1,i2⟩
  have I:=I.join hN; clear hN
  refine pu3 (pt a) (pt a) (uF a 1) (by rfl) (xq I 3 6 [uN gO aY.1 gP,uN gR aY.2.1 gS,uN gT aY.2.2.1 gU,iv aY.2.2.2.1,iv aY.2.2.2.2.1,iv aY.2.2.2.2.2] mi rfl (mx rfl) fun w I=>aa (⟨.tuple #[],Ret.r0 rfl , ?_⟩))
  refine aa (uL (by rfl) (pu (iv 0) (by rfl) (aa (aj (⟨iv 0,Ret.r1 rfl rfl,?_⟩)))))
  refine pu (iv 0) (by rfl) (aa (.inl ⟨rfl,⟨gO,gP,hX,gR,gS,hY,gT,gU,hZ,bH,c8,dB,aY.1,aY.2.1,aY.2.2.1,aY.2.2.2.1,aY.2.2.2.2.1,aY.2.2.2.2.2,bI,vset s ((o).toNat * 6+(q).toNat) (if x > (s ((o).toNat * 6+(q).toNat)) then x else (s ((o).toNat * 6+(q).toNat))),0,(uK rfl),I.pk [10,11,3,0,1,2,7] rfl,(i0.to rfl rfl),(i1.to rfl rfl),(i2.to rfl rfl),(hV.to rfl rfl),F⟩⟩))
 intro ρ w hJ
 obtain ⟨D,M,aZ,E,O,b0,G,P,b1,H,Q,b2,R,S,T,Z,a0,a1,U,a2,cU,hag,I,c4,c5,c6,c7,F⟩:=hJ
 obtain ⟨ρ,rfl⟩:=hag.form
 unfold F55j2 at F
 refine uL (by rfl) (pu (iv cU) (by rfl) (ifN F (fun fM F=>?_) (fun fM F=>?_)))
 ·
  refine xn rfl (fun _=>?_) (uP fM)
  refine aa (ah rfl (uL (by kernel_rfl) (pu2 (.agg ([iv 0,uD,uD,uD,iv 0,iv 0,iv 0,uD]++KN vz).toArray) (iv cU) (by kernel_rfl) (xi I 1 _ ml rfl fun w I=>pu2 uD (iv cU) (by kernel_rfl) (aa (aj ?_))))))
  have I:=I.nilRow 35
  have I:=I.nilRow 35
  have I:=I.nilRow 35
  have I:=I.nilRow 25
  cases F
  exact ⟨_,Ret.ctt rfl rfl (ce I 5 44 ([iv 0,uD,uD,uD,iv 0,iv 0,iv 0,uD]++KN vz) mu ml rfl (by rfl) (by rfl)) rfl rfl,⟨none,0,[],none,0,[],none,0,[],none,0,[],rfl,I.pk [1,2,3,0] rfl,Row.nil_ 3,Row.nil_ 3,Row.nil_ 3,Row.nil_ 8⟩⟩
 refine xn rfl (uO fM) (fun _=>aa (ai rfl (ak (ab (bindSE F (fun i9 i3 F=>?_) (fun aK i4 F=>?_))))))
 ·
  refine kx [tv (fun _=>(pt a)),tv (fun _=>(pt a)),tv (fun _=>(pt a)),tr (fun _=>(.agg ([iv l,uN D R M,uN E S O,uN G T P,iv Z,iv a0,iv a1,uN H U Q]++KN a2).toArray)) [12],tv (fun _=>(pt a)),tr (fun _=>(.agg #[iv o,iv B,iv q,iv x,iv C,uM J z K])) [10],⟨fun _=>uD,fun _=>[],fun _=>True,[],[12,13,15,16,14]⟩,tst (fun _=>[(some aE,blk ([iv l,uN D R M,uN E S O,uN G T P,iv Z,iv a0,iv a1,uN H U Q]++KN a2) 81)]) 11,tv (fun _=>uD),tv (fun _=>(iv 0))] (fun _=>[(4,pt aE),(5,uD),(6,iv 0)]) (fun _=>[(some aE,blk ([iv l,uN D R M,uN E S O,uN G T P,iv Z,iv a0,iv a1,uN H U Q]++KN a2) 81),(some aH,blk [iv o,iv B,iv q,iv x,iv C,uM J z K] 83),(some a,blk ([iv l,uN D R M,uN E S O,uN G T P,iv Z,iv a0,iv a1,uN H U Q]++KN a2) 189),(D,blk aZ 35),(E,blk b0 35),(G,blk b1 35),(H,blk b2 25)]) I (by kernel_rfl) (fun y=>⟨(by kernel_rfl),(by kernel_rfl)⟩) (fun y=>?_) ?_
  ·
   refine tt rfl (by rfl) (tt rfl (by rfl) (tt rfl (by rfl) (tl1 [(some a,blk ([iv l,uN D R M,uN E S O,uN G T P,iv Z,iv a0,iv a1,uN H U Q]++KN a2) 189)] rfl (by rfl) (fun X w I=>ma I 0 mu ml rfl rfl rfl br) (tt rfl (by rfl) (tl1 [(some aH,blk [iv o,iv B,iv q,iv x,iv C,uM J z K] 83)] rfl (by rfl) (fun X w I=>ma I 0 zi83 zs83 rfl rfl rfl br) (tg uD [(some a,blk ([iv l,uN D R M,uN E S O,uN G T P,iv Z,iv a0,iv a1,uN H U Q]++KN a2) 189),(D,blk aZ 35),(G,blk b1 35),(H,blk b2 25),(E,blk b0 35)] [(some a,blk ([iv l,uN D R M,uN E S O,uN G T P,iv Z,iv a0,iv a1,uN H U Q]++KN a2) 189),(D,blk aZ 35),(G,blk b1 35),(H,blk b2 25),(E,blk b0 35)] rfl ⟨(by rfl),(by rfl),(by rfl)⟩ ?_ ?_))))))
   ·intro hp X w I
    refine bg I 138 [pt a,.agg #[iv o,iv B,iv q,iv x,iv C,uM J z K]] uD (by kernel_rfl) (L138 _ a l (uG D) M R (uG E) O S (uG G) P T Z a0 a1 (uG H) Q U a2 o B q x C J K z (I.rowCells 1 rfl c4) (am rfl c4.big) (am rfl c4.cap) (I.rowCells 4 rfl c5) (am rfl c5.big) (am rfl c5.cap) (I.rowCells 2 rfl c6) (am rfl c6.big) (am rfl c6.cap) (I.rowCells 3 rfl c7) (am rfl c7.big) (am rfl c7.cap) (I.lt (i:=0) rfl) (I.cellsAt 0 rfl) (d7.inv0 I) dZ e0 N _ i3) fun w I=>⟨wit 0 [] [] [] [],(by kernel_rfl),trivial,I.castL (by kernel_rfl)⟩
   refine tS [(some aE,blk ([iv 0,uD,uD,uD,iv 0,iv 0,iv 0,uD]++KN vz) 81)] rfl ⟨(by rfl),(by rfl)⟩ (fun X w I=>mb I 0 ([iv l,uN D R M,uN E S O,uN G T P,iv Z,iv a0,iv a1,uN H U Q]++KN a2) ml rfl rfl rfl rfl rfl rfl fun w I=>⟨rfl,I.castL (by rfl)⟩) (tt rfl (by rfl) (tt rfl (by rfl) (tn)))
  intro y hp ρ w hag I
  clear hp
  obtain ⟨ρ,rfl⟩:=hag.form
  refine aj ?_
  cases F
  exact ⟨_,Ret.ctt rfl rfl (ce I 0 44 ([iv l,uN D R M,uN E S O,uN G T P,iv Z,iv a0,iv a1,uN H U Q]++KN a2) mu ml rfl (by rfl) (by rfl)) rfl rfl,⟨D,M,aZ,E,O,b0,G,P,b1,H,Q,b2,rfl,I.pk [3,4,5,6] rfl,c4.to rfl rfl,c5.to rfl rfl,c6.to rfl rfl,c7.to rfl rfl⟩⟩
 refine kx [tv (fun _=>(pt a)),tv (fun _=>(pt a)),tv (fun _=>(pt a)),tr (fun _=>(.agg ([iv l,uN D R M,uN E S O,uN G T P,iv Z,iv a0,iv a1,uN H U Q]++KN a2).toArray)) [12],tv (fun _=>(pt a)),tr (fun _=>(.agg #[iv o,iv B,iv q,iv x,iv C,uM J z K])) [10],⟨fun y=>(.slice (some ⟨(y 6).b,0,none⟩) 1 1),fun y=>[(some (y 6).b,blk [iv aK.1,iv aK.2.1,iv aK.2.2.1,iv aK.2.2.2.1,iv aK.2.2.2.2.1,slv ((y 6).g 0) aK.2.2.2.2.2.length ((y 6).c 0)] 83),(((y 6).g 0),blk ((y 6).cl 0) 25)],fun y=>(Row 8 ((y 6).g 0) aK.2.2.2.2.2.length ((y 6).c 0) ((y 6).cl 0) (al eRc aK.2.2.2.2.2)),[],[12,13,15,16,14]⟩,tst (fun _=>[(some aE,blk ([iv l,uN D R M,uN E S O,uN G T P,iv Z,iv a0,iv a1,uN H U Q]++KN a2) 81)]) 11,tv (fun y=>(.slice (some ⟨(y 6).b,0,none⟩) 1 1)),tv (fun _=>(iv 0))] (fun y=>[(4,pt aE),(5,.slice (some ⟨(y 6).b,0,none⟩) 1 1),(6,iv 0)]) (fun y=>[(some (y 6).b,blk [iv aK.1,iv aK.2.1,iv aK.2.2.1,iv aK.2.2.2.1,iv aK.2.2.2.2.1,slv ((y 6).g 0) aK.2.2.2.2.2.length ((y 6).c 0)] 83),(((y 6).g 0),blk ((y 6).cl 0) 25),(some aE,blk ([iv l,uN D R M,uN E S O,uN G T P,iv Z,iv a0,iv a1,uN H U Q]++KN a2) 81),(some aH,blk [iv o,iv B,iv q,iv x,iv C,uM J z K] 83),(some a,blk ([iv l,uN D R M,uN E S O,uN G T P,iv Z,iv a0,iv a1,uN H U Q]++KN a2) 189),(D,blk aZ 35),(E,blk b0 35),(G,blk b1 35),(H,blk b2 25)]) I (by kernel_rfl) (fun y=>⟨(by kernel_rfl),(by kernel_rfl)⟩) (fun y=>?_) ?_
 ·
  refine tt rfl (by rfl) (tt rfl (by rfl) (tt rfl (by rfl) (tl1 [(some a,blk ([iv l,uN D R M,uN E S O,uN G T P,iv Z,iv a0,iv a1,uN H U Q]++KN a2) 189)] rfl (by rfl) (fun X w I=>ma I 0 mu ml rfl rfl rfl br) (tt rfl (by rfl) (tl1 [(some aH,blk [iv o,iv B,iv q,iv x,iv C,uM J z K] 83)] rfl (by rfl) (fun X w I=>ma I 0 zi83 zs83 rfl rfl rfl br) (tg (.slice (some ⟨(y 6).b,0,none⟩) 1 1) [(some a,blk ([iv l,uN D R M,uN E S O,uN G T P,iv Z,iv a0,iv a1,uN H U Q]++KN a2) 189),(D,blk aZ 35),(G,blk b1 35),(H,blk b2 25),(E,blk b0 35)] [(some a,blk ([iv l,uN D R M,uN E S O,uN G T P,iv Z,iv a0,iv a1,uN H U Q]++KN a2) 189),(D,blk aZ 35),(G,blk b1 35),(H,blk b2 25),(E,blk b0 35)] rfl ⟨(by rfl),(by rfl),(by rfl)⟩ ?_ ?_))))))
  ·intro hp X w I
   refine co 138 _ (by kernel_rfl) (L138 _ a l (uG D) M R (uG E) O S (uG G) P T Z a0 a1 (uG H) Q U a2 o B q x C J K z (I.rowCells 1 rfl c4) (am rfl c4.big) (am rfl c4.cap) (I.rowCells 4 rfl c5) (am rfl c5.big) (am rfl c5.cap) (I.rowCells 2 rfl c6) (am rfl c6.big) (am rfl c6.cap) (I.rowCells 3 rfl c7) (am rfl c7.big) (am rfl c7.cap) (I.lt (i:=0) rfl) (I.cellsAt 0 rfl) (d7.inv0 I) dZ e0 N _ i4) ?_
   rintro v w ⟨fN,fO,fP,fQ,rfl,hN,fR⟩
   have I:=I.join hN; clear hN
   exact ⟨wit fN [fO] [fP] [fQ] [],(by rfl),Eq.mp (by rfl) fR,I.castL (by rfl)⟩
  refine tS [(some aE,blk ([iv 0,uD,uD,uD,iv 0,iv 0,iv 0,uD]++KN vz) 81)] rfl ⟨(by rfl),(by rfl)⟩ (fun X w I=>mb I 0 ([iv l,uN D R M,uN E S O,uN G T P,iv Z,iv a0,iv a1,uN H U Q]++KN a2) ml rfl rfl rfl rfl rfl rfl fun w I=>⟨rfl,I.castL (by rfl)⟩) (tpv (.slice (some ⟨(y 6).b,0,none⟩) 1 1) rfl ⟨(by rfl),fun _=>(by rfl)⟩ (tt rfl (by rfl) (tn)))
 intro y hp ρ w hag I
 have fR:Row 8 ((y 6).g 0) aK.2.2.2.2.2.length ((y 6).c 0) ((y 6).cl 0) (al eRc aK.2.2.2.2.2):=pgl hp (k:=6) (by decide) (by rfl)
 clear hp
 generalize (y 6).b=fN at *
 generalize (y 6).g 0=fO at *
 generalize (y 6).c 0=fP at *
 generalize (y 6).cl 0=fQ at *
 obtain ⟨ρ,rfl⟩:=hag.form
 refine aj ?_
 cases F
 exact ⟨_,Ret.ctt rfl rfl (ce I 2 44 ([iv l,uN D R M,uN E S O,uN G T P,iv Z,iv a0,iv a1,uN H U Q]++KN a2) mu ml rfl (by rfl) (by rfl)) rfl rfl,⟨D,M,aZ,E,O,b0,G,P,b1,H,Q,b2,fN,fO,fP,fQ,rfl,I.pk [5,6,7,8,0,1] rfl,c4.to rfl rfl,c5.to rfl rfl,c6.to rfl rfl,c7.to rfl rfl,fR.to rfl rfl⟩⟩
theorem L85 (w0:World) (r:(Int × Int × Int × Int × Int × Int × Int × Str)) (F:F85=some r):bn Tryz.prog 85 [] w0 fun v w=>v=.agg #[iv r.1,iv r.2.1,iv r.2.2.1,iv r.2.2.2.1,iv r.2.2.2.2.1,iv r.2.2.2.2.2.1,iv r.2.2.2.2.2.2.1,uE r.2.2.2.2.2.2.2]∧Below w0.heap.size w0 w:=by
 refine az (n:=3) func85 rfl ntmps85 rfl ?_
 have I:=Inv.start w0
 unfold F85 at F
 refine uL rfl (ph (bh I _ zeroValue25 rfl fun b2 w I=>aa (uL rfl (pu2 (.agg #[iv 2,iv 0]) (.agg #[iv 2,iv 0,iv 5,iv 10,iv 12,iv 0,iv 0,uE [97,32,107,101,121]]) (by kernel_rfl) (xi I 0 _ md rfl fun w I=>aa (aj ?_))))))
 cases F
 exact ⟨_,Ret.c rfl rfl (ce I 0 8 [iv 2,iv 0,iv 5,iv 10,iv 12,iv 0,iv 0,uE [97,32,107,101,121]] mh md rfl rfl rfl),⟨rfl,I.below⟩⟩

end Go.K
