import Derived.Test.YtcondbkhcjgemaaGreatDoorEWi
namespace Go.K
open Go.Proofs.Tryz
open Go.Proofs Go.RowKit
set_option linter.unusedVariables false
set_option linter.unusedSimpArgs false
set_option maxRecDepth 100000
attribute [local irreducible] Seq cw cx fl opX
theorem L46 (w0:World) (T:Option Addr) (U:Nat) (e:List Sp3) (V:Option Addr) (W:Nat) (f:List Sp3) (X:Option Addr) (Y:Nat) (g:List Sp3) (s:Int) (x:Int) (y:Int) (Q:Option Addr) (R:Nat) (d:List Int) (dZ:bi w0 T (al bb e)) (fJ:e.length≤9223372036854775807) (fK:e.length≤U) (e0:bi w0 V (al bb f)) (fL:f.length≤9223372036854775807) (fM:f.length≤W) (e1:bi w0 X (al bb g)) (fN:g.length≤9223372036854775807) (fO:g.length≤Y) (aU:bi w0 Q (al eInt d)) (aV:d.length≤9223372036854775807) (aW:d.length≤R) (N:Nat) (r:(List Sp3 × List Sp3 × List Sp3 × Int × Int × Int)) (F:F46 N e f g s x y d=some r):bn Tryz.prog 46 [.agg #[uM T e U,uM V f W,uM X g Y,iv s,iv x,iv y],uM Q d R] w0 fun v w=>∃ z0 z1 z2 z3 z4 z5 z6 z7 z8,v=.agg #[uN z0 r.1 z1,uN z3 r.2.1 z4,uN z6 r.2.2.1 z7,iv r.2.2.2.1,iv r.2.2.2.2.1,iv r.2.2.2.2.2]∧Inv [] w0 w [(z0,blk z2 35),(z3,blk z5 35),(z6,blk z8 35)]∧Row 3 z0 r.1.length z1 z2 (al bb r.1)∧Row 3 z3 r.2.1.length z4 z5 (al bb r.2.1)∧Row 3 z6 r.2.2.1.length z7 z8 (al bb r.2.2.1):=by
 refine az (n:=96) func46 rfl ntmps46 rfl ?_
 have I:=Inv.start w0
 unfold F46 at F
 refine uL (by kernel_rfl) (ph (ca I _ rfl fun G w I=>ph (bh I _ zeroValue63 rfl fun S w I=>aa (uL (by kernel_rfl) (pu (uM Q d R) (by kernel_rfl) (bt F (fun e2 e3 F=>ph (bg I 124 _ _ (by kernel_rfl) (L124 _ Q R d 0 (aU.inv0 I) aV aW _ e3) fun w I=>bt F (fun i e4 F=>ph (bg I 63 _ _ (by kernel_rfl) (L63 _ e2 4 _ e4) fun w I=>pu (iv i) (by kernel_rfl) (aa (uL (by kernel_rfl) (pu (iv 1) (by kernel_rfl) (aa (uL (by kernel_rfl) (ph (bh I _ zeroValue63 rfl fun P w I=>aa (ab (uL (by kernel_rfl) (pu (iv 0) (by kernel_rfl) (aa (au ?_))))))))))))))))))))))
 have I:=I.nilRow 35
 have I:=I.nilRow 35
 have I:=I.nilRow 35
 refine cb (fun m ρ w=>∃ (L a2 a5 M a3 a6 O a4 a7 aN:_) (C:List Sp3) (D:List Sp3) (E:List Sp3) (H J K A mm:_),cd ρ [(1,uM Q d R),(2,pt G),(4,pt S),(5,iv i),(6,iv aN),(7,pt P),(8,iv A)]∧Inv [] w0 w [(some G,blk [uM T e U,uM V f W,uM X g Y,iv s,iv x,iv y] 63),(some S,blk [uD,uD,uD,iv 0,iv 0,iv 0] 63),(some P,blk [uN L C a2,uN M D a3,uN O E a4,iv H,iv J,iv K] 63),(L,blk a5 35),(M,blk a6 35),(O,blk a7 35)]∧(Row 3 L (C.length) a2 a5 (al bb C))∧(Row 3 M (D.length) a3 a6 (al bb D))∧(Row 3 O (E.length) a4 a7 (al bb E))∧ox e f g s x y d N i mm aN C D E H J K A=some r∧mm=m) (m:=N) ⟨none,0,[],none,0,[],none,0,[],1,[],[],[],0,0,0,0,N,(uK rfl),I.pk [5,4,3,0,1,2] rfl,(Row.nil_ 3),(Row.nil_ 3),(Row.nil_ 3),F,rfl⟩ ?_
 rintro m ρ w ⟨L,a2,a5,M,a3,a6,O,a4,a7,aN,C,D,E,H,J,K,A,mm,hag,I,bP,bQ,bR,F,hm⟩
 subst hm; obtain ⟨ρ,rfl⟩:=hag.form
 obtain _ | m1:=mm
 ·cases (show (none:Option (List Sp3 × List Sp3 × List Sp3 × Int × Int × Int))=some r from F)
 replace F:F46b1 e f g s x y d N i (ox e f g s x y d N i m1) aN C D E H J K A=some r:=F; unfold F46b1 at F
 refine ab (uL rfl (pu (iv A) rfl (ifN F (fun cH F=>?_) (fun cH F=>?_))))
 ·
  refine xl rfl (uP cH) (fun _=>aa (ai rfl (bw (uL rfl (xm I 2 mt mi rfl (xi I 1 _ mi rfl fun w I=>aa (aj ?_)))))))
  cases F
  exact ⟨_,Ret.c rfl rfl (ce I 1 6 [uN L C a2,uN M D a3,uN O E a4,iv H,iv J,iv K] mt mi rfl rfl rfl),⟨L,a2,a5,M,a3,a6,O,a4,a7,rfl,I.pk [3,4,5] rfl,bP.to rfl rfl,bQ.to rfl rfl,bR.to rfl rfl⟩⟩


 refine xl rfl (fun _=>?_) (uO cH)
 refine aa (ah rfl (ak (dn (fun ρ w=>∃ (bG bS bU bH bV bW bI bX bY bZ:_) (b4:List Sp3) (b5:List Sp3) (b6:List Sp3) (c0 c1 c2:_),cd ρ [(1,uM Q d R),(2,pt G),(4,pt S),(5,iv i),(6,iv bZ),(7,pt P),(8,iv A)]∧Inv [] w0 w [(some G,blk [uM T e U,uM V f W,uM X g Y,iv s,iv x,iv y] 63),(some S,blk [uD,uD,uD,iv 0,iv 0,iv 0] 63),(some P,blk [uN bG b4 bS,uN bH b5 bV,uN bI b6 bX,iv c0,iv c1,iv c2] 63),(bG,blk bU 35),(bH,blk bW 35),(bI,blk bY 35)]∧(Row 3 bG (b4.length) bS bU (al bb b4))∧(Row 3 bH (b5.length) bV bW (al bb b5))∧(Row 3 bI (b6.length) bX bY (al bb b6))∧F46j2 (ox e f g s x y d N i m1) A bZ b4 b5 b6 c0 c1 c2=some r) ?_ ?_)))
 ·
  refine au (dn (fun ρ w=>∃ B,cd ρ [(1,uM Q d R),(2,pt G),(4,pt S),(5,iv i),(6,iv aN),(7,pt P),(8,iv A),(9,iv B)]∧Inv [] w0 w [(some G,blk [uM T e U,uM V f W,uM X g Y,iv s,iv x,iv y] 63),(some S,blk [uD,uD,uD,iv 0,iv 0,iv 0] 63),(some P,blk [uN L C a2,uN M D a3,uN O E a4,iv H,iv J,iv K] 63),(L,blk a5 35),(M,blk a6 35),(O,blk a7 35)]∧F46j3 e f g d N (ox e f g s x y d N i m1) i aN C D E H J K A B=some r) ?_ ?_)
  ·
   refine gm 12 I (by kernel_rfl) (zB (iv A) (uF G 3) rfl (ifE F (fun cI F=>?_) (fun cI F=>?_)))
   ·
    refine zc (uF G 3) (fun w I=>av 0 zu61 zs3 rfl rfl cI (by decide) 3 rfl br) (zg 0 (iv s) zi3 rfl (zB (iv (if 0 > s then 0 else s)) (iv A) (by kernel_rfl) (zP (pt G) rfl (zc (pt G) (fun w I=>av 0 pf mw rfl rfl cI (by decide) 0 rfl br) (zg 0 (uM T e U) mq rfl (zc (iv (e.length:Int)) (fun w I=>kl (iv ((e.length:Nat):Int)) (by kernel_rfl) br) (zB (iv (qa e s)) (iv (qa e s)) (by kernel_rfl) (zh (fun w I=>aa (.inl ⟨rfl,⟨if (e.length:Int) < (if 0 > s then 0 else s) then (e.length:Int) else (if 0 > s then 0 else s),(uK rfl),I.pk [0,1,2,3,4,5] rfl,F⟩⟩))))))))))
   refine ifE F (fun cJ F=>?_) (fun cJ F=>?_)
   ·
    refine zc (uF G 4) (fun w I=>av 1 zu61 zs3 rfl rfl cJ (by decide) 4 rfl br) (zg 0 (iv x) zi3 rfl (zB (iv (if 0 > x then 0 else x)) (iv A) (by kernel_rfl) (zP (pt G) rfl (zc (uF G 1) (fun w I=>av 1 pf mw rfl rfl cJ (by decide) 1 rfl br) (zg 0 (uM V f W) mq rfl (zc (iv (f.length:Int)) (fun w I=>kl (iv ((f.length:Nat):Int)) (by kernel_rfl) br) (zB (iv (qa f x)) (iv (qa f x)) (by kernel_rfl) (zh (fun w I=>aa (.inl ⟨rfl,⟨if (f.length:Int) < (if 0 > x then 0 else x) then (f.length:Int) else (if 0 > x then 0 else x),(uK rfl),I.pk [0,1,2,3,4,5] rfl,F⟩⟩))))))))))
   refine ifN F (fun cK F=>?_) (fun cK F=>?_)
   ·
    cases F
   refine zc (uF G 5) (fun w I=>av 2 zu61 zs3 rfl rfl cK (by decide) 5 rfl br) (zg 0 (iv y) zi3 rfl (zB (iv (if 0 > y then 0 else y)) (iv A) (by kernel_rfl) (zP (pt G) rfl (zc (uF G 2) (fun w I=>av 2 pf mw rfl rfl cK (by decide) 2 rfl br) (zg 0 (uM X g Y) mq rfl (zc (iv (g.length:Int)) (fun w I=>kl (iv ((g.length:Nat):Int)) (by kernel_rfl) br) (zB (iv (qa g y)) (iv (qa g y)) (by kernel_rfl) (zh (fun w I=>aa (.inl ⟨rfl,⟨if (g.length:Int) < (if 0 > y then 0 else y) then (g.length:Int) else (if 0 > y then 0 else y),(uK rfl),I.pk [0,1,2,3,4,5] rfl,F⟩⟩))))))))))
  intro ρ w hJ
  obtain ⟨B,hag,I,F⟩:=hJ
  obtain ⟨ρ,rfl⟩:=hag.form
  unfold F46j3 at F
  refine uL rfl (pu uD rfl (aa (dn (fun ρ w=>∃ (aI aJ b7 aX:_) (aE:List Sp3),cd ρ [(1,uM Q d R),(2,pt G),(4,pt S),(5,iv i),(6,iv aX),(7,pt P),(8,iv A),(9,iv B),(10,uN aI aE aJ)]∧Inv [] w0 w [(some G,blk [uM T e U,uM V f W,uM X g Y,iv s,iv x,iv y] 63),(some S,blk [uD,uD,uD,iv 0,iv 0,iv 0] 63),(some P,blk [uN L C a2,uN M D a3,uN O E a4,iv H,iv J,iv K] 63),(L,blk a5 35),(M,blk a6 35),(O,blk a7 35),(aI,blk b7 35)]∧(Row 3 aI (aE.length) aJ b7 (al bb aE))∧F46j4 (ox e f g s x y d N i m1) i C D E H J K A B aX aE=some r) ?_ ?_)))
  ·
   refine uL rfl (pu2 (iv A) (pt G) rfl (ifE F (fun dN F=>?_) (fun dN F=>?_)))
   ·
    refine xv 0 pf mw rfl dN (by decide) 0 rfl (xg I 0 (uM T e U) mq rfl (pu2 (iv ((e.length:Nat):Int)) (iv 0) (by kernel_rfl) (aa (au ?_))))
    have I:=I.nilRow 35
    refine cb (fun m ρ w=>∃ (aF aO aY a8:_) (Z:List Sp3) (aB mm:_),cd ρ [(1,uM Q d R),(2,pt G),(4,pt S),(5,iv i),(6,iv a8),(7,pt P),(8,iv A),(9,iv B),(10,uN aF Z aO),(36,uM T e U),(37,iv (e.length:Int)),(38,iv aB)]∧Inv [] w0 w [(some G,blk [uM T e U,uM V f W,uM X g Y,iv s,iv x,iv y] 63),(some S,blk [uD,uD,uD,iv 0,iv 0,iv 0] 63),(some P,blk [uN L C a2,uN M D a3,uN O E a4,iv H,iv J,iv K] 63),(L,blk a5 35),(M,blk a6 35),(O,blk a7 35),(aF,blk aY 35)]∧(Row 3 aF (Z.length) aO aY (al bb Z))∧F46l5 e d (ox e f g s x y d N i m1) i C D E H J K A B mm a8 Z aB=some r∧mm=m) (m:=N) ⟨none,0,[],aN,[],0,N,(uK rfl),I.pk [1,2,3,4,5,6,0] rfl,(Row.nil_ 3),F,rfl⟩ ?_
    rintro m ρ w ⟨aF,aO,aY,a8,Z,aB,mm,hag,I,c4,F,hm⟩
    subst hm; obtain ⟨ρ,rfl⟩:=hag.form
    obtain _ | m5:=mm
    ·cases (show (none:Option (List Sp3 × List Sp3 × List Sp3 × Int × Int × Int))=some r from F)
    replace F:F46b5 e d (ox e f g s x y d N i m1) i C D E H J K A B (F46l5 e d (ox e f g s x y d N i m1) i C D E H J K A B m5) a8 Z aB=some r:=F; unfold F46b5 at F
    refine uL rfl (ifN F (fun cL F=>?_) (fun cL F=>?_))
    ·
     refine xl rfl (uP cL) (fun _=>aa (ab (ai rfl (bw (.inl ⟨rfl,⟨aF,aO,aY,a8,Z,(uK rfl),I.pk [0,1,2,3,4,5,6] rfl,(c4.to rfl rfl),F⟩⟩)))))
    refine xl rfl (fun _=>?_) (uO cL)
    refine aa (ab (ah rfl (ak (dn (fun ρ w=>∃ (bJ c5 c6 c7:_) (b8:List Sp3),cd ρ [(1,uM Q d R),(2,pt G),(4,pt S),(5,iv i),(6,iv c7),(7,pt P),(8,iv A),(9,iv B),(10,uN bJ b8 c5),(36,uM T e U),(37,iv (e.length:Int)),(38,iv aB)]∧Inv [] w0 w [(some G,blk [uM T e U,uM V f W,uM X g Y,iv s,iv x,iv y] 63),(some S,blk [uD,uD,uD,iv 0,iv 0,iv 0] 63),(some P,blk [uN L C a2,uN M D a3,uN O E a4,iv H,iv J,iv K] 63),(L,blk a5 35),(M,blk a6 35),(O,blk a7 35),(bJ,blk c6 35)]∧(Row 3 bJ (b8.length) c5 c6 (al bb b8))∧F46j6 (F46l5 e d (ox e f g s x y d N i m1) i C D E H J K A B m5) aB c7 b8=some r) ?_ ?_))))
    ·
     refine au (uL rfl (pu (iv aB) rfl (gdE F (fun e5 F=>bt F (fun o dO F=>?_)))))
     obtain ⟨fP,fQ,e6,e7,e8⟩:=dZ.at_ bk (by decide) dO
     refine ph (cn (aB).toNat mj mc rfl e6 rfl (Int.toNat_of_nonneg e5).symm (fa dO rfl) (ph (ef I (qh o) me mc rfl rfl e7 (by simp) e8 (ph (bh I _ zeroValue35 rfl fun aR w I=>pu (iv aB) rfl (xi I 0 _ mc rfl fun w I=>aa (ab (uL rfl (pu2 (iv aB) (iv B) rfl (ifE F (fun cM F=>?_) (fun cM F=>?_)))))))))))
     ·
      refine xl rfl (fun _=>?_) (uO cM)
      refine aa (ah rfl (uL rfl (pu (uN aF Z aO) rfl (xm I 0 me mc rfl (ph (fu I (qh o) 35 (fun b=>slv (some b) 1 1) (by kernel_rfl) fun fR w I=>gdE F (fun fS F=>ph (xk I xd 8 c4 (⟨o.no,o.sz,o.t⟩:Sp3) 0 rfl (by omega) ?_))))))))
      intro cN cO dP w I cP
      refine pu (slv cN ((Z++[(⟨o.no,o.sz,o.t⟩:Sp3)]).length) cO) rfl (aa (bw (.inl ⟨rfl,⟨cN,cO,dP,a8,Z++[(⟨o.no,o.sz,o.t⟩:Sp3)],(uK rfl),I.pk [2,3,4,5,6,7,8] rfl,(cP.to rfl rfl),F⟩⟩)))
     refine xl rfl (uP cM) (fun _=>aa (ai rfl (ak (uL (by kernel_rfl) (pu2 (uM Q d R) (iv a8) (by kernel_rfl) (bt F (fun e9 eA F=>ph (bg I 124 _ _ (by kernel_rfl) (L124 _ Q R d a8 (aU.inv0 I) aV aW _ eA) fun w I=>bt F (fun aZ eC F=>ph (bg I 63 _ _ (by kernel_rfl) (L63 _ e9 3 _ eC) fun w I=>pu (iv aZ) (by kernel_rfl) (aa (uL (by kernel_rfl) (pu2 (uM Q d R) (iv a8) (by kernel_rfl) (ckE F (fun eD F=>xa rfl eD (bt F (fun bK eE F=>ph (bg I 124 _ _ (by kernel_rfl) (L124 _ Q R d (a8+1) (aU.inv0 I) aV aW _ eE) fun w I=>pu (iv bK) (by kernel_rfl) (aa (uL (by kernel_rfl) (pu (iv a8) (by kernel_rfl) (ckE F (fun eF F=>xa rfl eF (pu (iv (a8+2)) (by kernel_rfl) (aa (dn (fun ρ w=>∃ (aK:Str),cd ρ [(1,uM Q d R),(2,pt G),(4,pt S),(5,iv i),(6,iv (a8+2)),(7,pt P),(8,iv A),(9,iv B),(10,uN aF Z aO),(12,pt aR),(13,iv aZ),(36,uM T e U),(37,iv (e.length:Int)),(38,iv aB)]∧Inv [] w0 w [(some G,blk [uM T e U,uM V f W,uM X g Y,iv s,iv x,iv y] 63),(some S,blk [uD,uD,uD,iv 0,iv 0,iv 0] 63),(some P,blk [uN L C a2,uN M D a3,uN O E a4,iv H,iv J,iv K] 63),(L,blk a5 35),(M,blk a6 35),(O,blk a7 35),(aF,blk aY 35),(some aR,blk [iv o.no,iv o.sz,uE aK] 35)]∧F46j7 (F46l5 e d (ox e f g s x y d N i m1) i C D E H J K A B m5) a8 Z aB o aZ aK=some r) ?_ ?_))))))))))))))))))))))))))
     ·
      refine dn (fun ρ w=>cd ρ [(1,uM Q d R),(2,pt G),(4,pt S),(5,iv i),(6,iv (a8+2)),(7,pt P),(8,iv A),(9,iv B),(10,uN aF Z aO),(12,pt aR),(13,iv aZ),(14,iv bK),(36,uM T e U),(37,iv (e.length:Int)),(38,iv aB),(67,bF)]∧Inv [] w0 w [(some G,blk [uM T e U,uM V f W,uM X g Y,iv s,iv x,iv y] 63),(some S,blk [uD,uD,uD,iv 0,iv 0,iv 0] 63),(some P,blk [uN L C a2,uN M D a3,uN O E a4,iv H,iv J,iv K] 63),(L,blk a5 35),(M,blk a6 35),(O,blk a7 35),(aF,blk aY 35),(some aR,blk (qh o) 35)]∧F46j8 (F46l5 e d (ox e f g s x y d N i m1) i C D E H J K A B m5) a8 Z aB o aZ=some r) ?_ ?_
      ·
       refine rgn rfl (pu (iv aZ) rfl (ifN F (fun cQ F=>?_) (fun cQ F=>?_)))
       ·
        refine xe rfl (uP cQ) (fun _=>pu bF rfl (sf 4 rfl (pu bF rfl (aa (.inl ⟨rfl,⟨(uK rfl),I.pk [1,2,3,4,5,6,7,0] rfl,F⟩⟩)))))
       refine xe rfl (fun _=>?_) (uO cQ)
       refine pu bT rfl (pup (uF aR 2) rfl (aw rfl (ag I 0 (uE o.t) zi9 rfl rfl rfl (pup (iv (o.t.length:Int)) (by kernel_rfl) (ifN F (fun cR F=>?_) (fun cR F=>?_))))))
       ·
        refine aw rfl (fh rfl rfl (uP cR) (fun _=>pu bF rfl (aa (.inl ⟨rfl,⟨(uK rfl),I.pk [1,2,3,4,5,6,7,0] rfl,F⟩⟩))))
       refine aw rfl (fh rfl rfl (fun _=>?_) (uO cR))
       refine pu bT rfl (aa (.inr (ah rfl (gm 9 I (by kernel_rfl) (zP (uF aR 2) rfl (zg 0 (uE o.t) zi9 rfl (zB (iv bK) (uF aR 2) rfl (zg 0 (uE o.t) zi9 rfl (zP (iv (o.t.length:Int)) (by kernel_rfl) (bt F (fun b9 eG F=>zc (iv b9) (fun w I=>co 63 [iv bK,iv (o.t.length:Int)] (by kernel_rfl) (L63 _ bK (o.t.length:Int) _ eG) uI) (gdE F (fun eH F=>gdE F (fun eI F=>zc (uE (o.t.take (b9).toNat)) (fun w I=>nq (l:=o.t) (m:=o.t.take (b9).toNat) (a:=0) (b:=(b9).toNat) zu9 rfl (.inr ⟨rfl,rfl⟩) (.inl (congrArg (fun z=>some (Value.int .i64 z)) (Int.toNat_of_nonneg eH).symm)) eI rfl br) (zP (uF aR 2) rfl (zh (fun w I=>xq I 0 1 [uE (o.t.take (b9).toNat)] zs9 rfl (mx rfl) fun w I=>aa (.inl ⟨rfl,⟨o.t.take (b9).toNat,(uK rfl),I.pk [1,2,3,4,5,6,7,0] rfl,F⟩⟩))))))))))))))))))
      intro ρ w hJ
      obtain ⟨hag,I,F⟩:=hJ
      obtain ⟨ρ,rfl⟩:=hag.form
      unfold F46j8 at F
      refine ai rfl (ak (.inl ⟨rfl,⟨o.t,(uK rfl),I.pk [0,1,2,3,4,5,6,7] rfl,F⟩⟩))
     intro ρ w hJ
     obtain ⟨aK,hag,I,F⟩:=hJ
     obtain ⟨ρ,rfl⟩:=hag.form
     unfold F46j7 at F
     refine uL rfl (pu (iv aZ) rfl (ifN F (fun cS F=>?_) (fun cS F=>?_)))
     ·
      refine ph (fh rfl rfl (uP cS) (fun _=>aa (ai rfl (ak (.inl ⟨rfl,⟨aF,aO,aY,a8+2,Z,(uK rfl),I.pk [0,1,2,3,4,5,6] rfl,(c4.to rfl rfl),F⟩⟩)))))
     refine ph (fh rfl rfl (fun _=>?_) (uO cS))
     refine aa (ah rfl (rgn rfl (pu (uN aF Z aO) rfl (xm I 7 me mc rfl (ph (fu I [iv o.no,iv o.sz,uE aK] 35 (fun b=>slv (some b) 1 1) (by kernel_rfl) fun fT w I=>gdE F (fun fU F=>ph (xk I xd 7 c4 (⟨o.no,o.sz,aK⟩:Sp3) 0 rfl (by omega) ?_))))))))
     intro cT cU dQ w I cV
     refine pu (slv cT ((Z++[(⟨o.no,o.sz,aK⟩:Sp3)]).length) cU) rfl (aa (.inl ⟨rfl,⟨cT,cU,dQ,a8+2,Z++[(⟨o.no,o.sz,aK⟩:Sp3)],(uK rfl),I.pk [1,2,3,4,5,6,7] rfl,(cV.to rfl rfl),F⟩⟩))
    intro ρ w hJ
    obtain ⟨bJ,c5,c6,c7,b8,hag,I,eJ,F⟩:=hJ
    obtain ⟨ρ,rfl⟩:=hag.form
    unfold F46j6 at F
    refine rgn rfl (ckE F (fun eK F=>xa rfl eK (pu (iv (aB+1)) rfl (aa (⟨rfl,m5,Nat.lt_succ_self _,⟨bJ,c5,c6,c7,b8,aB+1,m5,(uK rfl),I.pk [0,1,2,3,4,5,6] rfl,(eJ.to rfl rfl),F,rfl⟩⟩)))))
   refine ifE F (fun dR F=>?_) (fun dR F=>?_)
   ·
    refine xv 1 pf mw rfl dR (by decide) 1 rfl (xg I 0 (uM V f W) mq rfl (pu2 (iv ((f.length:Nat):Int)) (iv 0) (by kernel_rfl) (aa (au ?_))))
    have I:=I.nilRow 35
    refine cb (fun m ρ w=>∃ (aG aP b0 a9:_) (a0:List Sp3) (aC mm:_),cd ρ [(1,uM Q d R),(2,pt G),(4,pt S),(5,iv i),(6,iv a9),(7,pt P),(8,iv A),(9,iv B),(10,uN aG a0 aP),(36,uM V f W),(37,iv (f.length:Int)),(38,iv aC)]∧Inv [] w0 w [(some G,blk [uM T e U,uM V f W,uM X g Y,iv s,iv x,iv y] 63),(some S,blk [uD,uD,uD,iv 0,iv 0,iv 0] 63),(some P,blk [uN L C a2,uN M D a3,uN O E a4,iv H,iv J,iv K] 63),(L,blk a5 35),(M,blk a6 35),(O,blk a7 35),(aG,blk b0 35)]∧(Row 3 aG (a0.length) aP b0 (al bb a0))∧F46l9 f d (ox e f g s x y d N i m1) i C D E H J K A B mm a9 a0 aC=some r∧mm=m) (m:=N) ⟨none,0,[],aN,[],0,N,(uK rfl),I.pk [1,2,3,4,5,6,0] rfl,(Row.nil_ 3),F,rfl⟩ ?_
    rintro m ρ w ⟨aG,aP,b0,a9,a0,aC,mm,hag,I,c8,F,hm⟩
    subst hm; obtain ⟨ρ,rfl⟩:=hag.form
    obtain _ | m9:=mm
    ·cases (show (none:Option (List Sp3 × List Sp3 × List Sp3 × Int × Int × Int))=some r from F)
    replace F:F46b9 f d (ox e f g s x y d N i m1) i C D E H J K A B (F46l9 f d (ox e f g s x y d N i m1) i C D E H J K A B m9) a9 a0 aC=some r:=F; unfold F46b9 at F
    refine uL rfl (ifN F (fun cW F=>?_) (fun cW F=>?_))
    ·
     refine xl rfl (uP cW) (fun _=>aa (ab (ai rfl (bw (.inl ⟨rfl,⟨aG,aP,b0,a9,a0,(uK rfl),I.pk [0,1,2,3,4,5,6] rfl,(c8.to rfl rfl),F⟩⟩)))))
    refine xl rfl (fun _=>?_) (uO cW)
    refine aa (ab (ah rfl (ak (dn (fun ρ w=>∃ (bL cA cB cC:_) (bA:List Sp3),cd ρ [(1,uM Q d R),(2,pt G),(4,pt S),(5,iv i),(6,iv cC),(7,pt P),(8,iv A),(9,iv B),(10,uN bL bA cA),(36,uM V f W),(37,iv (f.length:Int)),(38,iv aC)]∧Inv [] w0 w [(some G,blk [uM T e U,uM V f W,uM X g Y,iv s,iv x,iv y] 63),(some S,blk [uD,uD,uD,iv 0,iv 0,iv 0] 63),(some P,blk [uN L C a2,uN M D a3,uN O E a4,iv H,iv J,iv K] 63),(L,blk a5 35),(M,blk a6 35),(O,blk a7 35),(bL,blk cB 35)]∧(Row 3 bL (bA.length) cA cB (al bb bA))∧F46j10 (F46l9 f d (ox e f g s x y d N i m1) i C D E H J K A B m9) aC cC bA=some r) ?_ ?_))))
    ·
     refine au (uL rfl (pu (iv aC) rfl (gdE F (fun eL F=>bt F (fun p dS F=>?_)))))
     obtain ⟨fV,fW,eM,eN,eO⟩:=e0.at_ bk (by decide) dS
     refine ph (cn (aC).toNat mj mc rfl eM rfl (Int.toNat_of_nonneg eL).symm (fa dS rfl) (ph (ef I (qh p) me mc rfl rfl eN (by simp) eO (ph (bh I _ zeroValue35 rfl fun aS w I=>pu (iv aC) rfl (xi I 0 _ mc rfl fun w I=>aa (ab (uL rfl (pu2 (iv aC) (iv B) rfl (ifE F (fun cX F=>?_) (fun cX F=>?_)))))))))))
     ·
      refine xl rfl (fun _=>?_) (uO cX)
      refine aa (ah rfl (uL rfl (pu (uN aG a0 aP) rfl (xm I 0 me mc rfl (ph (fu I (qh p) 35 (fun b=>slv (some b) 1 1) (by kernel_rfl) fun fX w I=>gdE F (fun fY F=>ph (xk I xd 8 c8 (⟨p.no,p.sz,p.t⟩:Sp3) 0 rfl (by omega) ?_))))))))
      intro cY cZ dT w I d0
      refine pu (slv cY ((a0++[(⟨p.no,p.sz,p.t⟩:Sp3)]).length) cZ) rfl (aa (bw (.inl ⟨rfl,⟨cY,cZ,dT,a9,a0++[(⟨p.no,p.sz,p.t⟩:Sp3)],(uK rfl),I.pk [2,3,4,5,6,7,8] rfl,(d0.to rfl rfl),F⟩⟩)))
     refine xl rfl (uP cX) (fun _=>aa (ai rfl (ak (uL (by kernel_rfl) (pu2 (uM Q d R) (iv a9) (by kernel_rfl) (bt F (fun eP eQ F=>ph (bg I 124 _ _ (by kernel_rfl) (L124 _ Q R d a9 (aU.inv0 I) aV aW _ eQ) fun w I=>bt F (fun b1 eR F=>ph (bg I 63 _ _ (by kernel_rfl) (L63 _ eP 3 _ eR) fun w I=>pu (iv b1) (by kernel_rfl) (aa (uL (by kernel_rfl) (pu2 (uM Q d R) (iv a9) (by kernel_rfl) (ckE F (fun eS F=>xa rfl eS (bt F (fun bM eT F=>ph (bg I 124 _ _ (by kernel_rfl) (L124 _ Q R d (a9+1) (aU.inv0 I) aV aW _ eT) fun w I=>pu (iv bM) (by kernel_rfl) (aa (uL (by kernel_rfl) (pu (iv a9) (by kernel_rfl) (ckE F (fun eU F=>xa rfl eU (pu (iv (a9+2)) (by kernel_rfl) (aa (dn (fun ρ w=>∃ (aL:Str),cd ρ [(1,uM Q d R),(2,pt G),(4,pt S),(5,iv i),(6,iv (a9+2)),(7,pt P),(8,iv A),(9,iv B),(10,uN aG a0 aP),(12,pt aS),(13,iv b1),(36,uM V f W),(37,iv (f.length:Int)),(38,iv aC)]∧Inv [] w0 w [(some G,blk [uM T e U,uM V f W,uM X g Y,iv s,iv x,iv y] 63),(some S,blk [uD,uD,uD,iv 0,iv 0,iv 0] 63),(some P,blk [uN L C a2,uN M D a3,uN O E a4,iv H,iv J,iv K] 63),(L,blk a5 35),(M,blk a6 35),(O,blk a7 35),(aG,blk b0 35),(some aS,blk [iv p.no,iv p.sz,uE aL] 35)]∧F46j11 (F46l9 f d (ox e f g s x y d N i m1) i C D E H J K A B m9) a9 a0 aC p b1 aL=some r) ?_ ?_))))))))))))))))))))))))))
     ·
      refine dn (fun ρ w=>cd ρ [(1,uM Q d R),(2,pt G),(4,pt S),(5,iv i),(6,iv (a9+2)),(7,pt P),(8,iv A),(9,iv B),(10,uN aG a0 aP),(12,pt aS),(13,iv b1),(14,iv bM),(36,uM V f W),(37,iv (f.length:Int)),(38,iv aC),(67,bF)]∧Inv [] w0 w [(some G,blk [uM T e U,uM V f W,uM X g Y,iv s,iv x,iv y] 63),(some S,blk [uD,uD,uD,iv 0,iv 0,iv 0] 63),(some P,blk [uN L C a2,uN M D a3,uN O E a4,iv H,iv J,iv K] 63),(L,blk a5 35),(M,blk a6 35),(O,blk a7 35),(aG,blk b0 35),(some aS,blk (qh p) 35)]∧F46j12 (F46l9 f d (ox e f g s x y d N i m1) i C D E H J K A B m9) a9 a0 aC p b1=some r) ?_ ?_
      ·
       refine rgn rfl (pu (iv b1) rfl (ifN F (fun d1 F=>?_) (fun d1 F=>?_)))
       ·
        refine xe rfl (uP d1) (fun _=>pu bF rfl (sf 4 rfl (pu bF rfl (aa (.inl ⟨rfl,⟨(uK rfl),I.pk [1,2,3,4,5,6,7,0] rfl,F⟩⟩)))))
       refine xe rfl (fun _=>?_) (uO d1)
       refine pu bT rfl (pup (uF aS 2) rfl (aw rfl (ag I 0 (uE p.t) zi9 rfl rfl rfl (pup (iv (p.t.length:Int)) (by kernel_rfl) (ifN F (fun d2 F=>?_) (fun d2 F=>?_))))))
       ·
        refine aw rfl (fh rfl rfl (uP d2) (fun _=>pu bF rfl (aa (.inl ⟨rfl,⟨(uK rfl),I.pk [1,2,3,4,5,6,7,0] rfl,F⟩⟩))))
       refine aw rfl (fh rfl rfl (fun _=>?_) (uO d2))
       refine pu bT rfl (aa (.inr (ah rfl (gm 9 I (by kernel_rfl) (zP (uF aS 2) rfl (zg 0 (uE p.t) zi9 rfl (zB (iv bM) (uF aS 2) rfl (zg 0 (uE p.t) zi9 rfl (zP (iv (p.t.length:Int)) (by kernel_rfl) (bt F (fun bB eV F=>zc (iv bB) (fun w I=>co 63 [iv bM,iv (p.t.length:Int)] (by kernel_rfl) (L63 _ bM (p.t.length:Int) _ eV) uI) (gdE F (fun eW F=>gdE F (fun eX F=>zc (uE (p.t.take (bB).toNat)) (fun w I=>nq (l:=p.t) (m:=p.t.take (bB).toNat) (a:=0) (b:=(bB).toNat) zu9 rfl (.inr ⟨rfl,rfl⟩) (.inl (congrArg (fun z=>some (Value.int .i64 z)) (Int.toNat_of_nonneg eW).symm)) eX rfl br) (zP (uF aS 2) rfl (zh (fun w I=>xq I 0 1 [uE (p.t.take (bB).toNat)] zs9 rfl (mx rfl) fun w I=>aa (.inl ⟨rfl,⟨p.t.take (bB).toNat,(uK rfl),I.pk [1,2,3,4,5,6,7,0] rfl,F⟩⟩))))))))))))))))))
      intro ρ w hJ
      obtain ⟨hag,I,F⟩:=hJ
      obtain ⟨ρ,rfl⟩:=hag.form
      unfold F46j12 at F
      refine ai rfl (ak (.inl ⟨rfl,⟨p.t,(uK rfl),I.pk [0,1,2,3,4,5,6,7] rfl,F⟩⟩))
     intro ρ w hJ
     obtain ⟨aL,hag,I,F⟩:=hJ
     obtain ⟨ρ,rfl⟩:=hag.form
     unfold F46j11 at F
     refine uL rfl (pu (iv b1) rfl (ifN F (fun d3 F=>?_) (fun d3 F=>?_)))
     ·
      refine ph (fh rfl rfl (uP d3) (fun _=>aa (ai rfl (ak (.inl ⟨rfl,⟨aG,aP,b0,a9+2,a0,(uK rfl),I.pk [0,1,2,3,4,5,6] rfl,(c8.to rfl rfl),F⟩⟩)))))
     refine ph (fh rfl rfl (fun _=>?_) (uO d3))
     refine aa (ah rfl (rgn rfl (pu (uN aG a0 aP) rfl (xm I 7 me mc rfl (ph (fu I [iv p.no,iv p.sz,uE aL] 35 (fun b=>slv (some b) 1 1) (by kernel_rfl) fun fZ w I=>gdE F (fun g0 F=>ph (xk I xd 7 c8 (⟨p.no,p.sz,aL⟩:Sp3) 0 rfl (by omega) ?_))))))))
     intro d4 d5 dU w I d6
     refine pu (slv d4 ((a0++[(⟨p.no,p.sz,aL⟩:Sp3)]).length) d5) rfl (aa (.inl ⟨rfl,⟨d4,d5,dU,a9+2,a0++[(⟨p.no,p.sz,aL⟩:Sp3)],(uK rfl),I.pk [1,2,3,4,5,6,7] rfl,(d6.to rfl rfl),F⟩⟩))
    intro ρ w hJ
    obtain ⟨bL,cA,cB,cC,bA,hag,I,eY,F⟩:=hJ
    obtain ⟨ρ,rfl⟩:=hag.form
    unfold F46j10 at F
    refine rgn rfl (ckE F (fun eZ F=>xa rfl eZ (pu (iv (aC+1)) rfl (aa (⟨rfl,m9,Nat.lt_succ_self _,⟨bL,cA,cB,cC,bA,aC+1,m9,(uK rfl),I.pk [0,1,2,3,4,5,6] rfl,(eY.to rfl rfl),F,rfl⟩⟩)))))
   refine ifN F (fun dV F=>?_) (fun dV F=>?_)
   ·
    cases F
   refine xv 2 pf mw rfl dV (by decide) 2 rfl (xg I 0 (uM X g Y) mq rfl (pu2 (iv ((g.length:Nat):Int)) (iv 0) (by kernel_rfl) (aa (au ?_))))
   have I:=I.nilRow 35
   refine cb (fun m ρ w=>∃ (aH aQ b2 aA:_) (a1:List Sp3) (aD mm:_),cd ρ [(1,uM Q d R),(2,pt G),(4,pt S),(5,iv i),(6,iv aA),(7,pt P),(8,iv A),(9,iv B),(10,uN aH a1 aQ),(36,uM X g Y),(37,iv (g.length:Int)),(38,iv aD)]∧Inv [] w0 w [(some G,blk [uM T e U,uM V f W,uM X g Y,iv s,iv x,iv y] 63),(some S,blk [uD,uD,uD,iv 0,iv 0,iv 0] 63),(some P,blk [uN L C a2,uN M D a3,uN O E a4,iv H,iv J,iv K] 63),(L,blk a5 35),(M,blk a6 35),(O,blk a7 35),(aH,blk b2 35)]∧(Row 3 aH (a1.length) aQ b2 (al bb a1))∧F46l13 g d (ox e f g s x y d N i m1) i C D E H J K A B mm aA a1 aD=some r∧mm=m) (m:=N) ⟨none,0,[],aN,[],0,N,(uK rfl),I.pk [1,2,3,4,5,6,0] rfl,(Row.nil_ 3),F,rfl⟩ ?_
   rintro m ρ w ⟨aH,aQ,b2,aA,a1,aD,mm,hag,I,cD,F,hm⟩
   subst hm; obtain ⟨ρ,rfl⟩:=hag.form
   obtain _ | bC:=mm
   ·cases (show (none:Option (List Sp3 × List Sp3 × List Sp3 × Int × Int × Int))=some r from F)
   replace F:F46b13 g d (ox e f g s x y d N i m1) i C D E H J K A B (F46l13 g d (ox e f g s x y d N i m1) i C D E H J K A B bC) aA a1 aD=some r:=F; unfold F46b13 at F
   refine uL rfl (ifN F (fun d7 F=>?_) (fun d7 F=>?_))
   ·
    refine xl rfl (uP d7) (fun _=>aa (ab (ai rfl (bw (.inl ⟨rfl,⟨aH,aQ,b2,aA,a1,(uK rfl),I.pk [0,1,2,3,4,5,6] rfl,(cD.to rfl rfl),F⟩⟩)))))
   refine xl rfl (fun _=>?_) (uO d7)
   refine aa (ab (ah rfl (ak (dn (fun ρ w=>∃ (bN cE cF cG:_) (bD:List Sp3),cd ρ [(1,uM Q d R),(2,pt G),(4,pt S),(5,iv i),(6,iv cG),(7,pt P),(8,iv A),(9,iv B),(10,uN bN bD cE),(36,uM X g Y),(37,iv (g.length:Int)),(38,iv aD)]∧Inv [] w0 w [(some G,blk [uM T e U,uM V f W,uM X g Y,iv s,iv x,iv y] 63),(some S,blk [uD,uD,uD,iv 0,iv 0,iv 0] 63),(some P,blk [uN L C a2,uN M D a3,uN O E a4,iv H,iv J,iv K] 63),(L,blk a5 35),(M,blk a6 35),(O,blk a7 35),(bN,blk cF 35)]∧(Row 3 bN (bD.length) cE cF (al bb bD))∧F46j14 (F46l13 g d (ox e f g s x y d N i m1) i C D E H J K A B bC) aD cG bD=some r) ?_ ?_))))
   ·
    refine au (uL rfl (pu (iv aD) rfl (gdE F (fun f0 F=>bt F (fun q dW F=>?_)))))
    obtain ⟨g1,g2,f1,f2,f3⟩:=e1.at_ bk (by decide) dW
    refine ph (cn (aD).toNat mj mc rfl f1 rfl (Int.toNat_of_nonneg f0).symm (fa dW rfl) (ph (ef I (qh q) me mc rfl rfl f2 (by simp) f3 (ph (bh I _ zeroValue35 rfl fun aT w I=>pu (iv aD) rfl (xi I 0 _ mc rfl fun w I=>aa (ab (uL rfl (pu2 (iv aD) (iv B) rfl (ifE F (fun d8 F=>?_) (fun d8 F=>?_)))))))))))
    ·
     refine xl rfl (fun _=>?_) (uO d8)
     refine aa (ah rfl (uL rfl (pu (uN aH a1 aQ) rfl (xm I 0 me mc rfl (ph (fu I (qh q) 35 (fun b=>slv (some b) 1 1) (by kernel_rfl) fun g3 w I=>gdE F (fun g4 F=>ph (xk I xd 8 cD (⟨q.no,q.sz,q.t⟩:Sp3) 0 rfl (by omega) ?_))))))))
     intro d9 dA dX w I dB
     refine pu (slv d9 ((a1++[(⟨q.no,q.sz,q.t⟩:Sp3)]).length) dA) rfl (aa (bw (.inl ⟨rfl,⟨d9,dA,dX,aA,a1++[(⟨q.no,q.sz,q.t⟩:Sp3)],(uK rfl),I.pk [2,3,4,5,6,7,8] rfl,(dB.to rfl rfl),F⟩⟩)))
    refine xl rfl (uP d8) (fun _=>aa (ai rfl (ak (uL (by kernel_rfl) (pu2 (uM Q d R) (iv aA) (by kernel_rfl) (bt F (fun f4 f5 F=>ph (bg I 124 _ _ (by kernel_rfl) (L124 _ Q R d aA (aU.inv0 I) aV aW _ f5) fun w I=>bt F (fun b3 f6 F=>ph (bg I 63 _ _ (by kernel_rfl) (L63 _ f4 3 _ f6) fun w I=>pu (iv b3) (by kernel_rfl) (aa (uL (by kernel_rfl) (pu2 (uM Q d R) (iv aA) (by kernel_rfl) (ckE F (fun f7 F=>xa rfl f7 (bt F (fun bO f8 F=>ph (bg I 124 _ _ (by kernel_rfl) (L124 _ Q R d (aA+1) (aU.inv0 I) aV aW _ f8) fun w I=>pu (iv bO) (by kernel_rfl) (aa (uL (by kernel_rfl) (pu (iv aA) (by kernel_rfl) (ckE F (fun f9 F=>xa rfl f9 (pu (iv (aA+2)) (by kernel_rfl) (aa (dn (fun ρ w=>∃ (aM:Str),cd ρ [(1,uM Q d R),(2,pt G),(4,pt S),(5,iv i),(6,iv (aA+2)),(7,pt P),(8,iv A),(9,iv B),(10,uN aH a1 aQ),(12,pt aT),(13,iv b3),(36,uM X g Y),(37,iv (g.length:Int)),(38,iv aD)]∧Inv [] w0 w [(some G,blk [uM T e U,uM V f W,uM X g Y,iv s,iv x,iv y] 63),(some S,blk [uD,uD,uD,iv 0,iv 0,iv 0] 63),(some P,blk [uN L C a2,uN M D a3,uN O E a4,iv H,iv J,iv K] 63),(L,blk a5 35),(M,blk a6 35),(O,blk a7 35),(aH,blk b2 35),(some aT,blk [iv q.no,iv q.sz,uE aM] 35)]∧F46j15 (F46l13 g d (ox e f g s x y d N i m1) i C D E H J K A B bC) aA a1 aD q b3 aM=some r) ?_ ?_))))))))))))))))))))))))))
    ·
     refine dn (fun ρ w=>cd ρ [(1,uM Q d R),(2,pt G),(4,pt S),(5,iv i),(6,iv (aA+2)),(7,pt P),(8,iv A),(9,iv B),(10,uN aH a1 aQ),(12,pt aT),(13,iv b3),(14,iv bO),(36,uM X g Y),(37,iv (g.length:Int)),(38,iv aD),(67,bF)]∧Inv [] w0 w [(some G,blk [uM T e U,uM V f W,uM X g Y,iv s,iv x,iv y] 63),(some S,blk [uD,uD,uD,iv 0,iv 0,iv 0] 63),(some P,blk [uN L C a2,uN M D a3,uN O E a4,iv H,iv J,iv K] 63),(L,blk a5 35),(M,blk a6 35),(O,blk a7 35),(aH,blk b2 35),(some aT,blk (qh q) 35)]∧F46j16 (F46l13 g d (ox e f g s x y d N i m1) i C D E H J K A B bC) aA a1 aD q b3=some r) ?_ ?_
     ·
      refine rgn rfl (pu (iv b3) rfl (ifN F (fun dC F=>?_) (fun dC F=>?_)))
      ·
       refine xe rfl (uP dC) (fun _=>pu bF rfl (sf 4 rfl (pu bF rfl (aa (.inl ⟨rfl,⟨(uK rfl),I.pk [1,2,3,4,5,6,7,0] rfl,F⟩⟩)))))
      refine xe rfl (fun _=>?_) (uO dC)
      refine pu bT rfl (pup (uF aT 2) rfl (aw rfl (ag I 0 (uE q.t) zi9 rfl rfl rfl (pup (iv (q.t.length:Int)) (by kernel_rfl) (ifN F (fun dD F=>?_) (fun dD F=>?_))))))
      ·
       refine aw rfl (fh rfl rfl (uP dD) (fun _=>pu bF rfl (aa (.inl ⟨rfl,⟨(uK rfl),I.pk [1,2,3,4,5,6,7,0] rfl,F⟩⟩))))
      refine aw rfl (fh rfl rfl (fun _=>?_) (uO dD))
      refine pu bT rfl (aa (.inr (ah rfl (gm 9 I (by kernel_rfl) (zP (uF aT 2) rfl (zg 0 (uE q.t) zi9 rfl (zB (iv bO) (uF aT 2) rfl (zg 0 (uE q.t) zi9 rfl (zP (iv (q.t.length:Int)) (by kernel_rfl) (bt F (fun bE fA F=>zc (iv bE) (fun w I=>co 63 [iv bO,iv (q.t.length:Int)] (by kernel_rfl) (L63 _ bO (q.t.length:Int) _ fA) uI) (gdE F (fun fB F=>gdE F (fun fC F=>zc (uE (q.t.take (bE).toNat)) (fun w I=>nq (l:=q.t) (m:=q.t.take (bE).toNat) (a:=0) (b:=(bE).toNat) zu9 rfl (.inr ⟨rfl,rfl⟩) (.inl (congrArg (fun z=>some (Value.int .i64 z)) (Int.toNat_of_nonneg fB).symm)) fC rfl br) (zP (uF aT 2) rfl (zh (fun w I=>xq I 0 1 [uE (q.t.take (bE).toNat)] zs9 rfl (mx rfl) fun w I=>aa (.inl ⟨rfl,⟨q.t.take (bE).toNat,(uK rfl),I.pk [1,2,3,4,5,6,7,0] rfl,F⟩⟩))))))))))))))))))
     intro ρ w hJ
     obtain ⟨hag,I,F⟩:=hJ
     obtain ⟨ρ,rfl⟩:=hag.form
     unfold F46j16 at F
     refine ai rfl (ak (.inl ⟨rfl,⟨q.t,(uK rfl),I.pk [0,1,2,3,4,5,6,7] rfl,F⟩⟩))
    intro ρ w hJ
    obtain ⟨aM,hag,I,F⟩:=hJ
    obtain ⟨ρ,rfl⟩:=hag.form
    unfold F46j15 at F
    refine uL rfl (pu (iv b3) rfl (ifN F (fun dE F=>?_) (fun dE F=>?_)))
    ·
     refine ph (fh rfl rfl (uP dE) (fun _=>aa (ai rfl (ak (.inl ⟨rfl,⟨aH,aQ,b2,aA+2,a1,(uK rfl),I.pk [0,1,2,3,4,5,6] rfl,(cD.to rfl rfl),F⟩⟩)))))
    refine ph (fh rfl rfl (fun _=>?_) (uO dE))
    refine aa (ah rfl (rgn rfl (pu (uN aH a1 aQ) rfl (xm I 7 me mc rfl (ph (fu I [iv q.no,iv q.sz,uE aM] 35 (fun b=>slv (some b) 1 1) (by kernel_rfl) fun g5 w I=>gdE F (fun g6 F=>ph (xk I xd 7 cD (⟨q.no,q.sz,aM⟩:Sp3) 0 rfl (by omega) ?_))))))))
    intro dF dG dY w I dH
    refine pu (slv dF ((a1++[(⟨q.no,q.sz,aM⟩:Sp3)]).length) dG) rfl (aa (.inl ⟨rfl,⟨dF,dG,dY,aA+2,a1++[(⟨q.no,q.sz,aM⟩:Sp3)],(uK rfl),I.pk [1,2,3,4,5,6,7] rfl,(dH.to rfl rfl),F⟩⟩))
   intro ρ w hJ
   obtain ⟨bN,cE,cF,cG,bD,hag,I,fD,F⟩:=hJ
   obtain ⟨ρ,rfl⟩:=hag.form
   unfold F46j14 at F
   refine rgn rfl (ckE F (fun fE F=>xa rfl fE (pu (iv (aD+1)) rfl (aa (⟨rfl,bC,Nat.lt_succ_self _,⟨bN,cE,cF,cG,bD,aD+1,bC,(uK rfl),I.pk [0,1,2,3,4,5,6] rfl,(fD.to rfl rfl),F,rfl⟩⟩)))))
  intro ρ w hJ
  obtain ⟨aI,aJ,b7,aX,aE,hag,I,dI,F⟩:=hJ
  obtain ⟨ρ,rfl⟩:=hag.form
  unfold F46j4 at F
  refine uL rfl (pu2 (iv A) (iv i) rfl (ifE F (fun dJ F=>?_) (fun dJ F=>?_)))
  ·
   refine xn rfl (uO dJ) (fun _=>aa (ai rfl (ak (.inl ⟨rfl,⟨L,a2,a5,M,a3,a6,O,a4,a7,aX,C,D,E,H,J,K,(uK rfl),I.pk [0,1,2,3,4,5] rfl,(bP.to rfl rfl),(bQ.to rfl rfl),(bR.to rfl rfl),F⟩⟩))))
  refine xn rfl (fun _=>?_) (uP dJ)
  refine aa (ah rfl (uL rfl (pu3 (iv A) (uN aI aE aJ) (pt P) (by kernel_rfl) (ifE F (fun dK F=>?_) (fun dK F=>?_)))))
  ·
   refine xv 0 pf mw rfl dK (by decide) 0 rfl (xq I 2 1 [uN aI aE aJ] mw rfl (mx rfl) fun w I=>aa (rgn rfl (pu3 (iv A) (iv B) (uF P 3) (by kernel_rfl) (xv 0 zu61 zs3 rfl dK (by decide) 3 rfl (xq I 2 1 [iv B] zs3 rfl (mx rfl) fun w I=>aa (.inl ⟨rfl,⟨aI,aJ,b7,M,a3,a6,O,a4,a7,aX,aE,D,E,B,J,K,(uK rfl),I.pk [0,1,2,6,4,5] rfl,(dI.to rfl rfl),(bQ.to rfl rfl),(bR.to rfl rfl),F⟩⟩))))))
  refine ifE F (fun dL F=>?_) (fun dL F=>?_)
  ·
   refine xv 1 pf mw rfl dL (by decide) 1 rfl (xq I 2 1 [uN aI aE aJ] mw rfl (mx rfl) fun w I=>aa (rgn rfl (pu3 (iv A) (iv B) (uF P 3) (by kernel_rfl) (xv 1 zu61 zs3 rfl dL (by decide) 4 rfl (xq I 2 1 [iv B] zs3 rfl (mx rfl) fun w I=>aa (.inl ⟨rfl,⟨L,a2,a5,aI,aJ,b7,O,a4,a7,aX,C,aE,E,H,B,K,(uK rfl),I.pk [0,1,2,3,6,5] rfl,(bP.to rfl rfl),(dI.to rfl rfl),(bR.to rfl rfl),F⟩⟩))))))
  refine ifN F (fun dM F=>?_) (fun dM F=>?_)
  ·
   cases F
  refine xv 2 pf mw rfl dM (by decide) 2 rfl (xq I 2 1 [uN aI aE aJ] mw rfl (mx rfl) fun w I=>aa (rgn rfl (pu3 (iv A) (iv B) (uF P 3) (by kernel_rfl) (xv 2 zu61 zs3 rfl dM (by decide) 5 rfl (xq I 2 1 [iv B] zs3 rfl (mx rfl) fun w I=>aa (.inl ⟨rfl,⟨L,a2,a5,M,a3,a6,aI,aJ,b7,aX,C,D,aE,H,J,B,(uK rfl),I.pk [0,1,2,3,4,6] rfl,(bP.to rfl rfl),(bQ.to rfl rfl),(dI.to rfl rfl),F⟩⟩))))))
 intro ρ w hJ
 obtain ⟨bG,bS,bU,bH,bV,bW,bI,bX,bY,bZ,b4,b5,b6,c0,c1,c2,hag,I,fF,fG,fH,F⟩:=hJ
 obtain ⟨ρ,rfl⟩:=hag.form
 unfold F46j2 at F
 refine rgn rfl (pu (iv A) rfl (ckE F (fun fI F=>xa rfl fI (pu (iv (A+1)) rfl (aa (⟨rfl,m1,Nat.lt_succ_self _,⟨bG,bS,bU,bH,bV,bW,bI,bX,bY,bZ,b4,b5,b6,c0,c1,c2,A+1,m1,(uK rfl),I.pk [0,1,2,3,4,5] rfl,(fF.to rfl rfl),(fG.to rfl rfl),(fH.to rfl rfl),F,rfl⟩⟩))))))
end Go.K
