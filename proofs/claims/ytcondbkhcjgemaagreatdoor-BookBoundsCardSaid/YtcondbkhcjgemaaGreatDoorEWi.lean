import Derived.Test.YtcondbkhcjgemaaGreatDoorEWh
namespace Go.K
open Go.Proofs.Tryz
open Go.Proofs Go.RowKit
set_option linter.unusedVariables false
set_option linter.unusedSimpArgs false
set_option maxRecDepth 100000
attribute [local irreducible] Seq cw cx fl opX
theorem L48 (w0:World) (s:Option Addr) (t:Nat) (e:List Sp3) (u:Option Addr) (x:Nat) (f:List Sp3) (y:Option Addr) (z:Nat) (g:List Sp3) (j:Int) (k:Int) (l:Int) (p:Option Addr) (q:Nat) (a:List Rc) (a1:bi w0 s (al bb e)) (a2:e.length≤9223372036854775807) (a3:e.length≤t) (a4:bi w0 u (al bb f)) (a5:f.length≤9223372036854775807) (a6:f.length≤x) (a7:bi w0 y (al bb g)) (a8:g.length≤9223372036854775807) (a9:g.length≤z) (Q:bi w0 p (al eRc a)) (R:a.length≤9223372036854775807) (S:a.length≤q) (N:Nat) (r:Int) (F:F48 N e f g j k l a=some r):bn Tryz.prog 48 [.agg #[uM s e t,uM u f x,uM y g z,iv j,iv k,iv l],uM p a q] w0 fun v w=>v=iv r∧Below w0.heap.size w0 w:=by
 refine az (n:=36) func48 rfl ntmps48 rfl ?_
 have I:=Inv.start w0
 unfold F48 at F
 refine uL rfl (ph (ca I _ rfl fun o w I=>pu (iv 0) rfl (aa (ab (uL rfl (pu (uM p a q) rfl (bt F (fun aM aA F=>ifN F (fun T F=>?_) (fun T F=>?_)))))))))
 ·
  refine ph (bg I 98 _ _ (by kernel_rfl) (bn.mono (L98 _ p q a (Q.inv0 I) R S N _ aA) (uH (Bool.eq_false_iff.2 T))) fun w I=>pu bT (by kernel_rfl) (aa (ah rfl (uL (by kernel_rfl) (pu (iv 85) (by kernel_rfl) (aa (aj ?_)))))))
  cases F
  exact uJ I rfl

 refine ph (bg I 98 _ _ (by kernel_rfl) (bn.mono (L98 _ p q a (Q.inv0 I) R S N _ aA) (uH T)) fun w I=>pu bF (by kernel_rfl) (aa (ai rfl (ak (uL (by kernel_rfl) (pu (uM p a q) (by kernel_rfl) (bt F (fun d aK F=>ph (co 117 _ (by kernel_rfl) (L117 _ p q a (Q.inv0 I) R S N _ aK) ?_)))))))))
 rintro v w ⟨A,E,aB,B,G,aC,C,H,aD,rfl,hN,J,K,L⟩
 have I:=I.join hN; clear hN
 refine ph (bh I _ zeroValue63 rfl fun D w I=>xi I 0 _ mi rfl fun w I=>aa (ab (uL rfl (pu (iv 0) rfl (aa (au (cb (fun m ρ w=>∃ i mm,cd ρ [(1,uM p a q),(2,pt o),(5,pt D),(6,iv i)]∧Inv [] w0 w [(some o,blk [uM s e t,uM u f x,uM y g z,iv j,iv k,iv l] 63),(some D,blk [uN A d.1 E,uN B d.2.1 G,uN C d.2.2.1 H,iv d.2.2.2.1,iv d.2.2.2.2.1,iv d.2.2.2.2.2] 63),(A,blk aB 35),(B,blk aC 35),(C,blk aD 35)]∧F48l1 e f g j k l a N d mm i=some r∧mm=m) (m:=N) ⟨0,N,(uK rfl),I.pk [4,0,1,2,3] rfl,F,rfl⟩ ?_)))))))
 rintro m ρ w ⟨i,mm,hag,I,F,hm⟩
 subst hm; obtain ⟨ρ,rfl⟩:=hag.form
 obtain _ | m1:=mm
 ·cases (show (none:Option Int)=some r from F)
 replace F:F48b1 e f g j k l a N d (F48l1 e f g j k l a N d m1) i=some r:=F; unfold F48b1 at F
 refine ab (uL rfl (pu (iv i) rfl (ifN F (fun U F=>?_) (fun U F=>?_))))
 ·
  refine xl rfl (uP U) (fun _=>aa (ai rfl (bw (uL rfl (pu (iv 0) rfl (aa (aj ?_)))))))
  cases F
  exact uJ I rfl
 refine xl rfl (fun _=>?_) (uO U)
 refine aa (ah rfl (ak (ab (au (dn (fun ρ w=>cd ρ [(1,uM p a q),(2,pt o),(5,pt D),(6,iv i),(35,bF)]∧Inv [] w0 w [(some o,blk [uM s e t,uM u f x,uM y g z,iv j,iv k,iv l] 63),(some D,blk [uN A d.1 E,uN B d.2.1 G,uN C d.2.2.1 H,iv d.2.2.2.1,iv d.2.2.2.2.1,iv d.2.2.2.2.2] 63),(A,blk aB 35),(B,blk aC 35),(C,blk aD 35)]∧F48j2 (F48l1 e f g j k l a N d m1) i=some r) ?_ ?_)))))
 ·
  refine gm 20 I (by kernel_rfl) (zB (iv i) (pt o) rfl (ifE F (fun M F=>?_) (fun M F=>?_)))
  ·
   refine zc (pt o) (fun w I=>av 0 pf mw rfl rfl M (by decide) 0 rfl br) (zg 0 (uM s e t) mq rfl (zB (iv i) (pt D) rfl (zc (pt D) (fun w I=>av 0 pf mw rfl rfl M (by decide) 0 rfl br) (zg 1 (uN A d.1 E) mq rfl (bt F (fun aN aE F=>ifN F (fun V F=>?_) (fun V F=>?_)))))))
   ·
    refine zc bF (fun w I=>co 24 [uM s e t,uN A d.1 E] (by kernel_rfl) (bn.mono (L24 _ s t e (uG A) E d.1 (a1.inv0 I) a2 a3 (I.rowCells 2 rfl J) (am rfl J.big) (am rfl J.cap) N _ aE) (uH (Bool.eq_false_iff.2 V))) uI) (zB bT bT rfl (zf 8 rfl (zP bT rfl (zh (fun w I=>aa (.inr (ah rfl (uL rfl (pu (iv 85) rfl (aa (aj ?_)))))))))))
    cases F
    exact uJ I rfl
   refine zc bT (fun w I=>co 24 [uM s e t,uN A d.1 E] (by kernel_rfl) (bn.mono (L24 _ s t e (uG A) E d.1 (a1.inv0 I) a2 a3 (I.rowCells 2 rfl J) (am rfl J.big) (am rfl J.cap) N _ aE) (uH V)) uI) (zB bF bF rfl (zQ (iv i) rfl rfl (zQ (uF o 3) rfl rfl (zo (uF o 3) rfl (fun w I=>av 0 zu61 zs3 rfl rfl M (by decide) 3 rfl br) (zG 0 (iv j) zi3 rfl rfl (zQ (uM p a q) rfl rfl (zo (iv (a.length:Int)) (by kernel_rfl) (fun w I=>kl (iv ((a.length:Nat):Int)) (by kernel_rfl) br) (bt F (fun aO aF F=>ifE F (fun W F=>?_) (fun W F=>?_))))))))))
   ·
    refine zo bT rfl (fun w I=>co 82 [iv j,iv 0,iv (a.length:Int)] (by kernel_rfl) (bn.mono (L82 _ j 0 (a.length:Int) _ aF) (uH W)) uI) (zQ bF rfl rfl (zP bF rfl (zh (fun w I=>aa (.inl ⟨rfl,⟨(uK rfl),I.pk [0,1,2,3,4] rfl,F⟩⟩)))))
   refine zo bF rfl (fun w I=>co 82 [iv j,iv 0,iv (a.length:Int)] (by kernel_rfl) (bn.mono (L82 _ j 0 (a.length:Int) _ aF) (uH (Bool.eq_false_iff.2 W))) uI) (zQ bT rfl rfl (zP bT rfl (zh (fun w I=>aa (.inr (ah rfl (uL rfl (pu (iv 85) rfl (aa (aj ?_))))))))))
   cases F
   exact uJ I rfl
  refine ifE F (fun O F=>?_) (fun O F=>?_)
  ·
   refine zc (uF o 1) (fun w I=>av 1 pf mw rfl rfl O (by decide) 1 rfl br) (zg 0 (uM u f x) mq rfl (zB (iv i) (pt D) rfl (zc (uF D 1) (fun w I=>av 1 pf mw rfl rfl O (by decide) 1 rfl br) (zg 1 (uN B d.2.1 G) mq rfl (bt F (fun aP aG F=>ifN F (fun X F=>?_) (fun X F=>?_)))))))
   ·
    refine zc bF (fun w I=>co 24 [uM u f x,uN B d.2.1 G] (by kernel_rfl) (bn.mono (L24 _ u x f (uG B) G d.2.1 (a4.inv0 I) a5 a6 (I.rowCells 3 rfl K) (am rfl K.big) (am rfl K.cap) N _ aG) (uH (Bool.eq_false_iff.2 X))) uI) (zB bT bT rfl (zf 8 rfl (zP bT rfl (zh (fun w I=>aa (.inr (ah rfl (uL rfl (pu (iv 85) rfl (aa (aj ?_)))))))))))
    cases F
    exact uJ I rfl
   refine zc bT (fun w I=>co 24 [uM u f x,uN B d.2.1 G] (by kernel_rfl) (bn.mono (L24 _ u x f (uG B) G d.2.1 (a4.inv0 I) a5 a6 (I.rowCells 3 rfl K) (am rfl K.big) (am rfl K.cap) N _ aG) (uH X)) uI) (zB bF bF rfl (zQ (iv i) rfl rfl (zQ (uF o 3) rfl rfl (zo (uF o 4) rfl (fun w I=>av 1 zu61 zs3 rfl rfl O (by decide) 4 rfl br) (zG 0 (iv k) zi3 rfl rfl (zQ (uM p a q) rfl rfl (zo (iv (a.length:Int)) (by kernel_rfl) (fun w I=>kl (iv ((a.length:Nat):Int)) (by kernel_rfl) br) (bt F (fun aQ aH F=>ifE F (fun Y F=>?_) (fun Y F=>?_))))))))))
   ·
    refine zo bT rfl (fun w I=>co 82 [iv k,iv 0,iv (a.length:Int)] (by kernel_rfl) (bn.mono (L82 _ k 0 (a.length:Int) _ aH) (uH Y)) uI) (zQ bF rfl rfl (zP bF rfl (zh (fun w I=>aa (.inl ⟨rfl,⟨(uK rfl),I.pk [0,1,2,3,4] rfl,F⟩⟩)))))
   refine zo bF rfl (fun w I=>co 82 [iv k,iv 0,iv (a.length:Int)] (by kernel_rfl) (bn.mono (L82 _ k 0 (a.length:Int) _ aH) (uH (Bool.eq_false_iff.2 Y))) uI) (zQ bT rfl rfl (zP bT rfl (zh (fun w I=>aa (.inr (ah rfl (uL rfl (pu (iv 85) rfl (aa (aj ?_))))))))))
   cases F
   exact uJ I rfl
  refine ifN F (fun P F=>?_) (fun P F=>?_)
  ·
   cases F
  refine zc (uF o 2) (fun w I=>av 2 pf mw rfl rfl P (by decide) 2 rfl br) (zg 0 (uM y g z) mq rfl (zB (iv i) (pt D) rfl (zc (uF D 2) (fun w I=>av 2 pf mw rfl rfl P (by decide) 2 rfl br) (zg 1 (uN C d.2.2.1 H) mq rfl (bt F (fun aR aI F=>ifN F (fun Z F=>?_) (fun Z F=>?_)))))))
  ·
   refine zc bF (fun w I=>co 24 [uM y g z,uN C d.2.2.1 H] (by kernel_rfl) (bn.mono (L24 _ y z g (uG C) H d.2.2.1 (a7.inv0 I) a8 a9 (I.rowCells 4 rfl L) (am rfl L.big) (am rfl L.cap) N _ aI) (uH (Bool.eq_false_iff.2 Z))) uI) (zB bT bT rfl (zf 8 rfl (zP bT rfl (zh (fun w I=>aa (.inr (ah rfl (uL rfl (pu (iv 85) rfl (aa (aj ?_)))))))))))
   cases F
   exact uJ I rfl
  refine zc bT (fun w I=>co 24 [uM y g z,uN C d.2.2.1 H] (by kernel_rfl) (bn.mono (L24 _ y z g (uG C) H d.2.2.1 (a7.inv0 I) a8 a9 (I.rowCells 4 rfl L) (am rfl L.big) (am rfl L.cap) N _ aI) (uH Z)) uI) (zB bF bF rfl (zQ (iv i) rfl rfl (zQ (uF o 3) rfl rfl (zo (uF o 5) rfl (fun w I=>av 2 zu61 zs3 rfl rfl P (by decide) 5 rfl br) (zG 0 (iv l) zi3 rfl rfl (zQ (uM p a q) rfl rfl (zo (iv (a.length:Int)) (by kernel_rfl) (fun w I=>kl (iv ((a.length:Nat):Int)) (by kernel_rfl) br) (bt F (fun aS aJ F=>ifE F (fun a0 F=>?_) (fun a0 F=>?_))))))))))
  ·
   refine zo bT rfl (fun w I=>co 82 [iv l,iv 0,iv (a.length:Int)] (by kernel_rfl) (bn.mono (L82 _ l 0 (a.length:Int) _ aJ) (uH a0)) uI) (zQ bF rfl rfl (zP bF rfl (zh (fun w I=>aa (.inl ⟨rfl,⟨(uK rfl),I.pk [0,1,2,3,4] rfl,F⟩⟩)))))
  refine zo bF rfl (fun w I=>co 82 [iv l,iv 0,iv (a.length:Int)] (by kernel_rfl) (bn.mono (L82 _ l 0 (a.length:Int) _ aJ) (uH (Bool.eq_false_iff.2 a0))) uI) (zQ bT rfl rfl (zP bT rfl (zh (fun w I=>aa (.inr (ah rfl (uL rfl (pu (iv 85) rfl (aa (aj ?_))))))))))
  cases F
  exact uJ I rfl
 intro ρ w hJ
 obtain ⟨hag,I,F⟩:=hJ
 obtain ⟨ρ,rfl⟩:=hag.form
 unfold F48j2 at F
 refine ai rfl (ak (rgn rfl (pu (iv i) rfl (ckE F (fun aL F=>xa rfl aL (pu (iv (i+1)) rfl (aa (⟨rfl,m1,Nat.lt_succ_self _,⟨i+1,m1,(uK rfl),I.pk [0,1,2,3,4] rfl,F,rfl⟩⟩))))))))
set_option maxHeartbeats 8000000 in
theorem L39 (w0:World) (Z:Option Addr) (a0:Nat) (m:List Sp3) (M:Option Addr) (O:Nat) (o:List Sp3) (C:Option Addr) (D:Nat) (q:List Sp3) (x:Int) (A:Int) (B:Int) (E:Option Addr) (G:Nat) (l:List Rc) (a:Rc) (bC:bi w0 Z (al bb m)) (bS:m.length≤9223372036854775807) (bU:m.length≤a0) (bD:bi w0 M (al bb o)) (bV:o.length≤9223372036854775807) (bW:o.length≤O) (bE:bi w0 C (al bb q)) (bX:q.length≤9223372036854775807) (bY:q.length≤D) (aU:bi w0 E (al eRc l)) (bG:l.length≤9223372036854775807) (bH:l.length≤G) (N:Nat) (r:((Int × Int × Int × Int) ⊕ ((Int × Int × Int × Int) ⊕ (List Sp3 × List Sp3 × List Sp3 × Int × Int × Int × List Rc × Int)))) (F:F39 N m o q x A B l a=some r):bn Tryz.prog 39 [.agg #[uM Z m a0,uM M o O,uM C q D,iv x,iv A,iv B],uM E l G,.agg (qg a).toArray] w0 fun v w=>(match r with | .inl ra0=>v=.tuple #[.agg #[uD,uD,uD,iv ra0.1,iv ra0.2.1,iv ra0.2.2.1,uD],iv ra0.2.2.2]∧Below w0.heap.size w0 w | .inr rb0=>(match rb0 with | .inl ra1=>v=.tuple #[.agg #[uM Z m a0,uM M o O,uM C q D,iv ra1.1,iv ra1.2.1,iv ra1.2.2.1,uM E l G],iv ra1.2.2.2]∧Below w0.heap.size w0 w | .inr rb1=>∃ z0 z1 z2 z3 z4 z5 z6 z7 z8 z9 bI bJ,v=.tuple #[.agg #[uN z0 rb1.1 z1,uN z3 rb1.2.1 z4,uN z6 rb1.2.2.1 z7,iv rb1.2.2.2.1,iv rb1.2.2.2.2.1,iv rb1.2.2.2.2.2.1,uN z9 rb1.2.2.2.2.2.2.1 bI],iv rb1.2.2.2.2.2.2.2]∧Inv [] w0 w [(z0,blk z2 35),(z3,blk z5 35),(z6,blk z8 35),(z9,blk bJ 25)]∧Row 3 z0 rb1.1.length z1 z2 (al bb rb1.1)∧Row 3 z3 rb1.2.1.length z4 z5 (al bb rb1.2.1)∧Row 3 z6 rb1.2.2.1.length z7 z8 (al bb rb1.2.2.1)∧Row 8 z9 rb1.2.2.2.2.2.2.1.length bI bJ (al eRc rb1.2.2.2.2.2.2.1))):=by
 refine az (n:=65) func39 rfl ntmps39 rfl ?_
 have I:=Inv.start w0
 unfold F39 at F
 refine uL (by kernel_rfl) (ph (ca I _ rfl fun s w I=>ph (ca I _ rfl fun a1 w I=>ph (bh I _ zeroValue68 rfl fun W w I=>pu (iv 0) (by kernel_rfl) (aa (ab (uL (by kernel_rfl) (xm I 2 mt mi rfl (pu (uM E l G) (by kernel_rfl) (bt F (fun aN bZ F=>ph (bg I 48 _ _ (by kernel_rfl) (L48 _ Z a0 m M O o C D q x A B E G l (bC.inv0 I) bS bU (bD.inv0 I) bV bW (bE.inv0 I) bX bY (aU.inv0 I) bG bH N _ bZ) fun w I=>pu (iv aN) (by kernel_rfl) (aa (uL (by kernel_rfl) (pu (iv aN) (by kernel_rfl) (ifN F (fun aV F=>?_) (fun aV F=>?_)))))))))))))))))
 ·
  refine xn rfl (fun _=>?_) (uP aV)
  refine aa (ah rfl (uL (by rfl) (pu2 (.agg #[uD,uD,uD,iv 0,iv 0,iv 0,uD]) (iv aN) (by kernel_rfl) (xi I 0 _ zs68 rfl fun w I=>pu (iv aN) (by rfl) (aa (aj ?_))))))
  cases F
  exact ⟨_,Ret.ct rfl rfl (ce I 0 7 [uD,uD,uD,iv 0,iv 0,iv 0,uD] zi68 zs68 rfl rfl rfl) rfl,⟨rfl,I.below⟩⟩


 refine xn rfl (uO aV) (fun _=>aa (ai rfl (ak (uL (by kernel_rfl) (pu (uM E l G) (by kernel_rfl) (xm I 1 mh md rfl (bt F (fun a2 c0 F=>ph (bg I 103 _ _ (by kernel_rfl) (L103 _ E G l a (aU.inv0 I) bG bH N _ c0) fun w I=>pu3 (.tuple #[.bool a2.1,iv a2.2]) (.bool a2.1) (iv a2.2) (by kernel_rfl) (pu2 (.bool a2.1) (iv a2.2) (by kernel_rfl) (aa (ab (uL (by kernel_rfl) (pu (iv a2.2) (by kernel_rfl) (ifN F (fun aW F=>?_) (fun aW F=>?_))))))))))))))))
 ·
  refine xn rfl (fun _=>?_) (uP aW)
  refine aa (ah rfl (uL (by rfl) (pu2 (.agg #[uD,uD,uD,iv 0,iv 0,iv 0,uD]) (iv a2.2) (by kernel_rfl) (xi I 0 _ zs68 rfl fun w I=>pu (iv a2.2) (by rfl) (aa (aj ?_))))))
  cases F
  exact ⟨_,Ret.ct rfl rfl (ce I 0 7 [uD,uD,uD,iv 0,iv 0,iv 0,uD] zi68 zs68 rfl rfl rfl) rfl,⟨rfl,I.below⟩⟩
 refine xn rfl (uO aW) (fun _=>aa (ai rfl (ak (ab (ab (ifE F (fun aX F=>?_) (fun aX F=>?_)))))))
 ·
  rw [aX]
  refine rgn (by rfl) (pu bT (by rfl) (aa (ah rfl (uL (by rfl) (xm I 2 mt mi rfl (pu2 (uM E l G) (.agg #[uM Z m a0,uM M o O,uM C q D,iv x,iv A,iv B,uM E l G]) (by kernel_rfl) (xi I 0 _ zs68 rfl fun w I=>pu (iv 0) (by rfl) (aa (aj ?_)))))))))
  cases F
  exact ⟨_,Ret.ct rfl rfl (ce I 0 7 [uM Z m a0,uM M o O,uM C q D,iv x,iv A,iv B,uM E l G] zi68 zs68 rfl rfl rfl) rfl,⟨rfl,I.below⟩⟩
 rw [(Bool.eq_false_iff.2 aX)]
 refine rgn (by kernel_rfl) (pu bF (by kernel_rfl) (aa (ai rfl (ak (uL (by kernel_rfl) (xm I 1 mh md rfl (pu2 (uM E l G) (iv ((l.length:Nat):Int)) (by kernel_rfl) (bt F (fun a5 c1 F=>ph (co 89 _ (by kernel_rfl) (L89 _ a (l.length:Int) N _ c1) ?_))))))))))
 rintro v w ⟨c2,a6,a7,rfl,hN,aO⟩
 have I:=I.join hN; clear hN
 refine pu (uN c2 a5 a6) (by rfl) (aa (dn (fun ρ w=>∃ (H T a9 J U aA K V aB:_) (P:List Sp3) (Q:List Sp3) (R:List Sp3),cd ρ [(1,uM E l G),(3,pt s),(5,pt a1),(6,pt W)]∧Inv [] w0 w [(some s,blk [uN H P T,uN J Q U,uN K R V,iv x,iv A,iv B] 63),(H,blk a9 35),(J,blk aA 35),(K,blk aB 35),(some a1,blk (qg a) 25),(some W,blk [uD,uD,uD,iv 0,iv 0,iv 0,uD] 68)]∧(Row 3 H (P.length) T a9 (al bb P))∧(Row 3 J (Q.length) U aA (al bb Q))∧(Row 3 K (R.length) V aB (al bb R))∧F39j1 x A B l a P Q R=some r) ?_ ?_))
 ·
  refine uL (by rfl) (pu (iv 0) (by rfl) (aa (au (jx 4 (lh (ab (uL (by rfl) (pu (iv 0) (by rfl) (xl rfl (fun _=>?_) (fun h=>absurd (by decide) h))))))))))
  refine aa (ah rfl (ak (ab (au (gdE F (fun cB F=>bt F (fun e aY F=>gdE F (fun cC F=>?_))))))))
  obtain ⟨L,rfl,cD⟩:=aO.at_ bk (by decide) aY
  have c4:=aO.atS bk (by decide) aY
  refine kx [tv (fun _=>(iv 0)),⟨fun y=>(.slice (some ⟨(y 1).b,0,none⟩) 0 0),fun y=>[(some (y 1).b,blk [] 35)],fun _=>True,[],[]⟩,tv (fun _=>(iv 0)),tv (fun _=>(pt s)),tv (fun _=>(pt s)),tr (fun _=>(uM Z m a0)) [19],⟨fun y=>(slv ((y 6).g 0) m.length ((y 6).c 0)),fun y=>[(((y 6).g 0),blk ((y 6).cl 0) 35)],fun y=>(Row 3 ((y 6).g 0) m.length ((y 6).c 0) ((y 6).cl 0) (al bb m)),[1],[]⟩,tv (fun _=>(uN (some L) a5 a6)),tv (fun _=>(iv 0)),tr (fun _=>(uF L (0 * 3))) [],tr (fun _=>(.agg (qh e).toArray)) [16],⟨fun y=>(.slice (some ⟨(y 11).b,0,none⟩) 1 1),fun y=>[(some (y 11).b,blk (qh e) 35)],fun _=>True,[],[]⟩,⟨fun y=>(slv ((y 12).g 0) ((m++[(⟨e.no,e.sz,e.t⟩:Sp3)]).length) ((y 12).c 0)),fun y=>[(((y 12).g 0),blk ((y 12).cl 0) 35)],fun y=>(Row 3 ((y 12).g 0) ((m++[(⟨e.no,e.sz,e.t⟩:Sp3)]).length) ((y 12).c 0) ((y 12).cl 0) (al bb (m++[(⟨e.no,e.sz,e.t⟩:Sp3)]))),[6],[11]⟩,tv (fun _=>(pt s)),tv (fun _=>(pt s)),tst (fun y=>[(some s,blk [slv ((y 12).g 0) ((m++[(⟨e.no,e.sz,e.t⟩:Sp3)]).length) ((y 12).c 0),uM M o O,uM C q D,iv x,iv A,iv B] 63)]) 19] (fun _=>[(1,uM E l G),(3,pt s),(5,pt a1),(6,pt W),(11,uN (some L) a5 a6),(12,iv 0)]) (fun y=>[(some (y 11).b,blk (qh e) 35),(((y 12).g 0),blk ((y 12).cl 0) 35),(some s,blk [slv ((y 12).g 0) ((m++[(⟨e.no,e.sz,e.t⟩:Sp3)]).length) ((y 12).c 0),uM M o O,uM C q D,iv x,iv A,iv B] 63),(some L,blk a7 35),(some W,blk [uD,uD,uD,iv 0,iv 0,iv 0,uD] 68),(some a1,blk (qg a) 25)]) I (by kernel_rfl) (fun y=>⟨(by kernel_rfl),(by kernel_rfl)⟩) (fun y=>?_) ?_
  ·
   refine tt rfl (by rfl) (tg (.slice (some ⟨(y 1).b,0,none⟩) 0 0) [] [] rfl ⟨(by rfl),(by rfl),(by rfl)⟩ ?_ ?_)
   ·intro hp X w I
    refine fu I [] 35 (fun b=>slv (some b) 0 0) (by kernel_rfl) fun bK w I=>⟨wit bK [] [] [] [],(by kernel_rfl),trivial,I.castL (by kernel_rfl)⟩
   refine tt rfl (by rfl) (tt rfl (by rfl) (tt rfl (by rfl) (tl1 [(some s,blk [uM Z m a0,uM M o O,uM C q D,iv x,iv A,iv B] 63)] rfl (by rfl) (fun X w I=>ag I 0 (uM Z m a0) mq rfl rfl rfl br) (tg (slv ((y 6).g 0) m.length ((y 6).c 0)) [(some (y 1).b,blk [] 35)] [] rfl ⟨(by rfl),(by rfl),(by rfl)⟩ ?_ ?_))))
   ·intro hp X w I
    refine ks I mj (z:=.agg #[iv 0,iv 0,uE []]) (k:=3) (bytes:=32) (by rfl) rfl rfl 0 rfl rfl (Row.zero_ 3 (y 1).b) (al bb m) rfl (dt bk _) (bC.inv0 I) (nz eSp3_cell _) (by omega) (by omega) (n2:=m.length) (app_len0 rfl) ?_
    intro aZ b0 b1 w I aC
    have aC:Row 3 aZ m.length b0 b1 (al bb m):=aC
    exact ⟨wit 0 [aZ] [b0] [b1] [],(by rfl),Eq.mp (by rfl) aC,I.castL (by rfl)⟩
   refine tt rfl (by rfl) (tt rfl (by rfl) (tl0 rfl (fun X w I=>be 0 mj mc rfl rfl rfl (fa aY rfl) br) (tl1 [(some L,blk a7 35)] rfl (by rfl) (fun X w I=>cq I 0 (qh e) me mc rfl rfl rfl c4 br) (tg (.slice (some ⟨(y 11).b,0,none⟩) 1 1) [] [] rfl ⟨(by rfl),(by rfl),(by rfl)⟩ ?_ ?_))))
   ·intro hp X w I
    refine fu I (qh e) 35 (fun b=>slv (some b) 1 1) (by kernel_rfl) fun aP w I=>⟨wit aP [] [] [] [],(by kernel_rfl),trivial,I.castL (by kernel_rfl)⟩
   refine tg (slv ((y 12).g 0) ((m++[(⟨e.no,e.sz,e.t⟩:Sp3)]).length) ((y 12).c 0)) [(((y 6).g 0),blk ((y 6).cl 0) 35),(some (y 11).b,blk (qh e) 35)] [(some (y 11).b,blk (qh e) 35)] rfl ⟨(by rfl),(by rfl),(by rfl)⟩ ?_ ?_
   ·intro hp X w I
    have aC:Row 3 ((y 6).g 0) m.length ((y 6).c 0) ((y 6).cl 0) (al bb m):=pg hp (k:=6) ⟨(by rfl),(by rfl)⟩
    refine xk I xd 0 aC (⟨e.no,e.sz,e.t⟩:Sp3) 1 rfl (by omega) ?_
    intro S Y a8 w I aD
    exact ⟨wit 0 [S] [Y] [a8] [],(by rfl),Eq.mp (by rfl) aD,I.castL (by rfl)⟩
   refine tt rfl (by rfl) (tt rfl (by rfl) (tS [(some s,blk [uM Z m a0,uM M o O,uM C q D,iv x,iv A,iv B] 63)] rfl ⟨(by rfl),(by rfl)⟩ (fun X w I=>aq I 0 1 [slv ((y 12).g 0) ((m++[(⟨e.no,e.sz,e.t⟩:Sp3)]).length) ((y 12).c 0)] mw rfl rfl rfl rfl rfl (mx rfl) fun w I=>⟨rfl,I.castL (by rfl)⟩) (tn)))
  intro y hp ρ w hag I
  have aD:Row 3 ((y 12).g 0) ((m++[(⟨e.no,e.sz,e.t⟩:Sp3)]).length) ((y 12).c 0) ((y 12).cl 0) (al bb (m++[(⟨e.no,e.sz,e.t⟩:Sp3)])):=pgl hp (k:=12) (by decide) (by rfl)
  clear hp
  generalize (y 1).b=bK at *
  generalize (y 6).g 0=aZ at *
  generalize (y 6).c 0=b0 at *
  generalize (y 6).cl 0=b1 at *
  generalize (y 11).b=aP at *
  generalize (y 12).g 0=S at *
  generalize (y 12).c 0=Y at *
  generalize (y 12).cl 0=a8 at *
  obtain ⟨ρ,rfl⟩:=hag.form
  refine rgn (by rfl) (pu3 (iv 0) (iv 1) (iv 1) (by kernel_rfl) (aa (⟨rfl,lh ?_⟩)))
  refine ab (uL (by rfl) (pu (iv 1) (by rfl) (xl rfl (fun _=>?_) (fun h=>absurd (by decide) h))))
  refine aa (ah rfl (ak (ab (au (gdE F (fun cE F=>bt F (fun f bL F=>gdE F (fun cF F=>?_))))))))
  have c5:=aO.atS bk (by decide) bL
  refine kx [tv (fun _=>(iv 1)),⟨fun y=>(.slice (some ⟨(y 1).b,0,none⟩) 0 0),fun y=>[(some (y 1).b,blk [] 35)],fun _=>True,[],[]⟩,tv (fun _=>(iv 1)),tv (fun _=>(pt s)),tv (fun _=>(uF s 1)),tr (fun _=>(uM M o O)) [18],⟨fun y=>(slv ((y 6).g 0) o.length ((y 6).c 0)),fun y=>[(((y 6).g 0),blk ((y 6).cl 0) 35)],fun y=>(Row 3 ((y 6).g 0) o.length ((y 6).c 0) ((y 6).cl 0) (al bb o)),[1],[]⟩,tv (fun _=>(uN (some L) a5 a6)),tv (fun _=>(iv 1)),tr (fun _=>(uF L (1 * 3))) [],tr (fun _=>(.agg (qh f).toArray)) [19],⟨fun y=>(.slice (some ⟨(y 11).b,0,none⟩) 1 1),fun y=>[(some (y 11).b,blk (qh f) 35)],fun _=>True,[],[]⟩,⟨fun y=>(slv ((y 12).g 0) ((o++[(⟨f.no,f.sz,f.t⟩:Sp3)]).length) ((y 12).c 0)),fun y=>[(((y 12).g 0),blk ((y 12).cl 0) 35)],fun y=>(Row 3 ((y 12).g 0) ((o++[(⟨f.no,f.sz,f.t⟩:Sp3)]).length) ((y 12).c 0) ((y 12).cl 0) (al bb (o++[(⟨f.no,f.sz,f.t⟩:Sp3)]))),[6],[11]⟩,tv (fun _=>(pt s)),tv (fun _=>(uF s 1)),tst (fun y=>[(some s,blk [slv S ((m++[(⟨e.no,e.sz,e.t⟩:Sp3)]).length) Y,slv ((y 12).g 0) ((o++[(⟨f.no,f.sz,f.t⟩:Sp3)]).length) ((y 12).c 0),uM C q D,iv x,iv A,iv B] 63)]) 18] (fun _=>[(1,uM E l G),(3,pt s),(5,pt a1),(6,pt W),(11,uN (some L) a5 a6),(12,iv 1)]) (fun y=>[(some (y 11).b,blk (qh f) 35),(((y 12).g 0),blk ((y 12).cl 0) 35),(some s,blk [slv S ((m++[(⟨e.no,e.sz,e.t⟩:Sp3)]).length) Y,slv ((y 12).g 0) ((o++[(⟨f.no,f.sz,f.t⟩:Sp3)]).length) ((y 12).c 0),uM C q D,iv x,iv A,iv B] 63),(some aP,blk (qh e) 35),(S,blk a8 35),(some L,blk a7 35),(some W,blk [uD,uD,uD,iv 0,iv 0,iv 0,uD] 68),(some a1,blk (qg a) 25)]) I (by kernel_rfl) (fun y=>⟨(by kernel_rfl),(by kernel_rfl)⟩) (fun y=>?_) ?_
  ·
   refine tt rfl (by rfl) (tg (.slice (some ⟨(y 1).b,0,none⟩) 0 0) [] [] rfl ⟨(by rfl),(by rfl),(by rfl)⟩ ?_ ?_)
   ·intro hp X w I
    refine fu I [] 35 (fun b=>slv (some b) 0 0) (by kernel_rfl) fun bM w I=>⟨wit bM [] [] [] [],(by kernel_rfl),trivial,I.castL (by kernel_rfl)⟩
   refine tt rfl (by rfl) (tt rfl (by rfl) (tt rfl (by rfl) (tl1 [(some s,blk [slv S ((m++[(⟨e.no,e.sz,e.t⟩:Sp3)]).length) Y,uM M o O,uM C q D,iv x,iv A,iv B] 63)] rfl (by rfl) (fun X w I=>ag I 0 (uM M o O) mq rfl rfl rfl br) (tg (slv ((y 6).g 0) o.length ((y 6).c 0)) [(some (y 1).b,blk [] 35)] [] rfl ⟨(by rfl),(by rfl),(by rfl)⟩ ?_ ?_))))
   ·intro hp X w I
    refine ks I mj (z:=.agg #[iv 0,iv 0,uE []]) (k:=3) (bytes:=32) (by rfl) rfl rfl 0 rfl rfl (Row.zero_ 3 (y 1).b) (al bb o) rfl (dt bk _) (bD.inv0 I) (nz eSp3_cell _) (by omega) (by omega) (n2:=o.length) (app_len0 rfl) ?_
    intro b2 b3 b4 w I aE
    have aE:Row 3 b2 o.length b3 b4 (al bb o):=aE
    exact ⟨wit 0 [b2] [b3] [b4] [],(by rfl),Eq.mp (by rfl) aE,I.castL (by rfl)⟩
   refine tt rfl (by rfl) (tt rfl (by rfl) (tl0 rfl (fun X w I=>be 1 mj mc rfl rfl rfl (fa bL rfl) br) (tl1 [(some L,blk a7 35)] rfl (by rfl) (fun X w I=>cq I 0 (qh f) me mc rfl rfl rfl c5 br) (tg (.slice (some ⟨(y 11).b,0,none⟩) 1 1) [] [] rfl ⟨(by rfl),(by rfl),(by rfl)⟩ ?_ ?_))))
   ·intro hp X w I
    refine fu I (qh f) 35 (fun b=>slv (some b) 1 1) (by kernel_rfl) fun b5 w I=>⟨wit b5 [] [] [] [],(by kernel_rfl),trivial,I.castL (by kernel_rfl)⟩
   refine tg (slv ((y 12).g 0) ((o++[(⟨f.no,f.sz,f.t⟩:Sp3)]).length) ((y 12).c 0)) [(((y 6).g 0),blk ((y 6).cl 0) 35),(some (y 11).b,blk (qh f) 35)] [(some (y 11).b,blk (qh f) 35)] rfl ⟨(by rfl),(by rfl),(by rfl)⟩ ?_ ?_
   ·intro hp X w I
    have aE:Row 3 ((y 6).g 0) o.length ((y 6).c 0) ((y 6).cl 0) (al bb o):=pg hp (k:=6) ⟨(by rfl),(by rfl)⟩
    refine xk I xd 0 aE (⟨f.no,f.sz,f.t⟩:Sp3) 1 rfl (by omega) ?_
    intro a3 a4 aF w I aG
    exact ⟨wit 0 [a3] [a4] [aF] [],(by rfl),Eq.mp (by rfl) aG,I.castL (by rfl)⟩
   refine tt rfl (by rfl) (tt rfl (by rfl) (tS [(some s,blk [slv S ((m++[(⟨e.no,e.sz,e.t⟩:Sp3)]).length) Y,uM M o O,uM C q D,iv x,iv A,iv B] 63)] rfl ⟨(by rfl),(by rfl)⟩ (fun X w I=>aq I 0 1 [slv ((y 12).g 0) ((o++[(⟨f.no,f.sz,f.t⟩:Sp3)]).length) ((y 12).c 0)] mw rfl rfl rfl rfl rfl (mx rfl) fun w I=>⟨rfl,I.castL (by rfl)⟩) (tn)))
  intro y hp ρ w hag I
  have aG:Row 3 ((y 12).g 0) ((o++[(⟨f.no,f.sz,f.t⟩:Sp3)]).length) ((y 12).c 0) ((y 12).cl 0) (al bb (o++[(⟨f.no,f.sz,f.t⟩:Sp3)])):=pgl hp (k:=12) (by decide) (by rfl)
  clear hp
  generalize (y 1).b=bM at *
  generalize (y 6).g 0=b2 at *
  generalize (y 6).c 0=b3 at *
  generalize (y 6).cl 0=b4 at *
  generalize (y 11).b=b5 at *
  generalize (y 12).g 0=a3 at *
  generalize (y 12).c 0=a4 at *
  generalize (y 12).cl 0=aF at *
  obtain ⟨ρ,rfl⟩:=hag.form
  refine rgn (by rfl) (pu3 (iv 1) (iv 2) (iv 2) (by kernel_rfl) (aa (⟨rfl,lh ?_⟩)))
  refine ab (uL (by rfl) (pu (iv 2) (by rfl) (xl rfl (fun _=>?_) (fun h=>absurd (by decide) h))))
  refine aa (ah rfl (ak (ab (au (gdE F (fun cG F=>bt F (fun i bN F=>gdE F (fun cH F=>?_))))))))
  have c6:=aO.atS bk (by decide) bN
  refine kx [tv (fun _=>(iv 2)),⟨fun y=>(.slice (some ⟨(y 1).b,0,none⟩) 0 0),fun y=>[(some (y 1).b,blk [] 35)],fun _=>True,[],[]⟩,tv (fun _=>(iv 2)),tv (fun _=>(pt s)),tv (fun _=>(uF s 2)),tr (fun _=>(uM C q D)) [18],⟨fun y=>(slv ((y 6).g 0) q.length ((y 6).c 0)),fun y=>[(((y 6).g 0),blk ((y 6).cl 0) 35)],fun y=>(Row 3 ((y 6).g 0) q.length ((y 6).c 0) ((y 6).cl 0) (al bb q)),[1],[]⟩,tv (fun _=>(uN (some L) a5 a6)),tv (fun _=>(iv 2)),tr (fun _=>(uF L (2 * 3))) [],tr (fun _=>(.agg (qh i).toArray)) [21],⟨fun y=>(.slice (some ⟨(y 11).b,0,none⟩) 1 1),fun y=>[(some (y 11).b,blk (qh i) 35)],fun _=>True,[],[]⟩,⟨fun y=>(slv ((y 12).g 0) ((q++[(⟨i.no,i.sz,i.t⟩:Sp3)]).length) ((y 12).c 0)),fun y=>[(((y 12).g 0),blk ((y 12).cl 0) 35)],fun y=>(Row 3 ((y 12).g 0) ((q++[(⟨i.no,i.sz,i.t⟩:Sp3)]).length) ((y 12).c 0) ((y 12).cl 0) (al bb (q++[(⟨i.no,i.sz,i.t⟩:Sp3)]))),[6],[11]⟩,tv (fun _=>(pt s)),tv (fun _=>(uF s 2)),tst (fun y=>[(some s,blk [slv S ((m++[(⟨e.no,e.sz,e.t⟩:Sp3)]).length) Y,slv a3 ((o++[(⟨f.no,f.sz,f.t⟩:Sp3)]).length) a4,slv ((y 12).g 0) ((q++[(⟨i.no,i.sz,i.t⟩:Sp3)]).length) ((y 12).c 0),iv x,iv A,iv B] 63)]) 18] (fun _=>[(1,uM E l G),(3,pt s),(5,pt a1),(6,pt W),(11,uN (some L) a5 a6),(12,iv 2)]) (fun y=>[(some (y 11).b,blk (qh i) 35),(((y 12).g 0),blk ((y 12).cl 0) 35),(some s,blk [slv S ((m++[(⟨e.no,e.sz,e.t⟩:Sp3)]).length) Y,slv a3 ((o++[(⟨f.no,f.sz,f.t⟩:Sp3)]).length) a4,slv ((y 12).g 0) ((q++[(⟨i.no,i.sz,i.t⟩:Sp3)]).length) ((y 12).c 0),iv x,iv A,iv B] 63),(some b5,blk (qh f) 35),(a3,blk aF 35),(some aP,blk (qh e) 35),(S,blk a8 35),(some L,blk a7 35),(some W,blk [uD,uD,uD,iv 0,iv 0,iv 0,uD] 68),(some a1,blk (qg a) 25)]) I (by kernel_rfl) (fun y=>⟨(by kernel_rfl),(by kernel_rfl)⟩) (fun y=>?_) ?_
  ·
   refine tt rfl (by rfl) (tg (.slice (some ⟨(y 1).b,0,none⟩) 0 0) [] [] rfl ⟨(by rfl),(by rfl),(by rfl)⟩ ?_ ?_)
   ·intro hp X w I
    refine fu I [] 35 (fun b=>slv (some b) 0 0) (by kernel_rfl) fun bO w I=>⟨wit bO [] [] [] [],(by kernel_rfl),trivial,I.castL (by kernel_rfl)⟩
   refine tt rfl (by rfl) (tt rfl (by rfl) (tt rfl (by rfl) (tl1 [(some s,blk [slv S ((m++[(⟨e.no,e.sz,e.t⟩:Sp3)]).length) Y,slv a3 ((o++[(⟨f.no,f.sz,f.t⟩:Sp3)]).length) a4,uM C q D,iv x,iv A,iv B] 63)] rfl (by rfl) (fun X w I=>ag I 0 (uM C q D) mq rfl rfl rfl br) (tg (slv ((y 6).g 0) q.length ((y 6).c 0)) [(some (y 1).b,blk [] 35)] [] rfl ⟨(by rfl),(by rfl),(by rfl)⟩ ?_ ?_))))
   ·intro hp X w I
    refine ks I mj (z:=.agg #[iv 0,iv 0,uE []]) (k:=3) (bytes:=32) (by rfl) rfl rfl 0 rfl rfl (Row.zero_ 3 (y 1).b) (al bb q) rfl (dt bk _) (bE.inv0 I) (nz eSp3_cell _) (by omega) (by omega) (n2:=q.length) (app_len0 rfl) ?_
    intro b6 b7 b8 w I aH
    have aH:Row 3 b6 q.length b7 b8 (al bb q):=aH
    exact ⟨wit 0 [b6] [b7] [b8] [],(by rfl),Eq.mp (by rfl) aH,I.castL (by rfl)⟩
   refine tt rfl (by rfl) (tt rfl (by rfl) (tl0 rfl (fun X w I=>be 2 mj mc rfl rfl rfl (fa bN rfl) br) (tl1 [(some L,blk a7 35)] rfl (by rfl) (fun X w I=>cq I 0 (qh i) me mc rfl rfl rfl c6 br) (tg (.slice (some ⟨(y 11).b,0,none⟩) 1 1) [] [] rfl ⟨(by rfl),(by rfl),(by rfl)⟩ ?_ ?_))))
   ·intro hp X w I
    refine fu I (qh i) 35 (fun b=>slv (some b) 1 1) (by kernel_rfl) fun bP w I=>⟨wit bP [] [] [] [],(by kernel_rfl),trivial,I.castL (by kernel_rfl)⟩
   refine tg (slv ((y 12).g 0) ((q++[(⟨i.no,i.sz,i.t⟩:Sp3)]).length) ((y 12).c 0)) [(((y 6).g 0),blk ((y 6).cl 0) 35),(some (y 11).b,blk (qh i) 35)] [(some (y 11).b,blk (qh i) 35)] rfl ⟨(by rfl),(by rfl),(by rfl)⟩ ?_ ?_
   ·intro hp X w I
    have aH:Row 3 ((y 6).g 0) q.length ((y 6).c 0) ((y 6).cl 0) (al bb q):=pg hp (k:=6) ⟨(by rfl),(by rfl)⟩
    refine xk I xd 0 aH (⟨i.no,i.sz,i.t⟩:Sp3) 1 rfl (by omega) ?_
    intro aQ aR aS w I aI
    exact ⟨wit 0 [aQ] [aR] [aS] [],(by rfl),Eq.mp (by rfl) aI,I.castL (by rfl)⟩
   refine tt rfl (by rfl) (tt rfl (by rfl) (tS [(some s,blk [slv S ((m++[(⟨e.no,e.sz,e.t⟩:Sp3)]).length) Y,slv a3 ((o++[(⟨f.no,f.sz,f.t⟩:Sp3)]).length) a4,uM C q D,iv x,iv A,iv B] 63)] rfl ⟨(by rfl),(by rfl)⟩ (fun X w I=>aq I 0 1 [slv ((y 12).g 0) ((q++[(⟨i.no,i.sz,i.t⟩:Sp3)]).length) ((y 12).c 0)] mw rfl rfl rfl rfl rfl (mx rfl) fun w I=>⟨rfl,I.castL (by rfl)⟩) (tn)))
  intro y hp ρ w hag I
  have aI:Row 3 ((y 12).g 0) ((q++[(⟨i.no,i.sz,i.t⟩:Sp3)]).length) ((y 12).c 0) ((y 12).cl 0) (al bb (q++[(⟨i.no,i.sz,i.t⟩:Sp3)])):=pgl hp (k:=12) (by decide) (by rfl)
  clear hp
  generalize (y 1).b=bO at *
  generalize (y 6).g 0=b6 at *
  generalize (y 6).c 0=b7 at *
  generalize (y 6).cl 0=b8 at *
  generalize (y 11).b=bP at *
  generalize (y 12).g 0=aQ at *
  generalize (y 12).c 0=aR at *
  generalize (y 12).cl 0=aS at *
  obtain ⟨ρ,rfl⟩:=hag.form
  refine rgn (by rfl) (pu3 (iv 2) (iv 3) (iv 3) (by kernel_rfl) (aa (⟨rfl,lh ?_⟩)))
  refine ab (uL (by rfl) (pu (iv 3) (by rfl) (xl rfl (fun h=>absurd h (by decide)) (fun _=>aa (ai rfl (bw (.inl ⟨rfl,⟨S,Y,a8,a3,a4,aF,aQ,aR,aS,m++[(⟨e.no,e.sz,e.t⟩:Sp3)],o++[(⟨f.no,f.sz,f.t⟩:Sp3)],q++[(⟨i.no,i.sz,i.t⟩:Sp3)],(uK rfl),I.pk [2,6,4,1,9,8] rfl,(aD.to rfl rfl),(aG.to rfl rfl),(aI.to rfl rfl),F⟩⟩)))))))
 intro ρ w hJ
 obtain ⟨H,T,a9,J,U,aA,K,V,aB,P,Q,R,hag,I,c7,c8,cA,F⟩:=hJ
 obtain ⟨ρ,rfl⟩:=hag.form
 unfold F39j1 at F
 refine ab (gdE F (fun cI F=>gdE F (fun cJ F=>kx [tr (fun _=>(.agg #[uN H P T,uN J Q U,uN K R V,iv x,iv A,iv B])) [10],⟨fun y=>(.slice (some ⟨(y 1).b,0,none⟩) 0 0),fun y=>[(some (y 1).b,blk [] 25)],fun _=>True,[],[]⟩,tv (fun _=>(uM E l G)),⟨fun y=>(slv ((y 3).g 0) l.length ((y 3).c 0)),fun y=>[(((y 3).g 0),blk ((y 3).cl 0) 25)],fun y=>(Row 8 ((y 3).g 0) l.length ((y 3).c 0) ((y 3).cl 0) (al eRc l)),[1],[]⟩,tr (fun _=>(.agg (qg a).toArray)) [14],⟨fun y=>(.slice (some ⟨(y 5).b,0,none⟩) 1 1),fun y=>[(some (y 5).b,blk (qg a) 25)],fun _=>True,[],[]⟩,⟨fun y=>(slv ((y 6).g 0) ((l++[(⟨a.p,a.n,a.k,a.d,a.kn,a.op,a.on,a.t⟩:Rc)]).length) ((y 6).c 0)),fun y=>[(((y 6).g 0),blk ((y 6).cl 0) 25)],fun y=>(Row 8 ((y 6).g 0) ((l++[(⟨a.p,a.n,a.k,a.d,a.kn,a.op,a.on,a.t⟩:Rc)]).length) ((y 6).c 0) ((y 6).cl 0) (al eRc (l++[(⟨a.p,a.n,a.k,a.d,a.kn,a.op,a.on,a.t⟩:Rc)]))),[3],[5]⟩,tv (fun y=>(.agg #[uN H P T,uN J Q U,uN K R V,iv x,iv A,iv B,slv ((y 6).g 0) ((l++[(⟨a.p,a.n,a.k,a.d,a.kn,a.op,a.on,a.t⟩:Rc)]).length) ((y 6).c 0)])),tst (fun y=>[(some W,blk [uN H P T,uN J Q U,uN K R V,iv x,iv A,iv B,slv ((y 6).g 0) ((l++[(⟨a.p,a.n,a.k,a.d,a.kn,a.op,a.on,a.t⟩:Rc)]).length) ((y 6).c 0)] 68)]) 15,tv (fun _=>(iv 0))] (fun _=>[(6,pt W),(7,iv 0)]) (fun y=>[(some (y 5).b,blk (qg a) 25),(((y 6).g 0),blk ((y 6).cl 0) 25),(some W,blk [uN H P T,uN J Q U,uN K R V,iv x,iv A,iv B,slv ((y 6).g 0) ((l++[(⟨a.p,a.n,a.k,a.d,a.kn,a.op,a.on,a.t⟩:Rc)]).length) ((y 6).c 0)] 68),(some s,blk [uN H P T,uN J Q U,uN K R V,iv x,iv A,iv B] 63),(H,blk a9 35),(J,blk aA 35),(K,blk aB 35),(some a1,blk (qg a) 25)]) I (by kernel_rfl) (fun y=>⟨(by kernel_rfl),(by kernel_rfl)⟩) (fun y=>?_) ?_)))
 ·
  refine tl1 [(some s,blk [uN H P T,uN J Q U,uN K R V,iv x,iv A,iv B] 63)] rfl (by rfl) (fun X w I=>ma I 0 mt mi rfl rfl rfl br) (tg (.slice (some ⟨(y 1).b,0,none⟩) 0 0) [] [] rfl ⟨(by rfl),(by rfl),(by rfl)⟩ ?_ ?_)
  ·intro hp X w I
   refine fu I [] 25 (fun b=>slv (some b) 0 0) (by kernel_rfl) fun bQ w I=>⟨wit bQ [] [] [] [],(by kernel_rfl),trivial,I.castL (by kernel_rfl)⟩
  refine tt rfl (by rfl) (tg (slv ((y 3).g 0) l.length ((y 3).c 0)) [(some (y 1).b,blk [] 25)] [] rfl ⟨(by rfl),(by rfl),(by rfl)⟩ ?_ ?_)
  ·intro hp X w I
   refine ks I nt (z:=.agg #[iv 0,iv 0,iv 0,iv 0,iv 0,iv 0,iv 0,uE []]) (k:=8) (bytes:=72) (by rfl) rfl rfl 0 rfl rfl (Row.zero_ 8 (y 1).b) (al eRc l) rfl (dt bx _) (aU.inv0 I) (nz eRc_cell _) (by omega) (by omega) (n2:=l.length) (app_len0 rfl) ?_
   intro b9 bA bB w I aJ
   have aJ:Row 8 b9 l.length bA bB (al eRc l):=aJ
   exact ⟨wit 0 [b9] [bA] [bB] [],(by rfl),Eq.mp (by rfl) aJ,I.castL (by rfl)⟩
  refine tl1 [(some a1,blk (qg a) 25)] rfl (by rfl) (fun X w I=>ma I 0 mh md rfl rfl rfl br) (tg (.slice (some ⟨(y 5).b,0,none⟩) 1 1) [] [] rfl ⟨(by rfl),(by rfl),(by rfl)⟩ ?_ ?_)
  ·intro hp X w I
   refine fu I (qg a) 25 (fun b=>slv (some b) 1 1) (by kernel_rfl) fun bR w I=>⟨wit bR [] [] [] [],(by kernel_rfl),trivial,I.castL (by kernel_rfl)⟩
  refine tg (slv ((y 6).g 0) ((l++[(⟨a.p,a.n,a.k,a.d,a.kn,a.op,a.on,a.t⟩:Rc)]).length) ((y 6).c 0)) [(((y 3).g 0),blk ((y 3).cl 0) 25),(some (y 5).b,blk (qg a) 25)] [(some (y 5).b,blk (qg a) 25)] rfl ⟨(by rfl),(by rfl),(by rfl)⟩ ?_ ?_
  ·intro hp X w I
   have aJ:Row 8 ((y 3).g 0) l.length ((y 3).c 0) ((y 3).cl 0) (al eRc l):=pg hp (k:=3) ⟨(by rfl),(by rfl)⟩
   refine xk I xf 0 aJ (⟨a.p,a.n,a.k,a.d,a.kn,a.op,a.on,a.t⟩:Rc) 1 rfl (by omega) ?_
   intro aK aL aT w I aM
   exact ⟨wit 0 [aK] [aL] [aT] [],(by rfl),Eq.mp (by rfl) aM,I.castL (by rfl)⟩
  refine tpv (.agg #[uN H P T,uN J Q U,uN K R V,iv x,iv A,iv B,slv ((y 6).g 0) ((l++[(⟨a.p,a.n,a.k,a.d,a.kn,a.op,a.on,a.t⟩:Rc)]).length) ((y 6).c 0)]) rfl ⟨(by kernel_rfl),fun _=>(by kernel_rfl)⟩ (tS [(some W,blk [uD,uD,uD,iv 0,iv 0,iv 0,uD] 68)] rfl ⟨(by kernel_rfl),(by kernel_rfl)⟩ (fun X w I=>aq I 0 7 [uN H P T,uN J Q U,uN K R V,iv x,iv A,iv B,slv ((y 6).g 0) ((l++[(⟨a.p,a.n,a.k,a.d,a.kn,a.op,a.on,a.t⟩:Rc)]).length) ((y 6).c 0)] zs68 rfl rfl rfl rfl rfl (mx rfl) fun w I=>⟨rfl,I.castL (by kernel_rfl)⟩) (tt rfl (by kernel_rfl) (tn)))
 intro y hp ρ w hag I
 have aM:Row 8 ((y 6).g 0) ((l++[(⟨a.p,a.n,a.k,a.d,a.kn,a.op,a.on,a.t⟩:Rc)]).length) ((y 6).c 0) ((y 6).cl 0) (al eRc (l++[(⟨a.p,a.n,a.k,a.d,a.kn,a.op,a.on,a.t⟩:Rc)])):=pgl hp (k:=6) (by decide) (by rfl)
 clear hp
 generalize (y 1).b=bQ at *
 generalize (y 3).g 0=b9 at *
 generalize (y 3).c 0=bA at *
 generalize (y 3).cl 0=bB at *
 generalize (y 5).b=bR at *
 generalize (y 6).g 0=aK at *
 generalize (y 6).c 0=aL at *
 generalize (y 6).cl 0=aT at *
 obtain ⟨ρ,rfl⟩:=hag.form
 refine aj ?_
 cases F
 exact ⟨_,Ret.ct rfl rfl (ce I 2 7 [uN H P T,uN J Q U,uN K R V,iv x,iv A,iv B,slv aK ((l++[(⟨a.p,a.n,a.k,a.d,a.kn,a.op,a.on,a.t⟩:Rc)]).length) aL] zi68 zs68 rfl rfl rfl) rfl,⟨H,T,a9,J,U,aA,K,V,aB,aK,aL,aT,rfl,I.pk [4,5,6,1] rfl,c7.to rfl rfl,c8.to rfl rfl,cA.to rfl rfl,aM.to rfl rfl⟩⟩
theorem L156 (w0:World) (q:Option Addr) (s:Nat) (d:List Sp3) (u:Option Addr) (x:Nat) (e:List Sp3) (y:Option Addr) (z:Nat) (f:List Sp3) (P:Int) (Q:Int) (R:Int) (a:Int) (b:Int) (a1:bi w0 q (al bb d)) (aK:d.length≤9223372036854775807) (aL:d.length≤s) (a2:bi w0 u (al bb e)) (aM:e.length≤9223372036854775807) (aN:e.length≤x) (a3:bi w0 y (al bb f)) (aO:f.length≤9223372036854775807) (aP:f.length≤z) (N:Nat) (r:(Int × Int × Str × Bool)) (F:F156 N d e f P Q R a b=some r):bn Tryz.prog 156 [.agg #[uM q d s,uM u e x,uM y f z,iv P,iv Q,iv R],iv a,iv b] w0 fun v w=>v=.tuple #[.agg #[iv r.1,iv r.2.1,uE r.2.2.1],.bool r.2.2.2]∧Below w0.heap.size w0 w:=by
 refine az (n:=31) func156 rfl ntmps156 rfl ?_
 have I:=Inv.start w0
 unfold F156 at F
 refine uL rfl (ph (ca I _ rfl fun a4 w I=>ph (bh I _ zeroValue35 rfl fun g w I=>pu bF rfl (aa (ab (uL rfl (pu2 (iv a) (pt a4) rfl (ifE F (fun S F=>?_) (fun S F=>?_)))))))))
 ·
  refine xv 0 pf mw rfl S (by decide) 0 rfl (xg I 1 (uM q d s) mq rfl (pu2 (iv ((d.length:Nat):Int)) (iv 0) (by kernel_rfl) (aa (au (cb (fun m ρ w=>∃ l mm,cd ρ [(1,iv a),(2,iv b),(6,pt g),(13,uM q d s),(14,iv (d.length:Int)),(15,iv l)]∧Inv [] w0 w [(some g,blk [iv 0,iv 0,uE []] 35)]∧F156l1 d a b N mm l=some r∧mm=m) (m:=N) ⟨0,N,(uK rfl),I.pk [0] rfl,F,rfl⟩ ?_)))))
  rintro m ρ w ⟨l,mm,hag,I,F,hm⟩
  subst hm; obtain ⟨ρ,rfl⟩:=hag.form
  obtain _ | m1:=mm
  ·cases (show (none:Option (Int × Int × Str × Bool))=some r from F)
  replace F:F156b1 d a b N (F156l1 d a b N m1) l=some r:=F; unfold F156b1 at F
  refine uL rfl (ifN F (fun A F=>?_) (fun A F=>?_))
  ·
   refine xl rfl (uP A) (fun _=>aa (ab (ai rfl (bw (uL rfl (pu (.agg #[iv 0,iv 0,uE []]) (by kernel_rfl) (xi I 0 _ mc rfl fun w I=>pu bF rfl (aa (aj ?_)))))))))
   cases F
   exact ⟨_,Ret.ct rfl rfl (ce I 0 3 [iv 0,iv 0,uE []] me mc rfl rfl rfl) rfl,⟨rfl,I.below⟩⟩
  refine xl rfl (fun _=>?_) (uO A)
  refine aa (ab (ah rfl (ak (ab (au (uL rfl (gdE F (fun a5 F=>bt F (fun i T F=>?_)))))))))
  obtain ⟨aQ,aR,a6,a7,a8⟩:=a1.at_ bk (by decide) T
  refine ph (cn (l).toNat mj mc rfl a6 rfl (Int.toNat_of_nonneg a5).symm (fa T rfl) (ph (ef I (qh i) me mc rfl rfl a7 (by simp) a8 (ph (bh I _ zeroValue35 rfl fun B w I=>xi I 0 _ mc rfl fun w I=>aa (dn (fun ρ w=>cd ρ [(1,iv a),(2,iv b),(6,pt g),(9,pt B),(13,uM q d s),(14,iv (d.length:Int)),(15,iv l),(27,bF)]∧Inv [] w0 w [(some g,blk [iv 0,iv 0,uE []] 35),(some B,blk (qh i) 35)]∧F156j2 (F156l1 d a b N m1) l=some r) ?_ ?_))))))
  ·
   refine rgn rfl (pu (pt B) rfl (xg I 0 (iv i.no) zi3 rfl (pu (iv b) rfl (ifN F (fun C F=>?_) (fun C F=>?_)))))
   ·
    refine xe rfl (uP C) (fun _=>pu bF rfl (sf 3 rfl (pu bF rfl (aa (.inl ⟨rfl,⟨(uK rfl),I.pk [1,0] rfl,F⟩⟩)))))
   refine xe rfl (fun _=>?_) (uO C)
   refine pu bT rfl (pup (iv a) rfl (aw rfl (ma I 0 me mc rfl rfl rfl (bt F (fun aS U F=>ifN F (fun D F=>?_) (fun D F=>?_))))))
   ·
    refine aw (by kernel_rfl) (bg I 94 _ _ (by kernel_rfl) (bn.mono (L94 _ a i N _ U) (uH (Bool.eq_false_iff.2 D))) fun w I=>pu bF (by kernel_rfl) (aa (.inl ⟨rfl,⟨(uK rfl),I.pk [1,0] rfl,F⟩⟩)))
   refine aw (by kernel_rfl) (bg I 94 _ _ (by kernel_rfl) (bn.mono (L94 _ a i N _ U) (uH D)) fun w I=>pu bT (by kernel_rfl) (aa (.inr (ah rfl (uL (by kernel_rfl) (xm I 0 me mc rfl (xi I 1 _ mc rfl fun w I=>pu bT (by kernel_rfl) (aa (aj ?_)))))))))
   cases F
   exact ⟨_,Ret.ct rfl rfl (ce I 1 3 (qh i) me mc rfl rfl rfl) rfl,⟨rfl,I.below⟩⟩
  intro ρ w hJ
  obtain ⟨hag,I,F⟩:=hJ
  obtain ⟨ρ,rfl⟩:=hag.form
  unfold F156j2 at F
  refine ai rfl (ak (rgn rfl (ckE F (fun a9 F=>xa rfl a9 (pu (iv (l+1)) rfl (aa (⟨rfl,m1,Nat.lt_succ_self _,⟨l+1,m1,(uK rfl),I.pk [0] rfl,F,rfl⟩⟩)))))))
 refine ifE F (fun V F=>?_) (fun V F=>?_)
 ·
  refine xv 1 pf mw rfl V (by decide) 1 rfl (xg I 1 (uM u e x) mq rfl (pu2 (iv ((e.length:Nat):Int)) (iv 0) (by kernel_rfl) (aa (au (cb (fun m ρ w=>∃ o mm,cd ρ [(1,iv a),(2,iv b),(6,pt g),(13,uM u e x),(14,iv (e.length:Int)),(15,iv o)]∧Inv [] w0 w [(some g,blk [iv 0,iv 0,uE []] 35)]∧F156l3 e a b N mm o=some r∧mm=m) (m:=N) ⟨0,N,(uK rfl),I.pk [0] rfl,F,rfl⟩ ?_)))))
  rintro m ρ w ⟨o,mm,hag,I,F,hm⟩
  subst hm; obtain ⟨ρ,rfl⟩:=hag.form
  obtain _ | m3:=mm
  ·cases (show (none:Option (Int × Int × Str × Bool))=some r from F)
  replace F:F156b3 e a b N (F156l3 e a b N m3) o=some r:=F; unfold F156b3 at F
  refine uL rfl (ifN F (fun E F=>?_) (fun E F=>?_))
  ·
   refine xl rfl (uP E) (fun _=>aa (ab (ai rfl (bw (uL rfl (pu (.agg #[iv 0,iv 0,uE []]) (by kernel_rfl) (xi I 0 _ mc rfl fun w I=>pu bF rfl (aa (aj ?_)))))))))
   cases F
   exact ⟨_,Ret.ct rfl rfl (ce I 0 3 [iv 0,iv 0,uE []] me mc rfl rfl rfl) rfl,⟨rfl,I.below⟩⟩
  refine xl rfl (fun _=>?_) (uO E)
  refine aa (ab (ah rfl (ak (ab (au (uL rfl (gdE F (fun aA F=>bt F (fun j W F=>?_)))))))))
  obtain ⟨aT,aU,aB,aC,aD⟩:=a2.at_ bk (by decide) W
  refine ph (cn (o).toNat mj mc rfl aB rfl (Int.toNat_of_nonneg aA).symm (fa W rfl) (ph (ef I (qh j) me mc rfl rfl aC (by simp) aD (ph (bh I _ zeroValue35 rfl fun G w I=>xi I 0 _ mc rfl fun w I=>aa (dn (fun ρ w=>cd ρ [(1,iv a),(2,iv b),(6,pt g),(9,pt G),(13,uM u e x),(14,iv (e.length:Int)),(15,iv o),(27,bF)]∧Inv [] w0 w [(some g,blk [iv 0,iv 0,uE []] 35),(some G,blk (qh j) 35)]∧F156j4 (F156l3 e a b N m3) o=some r) ?_ ?_))))))
  ·
   refine rgn rfl (pu (pt G) rfl (xg I 0 (iv j.no) zi3 rfl (pu (iv b) rfl (ifN F (fun H F=>?_) (fun H F=>?_)))))
   ·
    refine xe rfl (uP H) (fun _=>pu bF rfl (sf 3 rfl (pu bF rfl (aa (.inl ⟨rfl,⟨(uK rfl),I.pk [1,0] rfl,F⟩⟩)))))
   refine xe rfl (fun _=>?_) (uO H)
   refine pu bT rfl (pup (iv a) rfl (aw rfl (ma I 0 me mc rfl rfl rfl (bt F (fun aV X F=>ifN F (fun J F=>?_) (fun J F=>?_))))))
   ·
    refine aw (by kernel_rfl) (bg I 94 _ _ (by kernel_rfl) (bn.mono (L94 _ a j N _ X) (uH (Bool.eq_false_iff.2 J))) fun w I=>pu bF (by kernel_rfl) (aa (.inl ⟨rfl,⟨(uK rfl),I.pk [1,0] rfl,F⟩⟩)))
   refine aw (by kernel_rfl) (bg I 94 _ _ (by kernel_rfl) (bn.mono (L94 _ a j N _ X) (uH J)) fun w I=>pu bT (by kernel_rfl) (aa (.inr (ah rfl (uL (by kernel_rfl) (xm I 0 me mc rfl (xi I 1 _ mc rfl fun w I=>pu bT (by kernel_rfl) (aa (aj ?_)))))))))
   cases F
   exact ⟨_,Ret.ct rfl rfl (ce I 1 3 (qh j) me mc rfl rfl rfl) rfl,⟨rfl,I.below⟩⟩
  intro ρ w hJ
  obtain ⟨hag,I,F⟩:=hJ
  obtain ⟨ρ,rfl⟩:=hag.form
  unfold F156j4 at F
  refine ai rfl (ak (rgn rfl (ckE F (fun aE F=>xa rfl aE (pu (iv (o+1)) rfl (aa (⟨rfl,m3,Nat.lt_succ_self _,⟨o+1,m3,(uK rfl),I.pk [0] rfl,F,rfl⟩⟩)))))))
 refine ifN F (fun Y F=>?_) (fun Y F=>?_)
 ·
  cases F

 refine xv 2 pf mw rfl Y (by decide) 2 rfl (xg I 1 (uM y f z) mq rfl (pu2 (iv ((f.length:Nat):Int)) (iv 0) (by kernel_rfl) (aa (au (cb (fun m ρ w=>∃ p mm,cd ρ [(1,iv a),(2,iv b),(6,pt g),(13,uM y f z),(14,iv (f.length:Int)),(15,iv p)]∧Inv [] w0 w [(some g,blk [iv 0,iv 0,uE []] 35)]∧F156l5 f a b N mm p=some r∧mm=m) (m:=N) ⟨0,N,(uK rfl),I.pk [0] rfl,F,rfl⟩ ?_)))))
 rintro m ρ w ⟨p,mm,hag,I,F,hm⟩
 subst hm; obtain ⟨ρ,rfl⟩:=hag.form
 obtain _ | m5:=mm
 ·cases (show (none:Option (Int × Int × Str × Bool))=some r from F)
 replace F:F156b5 f a b N (F156l5 f a b N m5) p=some r:=F; unfold F156b5 at F
 refine uL rfl (ifN F (fun K F=>?_) (fun K F=>?_))
 ·
  refine xl rfl (uP K) (fun _=>aa (ab (ai rfl (bw (uL rfl (pu (.agg #[iv 0,iv 0,uE []]) (by kernel_rfl) (xi I 0 _ mc rfl fun w I=>pu bF rfl (aa (aj ?_)))))))))
  cases F
  exact ⟨_,Ret.ct rfl rfl (ce I 0 3 [iv 0,iv 0,uE []] me mc rfl rfl rfl) rfl,⟨rfl,I.below⟩⟩
 refine xl rfl (fun _=>?_) (uO K)
 refine aa (ab (ah rfl (ak (ab (au (uL rfl (gdE F (fun aF F=>bt F (fun k Z F=>?_)))))))))
 obtain ⟨aW,aX,aG,aH,aI⟩:=a3.at_ bk (by decide) Z
 refine ph (cn (p).toNat mj mc rfl aG rfl (Int.toNat_of_nonneg aF).symm (fa Z rfl) (ph (ef I (qh k) me mc rfl rfl aH (by simp) aI (ph (bh I _ zeroValue35 rfl fun L w I=>xi I 0 _ mc rfl fun w I=>aa (dn (fun ρ w=>cd ρ [(1,iv a),(2,iv b),(6,pt g),(9,pt L),(13,uM y f z),(14,iv (f.length:Int)),(15,iv p),(27,bF)]∧Inv [] w0 w [(some g,blk [iv 0,iv 0,uE []] 35),(some L,blk (qh k) 35)]∧F156j6 (F156l5 f a b N m5) p=some r) ?_ ?_))))))
 ·
  refine rgn rfl (pu (pt L) rfl (xg I 0 (iv k.no) zi3 rfl (pu (iv b) rfl (ifN F (fun M F=>?_) (fun M F=>?_)))))
  ·
   refine xe rfl (uP M) (fun _=>pu bF rfl (sf 3 rfl (pu bF rfl (aa (.inl ⟨rfl,⟨(uK rfl),I.pk [1,0] rfl,F⟩⟩)))))
  refine xe rfl (fun _=>?_) (uO M)
  refine pu bT rfl (pup (iv a) rfl (aw rfl (ma I 0 me mc rfl rfl rfl (bt F (fun aY a0 F=>ifN F (fun O F=>?_) (fun O F=>?_))))))
  ·
   refine aw (by kernel_rfl) (bg I 94 _ _ (by kernel_rfl) (bn.mono (L94 _ a k N _ a0) (uH (Bool.eq_false_iff.2 O))) fun w I=>pu bF (by kernel_rfl) (aa (.inl ⟨rfl,⟨(uK rfl),I.pk [1,0] rfl,F⟩⟩)))
  refine aw (by kernel_rfl) (bg I 94 _ _ (by kernel_rfl) (bn.mono (L94 _ a k N _ a0) (uH O)) fun w I=>pu bT (by kernel_rfl) (aa (.inr (ah rfl (uL (by kernel_rfl) (xm I 0 me mc rfl (xi I 1 _ mc rfl fun w I=>pu bT (by kernel_rfl) (aa (aj ?_)))))))))
  cases F
  exact ⟨_,Ret.ct rfl rfl (ce I 1 3 (qh k) me mc rfl rfl rfl) rfl,⟨rfl,I.below⟩⟩
 intro ρ w hJ
 obtain ⟨hag,I,F⟩:=hJ
 obtain ⟨ρ,rfl⟩:=hag.form
 unfold F156j6 at F
 refine ai rfl (ak (rgn rfl (ckE F (fun aJ F=>xa rfl aJ (pu (iv (p+1)) rfl (aa (⟨rfl,m5,Nat.lt_succ_self _,⟨p+1,m5,(uK rfl),I.pk [0] rfl,F,rfl⟩⟩)))))))
set_option maxHeartbeats 8000000 in
theorem L115 (w0:World) (o:Option Addr) (p:Nat) (b:List Sp3) (q:Option Addr) (s:Nat) (d:List Sp3) (t:Option Addr) (u:Nat) (e:List Sp3) (f:Int) (g:Int) (i:Int) (a:Int) (B:bi w0 o (al bb b)) (C:b.length≤9223372036854775807) (D:b.length≤p) (E:bi w0 q (al bb d)) (G:d.length≤9223372036854775807) (H:d.length≤s) (J:bi w0 t (al bb e)) (K:e.length≤9223372036854775807) (L:e.length≤u) (N:Nat) (r:(Int × Int × Int × Int × Int × Int × Int × Str × Bool)) (F:F115 N b d e f g i a=some r):bn Tryz.prog 115 [.agg #[uM o b p,uM q d s,uM t e u,iv f,iv g,iv i],iv a] w0 fun v w=>v=.tuple #[.agg #[iv r.1,iv r.2.1,iv r.2.2.1,iv r.2.2.2.1,iv r.2.2.2.2.1,iv r.2.2.2.2.2.1,iv r.2.2.2.2.2.2.1,uE r.2.2.2.2.2.2.2.1],.bool r.2.2.2.2.2.2.2.2]∧Below w0.heap.size w0 w:=by
 refine az (n:=65) func115 rfl ntmps115 rfl ?_
 have I:=Inv.start w0
 unfold F115 at F
 refine uL (by rfl) (ph (ca I _ rfl fun z w I=>ph (bh I _ zeroValue25 rfl fun A w I=>pu bF (by rfl) (aa (ab (uL (by rfl) (pu (iv 0) (by rfl) (aa (au (jx 4 (lh (ab (uL (by rfl) (pu (iv 0) (by rfl) (xl rfl (fun _=>?_) (fun h=>absurd (by decide) h))))))))))))))))
 refine aa (ah rfl (ak (dn (fun ρ w=>cd ρ [(1,iv a),(2,pt z),(4,pt A),(6,iv 0)]∧Inv [] w0 w [(some z,blk [uM o b p,uM q d s,uM t e u,iv f,iv g,iv i] 63),(some A,blk [iv 0,iv 0,iv 0,iv 0,iv 0,iv 0,iv 0,uE []] 25)]∧F115j1 b d e f g i a N=some r) ?_ ?_)))
 ·
  refine au (uL (by rfl) (pu3 (iv 0) (iv 1) (iv 1) (by kernel_rfl) (aa (au (jx 3 (lh (ab (uL (by rfl) (pu (iv 1) (by rfl) (xl rfl (fun _=>?_) (fun h=>absurd (by decide) h)))))))))))
  refine aa (ah rfl (ak (dn (fun ρ w=>cd ρ [(1,iv a),(2,pt z),(4,pt A),(6,iv 0),(7,iv 1)]∧Inv [] w0 w [(some z,blk [uM o b p,uM q d s,uM t e u,iv f,iv g,iv i] 63),(some A,blk [iv 0,iv 0,iv 0,iv 0,iv 0,iv 0,iv 0,uE []] 25)]∧F115j2 b d e f g i a N=some r) ?_ ?_)))
  ·
   refine au (uL (by kernel_rfl) (xm I 1 mt mi rfl (pu2 (iv 0) (iv a) (by kernel_rfl) (bt F (fun j aX F=>ph (bg I 156 _ _ (by kernel_rfl) (L156 _ o p b q s d t u e f g i 0 a (B.inv0 I) C D (E.inv0 I) G H (J.inv0 I) K L N _ aX) fun w I=>pu3 (.tuple #[.agg #[iv j.1,iv j.2.1,uE j.2.2.1],.bool j.2.2.2]) (.agg #[iv j.1,iv j.2.1,uE j.2.2.1]) (.bool j.2.2.2) (by kernel_rfl) (ph (bh I _ zeroValue35 rfl fun aE w I=>xi I 0 _ mc rfl fun w I=>pu (.bool j.2.2.2) (by kernel_rfl) (aa (uL (by kernel_rfl) (xm I 2 mt mi rfl (pu2 (iv 1) (iv a) (by kernel_rfl) (bt F (fun k aY F=>ph (bg I 156 _ _ (by kernel_rfl) (L156 _ o p b q s d t u e f g i 1 a (B.inv0 I) C D (E.inv0 I) G H (J.inv0 I) K L N _ aY) fun w I=>pu3 (.tuple #[.agg #[iv k.1,iv k.2.1,uE k.2.2.1],.bool k.2.2.2]) (.agg #[iv k.1,iv k.2.1,uE k.2.2.1]) (.bool k.2.2.2) (by kernel_rfl) (ph (bh I _ zeroValue35 rfl fun aF w I=>xi I 0 _ mc rfl fun w I=>pu (.bool k.2.2.2) (by kernel_rfl) (aa (ab (dn (fun ρ w=>cd ρ [(1,iv a),(2,pt z),(4,pt A),(6,iv 0),(7,iv 1),(8,pt aE),(10,pt aF),(50,bT)]∧Inv [] w0 w [(some z,blk [uM o b p,uM q d s,uM t e u,iv f,iv g,iv i] 63),(some A,blk [iv 0,iv 0,iv 0,iv 0,iv 0,iv 0,iv 0,uE []] 25),(some aE,blk [iv j.1,iv j.2.1,uE j.2.2.1] 35),(some aF,blk [iv k.1,iv k.2.1,uE k.2.2.1] 35)]∧F115j5 b d e f g i a N=some r) ?_ ?_))))))))))))))))))))
   ·
    refine ifN F (fun aG F=>?_) (fun aG F=>?_)
    ·
     rw [(Bool.eq_false_iff.2 aG)]
     refine ifE F (fun aH F=>?_) (fun aH F=>?_)
     ·
      rw [aH]
      refine rgn (by rfl) (pu3 bF bT bT (by kernel_rfl) (sf 2 (by rfl) (pu2 bT bT (by rfl) (sf 5 (by rfl) (pu bT (by rfl) (aa (.inl ⟨rfl,⟨(uK rfl),I.pk [3,2,1,0] rfl,F⟩⟩)))))))
     rw [(Bool.eq_false_iff.2 aH)]
     refine rgn (by rfl) (pu3 bF bT bT (by kernel_rfl) (sf 2 (by rfl) (pu2 bT bT (by rfl) (sf 5 (by rfl) (pu bT (by rfl) (aa (.inl ⟨rfl,⟨(uK rfl),I.pk [3,2,1,0] rfl,F⟩⟩)))))))
    rw [aG]
    refine ifN F (fun aI F=>?_) (fun aI F=>?_)
    ·
     rw [(Bool.eq_false_iff.2 aI)]
     refine rgn (by rfl) (pu3 bT bF bF (by kernel_rfl) (pup bF (by rfl) (pup bT (by rfl) (pu2 bT bT (by rfl) (sf 5 (by rfl) (pu bT (by rfl) (aa (.inl ⟨rfl,⟨(uK rfl),I.pk [3,2,1,0] rfl,F⟩⟩))))))))
    rw [aI]
    refine rgn (by rfl) (pu3 bT bF bF (by kernel_rfl) (pup bT (by rfl) (pup bF (by rfl) (pu2 bF bF (by rfl) (pup (uF aE 1) (by rfl) (aw (by rfl) (ag I 1 (iv j.2.1) zi3 rfl rfl rfl (pup (uF aF 1) (by rfl) (aw (by rfl) (ag I 0 (iv k.2.1) zi3 rfl rfl rfl (ifN F (fun aJ F=>?_) (fun aJ F=>?_))))))))))))
    ·
     refine aw (by rfl) (de rfl rfl (fun _=>?_) (uP aJ))
     refine pu bT (by rfl) (aa (.inl ⟨rfl,⟨(uK rfl),I.pk [3,2,1,0] rfl,F⟩⟩))
    refine aw (by kernel_rfl) (de rfl rfl (uO aJ) (fun _=>pu bF (by kernel_rfl) (aa (.inr (ai rfl (ak (uL (by kernel_rfl) (pu3 (iv 0) (iv 1) (.agg #[iv 0,iv 1]) (by kernel_rfl) (xm I 1 me mc rfl (xm I 0 me mc rfl (bt F (fun aZ b0 F=>ph (bg I 95 _ _ (by kernel_rfl) (L95 _ 0 1 (⟨j.1,j.2.1,j.2.2.1⟩:Sp3) (⟨k.1,k.2.1,k.2.2.1⟩:Sp3) N _ b0) fun w I=>bt F (fun b1 b2 F=>?_))))))))))))))
    obtain ⟨M,O,P,Q,R,S,T,U,V⟩:=b1
    refine ph (bg I 16 _ _ (by kernel_rfl) (L16 _ aZ N _ b2) fun w I=>pu3 (.tuple #[.agg #[iv M,iv O,iv P,iv Q,iv R,iv S,iv T,uE U],iv V]) (.agg #[iv M,iv O,iv P,iv Q,iv R,iv S,iv T,uE U]) (iv V) (by kernel_rfl) (ph (bh I _ zeroValue25 rfl fun bI w I=>xi I 0 _ md rfl fun w I=>pu (iv V) (by kernel_rfl) (aa (uL (by kernel_rfl) (xm I 0 mh md rfl (pu (iv V) (by kernel_rfl) (ifE F (fun aK F=>?_) (fun aK F=>?_)))))))))
    ·
     refine xe rfl (fun _=>?_) (uO aK)
     refine xi I 3 _ md rfl fun w I=>pu bT (by rfl) (aa (aj ?_))
     cases F
     exact ⟨_,Ret.ct rfl rfl (ce I 3 8 [iv M,iv O,iv P,iv Q,iv R,iv S,iv T,uE U] mh md rfl rfl rfl) rfl,⟨rfl,I.below⟩⟩
    refine xe rfl (uP aK) (fun _=>xi I 3 _ md rfl fun w I=>pu bF (by rfl) (aa (aj ?_)))
    cases F
    exact ⟨_,Ret.ct rfl rfl (ce I 3 8 [iv M,iv O,iv P,iv Q,iv R,iv S,iv T,uE U] mh md rfl rfl rfl) rfl,⟨rfl,I.below⟩⟩
   intro ρ w hJ
   obtain ⟨hag,I,F⟩:=hJ
   obtain ⟨ρ,rfl⟩:=hag.form
   unfold F115j5 at F
   refine ah rfl (bw (.inl ⟨rfl,⟨(uK rfl),I.pk [0,1] rfl,F⟩⟩))
  intro ρ w hJ
  obtain ⟨hag,I,F⟩:=hJ
  obtain ⟨ρ,rfl⟩:=hag.form
  unfold F115j2 at F
  refine rgn (by rfl) (pu3 (iv 1) (iv 2) (iv 2) (by kernel_rfl) (aa (⟨rfl,lh ?_⟩)))
  refine ab (uL (by rfl) (pu (iv 2) (by rfl) (xl rfl (fun _=>?_) (fun h=>absurd (by decide) h))))
  refine aa (ah rfl (ak (dn (fun ρ w=>cd ρ [(1,iv a),(2,pt z),(4,pt A),(6,iv 0),(7,iv 2)]∧Inv [] w0 w [(some z,blk [uM o b p,uM q d s,uM t e u,iv f,iv g,iv i] 63),(some A,blk [iv 0,iv 0,iv 0,iv 0,iv 0,iv 0,iv 0,uE []] 25)]∧F115j3 b d e f g i a N=some r) ?_ ?_)))
  ·
   refine au (uL (by kernel_rfl) (xm I 0 mt mi rfl (pu2 (iv 0) (iv a) (by kernel_rfl) (bt F (fun l b3 F=>ph (bg I 156 _ _ (by kernel_rfl) (L156 _ o p b q s d t u e f g i 0 a (B.inv0 I) C D (E.inv0 I) G H (J.inv0 I) K L N _ b3) fun w I=>pu3 (.tuple #[.agg #[iv l.1,iv l.2.1,uE l.2.2.1],.bool l.2.2.2]) (.agg #[iv l.1,iv l.2.1,uE l.2.2.1]) (.bool l.2.2.2) (by kernel_rfl) (ph (bh I _ zeroValue35 rfl fun aL w I=>xi I 0 _ mc rfl fun w I=>pu (.bool l.2.2.2) (by kernel_rfl) (aa (uL (by kernel_rfl) (xm I 1 mt mi rfl (pu2 (iv 2) (iv a) (by kernel_rfl) (bt F (fun m b4 F=>ph (bg I 156 _ _ (by kernel_rfl) (L156 _ o p b q s d t u e f g i 2 a (B.inv0 I) C D (E.inv0 I) G H (J.inv0 I) K L N _ b4) fun w I=>pu3 (.tuple #[.agg #[iv m.1,iv m.2.1,uE m.2.2.1],.bool m.2.2.2]) (.agg #[iv m.1,iv m.2.1,uE m.2.2.1]) (.bool m.2.2.2) (by kernel_rfl) (ph (bh I _ zeroValue35 rfl fun aM w I=>xi I 0 _ mc rfl fun w I=>pu (.bool m.2.2.2) (by kernel_rfl) (aa (ab (dn (fun ρ w=>cd ρ [(1,iv a),(2,pt z),(4,pt A),(6,iv 0),(7,iv 2),(8,pt aL),(10,pt aM),(50,bT)]∧Inv [] w0 w [(some z,blk [uM o b p,uM q d s,uM t e u,iv f,iv g,iv i] 63),(some A,blk [iv 0,iv 0,iv 0,iv 0,iv 0,iv 0,iv 0,uE []] 25),(some aL,blk [iv l.1,iv l.2.1,uE l.2.2.1] 35),(some aM,blk [iv m.1,iv m.2.1,uE m.2.2.1] 35)]∧F115j4 b d e f g i a N=some r) ?_ ?_))))))))))))))))))))
   ·
    refine ifN F (fun aN F=>?_) (fun aN F=>?_)
    ·
     rw [(Bool.eq_false_iff.2 aN)]
     refine ifE F (fun aO F=>?_) (fun aO F=>?_)
     ·
      rw [aO]
      refine rgn (by rfl) (pu3 bF bT bT (by kernel_rfl) (sf 2 (by rfl) (pu2 bT bT (by rfl) (sf 5 (by rfl) (pu bT (by rfl) (aa (.inl ⟨rfl,⟨(uK rfl),I.pk [2,3,1,0] rfl,F⟩⟩)))))))
     rw [(Bool.eq_false_iff.2 aO)]
     refine rgn (by rfl) (pu3 bF bT bT (by kernel_rfl) (sf 2 (by rfl) (pu2 bT bT (by rfl) (sf 5 (by rfl) (pu bT (by rfl) (aa (.inl ⟨rfl,⟨(uK rfl),I.pk [2,3,1,0] rfl,F⟩⟩)))))))
    rw [aN]
    refine ifN F (fun aP F=>?_) (fun aP F=>?_)
    ·
     rw [(Bool.eq_false_iff.2 aP)]
     refine rgn (by rfl) (pu3 bT bF bF (by kernel_rfl) (pup bF (by rfl) (pup bT (by rfl) (pu2 bT bT (by rfl) (sf 5 (by rfl) (pu bT (by rfl) (aa (.inl ⟨rfl,⟨(uK rfl),I.pk [2,3,1,0] rfl,F⟩⟩))))))))
    rw [aP]
    refine rgn (by rfl) (pu3 bT bF bF (by kernel_rfl) (pup bT (by rfl) (pup bF (by rfl) (pu2 bF bF (by rfl) (pup (uF aL 1) (by rfl) (aw (by rfl) (ag I 1 (iv l.2.1) zi3 rfl rfl rfl (pup (uF aM 1) (by rfl) (aw (by rfl) (ag I 0 (iv m.2.1) zi3 rfl rfl rfl (ifN F (fun aQ F=>?_) (fun aQ F=>?_))))))))))))
    ·
     refine aw (by rfl) (de rfl rfl (fun _=>?_) (uP aQ))
     refine pu bT (by rfl) (aa (.inl ⟨rfl,⟨(uK rfl),I.pk [2,3,1,0] rfl,F⟩⟩))
    refine aw (by kernel_rfl) (de rfl rfl (uO aQ) (fun _=>pu bF (by kernel_rfl) (aa (.inr (ai rfl (ak (uL (by kernel_rfl) (pu3 (iv 0) (iv 2) (.agg #[iv 0,iv 2]) (by kernel_rfl) (xm I 1 me mc rfl (xm I 0 me mc rfl (bt F (fun b5 b6 F=>ph (bg I 95 _ _ (by kernel_rfl) (L95 _ 0 2 (⟨l.1,l.2.1,l.2.2.1⟩:Sp3) (⟨m.1,m.2.1,m.2.2.1⟩:Sp3) N _ b6) fun w I=>bt F (fun b7 b8 F=>?_))))))))))))))
    obtain ⟨W,X,Y,Z,a0,a1,a2,a3,a4⟩:=b7
    refine ph (bg I 16 _ _ (by kernel_rfl) (L16 _ b5 N _ b8) fun w I=>pu3 (.tuple #[.agg #[iv W,iv X,iv Y,iv Z,iv a0,iv a1,iv a2,uE a3],iv a4]) (.agg #[iv W,iv X,iv Y,iv Z,iv a0,iv a1,iv a2,uE a3]) (iv a4) (by kernel_rfl) (ph (bh I _ zeroValue25 rfl fun bJ w I=>xi I 0 _ md rfl fun w I=>pu (iv a4) (by kernel_rfl) (aa (uL (by kernel_rfl) (xm I 0 mh md rfl (pu (iv a4) (by kernel_rfl) (ifE F (fun aR F=>?_) (fun aR F=>?_)))))))))
    ·
     refine xe rfl (fun _=>?_) (uO aR)
     refine xi I 4 _ md rfl fun w I=>pu bT (by rfl) (aa (aj ?_))
     cases F
     exact ⟨_,Ret.ct rfl rfl (ce I 4 8 [iv W,iv X,iv Y,iv Z,iv a0,iv a1,iv a2,uE a3] mh md rfl rfl rfl) rfl,⟨rfl,I.below⟩⟩
    refine xe rfl (uP aR) (fun _=>xi I 4 _ md rfl fun w I=>pu bF (by rfl) (aa (aj ?_)))
    cases F
    exact ⟨_,Ret.ct rfl rfl (ce I 4 8 [iv W,iv X,iv Y,iv Z,iv a0,iv a1,iv a2,uE a3] mh md rfl rfl rfl) rfl,⟨rfl,I.below⟩⟩
   intro ρ w hJ
   obtain ⟨hag,I,F⟩:=hJ
   obtain ⟨ρ,rfl⟩:=hag.form
   unfold F115j4 at F
   refine ah rfl (bw (.inl ⟨rfl,⟨(uK rfl),I.pk [0,1] rfl,F⟩⟩))
  intro ρ w hJ
  obtain ⟨hag,I,F⟩:=hJ
  obtain ⟨ρ,rfl⟩:=hag.form
  unfold F115j3 at F
  refine rgn (by rfl) (pu3 (iv 2) (iv 3) (iv 3) (by kernel_rfl) (aa (⟨rfl,lh ?_⟩)))
  refine ab (uL (by rfl) (pu (iv 3) (by rfl) (xl rfl (fun h=>absurd h (by decide)) (fun _=>aa (ai rfl (bw (.inl ⟨rfl,⟨(uK rfl),I.pk [0,1] rfl,F⟩⟩)))))))
 intro ρ w hJ
 obtain ⟨hag,I,F⟩:=hJ
 obtain ⟨ρ,rfl⟩:=hag.form
 unfold F115j1 at F
 refine rgn (by rfl) (pu3 (iv 0) (iv 1) (iv 1) (by kernel_rfl) (aa (⟨rfl,lh ?_⟩)))
 refine ab (uL (by rfl) (pu (iv 1) (by rfl) (xl rfl (fun _=>?_) (fun h=>absurd (by decide) h))))
 refine aa (ah rfl (ak (ab (au (uL (by rfl) (pu3 (iv 1) (iv 2) (iv 2) (by kernel_rfl) (aa (au (jx 2 (lh (ab (uL (by rfl) (pu (iv 2) (by rfl) (xl rfl (fun _=>?_) (fun h=>absurd (by decide) h)))))))))))))))
 refine aa (ah rfl (ak (ab (au (uL (by kernel_rfl) (xm I 0 mt mi rfl (pu2 (iv 1) (iv a) (by kernel_rfl) (bt F (fun x b9 F=>ph (bg I 156 _ _ (by kernel_rfl) (L156 _ o p b q s d t u e f g i 1 a (B.inv0 I) C D (E.inv0 I) G H (J.inv0 I) K L N _ b9) fun w I=>pu3 (.tuple #[.agg #[iv x.1,iv x.2.1,uE x.2.2.1],.bool x.2.2.2]) (.agg #[iv x.1,iv x.2.1,uE x.2.2.1]) (.bool x.2.2.2) (by kernel_rfl) (ph (bh I _ zeroValue35 rfl fun bA w I=>xi I 0 _ mc rfl fun w I=>pu (.bool x.2.2.2) (by kernel_rfl) (aa (uL (by kernel_rfl) (xm I 1 mt mi rfl (pu2 (iv 2) (iv a) (by kernel_rfl) (bt F (fun y bB F=>ph (bg I 156 _ _ (by kernel_rfl) (L156 _ o p b q s d t u e f g i 2 a (B.inv0 I) C D (E.inv0 I) G H (J.inv0 I) K L N _ bB) fun w I=>pu3 (.tuple #[.agg #[iv y.1,iv y.2.1,uE y.2.2.1],.bool y.2.2.2]) (.agg #[iv y.1,iv y.2.1,uE y.2.2.1]) (.bool y.2.2.2) (by kernel_rfl) (ph (bh I _ zeroValue35 rfl fun bC w I=>xi I 0 _ mc rfl fun w I=>pu (.bool y.2.2.2) (by kernel_rfl) (aa (ab (ab (ifN F (fun aS F=>?_) (fun aS F=>?_))))))))))))))))))))))))))
 ·
  rw [(Bool.eq_false_iff.2 aS)]
  refine ifE F (fun aT F=>?_) (fun aT F=>?_)
  ·
   rw [aT]
   refine rgn (by rfl) (pu3 bF bT bT (by kernel_rfl) (sf 2 (by rfl) (pu2 bT bT (by rfl) (sf 5 (by rfl) (pu bT (by rfl) (aa (ah rfl (bw (rgn (by rfl) (pu3 (iv 2) (iv 3) (iv 3) (by kernel_rfl) (aa (⟨rfl,lh ?_⟩))))))))))))
   refine ab (uL (by rfl) (pu (iv 3) (by rfl) (xl rfl (fun h=>absurd h (by decide)) (fun _=>aa (ai rfl (bw (rgn (by rfl) (pu3 (iv 1) (iv 2) (iv 2) (by kernel_rfl) (aa (⟨rfl,lh ?_⟩))))))))))
   refine ab (uL (by rfl) (pu (iv 2) (by rfl) (xl rfl (fun _=>?_) (fun h=>absurd (by decide) h))))
   refine aa (ah rfl (ak (ab (au (uL (by rfl) (pu3 (iv 2) (iv 3) (iv 3) (by kernel_rfl) (aa (au (jx 1 (lh (ab (uL (by rfl) (pu (iv 3) (by rfl) (xl rfl (fun h=>absurd h (by decide)) (fun _=>aa (ai rfl (bw (rgn (by rfl) (pu3 (iv 2) (iv 3) (iv 3) (by kernel_rfl) (aa (⟨rfl,lh ?_⟩)))))))))))))))))))))
   refine ab (uL (by rfl) (pu (iv 3) (by rfl) (xl rfl (fun h=>absurd h (by decide)) (fun _=>aa (ai rfl (bw (uL (by rfl) (pu (.agg #[iv 0,iv 0,iv 0,iv 0,iv 0,iv 0,iv 0,uE []]) (by kernel_rfl) (xi I 3 _ md rfl fun w I=>pu bF (by rfl) (aa (aj ?_)))))))))))
   cases F
   exact ⟨_,Ret.ct rfl rfl (ce I 3 8 [iv 0,iv 0,iv 0,iv 0,iv 0,iv 0,iv 0,uE []] mh md rfl rfl rfl) rfl,⟨rfl,I.below⟩⟩
  rw [(Bool.eq_false_iff.2 aT)]
  refine rgn (by rfl) (pu3 bF bT bT (by kernel_rfl) (sf 2 (by rfl) (pu2 bT bT (by rfl) (sf 5 (by rfl) (pu bT (by rfl) (aa (ah rfl (bw (rgn (by rfl) (pu3 (iv 2) (iv 3) (iv 3) (by kernel_rfl) (aa (⟨rfl,lh ?_⟩))))))))))))
  refine ab (uL (by rfl) (pu (iv 3) (by rfl) (xl rfl (fun h=>absurd h (by decide)) (fun _=>aa (ai rfl (bw (rgn (by rfl) (pu3 (iv 1) (iv 2) (iv 2) (by kernel_rfl) (aa (⟨rfl,lh ?_⟩))))))))))
  refine ab (uL (by rfl) (pu (iv 2) (by rfl) (xl rfl (fun _=>?_) (fun h=>absurd (by decide) h))))
  refine aa (ah rfl (ak (ab (au (uL (by rfl) (pu3 (iv 2) (iv 3) (iv 3) (by kernel_rfl) (aa (au (jx 1 (lh (ab (uL (by rfl) (pu (iv 3) (by rfl) (xl rfl (fun h=>absurd h (by decide)) (fun _=>aa (ai rfl (bw (rgn (by rfl) (pu3 (iv 2) (iv 3) (iv 3) (by kernel_rfl) (aa (⟨rfl,lh ?_⟩)))))))))))))))))))))
  refine ab (uL (by rfl) (pu (iv 3) (by rfl) (xl rfl (fun h=>absurd h (by decide)) (fun _=>aa (ai rfl (bw (uL (by rfl) (pu (.agg #[iv 0,iv 0,iv 0,iv 0,iv 0,iv 0,iv 0,uE []]) (by kernel_rfl) (xi I 3 _ md rfl fun w I=>pu bF (by rfl) (aa (aj ?_)))))))))))
  cases F
  exact ⟨_,Ret.ct rfl rfl (ce I 3 8 [iv 0,iv 0,iv 0,iv 0,iv 0,iv 0,iv 0,uE []] mh md rfl rfl rfl) rfl,⟨rfl,I.below⟩⟩

 rw [aS]
 refine ifN F (fun aU F=>?_) (fun aU F=>?_)
 ·
  rw [(Bool.eq_false_iff.2 aU)]
  refine rgn (by rfl) (pu3 bT bF bF (by kernel_rfl) (pup bF (by rfl) (pup bT (by rfl) (pu2 bT bT (by rfl) (sf 5 (by rfl) (pu bT (by rfl) (aa (ah rfl (bw (rgn (by rfl) (pu3 (iv 2) (iv 3) (iv 3) (by kernel_rfl) (aa (⟨rfl,lh ?_⟩)))))))))))))
  refine ab (uL (by rfl) (pu (iv 3) (by rfl) (xl rfl (fun h=>absurd h (by decide)) (fun _=>aa (ai rfl (bw (rgn (by rfl) (pu3 (iv 1) (iv 2) (iv 2) (by kernel_rfl) (aa (⟨rfl,lh ?_⟩))))))))))
  refine ab (uL (by rfl) (pu (iv 2) (by rfl) (xl rfl (fun _=>?_) (fun h=>absurd (by decide) h))))
  refine aa (ah rfl (ak (ab (au (uL (by rfl) (pu3 (iv 2) (iv 3) (iv 3) (by kernel_rfl) (aa (au (jx 1 (lh (ab (uL (by rfl) (pu (iv 3) (by rfl) (xl rfl (fun h=>absurd h (by decide)) (fun _=>aa (ai rfl (bw (rgn (by rfl) (pu3 (iv 2) (iv 3) (iv 3) (by kernel_rfl) (aa (⟨rfl,lh ?_⟩)))))))))))))))))))))
  refine ab (uL (by rfl) (pu (iv 3) (by rfl) (xl rfl (fun h=>absurd h (by decide)) (fun _=>aa (ai rfl (bw (uL (by rfl) (pu (.agg #[iv 0,iv 0,iv 0,iv 0,iv 0,iv 0,iv 0,uE []]) (by kernel_rfl) (xi I 3 _ md rfl fun w I=>pu bF (by rfl) (aa (aj ?_)))))))))))
  cases F
  exact ⟨_,Ret.ct rfl rfl (ce I 3 8 [iv 0,iv 0,iv 0,iv 0,iv 0,iv 0,iv 0,uE []] mh md rfl rfl rfl) rfl,⟨rfl,I.below⟩⟩
 rw [aU]
 refine rgn (by rfl) (pu3 bT bF bF (by kernel_rfl) (pup bT (by rfl) (pup bF (by rfl) (pu2 bF bF (by rfl) (pup (uF bA 1) (by rfl) (aw (by rfl) (ag I 1 (iv x.2.1) zi3 rfl rfl rfl (pup (uF bC 1) (by rfl) (aw (by rfl) (ag I 0 (iv y.2.1) zi3 rfl rfl rfl (ifN F (fun aV F=>?_) (fun aV F=>?_))))))))))))
 ·
  refine aw (by rfl) (de rfl rfl (fun _=>?_) (uP aV))
  refine pu bT (by rfl) (aa (ah rfl (bw (rgn (by rfl) (pu3 (iv 2) (iv 3) (iv 3) (by kernel_rfl) (aa (⟨rfl,lh ?_⟩)))))))
  refine ab (uL (by rfl) (pu (iv 3) (by rfl) (xl rfl (fun h=>absurd h (by decide)) (fun _=>aa (ai rfl (bw (rgn (by rfl) (pu3 (iv 1) (iv 2) (iv 2) (by kernel_rfl) (aa (⟨rfl,lh ?_⟩))))))))))
  refine ab (uL (by rfl) (pu (iv 2) (by rfl) (xl rfl (fun _=>?_) (fun h=>absurd (by decide) h))))
  refine aa (ah rfl (ak (ab (au (uL (by rfl) (pu3 (iv 2) (iv 3) (iv 3) (by kernel_rfl) (aa (au (jx 1 (lh (ab (uL (by rfl) (pu (iv 3) (by rfl) (xl rfl (fun h=>absurd h (by decide)) (fun _=>aa (ai rfl (bw (rgn (by rfl) (pu3 (iv 2) (iv 3) (iv 3) (by kernel_rfl) (aa (⟨rfl,lh ?_⟩)))))))))))))))))))))
  refine ab (uL (by rfl) (pu (iv 3) (by rfl) (xl rfl (fun h=>absurd h (by decide)) (fun _=>aa (ai rfl (bw (uL (by rfl) (pu (.agg #[iv 0,iv 0,iv 0,iv 0,iv 0,iv 0,iv 0,uE []]) (by kernel_rfl) (xi I 3 _ md rfl fun w I=>pu bF (by rfl) (aa (aj ?_)))))))))))
  cases F
  exact ⟨_,Ret.ct rfl rfl (ce I 3 8 [iv 0,iv 0,iv 0,iv 0,iv 0,iv 0,iv 0,uE []] mh md rfl rfl rfl) rfl,⟨rfl,I.below⟩⟩
 refine aw (by kernel_rfl) (de rfl rfl (uO aV) (fun _=>pu bF (by kernel_rfl) (aa (ai rfl (ak (uL (by kernel_rfl) (pu3 (iv 1) (iv 2) (.agg #[iv 1,iv 2]) (by kernel_rfl) (xm I 1 me mc rfl (xm I 0 me mc rfl (bt F (fun bD bE F=>ph (bg I 95 _ _ (by kernel_rfl) (L95 _ 1 2 (⟨x.1,x.2.1,x.2.2.1⟩:Sp3) (⟨y.1,y.2.1,y.2.2.1⟩:Sp3) N _ bE) fun w I=>bt F (fun bG bH F=>?_)))))))))))))
 obtain ⟨a5,a6,a7,a8,a9,aA,aB,aC,aD⟩:=bG
 refine ph (bg I 16 _ _ (by kernel_rfl) (L16 _ bD N _ bH) fun w I=>pu3 (.tuple #[.agg #[iv a5,iv a6,iv a7,iv a8,iv a9,iv aA,iv aB,uE aC],iv aD]) (.agg #[iv a5,iv a6,iv a7,iv a8,iv a9,iv aA,iv aB,uE aC]) (iv aD) (by kernel_rfl) (ph (bh I _ zeroValue25 rfl fun bK w I=>xi I 0 _ md rfl fun w I=>pu (iv aD) (by kernel_rfl) (aa (uL (by kernel_rfl) (xm I 0 mh md rfl (pu (iv aD) (by kernel_rfl) (ifE F (fun aW F=>?_) (fun aW F=>?_)))))))))
 ·
  refine xe rfl (fun _=>?_) (uO aW)
  refine xi I 4 _ md rfl fun w I=>pu bT (by rfl) (aa (aj ?_))
  cases F
  exact ⟨_,Ret.ct rfl rfl (ce I 4 8 [iv a5,iv a6,iv a7,iv a8,iv a9,iv aA,iv aB,uE aC] mh md rfl rfl rfl) rfl,⟨rfl,I.below⟩⟩
 refine xe rfl (uP aW) (fun _=>xi I 4 _ md rfl fun w I=>pu bF (by rfl) (aa (aj ?_)))
 cases F
 exact ⟨_,Ret.ct rfl rfl (ce I 4 8 [iv a5,iv a6,iv a7,iv a8,iv a9,iv aA,iv aB,uE aC] mh md rfl rfl rfl) rfl,⟨rfl,I.below⟩⟩
set_option maxHeartbeats 8000000 in
theorem L41 (w0:World) (O:Option Addr) (P:Nat) (t:List Sp3) (Q:Option Addr) (R:Nat) (x:List Sp3) (S:Option Addr) (T:Nat) (y:List Sp3) (H:Int) (J:Int) (K:Int) (aE:bi w0 O (al bb t)) (aF:t.length≤9223372036854775807) (aG:t.length≤P) (aH:bi w0 Q (al bb x)) (aI:x.length≤9223372036854775807) (aJ:x.length≤R) (aK:bi w0 S (al bb y)) (aL:y.length≤9223372036854775807) (aM:y.length≤T) (N:Nat) (r:(List Sp3 × List Sp3 × List Sp3 × Int × Int × Int × List Rc)) (F:F41 N t x y H J K=some r):bn Tryz.prog 41 [.agg #[uM O t P,uM Q x R,uM S y T,iv H,iv J,iv K]] w0 fun v w=>∃ z0 z1 z2 z3 z4 z5 z6 z7 z8 z9 a9 aA,v=.agg #[uN z0 r.1 z1,uN z3 r.2.1 z4,uN z6 r.2.2.1 z7,iv r.2.2.2.1,iv r.2.2.2.2.1,iv r.2.2.2.2.2.1,uN z9 r.2.2.2.2.2.2 a9]∧Inv [] w0 w [(z0,blk z2 35),(z3,blk z5 35),(z6,blk z8 35),(z9,blk aA 25)]∧Row 3 z0 r.1.length z1 z2 (al bb r.1)∧Row 3 z3 r.2.1.length z4 z5 (al bb r.2.1)∧Row 3 z6 r.2.2.1.length z7 z8 (al bb r.2.2.1)∧Row 8 z9 r.2.2.2.2.2.2.length a9 aA (al eRc r.2.2.2.2.2.2):=by
 refine az (n:=33) func41 rfl ntmps41 rfl ?_
 have I:=Inv.start w0
 unfold F41 at F
 refine uL (by rfl) (ph (ca I _ rfl fun U w I=>ph (bh I _ zeroValue68 rfl fun L w I=>aa (uL (by rfl) (pu uD (by rfl) (aa (dn (fun ρ w=>∃ (B E V:_) (C:List Rc),cd ρ [(2,pt L),(3,uN B C E)]∧Inv [] w0 w [(some L,blk [uD,uD,uD,iv 0,iv 0,iv 0,uD] 68),(B,blk V 25)]∧(Row 8 B (C.length) E V (al eRc C))∧F41j1 N C=some r) ?_ ?_)))))))
 ·
  refine uL (by rfl) (pu (iv 0) (by rfl) (aa (au ?_)))
  have I:=I.nilRow 25
  refine cb (fun m ρ w=>∃ (d D M:_) (a:List Rc) (A mm:_),cd ρ [(1,pt U),(2,pt L),(3,uN d a D),(4,iv A)]∧Inv [] w0 w [(some U,blk [uM O t P,uM Q x R,uM S y T,iv H,iv J,iv K] 63),(some L,blk [uD,uD,uD,iv 0,iv 0,iv 0,uD] 68),(d,blk M 25)]∧(Row 8 d (a.length) D M (al eRc a))∧F41l2 t x y H J K N mm a A=some r∧mm=m) (m:=N) ⟨none,0,[],[],0,N,(uK rfl),I.pk [2,1,0] rfl,(Row.nil_ 8),F,rfl⟩ ?_
  rintro m ρ w ⟨d,D,M,a,A,mm,hag,I,G,F,hm⟩
  subst hm; obtain ⟨ρ,rfl⟩:=hag.form
  obtain _ | m2:=mm
  ·cases (show (none:Option (List Sp3 × List Sp3 × List Sp3 × Int × Int × Int × List Rc))=some r from F)
  replace F:F41b2 t x y H J K N (F41l2 t x y H J K N m2) a A=some r:=F; unfold F41b2 at F
  refine ab (uL (by rfl) (pu (iv A) (by rfl) (ifN F (fun Y F=>?_) (fun Y F=>?_))))
  ·
   refine xl rfl (uP Y) (fun _=>aa (ai rfl (bw (.inl ⟨rfl,⟨d,D,M,a,⟨rfl,rfl,trivial⟩,I.pk [1,2] rfl,(G.to rfl rfl),F⟩⟩))))
  refine xl rfl (fun _=>?_) (uO Y)
  refine aa (ah rfl (ak (ab (au (uL (by rfl) (xm I 0 mt mi rfl (pu (iv A) (by rfl) (bt F (fun aN aO F=>?_)))))))))
  obtain ⟨e,f,g,i,l,o,p,q,W⟩:=aN
  refine ph (bg I 115 _ _ (by kernel_rfl) (L115 _ O P t Q R x S T y H J K A (aE.inv0 I) aF aG (aH.inv0 I) aI aJ (aK.inv0 I) aL aM N _ aO) fun w I=>pu3 (.tuple #[.agg #[iv e,iv f,iv g,iv i,iv l,iv o,iv p,uE q],.bool W]) (.agg #[iv e,iv f,iv g,iv i,iv l,iv o,iv p,uE q]) (.bool W) (by kernel_rfl) (ph (bh I _ zeroValue25 rfl fun aB w I=>xi I 0 _ md rfl fun w I=>pu (.bool W) (by kernel_rfl) (aa (ab (dn (fun ρ w=>cd ρ [(1,pt U),(2,pt L),(3,uN d a D),(4,iv A),(5,pt aB),(24,bT)]∧Inv [] w0 w [(some U,blk [uM O t P,uM Q x R,uM S y T,iv H,iv J,iv K] 63),(some L,blk [uD,uD,uD,iv 0,iv 0,iv 0,uD] 68),(d,blk M 25),(some aB,blk [iv e,iv f,iv g,iv i,iv l,iv o,iv p,uE q] 25)]∧F41j3 N a=some r) ?_ ?_))))))
  ·
   have hG:=F; rcases Bool.eq_false_or_eq_true W with rfl | rfl
   ·
    have F:=hG; clear hG
    refine ifE F (fun _ F=>?_) (uO rfl)
    refine rgn (by rfl) (pu3 bT bF bF (by kernel_rfl) (pup (uN d a D) (by rfl) (aw (by rfl) (ma I 0 mh md rfl rfl rfl (bt F (fun aX aC F=>ifN F (fun Z F=>?_) (fun Z F=>?_)))))))
    ·
     refine aw (by kernel_rfl) (bg I 116 _ _ (by kernel_rfl) (bn.mono (L116 _ (uG d) D a (⟨e,f,g,i,l,o,p,q⟩:Rc) (I.rowCells 3 rfl G) (am rfl G.big) (am rfl G.cap) N _ aC) (uH (Bool.eq_false_iff.2 Z))) fun w I=>pup bT (by kernel_rfl) (pu bT (by kernel_rfl) (aa (.inl ⟨rfl,⟨(uK rfl),I.pk [1,2,3,0] rfl,F⟩⟩))))
    refine aw (by kernel_rfl) (bg I 116 _ _ (by kernel_rfl) (bn.mono (L116 _ (uG d) D a (⟨e,f,g,i,l,o,p,q⟩:Rc) (I.rowCells 3 rfl G) (am rfl G.big) (am rfl G.cap) N _ aC) (uH Z)) fun w I=>pup bF (by kernel_rfl) (pu bF (by kernel_rfl) (aa (.inr (ai rfl (ak (rgn (by kernel_rfl) (pu (uN d a D) (by kernel_rfl) (xm I 0 mh md rfl (ph (fu I [iv e,iv f,iv g,iv i,iv l,iv o,iv p,uE q] 25 (fun b=>slv (some b) 1 1) (by kernel_rfl) fun aY w I=>gdE F (fun aZ F=>ph (xk I xf 4 G (⟨e,f,g,i,l,o,p,q⟩:Rc) 0 rfl (by omega) ?_)))))))))))))
    intro a0 a1 aD w I a2
    refine pu (slv a0 ((a++[(⟨e,f,g,i,l,o,p,q⟩:Rc)]).length) a1) (by rfl) (aa (rgn (by rfl) (pu (iv A) (by rfl) (ckE F (fun aP F=>xa rfl aP (pu (iv (A+1)) (by rfl) (aa (⟨rfl,m2,Nat.lt_succ_self _,⟨a0,a1,aD,a++[(⟨e,f,g,i,l,o,p,q⟩:Rc)],A+1,m2,(uK rfl),I.pk [2,3,4] rfl,(a2.to rfl rfl),F,rfl⟩⟩))))))))
   have F:=hG; clear hG
   refine ifE F (fun h=>absurd h (by decide)) (fun _ F=>rgn (by rfl) (pu3 bF bT bT (by kernel_rfl) (sf 4 (by rfl) (pu bT (by rfl) (aa (.inl ⟨rfl,⟨(uK rfl),I.pk [1,2,3,0] rfl,F⟩⟩))))))
  intro ρ w hJ
  obtain ⟨hag,I,F⟩:=hJ
  obtain ⟨ρ,rfl⟩:=hag.form
  unfold F41j3 at F
  refine ah rfl (bw (.inl ⟨rfl,⟨d,D,M,a,⟨rfl,rfl,trivial⟩,I.pk [1,2] rfl,(G.to rfl rfl),F⟩⟩))
 intro ρ w hJ
 obtain ⟨B,E,V,C,hag,I,X,F⟩:=hJ
 obtain ⟨ρ,rfl⟩:=hag.form
 unfold F41j1 at F
 refine uL (by kernel_rfl) (pu (uN B C E) (by kernel_rfl) (bt F (fun s aQ F=>ph (co 117 _ (by kernel_rfl) (L117 _ (uG B) E C (I.rowCells 1 rfl X) (am rfl X.big) (am rfl X.cap) N _ aQ) ?_))))
 rintro v w ⟨a3,a4,aR,a5,a6,aS,a7,a8,aT,rfl,hN,aU,aV,aW⟩
 have I:=I.join hN; clear hN
 refine pu2 (uN B C E) (.agg #[uN a3 s.1 a4,uN a5 s.2.1 a6,uN a7 s.2.2.1 a8,iv s.2.2.2.1,iv s.2.2.2.2.1,iv s.2.2.2.2.2,uN B C E]) (by kernel_rfl) (xi I 3 _ zs68 rfl fun w I=>aa (aj ?_))
 cases F
 exact ⟨_,Ret.c rfl rfl (ce I 3 7 [uN a3 s.1 a4,uN a5 s.2.1 a6,uN a7 s.2.2.1 a8,iv s.2.2.2.1,iv s.2.2.2.2.1,iv s.2.2.2.2.2,uN B C E] zi68 zs68 rfl rfl rfl),⟨a3,a4,aR,a5,a6,aS,a7,a8,aT,B,E,V,rfl,I.pk [0,1,2,4] rfl,aU.to rfl rfl,aV.to rfl rfl,aW.to rfl rfl,X.to rfl rfl⟩⟩

set_option maxHeartbeats 8000000 in
theorem L42 (w0:World) (k:Option Addr) (l:Nat) (a:List Sp3) (m:Option Addr) (o:Nat) (e:List Sp3) (p:Option Addr) (q:Nat) (f:List Sp3) (A:Int) (B:Int) (C:Int) (s:Option Addr) (t:Nat) (g:List Sp3) (u:Option Addr) (x:Nat) (i:List Sp3) (y:Option Addr) (z:Nat) (j:List Sp3) (D:Int) (E:Int) (G:Int) (P:bi w0 k (al bb a)) (Q:a.length≤9223372036854775807) (R:a.length≤l) (S:bi w0 m (al bb e)) (T:e.length≤9223372036854775807) (U:e.length≤o) (V:bi w0 p (al bb f)) (W:f.length≤9223372036854775807) (X:f.length≤q) (Y:bi w0 s (al bb g)) (Z:g.length≤9223372036854775807) (a0:g.length≤t) (a1:bi w0 u (al bb i)) (a2:i.length≤9223372036854775807) (a3:i.length≤x) (a4:bi w0 y (al bb j)) (a5:j.length≤9223372036854775807) (a6:j.length≤z) (N:Nat) (r:Bool) (F:F42 N a e f A B C g i j D E G=some r):bn Tryz.prog 42 [.agg #[uM k a l,uM m e o,uM p f q,iv A,iv B,iv C],.agg #[uM s g t,uM u i x,uM y j z,iv D,iv E,iv G]] w0 fun v w=>v=.bool r∧Below w0.heap.size w0 w:=by
 refine az (n:=25) func42 rfl ntmps42 rfl ?_
 have I:=Inv.start w0
 unfold F42 at F
 refine uL rfl (ph (ca I _ rfl fun H w I=>ph (ca I _ rfl fun J w I=>pu bF rfl (aa (ab (uL rfl (pu (uF H 3) rfl (xr I 1 3 [iv A,iv B,iv C] zi61 zs61 rfl (pu (uF J 3) rfl (xr I 0 3 [iv D,iv E,iv G] zi61 zs61 rfl (ifN F (fun K F=>?_) (fun K F=>?_))))))))))))
 ·
  refine ph (lg (b:=decide (([A,B,C]:List Int)=[D,E,G])) rfl rfl rfl (run_eqInts (d:=9998) (xs:=[A,B,C]) (ys:=[D,E,G]) zu61 zs3 zu3 zi3 rfl rfl) (fun _=>?_) (uP K))
  refine aa (ah rfl (uL rfl (pu bF rfl (aa (aj ?_)))))
  cases F
  exact uJ I rfl

 refine ph (lg (b:=decide (([A,B,C]:List Int)=[D,E,G])) rfl rfl rfl (run_eqInts (d:=9998) (xs:=[A,B,C]) (ys:=[D,E,G]) zu61 zs3 zu3 zi3 rfl rfl) (uO K) (fun _=>aa (ai rfl (ak (ab (uL rfl (pu (iv 0) rfl (aa (au (jx 4 (lh (ab (uL rfl (pu (iv 0) rfl (xl rfl (fun _=>?_) (fun h=>absurd (by decide) h))))))))))))))))
 refine aa (ah rfl (ak (ab (au (ab (gm 10 I (by kernel_rfl) (zB (iv 0) (pt H) rfl (zP (pt H) rfl (zg 1 (uM k a l) mq rfl (zB (iv 0) (pt J) rfl (zP (pt J) rfl (zg 0 (uM s g t) mq rfl (bt F (fun aA a7 F=>ifN F (fun L F=>?_) (fun L F=>?_)))))))))))))))
 ·
  refine zc bF (fun w I=>co 24 [uM k a l,uM s g t] (by kernel_rfl) (bn.mono (L24 _ k l a s t g (P.inv0 I) Q R (Y.inv0 I) Z a0 N _ a7) (uH (Bool.eq_false_iff.2 L))) uI) (zP bT rfl (zh (fun w I=>aa (ah rfl (uL rfl (pu bF rfl (aa (aj ?_))))))))
  cases F
  exact uJ I rfl
 refine zc bT (fun w I=>co 24 [uM k a l,uM s g t] (by kernel_rfl) (bn.mono (L24 _ k l a s t g (P.inv0 I) Q R (Y.inv0 I) Z a0 N _ a7) (uH L)) uI) (zP bF rfl (zh (fun w I=>aa (ai rfl (ak (rgn rfl (pu3 (iv 0) (iv 1) (iv 1) (by kernel_rfl) (aa (⟨rfl,lh ?_⟩)))))))))
 refine ab (uL rfl (pu (iv 1) rfl (xl rfl (fun _=>?_) (fun h=>absurd (by decide) h))))
 refine aa (ah rfl (ak (ab (au (ab (gm 10 I (by kernel_rfl) (zB (iv 1) (pt H) rfl (zP (uF H 1) rfl (zg 1 (uM m e o) mq rfl (zB (iv 1) (pt J) rfl (zP (uF J 1) rfl (zg 0 (uM u i x) mq rfl (bt F (fun aB a8 F=>ifN F (fun M F=>?_) (fun M F=>?_)))))))))))))))
 ·
  refine zc bF (fun w I=>co 24 [uM m e o,uM u i x] (by kernel_rfl) (bn.mono (L24 _ m o e u x i (S.inv0 I) T U (a1.inv0 I) a2 a3 N _ a8) (uH (Bool.eq_false_iff.2 M))) uI) (zP bT rfl (zh (fun w I=>aa (ah rfl (uL rfl (pu bF rfl (aa (aj ?_))))))))
  cases F
  exact uJ I rfl
 refine zc bT (fun w I=>co 24 [uM m e o,uM u i x] (by kernel_rfl) (bn.mono (L24 _ m o e u x i (S.inv0 I) T U (a1.inv0 I) a2 a3 N _ a8) (uH M)) uI) (zP bF rfl (zh (fun w I=>aa (ai rfl (ak (rgn rfl (pu3 (iv 1) (iv 2) (iv 2) (by kernel_rfl) (aa (⟨rfl,lh ?_⟩)))))))))
 refine ab (uL rfl (pu (iv 2) rfl (xl rfl (fun _=>?_) (fun h=>absurd (by decide) h))))
 refine aa (ah rfl (ak (ab (au (ab (gm 10 I (by kernel_rfl) (zB (iv 2) (pt H) rfl (zP (uF H 2) rfl (zg 1 (uM p f q) mq rfl (zB (iv 2) (pt J) rfl (zP (uF J 2) rfl (zg 0 (uM y j z) mq rfl (bt F (fun aC a9 F=>ifN F (fun O F=>?_) (fun O F=>?_)))))))))))))))
 ·
  refine zc bF (fun w I=>co 24 [uM p f q,uM y j z] (by kernel_rfl) (bn.mono (L24 _ p q f y z j (V.inv0 I) W X (a4.inv0 I) a5 a6 N _ a9) (uH (Bool.eq_false_iff.2 O))) uI) (zP bT rfl (zh (fun w I=>aa (ah rfl (uL rfl (pu bF rfl (aa (aj ?_))))))))
  cases F
  exact uJ I rfl
 refine zc bT (fun w I=>co 24 [uM p f q,uM y j z] (by kernel_rfl) (bn.mono (L24 _ p q f y z j (V.inv0 I) W X (a4.inv0 I) a5 a6 N _ a9) (uH O)) uI) (zP bF rfl (zh (fun w I=>aa (ai rfl (ak (rgn rfl (pu3 (iv 2) (iv 3) (iv 3) (by kernel_rfl) (aa (⟨rfl,lh ?_⟩)))))))))
 refine ab (uL rfl (pu (iv 3) rfl (xl rfl (fun h=>absurd h (by decide)) (fun _=>aa (ai rfl (bw (uL rfl (pu bT rfl (aa (aj ?_))))))))))
 cases F
 exact uJ I rfl
set_option maxHeartbeats 8000000 in
theorem L44 (w0:World) (e:Option Addr) (f:Nat) (a:List Sp3) (g:Option Addr) (i:Nat) (b:List Sp3) (j:Option Addr) (k:Nat) (d:List Sp3) (l:Int) (m:Int) (o:Int) (p:bi w0 e (al bb a)) (q:a.length≤9223372036854775807) (s:a.length≤f) (t:bi w0 g (al bb b)) (u:b.length≤9223372036854775807) (x:b.length≤i) (y:bi w0 j (al bb d)) (z:d.length≤9223372036854775807) (A:d.length≤k) (r:(Int × Int × Int)) (F:F44 a b d l m o=some r):bn Tryz.prog 44 [.agg #[uM e a f,uM g b i,uM j d k,iv l,iv m,iv o]] w0 fun v w=>v=.agg #[uM e a f,uM g b i,uM j d k,iv r.1,iv r.2.1,iv r.2.2]∧Below w0.heap.size w0 w:=by
 refine az (n:=17) func44 rfl ntmps44 rfl ?_
 have I:=Inv.start w0
 unfold F44 at F
 refine uL rfl (ph (ca I _ rfl fun b3 w I=>ph (bh I _ zeroValue63 rfl fun b4 w I=>aa (ab (uL rfl (pu (iv 0) rfl (aa (au (jx 4 (lh (ab (uL rfl (pu (iv 0) rfl (xl rfl (fun _=>?_) (fun h=>absurd (by decide) h)))))))))))))))
 refine aa (ah rfl (ak (ab (au (rgn rfl (pu3 (iv 0) (iv 0) (pt b3) (by kernel_rfl) (pu (pt b3) rfl (xg I 1 (uM e a f) mq rfl (pu3 (iv ((a.length:Nat):Int)) (uF b3 3) (uF b3 3) (by kernel_rfl) (xq I 1 1 [iv (a.length:Int)] zs3 rfl (mx rfl) fun w I=>aa (rgn rfl (pu3 (iv 0) (iv 1) (iv 1) (by kernel_rfl) (aa (⟨rfl,lh ?_⟩))))))))))))))
 refine ab (uL rfl (pu (iv 1) rfl (xl rfl (fun _=>?_) (fun h=>absurd (by decide) h))))
 refine aa (ah rfl (ak (ab (au (rgn rfl (pu3 (iv 1) (iv 1) (pt b3) (by kernel_rfl) (pu (uF b3 1) rfl (xg I 1 (uM g b i) mq rfl (pu3 (iv ((b.length:Nat):Int)) (uF b3 3) (uF b3 4) (by kernel_rfl) (xq I 1 1 [iv (b.length:Int)] zs3 rfl (mx rfl) fun w I=>aa (rgn rfl (pu3 (iv 1) (iv 2) (iv 2) (by kernel_rfl) (aa (⟨rfl,lh ?_⟩))))))))))))))
 refine ab (uL rfl (pu (iv 2) rfl (xl rfl (fun _=>?_) (fun h=>absurd (by decide) h))))
 refine aa (ah rfl (ak (ab (au (rgn rfl (pu3 (iv 2) (iv 2) (pt b3) (by kernel_rfl) (pu (uF b3 2) rfl (xg I 1 (uM j d k) mq rfl (pu3 (iv ((d.length:Nat):Int)) (uF b3 3) (uF b3 5) (by kernel_rfl) (xq I 1 1 [iv (d.length:Int)] zs3 rfl (mx rfl) fun w I=>aa (rgn rfl (pu3 (iv 2) (iv 3) (iv 3) (by kernel_rfl) (aa (⟨rfl,lh ?_⟩))))))))))))))
 refine ab (uL rfl (pu (iv 3) rfl (xl rfl (fun h=>absurd h (by decide)) (fun _=>aa (ai rfl (bw (uL rfl (xm I 1 mt mi rfl (xi I 0 _ mi rfl fun w I=>aa (aj ?_))))))))))
 cases F
 exact ⟨_,Ret.c rfl rfl (ce I 0 6 [uM e a f,uM g b i,uM j d k,iv (a.length:Int),iv (b.length:Int),iv (d.length:Int)] mt mi rfl rfl rfl),⟨rfl,I.below⟩⟩


theorem L63 (w0:World) (b:Int) (a:Int) (r:Int) (F:F63 b a=some r):bn Tryz.prog 63 [iv b,iv a] w0 fun v w=>v=iv r∧Below w0.heap.size w0 w:=by
 refine az (n:=12) func63 rfl ntmps63 rfl ?_
 have I:=Inv.start w0
 unfold F63 at F
 refine uL rfl (pu (iv 0) rfl (aa (uL rfl (pu2 (iv b) (iv a) rfl (gdE F (fun h3 F=>ph (s_rem rfl rfl h3 (pu (iv a) rfl (ckE F (fun h4 F=>xa rfl h4 (pu (iv a) rfl (ph (s_rem rfl rfl h3 (pu (iv (((b.tmod a)+a).tmod a)) rfl (aa (aj ?_))))))))))))))))
 cases F
 exact uJ I rfl


theorem L124 (w0:World) (b:Option Addr) (d:Nat) (a:List Int) (e:Int) (j:bi w0 b (al eInt a)) (s:a.length≤9223372036854775807) (t:a.length≤d) (r:Int) (F:F124 a e=some r):bn Tryz.prog 124 [uM b a d,iv e] w0 fun v w=>v=iv r∧Below w0.heap.size w0 w:=by
 refine az (n:=15) func124 rfl ntmps124 rfl ?_
 have I:=Inv.start w0
 unfold F124 at F
 refine uL rfl (pu (iv 0) rfl (aa (ab (uL rfl (pu2 (uM b a d) (iv ((a.length:Nat):Int)) (by kernel_rfl) (ifE F (fun f F=>?_) (fun f F=>?_)))))))
 ·
  refine xe rfl (fun _=>?_) (uO f)
  refine aa (ah rfl (uL rfl (pu (iv 0) rfl (aa (aj ?_)))))
  cases F
  exact uJ I rfl
 refine xe rfl (uP f) (fun _=>aa (ai rfl (ak (uL (by kernel_rfl) (pu3 (uM b a d) (iv e) (uM b a d) (by kernel_rfl) (pu (iv ((a.length:Nat):Int)) (by kernel_rfl) (bt F (fun k l F=>ph (bg I 63 _ _ (by kernel_rfl) (L63 _ e (a.length:Int) _ l) fun w I=>gdE F (fun m F=>bt F (fun g i F=>?_)))))))))))
 obtain ⟨u,x,o,p,q⟩:=j.at_ cy (by decide) i
 refine ph (cn (k).toNat zu64 zs3 rfl o rfl (Int.toNat_of_nonneg m).symm (fa i rfl) (ph (dj I (iv g) zi3 rfl p (by simp) (q 0 _ rfl) (pu (iv g) rfl (aa (aj ?_))))))
 cases F
 exact uJ I rfl


end Go.K
