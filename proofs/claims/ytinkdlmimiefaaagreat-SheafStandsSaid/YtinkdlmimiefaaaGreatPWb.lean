import Derived.Test.YtinkdlmimiefaaaGreatPWa
namespace Go.K
open Go.Proofs.Tryz
open Go.Proofs Go.RowKit
set_option linter.unusedVariables false
set_option linter.unusedSimpArgs false
set_option maxRecDepth 100000
attribute [local irreducible] Seq cw cx fl opX
theorem L99 (w0:World) (k:Int) (l:Int) (m:Option Addr) (o:Nat) (a:List Ld) (p:Option Addr) (q:Nat) (d:List Ld) (s:Option Addr) (t:Nat) (e:List Sp) (u:Int) (B:Int) (x:Int) (G:bi w0 m (al eLd a)) (H:a.length≤9223372036854775807) (I:a.length≤o) (J:bi w0 p (al eLd d)) (K:d.length≤9223372036854775807) (L:d.length≤q) (M:bi w0 s (al eSp e)) (O:e.length≤9223372036854775807) (P:e.length≤t) (N:Nat) (r:(List Ld × List Rg × Int)) (hF:F99 N k l a d e u B x=some r):bn Tryz.prog 99 [.agg #[.int .i64 k,.int .i64 l,.slice m a.length o,.slice p d.length q,.slice s e.length t,.int .i64 u],.int .i64 B,.int .i64 x] w0 fun v w=>∃ (z0:Option Nat) (z1:Nat) (z2:List Value) (z3:Option Nat) (z4:Nat) (z5:List Value),v=.tuple #[.agg #[slv z0 r.1.length z1,slv z3 r.2.1.length z4],.int .i64 r.2.2]∧Inv [] w0 w [(z0,blk z2 30),(z3,blk z5 23)]∧Row 6 z0 r.1.length z1 z2 (al eLd r.1)∧Row 2 z3 r.2.1.length z4 z5 (al eRg r.2.1):=by
 refine az (n:=31) func99 rfl ntmps99 rfl ?_
 have hI:=Inv.start w0
 unfold F99 at hF
 refine ab (rgn rfl (ac (ca hI [iv k,iv l,.slice m a.length o,.slice p d.length q,.slice s e.length t,iv u] rfl fun Y w hI=>ac (bh hI [.slice none 0 0,.slice none 0 0] zeroValue132 rfl fun Z w hI=>pu (iv 0) rfl (aa (ab (rgn rfl (ac (ar hI 1 6 [iv k,iv l,.slice m a.length o,.slice p d.length q,.slice s e.length t,iv u] isAgg28 sizeOf28 rfl rfl rfl rfl ?_)))))))))
 refine pu (iv B) rfl (pu (iv x) rfl (bt hF (fun A S hF=>?_)))
 refine ac (bg hI 88 [.agg #[iv k,iv l,.slice m a.length o,.slice p d.length q,.slice s e.length t,iv u],iv B,iv x] (iv A) (by kernel_rfl) (L88 _ k l m o a p q d s t e u B x (G.inv0 hI) H I (J.inv0 hI) K L (M.inv0 hI) O P N _ S) fun w hI=>pu (iv A) rfl (aa (ab (ab (rgn rfl (pu (iv A) rfl (ifE hF (fun D hF=>?_) (fun D hF=>?_))))))))
 ·
  refine ac (de rfl rfl (fun h=>absurd D h) (fun _=>?_))
  refine aa (ai rfl (ak (ab (rgn rfl (ac (ar hI 1 6 [iv k,iv l,.slice m a.length o,.slice p d.length q,.slice s e.length t,iv u] isAgg28 sizeOf28 rfl rfl rfl rfl ?_))))))
  refine pu (iv x) rfl (pu (.agg #[.bool true,.slice none 0 0]) (by kernel_rfl) (bt hF (fun f T hF=>?_)))
  refine ac (co 109 [.agg #[iv k,iv l,.slice m a.length o,.slice p d.length q,.slice s e.length t,iv u],iv x,.agg #[.bool true,.slice none 0 0]] (by kernel_rfl) (L109 _ k l m o a p q d s t e u x true none 0 [] (G.inv0 hI) H I (J.inv0 hI) K L (M.inv0 hI) O P bi.nil0 (by decide) (Nat.le_refl _) N _ T) ?_)
  rintro v w ⟨g,i,U,Q,R,a0,rfl,hN,C,E⟩
  have hI:=hI.join hN; clear hN
  refine bt hF (fun j V hF=>?_)
  refine ac (co 120 [.agg #[slv g f.1.length i,slv Q f.2.length R]] (by kernel_rfl) (L120 _ (g.map fun b=>⟨b,0,none⟩) i f.1 (Q.map fun b=>⟨b,0,none⟩) R f.2 (hI.rowCells 0 rfl C) (am rfl C.big) (am rfl C.cap) (hI.rowCells 1 rfl E) (am rfl E.big) (am rfl E.cap) N _ V) ?_)
  rintro v w ⟨y,z,W,rfl,hN,X⟩
  have hI:=hI.join hN; clear hN
  refine pu (.tuple #[.agg #[slv g f.1.length i,slv y j.1.length z],.bool j.2]) rfl (pu (.agg #[slv g f.1.length i,slv y j.1.length z]) rfl (pu (.bool j.2) rfl (ac (bh hI [.slice none 0 0,.slice none 0 0] zeroValue132 rfl fun a1 w hI=>ac (aq hI 0 2 [slv g f.1.length i,slv y j.1.length z] sizeOf132 rfl rfl rfl rfl rfl (Nat.le_of_ble_eq_true rfl) fun w hI=>pu (.bool j.2) rfl (aa (ab (ab (ifE hF (fun F hF=>?_) (fun F hF=>?_))))))))))
  ·
   rw [F]
   refine rgn rfl (pu (.bool true) rfl (pu (.bool false) rfl (aa (ai rfl (ak (ab (rgn rfl (ac (ar hI 0 2 [slv g f.1.length i,slv y j.1.length z] isAgg132 sizeOf132 rfl rfl rfl rfl ?_)))))))))
   refine ac (aq hI 4 2 [slv g f.1.length i,slv y j.1.length z] sizeOf132 rfl rfl rfl rfl rfl (Nat.le_of_ble_eq_true rfl) fun w hI=>pu (iv 0) rfl (aa (aj ?_)))
   replace hF:=Option.some.inj hF; subst hF
   exact ⟨.tuple #[.agg #[slv g f.1.length i,slv y j.1.length z],iv 0],Ret.ct rfl rfl (ce hI 4 2 [slv g f.1.length i,slv y j.1.length z] isAgg132 sizeOf132 rfl rfl rfl) rfl,⟨g,i,U,y,z,W,rfl,hI.pk [2,1] rfl rfl,C.to rfl rfl,X.to rfl rfl⟩⟩
  rw [(Bool.eq_false_iff.2 F)]
  refine rgn rfl (pu (.bool false) rfl (pu (.bool true) rfl (aa (ah rfl (ab (rgn rfl (pu (.agg #[.slice none 0 0,.slice none 0 0]) (by kernel_rfl) (ac (aq hI 4 2 [.slice none 0 0,.slice none 0 0] sizeOf132 rfl rfl rfl rfl rfl (Nat.le_of_ble_eq_true rfl) fun w hI=>pu (iv 14) rfl (aa (aj ?_)))))))))))
  have hI:=hI.nilRow 30
  have hI:=hI.nilRow 23
  replace hF:=Option.some.inj hF; subst hF
  exact ⟨.tuple #[.agg #[.slice none 0 0,.slice none 0 0],iv 14],Ret.ct rfl rfl (ce hI 6 2 [.slice none 0 0,.slice none 0 0] isAgg132 sizeOf132 rfl rfl rfl) rfl,⟨none,0,[],none,0,[],rfl,hI.pk [1,0] rfl rfl,Row.nil_ 6,Row.nil_ 2⟩⟩
 refine ac (de rfl rfl (fun _=>?_) (fun h=>absurd h D))
 refine aa (ah rfl (ab (rgn rfl (pu (.agg #[.slice none 0 0,.slice none 0 0]) (by kernel_rfl) (pu (iv A) rfl (ac (aq hI 0 2 [.slice none 0 0,.slice none 0 0] sizeOf132 rfl rfl rfl rfl rfl (Nat.le_of_ble_eq_true rfl) fun w hI=>pu (iv A) rfl (aa (aj ?_)))))))))
 have hI:=hI.nilRow 30
 have hI:=hI.nilRow 23
 replace hF:=Option.some.inj hF; subst hF
 exact ⟨.tuple #[.agg #[.slice none 0 0,.slice none 0 0],iv A],Ret.ct rfl rfl (ce hI 2 2 [.slice none 0 0,.slice none 0 0] isAgg132 sizeOf132 rfl rfl rfl) rfl,⟨none,0,[],none,0,[],rfl,hI.pk [1,0] rfl rfl,Row.nil_ 6,Row.nil_ 2⟩⟩


theorem L37 (w0:World) (o:Int) (p:Int) (q:Option Addr) (s:Nat) (e:List Ld) (t:Option Addr) (u:Nat) (f:List Ld) (x:Option Addr) (y:Nat) (g:List Sp) (z:Int) (k:Int) (A:Int) (G:bi w0 q (al eLd e)) (H:e.length≤9223372036854775807) (I:e.length≤s) (J:bi w0 t (al eLd f)) (K:f.length≤9223372036854775807) (L:f.length≤u) (M:bi w0 x (al eSp g)) (O:g.length≤9223372036854775807) (P:g.length≤y) (N:Nat) (r:(Int × Int × Int)) (hF:F37 N o p e f g z k A=some r):bn Tryz.prog 37 [.agg #[.int .i64 o,.int .i64 p,.slice q e.length s,.slice t f.length u,.slice x g.length y,.int .i64 z],.int .i64 k,.int .i64 A] w0 fun v w=>v=.tuple #[.agg #[.int .i64 r.1,.int .i64 r.2.1],.int .i64 r.2.2]∧Below w0.heap.size w0 w:=by
 refine az (n:=28) func37 rfl ntmps37 rfl ?_
 have hI:=Inv.start w0
 unfold F37 at hF
 refine ab (rgn rfl (ac (ca hI [iv o,iv p,.slice q e.length s,.slice t f.length u,.slice x g.length y,iv z] rfl fun W w hI=>ac (bh hI [iv 0,iv 0] zeroValue23 rfl fun X w hI=>pu (iv 0) rfl (aa (ab (rgn rfl (ac (ar hI 1 6 [iv o,iv p,.slice q e.length s,.slice t f.length u,.slice x g.length y,iv z] isAgg28 sizeOf28 rfl rfl rfl rfl ?_)))))))))
 refine pu (iv k) rfl (pu (iv A) rfl (bt hF (fun a Q hF=>?_)))
 refine ac (co 99 [.agg #[iv o,iv p,.slice q e.length s,.slice t f.length u,.slice x g.length y,iv z],iv k,iv A] (by kernel_rfl) (L99 _ o p q s e t u f x y g z k A (G.inv0 hI) H I (J.inv0 hI) K L (M.inv0 hI) O P N _ Q) ?_)
 rintro v w ⟨l,m,Y,i,j,Z,rfl,hN,C,B⟩
 have hI:=hI.join hN; clear hN
 refine pu (.tuple #[.agg #[slv l a.1.length m,slv i a.2.1.length j],iv a.2.2]) rfl (pu (.agg #[slv l a.1.length m,slv i a.2.1.length j]) rfl (pu (iv a.2.2) rfl (ac (bh hI [.slice none 0 0,.slice none 0 0] zeroValue132 rfl fun R w hI=>ac (aq hI 0 2 [slv l a.1.length m,slv i a.2.1.length j] sizeOf132 rfl rfl rfl rfl rfl (Nat.le_of_ble_eq_true rfl) fun w hI=>pu (iv a.2.2) rfl (aa (ab (ab (rgn rfl (pu (iv a.2.2) rfl (ifE hF (fun D hF=>?_) (fun D hF=>?_))))))))))))
 ·
  refine ac (de rfl rfl (fun h=>absurd D h) (fun _=>?_))
  refine aa (ai rfl (ak (ab (gm 7 hI (by kernel_rfl) ?_))))
  refine zp (.pointer (some ⟨R,1,none⟩)) (fun _=>rfl) (zc (slv i a.2.1.length j) (fun w hI=>ag hI 0 (slv i a.2.1.length j) isAgg130 rfl rfl rfl br) (zc (.agg #[slv l a.1.length m,slv i a.2.1.length j]) (fun w hI=>ar hI 0 2 [slv l a.1.length m,slv i a.2.1.length j] isAgg132 sizeOf132 rfl rfl rfl rfl br) (zp (iv k) (fun _=>rfl) (bt hF (fun E S hF=>?_)))))
  refine zc (iv E) (fun w hI=>co 100 [.agg #[slv l a.1.length m,slv i a.2.1.length j],iv k] (by kernel_rfl) (L100 _ (l.map fun b=>⟨b,0,none⟩) m a.1 (i.map fun b=>⟨b,0,none⟩) j a.2.1 k (hI.rowCells 1 rfl C) (am rfl C.big) (am rfl C.cap) (hI.rowCells 2 rfl B) (am rfl B.big) (am rfl B.cap) N _ S) (fun v' w' h=>h)) (gdE hF (fun T hF=>?_))
  refine bt hF (fun d F hF=>?_)
  obtain ⟨U,rfl,V⟩:=B.at_ da (by decide) F
  refine zc (.pointer (some ⟨U,(E).toNat * 2,none⟩)) (fun w hI=>be (E).toNat underlying130 sizeOf23 rfl rfl (Int.toNat_of_nonneg T).symm (fa F rfl) br) (zc (.agg #[iv d.lo,iv d.hi]) (fun w hI=>cq hI 2 [iv d.lo,iv d.hi] isAgg23 sizeOf23 rfl rfl rfl V br) (zh (fun w hI=>?_)))
  refine ac (aq hI 3 2 [iv d.lo,iv d.hi] sizeOf23 rfl rfl rfl rfl rfl (Nat.le_of_ble_eq_true rfl) fun w hI=>pu (iv 0) rfl (aa (aj ?_)))
  replace hF:=Option.some.inj hF; subst hF
  exact ⟨.tuple #[.agg #[iv d.lo,iv d.hi],iv 0],Ret.ct rfl rfl (ce hI 3 2 [iv d.lo,iv d.hi] isAgg23 sizeOf23 rfl rfl rfl) rfl,⟨rfl,hI.below⟩⟩
 refine ac (de rfl rfl (fun _=>?_) (fun h=>absurd h D))
 refine aa (ah rfl (ab (rgn rfl (pu (.agg #[iv 0,iv 0]) (by kernel_rfl) (pu (iv a.2.2) rfl (ac (aq hI 3 2 [iv 0,iv 0] sizeOf23 rfl rfl rfl rfl rfl (Nat.le_of_ble_eq_true rfl) fun w hI=>pu (iv a.2.2) rfl (aa (aj ?_)))))))))
 replace hF:=Option.some.inj hF; subst hF
 exact ⟨.tuple #[.agg #[iv 0,iv 0],iv a.2.2],Ret.ct rfl rfl (ce hI 3 2 [iv 0,iv 0] isAgg23 sizeOf23 rfl rfl rfl) rfl,⟨rfl,hI.below⟩⟩


theorem L39 (w0:World) (g:Int) (i:Int) (q:Option Addr) (s:Nat) (b:List Ld) (t:Option Addr) (u:Nat) (d:List Ld) (x:Option Addr) (y:Nat) (e:List Sp) (k:Int) (D:Int) (l:Int) (X:bi w0 q (al eLd b)) (Y:b.length≤9223372036854775807) (Z:b.length≤s) (a0:bi w0 t (al eLd d)) (a1:d.length≤9223372036854775807) (a2:d.length≤u) (a3:bi w0 x (al eSp e)) (a4:e.length≤9223372036854775807) (a5:e.length≤y) (N:Nat) (r:(Int × Int × Int)) (hF:F39 N g i b d e k D l=some r):bn Tryz.prog 39 [.agg #[.int .i64 g,.int .i64 i,.slice q b.length s,.slice t d.length u,.slice x e.length y,.int .i64 k],.int .i64 D,.int .i64 l] w0 fun v w=>v=.tuple #[.agg #[.int .i64 r.1,.int .i64 r.2.1],.int .i64 r.2.2]∧Below w0.heap.size w0 w:=by
 refine az (n:=86) func39 rfl ntmps39 rfl ?_
 have hI:=Inv.start w0
 unfold F39 at hF
 refine ab (rgn rfl (ac (ca hI [iv g,iv i,.slice q b.length s,.slice t d.length u,.slice x e.length y,iv k] rfl fun I w hI=>ac (bh hI [iv 0,iv 0] zeroValue23 rfl fun J w hI=>pu (iv 0) rfl (aa (ab (rgn rfl (ac (ar hI 1 6 [iv g,iv i,.slice q b.length s,.slice t d.length u,.slice x e.length y,iv k] isAgg28 sizeOf28 rfl rfl rfl rfl ?_)))))))))
 refine pu (iv l) rfl (bt hF (fun K aS hF=>?_))
 refine ac (bg hI 88 [.agg #[iv g,iv i,.slice q b.length s,.slice t d.length u,.slice x e.length y,iv k],iv 0,iv l] (iv K) (by kernel_rfl) (L88 _ g i q s b t u d x y e k 0 l (X.inv0 hI) Y Z (a0.inv0 hI) a1 a2 (a3.inv0 hI) a4 a5 N _ aS) fun w hI=>pu (iv K) rfl (aa (ab (ab (rgn rfl (pu (iv K) rfl (ifE hF (fun a6 hF=>?_) (fun a6 hF=>?_))))))))
 ·
  refine ac (de rfl rfl (fun h=>absurd a6 h) (fun _=>?_))
  refine aa (ai rfl (ak (ab (rgn rfl (ac (ar hI 1 6 [iv g,iv i,.slice q b.length s,.slice t d.length u,.slice x e.length y,iv k] isAgg28 sizeOf28 rfl rfl rfl rfl ?_))))))
  refine pu (iv l) rfl (bt hF (fun o aT hF=>?_))
  refine ac (co 104 [.agg #[iv g,iv i,.slice q b.length s,.slice t d.length u,.slice x e.length y,iv k],iv l] (by kernel_rfl) (L104 _ g i q s b t u d x y e k l (X.inv0 hI) Y Z (a0.inv0 hI) a1 a2 (a3.inv0 hI) a4 a5 N _ aT) ?_)
  rintro v w ⟨aI,aJ,aU,rfl,hN,aV⟩
  have hI:=hI.join hN; clear hN
  refine pu (slv aI o.length aJ) rfl (aa (ab (rgn rfl (pu (iv (-1)) rfl (aa (dn (fun ρ w=>∃ (O:Option Nat) (R:Nat) (a7:List Value) (a:Int),cd ρ [(2,iv l),(3,.pointer (some ⟨I,0,none⟩)),(6,.pointer (some ⟨J,0,none⟩)),(9,slv O o.length R),(10,iv a)]∧Inv [] w0 w [(some I,blk [iv g,iv i,.slice q b.length s,.slice t d.length u,.slice x e.length y,iv k] 28),(some J,blk [iv 0,iv 0] 23),(O,blk a7 30)]∧(Row 6 O (o.length) R a7 (al eLd o))∧F39j1 g i b d e k l N o a=some r) ?_ ?_))))))
  ·
   refine ab (rgn rfl (pu (iv 0) rfl (aa (au ?_))))
   refine cb (fun m ρ w=>∃ (H:Option Nat) (E:Nat) (L:List Value) (M:Int) (p:Int) (mm:Nat),cd ρ [(1,iv D),(2,iv l),(3,.pointer (some ⟨I,0,none⟩)),(6,.pointer (some ⟨J,0,none⟩)),(9,slv H o.length E),(10,iv M),(11,iv p)]∧Inv [] w0 w [(some I,blk [iv g,iv i,.slice q b.length s,.slice t d.length u,.slice x e.length y,iv k] 28),(some J,blk [iv 0,iv 0] 23),(H,blk L 30)]∧(Row 6 H (o.length) E L (al eLd o))∧F39l2 g i b d e k D l N o mm M p=some r∧mm=m) (m:=N) ⟨aI,aJ,aU,-1,0,N,⟨rfl,rfl,rfl,rfl,rfl,rfl,rfl,trivial⟩,hI.pk [2,1,0] rfl rfl,(aV.to rfl rfl),hF,rfl⟩ ?_
   rintro m ρ w ⟨H,E,L,M,p,mm,hag,hI,S,hF,hm⟩
   subst hm; obtain ⟨ρ,rfl⟩:=hag.form; clear hag
   obtain _ | m2:=mm
   ·cases (show (none:Option (Int × Int × Int))=some r from hF)
   replace hF:F39b2 g i b d e k D l N o (F39l2 g i b d e k D l N o m2) M p=some r:=hF; unfold F39b2 at hF
   refine ab (ab (rgn rfl (pu (iv p) rfl (pu (slv H o.length E) rfl (pu (iv ((o.length:Nat):Int)) (by kernel_rfl) (ifE hF (fun a8 hF=>?_) (fun a8 hF=>?_)))))))
   ·
    refine ac (cm rfl rfl (fun _=>?_) (fun h=>absurd a8 h))
    refine aa (ah rfl (ak (dn (fun ρ w=>∃ (P:Option Nat) (T:Nat) (U:List Value) (V:Int),cd ρ [(1,iv D),(2,iv l),(3,.pointer (some ⟨I,0,none⟩)),(6,.pointer (some ⟨J,0,none⟩)),(9,slv P o.length T),(10,iv V),(11,iv p)]∧Inv [] w0 w [(some I,blk [iv g,iv i,.slice q b.length s,.slice t d.length u,.slice x e.length y,iv k] 28),(some J,blk [iv 0,iv 0] 23),(P,blk U 30)]∧(Row 6 P (o.length) T U (al eLd o))∧F39j3 (F39l2 g i b d e k D l N o m2) p V=some r) ?_ ?_)))
    ·
     refine au ?_
     refine ab (rgn rfl (pu (slv H o.length E) rfl (pu (iv p) rfl (gdE hF (fun aW hF=>?_)))))
     refine bt hF (fun aX aK hF=>?_)
     obtain ⟨a9,rfl,aY⟩:=S.at_ bf (by decide) aK
     refine ac (be (p).toNat underlying24 sizeOf30 rfl rfl (Int.toNat_of_nonneg aW).symm (fa aK rfl) ?_)
     refine pu (.pointer (some ⟨a9,(p).toNat * 6,none⟩)) rfl (ac (db hI 2 (iv aX.src) isAgg3 rfl rfl (aY 0 _ rfl) ?_))
     refine pu (iv D) rfl (ifE hF (fun aA hF=>?_) (fun aA hF=>?_))
     ·
      refine ac (di rfl rfl (fun _=>?_) (fun h=>absurd aA h))
      refine aa (ah rfl (rgn rfl (pu (iv p) rfl (pu (iv p) rfl (aa ?_)))))
      exact .inl ⟨rfl,⟨some a9,E,L,p,⟨rfl,rfl,rfl,rfl,rfl,rfl,rfl,trivial⟩,hI.pk [0,1,2] rfl rfl,(S.to rfl rfl),hF⟩⟩
     refine ac (di rfl rfl (fun h=>absurd h aA) (fun _=>?_))
     refine aa (ai rfl (ak ?_))
     exact .inl ⟨rfl,⟨some a9,E,L,M,⟨rfl,rfl,rfl,rfl,rfl,rfl,rfl,trivial⟩,hI.pk [0,1,2] rfl rfl,(S.to rfl rfl),hF⟩⟩
    intro ρ w hJ
    obtain ⟨P,T,U,V,hag,hI,aZ,hF⟩:=hJ
    obtain ⟨ρ,rfl⟩:=hag.form; clear hag
    unfold F39j3 at hF
    refine rgn rfl (pu (iv p) rfl (ckE hF (fun b0 hF=>?_)))
    refine ac (cj rfl rfl b0 ?_)
    refine pu (iv (p+1)) rfl (aa ?_)
    exact ⟨rfl,m2,Nat.lt_succ_self _,⟨P,T,U,V,p+1,m2,⟨rfl,rfl,rfl,rfl,rfl,rfl,rfl,trivial⟩,hI.pk [0,1,2] rfl rfl,(aZ.to rfl rfl),hF,rfl⟩⟩
   refine ac (cm rfl rfl (fun h=>absurd h a8) (fun _=>?_))
   refine aa (ai rfl (bw ?_))
   exact .inl ⟨rfl,⟨H,E,L,M,⟨rfl,rfl,rfl,rfl,rfl,trivial⟩,hI.pk [0,1,2] rfl rfl,(S.to rfl rfl),hF⟩⟩
  intro ρ w hJ
  obtain ⟨O,R,a7,a,hag,hI,b1,hF⟩:=hJ
  obtain ⟨ρ,rfl⟩:=hag.form; clear hag
  unfold F39j1 at hF
  refine ab (ab (rgn rfl (pu (iv a) rfl (ifE hF (fun aB hF=>?_) (fun aB hF=>?_)))))
  ·
   refine ac (cm rfl rfl (fun _=>?_) (fun h=>absurd aB h))
   refine aa (ah rfl (ab (rgn rfl (pu (.agg #[iv 0,iv 0]) (by kernel_rfl) (ac (aq hI 1 2 [iv 0,iv 0] sizeOf23 rfl rfl rfl rfl rfl (Nat.le_of_ble_eq_true rfl) fun w hI=>pu (iv 17) rfl (aa (aj ?_))))))))
   replace hF:=Option.some.inj hF; subst hF
   exact ⟨.tuple #[.agg #[iv 0,iv 0],iv 17],Ret.ct rfl rfl (ce hI 1 2 [iv 0,iv 0] isAgg23 sizeOf23 rfl rfl rfl) rfl,⟨rfl,hI.below⟩⟩
  refine ac (cm rfl rfl (fun h=>absurd h aB) (fun _=>?_))
  refine aa (ai rfl (ak (ab (rgn rfl (ac (ar hI 0 6 [iv g,iv i,.slice q b.length s,.slice t d.length u,.slice x e.length y,iv k] isAgg28 sizeOf28 rfl rfl rfl rfl ?_))))))
  refine pu (iv l) rfl (bt hF (fun f b2 hF=>?_))
  refine ac (co 99 [.agg #[iv g,iv i,.slice q b.length s,.slice t d.length u,.slice x e.length y,iv k],iv 0,iv l] (by kernel_rfl) (L99 _ g i q s b t u d x y e k 0 l (X.inv0 hI) Y Z (a0.inv0 hI) a1 a2 (a3.inv0 hI) a4 a5 N _ b2) ?_)
  rintro v w ⟨aC,aD,b7,Q,C,b8,rfl,hN,b9,aL⟩
  have hI:=hI.join hN; clear hN
  refine pu (.tuple #[.agg #[slv aC f.1.length aD,slv Q f.2.1.length C],iv f.2.2]) rfl (pu (.agg #[slv aC f.1.length aD,slv Q f.2.1.length C]) rfl (pu (iv f.2.2) rfl (ac (bh hI [.slice none 0 0,.slice none 0 0] zeroValue132 rfl fun W w hI=>ac (aq hI 0 2 [slv aC f.1.length aD,slv Q f.2.1.length C] sizeOf132 rfl rfl rfl rfl rfl (Nat.le_of_ble_eq_true rfl) fun w hI=>pu (iv f.2.2) rfl (aa (ab (ab (rgn rfl (pu (iv f.2.2) rfl (ifE hF (fun aE hF=>?_) (fun aE hF=>?_))))))))))))
  ·
   refine ac (de rfl rfl (fun h=>absurd aE h) (fun _=>?_))
   refine aa (ai rfl (ak (ab (gm 35 hI (by kernel_rfl) ?_))))
   refine zp (slv O o.length R) (fun _=>rfl) (zp (iv a) (fun _=>rfl) (gdE hF (fun aF hF=>?_)))
   refine bt hF (fun F aM hF=>?_)
   obtain ⟨aN,rfl,b3⟩:=b1.at_ bf (by decide) aM
   refine zc (.pointer (some ⟨aN,(a).toNat * 6,none⟩)) (fun w hI=>be (a).toNat underlying24 sizeOf30 rfl rfl (Int.toNat_of_nonneg aF).symm (fa aM rfl) br) (zp (.pointer (some ⟨aN,(a).toNat * 6+2,none⟩)) (fun _=>rfl) (zc (.agg #[iv F.lo,iv F.hi]) (fun w hI=>cq hI 5 [iv F.lo,iv F.hi] isAgg23 sizeOf23 rfl rfl rfl (fun j v h=>by have:=part_of b3 2 2 rfl j v h; rwa [← Nat.add_assoc] at this) br) (zp (.pointer (some ⟨W,1,none⟩)) (fun _=>rfl) (zc (slv Q f.2.1.length C) (fun w hI=>ag hI 0 (slv Q f.2.1.length C) isAgg130 rfl rfl rfl br) (zp (iv a) (fun _=>rfl) (bt hF (fun A aG hF=>?_)))))))
   obtain ⟨z,rfl,aO⟩:=aL.at_ da (by decide) aG
   refine zc (.pointer (some ⟨z,(a).toNat * 2,none⟩)) (fun w hI=>be (a).toNat underlying130 sizeOf23 rfl rfl (Int.toNat_of_nonneg aF).symm (fa aG rfl) br) (zp (.pointer (some ⟨z,(a).toNat * 2,none⟩)) (fun _=>rfl) (zc (iv A.lo) (fun w hI=>db hI 2 (iv A.lo) isAgg3 rfl rfl (aO 0 _ rfl) br) (zp (.pointer (some ⟨W,1,none⟩)) (fun _=>rfl) (zc (slv (some z) f.2.1.length C) (fun w hI=>ag hI 0 (slv (some z) f.2.1.length C) isAgg130 rfl rfl rfl br) (zp (iv a) (fun _=>rfl) (ckE hF (fun aP hF=>?_)))))))
   refine zc (iv (a+1)) (fun w hI=>cj rfl rfl aP br) (gdE hF (fun aQ hF=>?_))
   refine bt hF (fun B aH hF=>?_)
   have aR:=aL.atS da (by decide) aH
   refine zc (.pointer (some ⟨z,((a+1).toNat) * 2,none⟩)) (fun w hI=>be ((a+1).toNat) underlying130 sizeOf23 rfl rfl (Int.toNat_of_nonneg aQ).symm (fa aH rfl) br) (zp (.pointer (some ⟨z,((a+1).toNat) * 2+1,none⟩)) (fun _=>rfl) (zc (iv B.hi) (fun w hI=>db hI 2 (iv B.hi) isAgg3 rfl rfl (aR 1 _ rfl) br) (ckE hF (fun b4 hF=>?_))))
   refine zc (iv (A.lo - B.hi)) (fun w hI=>dm rfl rfl b4 br) (zp (.pointer (some ⟨W,1,none⟩)) (fun _=>rfl) (zc (slv (some z) f.2.1.length C) (fun w hI=>ag hI 0 (slv (some z) f.2.1.length C) isAgg130 rfl rfl rfl br) (zp (iv a) (fun _=>rfl) (zc (.pointer (some ⟨z,(a).toNat * 2,none⟩)) (fun w hI=>be (a).toNat underlying130 sizeOf23 rfl rfl (Int.toNat_of_nonneg aF).symm (fa aG rfl) br) (zp (.pointer (some ⟨z,(a).toNat * 2+1,none⟩)) (fun _=>rfl) (zc (iv A.hi) (fun w hI=>db hI 2 (iv A.hi) isAgg3 rfl rfl (aO 1 _ rfl) br) (zp (.pointer (some ⟨W,1,none⟩)) (fun _=>rfl) (zc (slv (some z) f.2.1.length C) (fun w hI=>ag hI 0 (slv (some z) f.2.1.length C) isAgg130 rfl rfl rfl br) (zp (iv a) (fun _=>rfl) ?_)))))))))
   refine zc (iv (a+1)) (fun w hI=>cj rfl rfl aP br) (zc (.pointer (some ⟨z,((a+1).toNat) * 2,none⟩)) (fun w hI=>be ((a+1).toNat) underlying130 sizeOf23 rfl rfl (Int.toNat_of_nonneg aQ).symm (fa aH rfl) br) (zp (.pointer (some ⟨z,((a+1).toNat) * 2,none⟩)) (fun _=>rfl) (zc (iv B.lo) (fun w hI=>db hI 2 (iv B.lo) isAgg3 rfl rfl (aR 0 _ rfl) br) (ckE hF (fun b5 hF=>?_)))))
   refine zc (iv (A.hi - B.lo)) (fun w hI=>dm rfl rfl b5 br) (zp (.agg #[iv (A.lo - B.hi),iv (A.hi - B.lo)]) (fun _=>(by kernel_rfl)) (bt hF (fun G b6 hF=>?_)))
   refine zc (.agg #[iv G.1,iv G.2]) (fun w hI=>co 105 [.agg #[iv F.lo,iv F.hi],.agg #[iv (A.lo - B.hi),iv (A.hi - B.lo)]] (by kernel_rfl) (L105 _ (⟨F.lo,F.hi⟩:Rg) (⟨A.lo - B.hi,A.hi - B.lo⟩:Rg) _ b6) (fun v' w' h=>h)) (zh (fun w hI=>?_))
   refine ac (aq hI 4 2 [iv G.1,iv G.2] sizeOf23 rfl rfl rfl rfl rfl (Nat.le_of_ble_eq_true rfl) fun w hI=>pu (iv 0) rfl (aa (aj ?_)))
   replace hF:=Option.some.inj hF; subst hF
   exact ⟨.tuple #[.agg #[iv G.1,iv G.2],iv 0],Ret.ct rfl rfl (ce hI 4 2 [iv G.1,iv G.2] isAgg23 sizeOf23 rfl rfl rfl) rfl,⟨rfl,hI.below⟩⟩
  refine ac (de rfl rfl (fun _=>?_) (fun h=>absurd h aE))
  refine aa (ah rfl (ab (rgn rfl (pu (.agg #[iv 0,iv 0]) (by kernel_rfl) (pu (iv f.2.2) rfl (ac (aq hI 4 2 [iv 0,iv 0] sizeOf23 rfl rfl rfl rfl rfl (Nat.le_of_ble_eq_true rfl) fun w hI=>pu (iv f.2.2) rfl (aa (aj ?_)))))))))
  replace hF:=Option.some.inj hF; subst hF
  exact ⟨.tuple #[.agg #[iv 0,iv 0],iv f.2.2],Ret.ct rfl rfl (ce hI 4 2 [iv 0,iv 0] isAgg23 sizeOf23 rfl rfl rfl) rfl,⟨rfl,hI.below⟩⟩
 refine ac (de rfl rfl (fun _=>?_) (fun h=>absurd h a6))
 refine aa (ah rfl (ab (rgn rfl (pu (.agg #[iv 0,iv 0]) (by kernel_rfl) (pu (iv K) rfl (ac (aq hI 0 2 [iv 0,iv 0] sizeOf23 rfl rfl rfl rfl rfl (Nat.le_of_ble_eq_true rfl) fun w hI=>pu (iv K) rfl (aa (aj ?_)))))))))
 replace hF:=Option.some.inj hF; subst hF
 exact ⟨.tuple #[.agg #[iv 0,iv 0],iv K],Ret.ct rfl rfl (ce hI 0 2 [iv 0,iv 0] isAgg23 sizeOf23 rfl rfl rfl) rfl,⟨rfl,hI.below⟩⟩


theorem L110 (w0:World) (B:Int) (C:Int) (o:Option Addr) (p:Nat) (a:List Ld) (D:Option Addr) (E:Nat) (t:List Ld) (F:Option Addr) (G:Nat) (x:List Sp) (H:Int) (M:Int) (K:Option Addr) (L:Nat) (f:List Int) (e:Int) (aR:bi w0 o (al eLd a)) (b0:a.length≤9223372036854775807) (b1:a.length≤p) (b2:bi w0 D (al eLd t)) (b3:t.length≤9223372036854775807) (b4:t.length≤E) (b5:bi w0 F (al eSp x)) (b6:x.length≤9223372036854775807) (b7:x.length≤G) (b8:bi w0 K (al dv f)) (bQ:f.length≤9223372036854775807) (bR:f.length≤L) (N:Nat) (r:List Int) (hF:F110 N B C a t x H M f e=some r):bn Tryz.prog 110 [.agg #[.int .i64 B,.int .i64 C,.slice o a.length p,.slice D t.length E,.slice F x.length G,.int .i64 H],.agg #[.int .i64 M,.slice K f.length L],.int .i64 e] w0 fun v w=>∃ (z0:Option Nat) (z1:Nat) (z2:List Value),v=slv z0 r.length z1∧Inv [] w0 w [(z0,blk z2 3)]∧Row 1 z0 r.length z1 z2 (al dv r):=by
 refine az (n:=67) func110 rfl ntmps110 rfl ?_
 have hI:=Inv.start w0
 unfold F110 at hF
 refine ab (rgn rfl (ac (ca hI [iv B,iv C,.slice o a.length p,.slice D t.length E,.slice F x.length G,iv H] rfl fun s w hI=>ac (ca hI [iv M,.slice K f.length L] rfl fun A w hI=>pu (.slice none 0 0) rfl (aa (ab (rgn rfl (ac (ar hI 1 6 [iv B,iv C,.slice o a.length p,.slice D t.length E,.slice F x.length G,iv H] isAgg28 sizeOf28 rfl rfl rfl rfl ?_)))))))))
 refine pu (iv e) rfl (bt hF (fun d b9 hF=>?_))
 refine ac (co 104 [.agg #[iv B,iv C,.slice o a.length p,.slice D t.length E,.slice F x.length G,iv H],iv e] (by kernel_rfl) (L104 _ B C o p a D E t F G x H e (aR.inv0 hI) b0 b1 (b2.inv0 hI) b3 b4 (b5.inv0 hI) b6 b7 N _ b9) ?_)
 rintro v w ⟨aS,aT,bA,rfl,hN,bB⟩
 have hI:=hI.join hN; clear hN
 refine pu (slv aS d.length aT) rfl (aa (ab (rgn rfl (pu (.slice none 0 0) rfl (aa (ab (ab (rgn rfl (pu (iv 0) rfl ?_)))))))))
 refine aa (au ?_)
 have hI:=hI.nilRow 3
 refine cb (fun m ρ w=>∃ (S:Option Nat) (Y:Nat) (a4:List Value) (q:Option Nat) (I:Nat) (O:List Value) (g:List Int) (i:Int) (mm:Nat),cd ρ [(2,iv e),(3,.pointer (some ⟨s,0,none⟩)),(4,.pointer (some ⟨A,0,none⟩)),(7,slv S d.length Y),(8,slv q g.length I),(9,iv i)]∧Inv [] w0 w [(some s,blk [iv B,iv C,.slice o a.length p,.slice D t.length E,.slice F x.length G,iv H] 28),(some A,blk [iv M,.slice K f.length L] 57),(S,blk a4 30),(q,blk O 3)]∧(Row 6 S (d.length) Y a4 (al eLd d))∧(Row 1 q (g.length) I O (al dv g))∧F110l1 a f e N d mm g i=some r∧mm=m) (m:=N) ⟨aS,aT,bA,none,0,[],[],0,N,⟨rfl,rfl,rfl,rfl,rfl,rfl,trivial⟩,hI.pk [3,2,1,0] rfl rfl,(bB.to rfl rfl),(Row.nil_ 1),hF,rfl⟩ ?_
 rintro m ρ w ⟨S,Y,a4,q,I,O,g,i,mm,hag,hI,bC,aU,hF,hm⟩
 subst hm; obtain ⟨ρ,rfl⟩:=hag.form; clear hag
 obtain _ | m1:=mm
 ·cases (show (none:Option (List Int))=some r from hF)
 replace hF:F110b1 a f e N d (F110l1 a f e N d m1) g i=some r:=hF; unfold F110b1 at hF
 refine ab (ab (rgn rfl (pu (iv i) rfl (pu (slv S d.length Y) rfl (pu (iv ((d.length:Nat):Int)) (by kernel_rfl) (ifE hF (fun aG hF=>?_) (fun aG hF=>?_)))))))
 ·
  refine ac (cm rfl rfl (fun _=>?_) (fun h=>absurd aG h))
  refine aa (ah rfl (ak (dn (fun ρ w=>∃ (Z:Option Nat) (a5:Nat) (a6:List Value) (a0:Option Nat) (a7:Nat) (a8:List Value) (T:List Int),cd ρ [(2,iv e),(3,.pointer (some ⟨s,0,none⟩)),(4,.pointer (some ⟨A,0,none⟩)),(7,slv Z d.length a5),(8,slv a0 T.length a7),(9,iv i)]∧Inv [] w0 w [(some s,blk [iv B,iv C,.slice o a.length p,.slice D t.length E,.slice F x.length G,iv H] 28),(some A,blk [iv M,.slice K f.length L] 57),(Z,blk a6 30),(a0,blk a8 3)]∧(Row 6 Z (d.length) a5 a6 (al eLd d))∧(Row 1 a0 (T.length) a7 a8 (al dv T))∧F110j2 (F110l1 a f e N d m1) i T=some r) ?_ ?_)))
  ·
   refine au ?_
   refine ab (rgn rfl (pu (iv 0) rfl (aa (dn (fun ρ w=>∃ (a1:Option Nat) (a9:Nat) (aA:List Value) (a2:Int),cd ρ [(2,iv e),(3,.pointer (some ⟨s,0,none⟩)),(4,.pointer (some ⟨A,0,none⟩)),(7,slv a1 d.length a9),(8,slv q g.length I),(9,iv i),(10,iv a2)]∧Inv [] w0 w [(some s,blk [iv B,iv C,.slice o a.length p,.slice D t.length E,.slice F x.length G,iv H] 28),(some A,blk [iv M,.slice K f.length L] 57),(a1,blk aA 30),(q,blk O 3)]∧(Row 6 a1 (d.length) a9 aA (al eLd d))∧F110j3 f (F110l1 a f e N d m1) g i a2=some r) ?_ ?_))))
   ·
    refine ab (rgn rfl (pu (iv 0) rfl (aa (au ?_))))
    refine cb (fun m ρ w=>∃ (U:Option Nat) (P:Nat) (R:List Value) (J:Int) (l:Int) (mm:Nat),cd ρ [(2,iv e),(3,.pointer (some ⟨s,0,none⟩)),(4,.pointer (some ⟨A,0,none⟩)),(7,slv U d.length P),(8,slv q g.length I),(9,iv i),(10,iv J),(11,iv l)]∧Inv [] w0 w [(some s,blk [iv B,iv C,.slice o a.length p,.slice D t.length E,.slice F x.length G,iv H] 28),(some A,blk [iv M,.slice K f.length L] 57),(U,blk R 30),(q,blk O 3)]∧(Row 6 U (d.length) P R (al eLd d))∧F110l4 a f e (F110l1 a f e N d m1) d g i mm J l=some r∧mm=m) (m:=N) ⟨S,Y,a4,0,0,N,⟨rfl,rfl,rfl,rfl,rfl,rfl,rfl,rfl,trivial⟩,hI.pk [0,1,2,3] rfl rfl,(bC.to rfl rfl),hF,rfl⟩ ?_
    rintro m ρ w ⟨U,P,R,J,l,mm,hag,hI,aB,hF,hm⟩
    subst hm; obtain ⟨ρ,rfl⟩:=hag.form; clear hag
    obtain _ | m4:=mm
    ·cases (show (none:Option (List Int))=some r from hF)
    replace hF:F110b4 a f e (F110l1 a f e N d m1) d g i (F110l4 a f e (F110l1 a f e N d m1) d g i m4) J l=some r:=hF; unfold F110b4 at hF
    refine ab (dn (fun ρ w=>∃ (a3:Option Nat) (aC:Nat) (aD:List Value),cd ρ [(2,iv e),(3,.pointer (some ⟨s,0,none⟩)),(4,.pointer (some ⟨A,0,none⟩)),(7,slv a3 d.length aC),(8,slv q g.length I),(9,iv i),(10,iv J),(11,iv l),(39,.bool false)]∧Inv [] w0 w [(some s,blk [iv B,iv C,.slice o a.length p,.slice D t.length E,.slice F x.length G,iv H] 28),(some A,blk [iv M,.slice K f.length L] 57),(a3,blk aD 30),(q,blk O 3)]∧(Row 6 a3 (d.length) aC aD (al eLd d))∧F110j5 f (F110l1 a f e N d m1) g i J=some r) ?_ ?_)
    ·
     refine gm 19 hI (by kernel_rfl) ?_
     refine zp (iv l) (fun _=>rfl) (zp (.pointer (some ⟨s,2,none⟩)) (fun _=>rfl) (zc (.slice o a.length p) (fun w hI=>ag hI 0 (.slice o a.length p) isAgg24 rfl rfl rfl br) (zc (iv (a.length:Int)) (fun w hI=>eg (iv ((a.length:Nat):Int)) (by kernel_rfl) br) (ifE hF (fun aH hF=>?_) (fun aH hF=>?_)))))
     ·
      refine zc (.bool true) (fun w hI=>cm rfl rfl (fun _=>br) (fun h=>absurd aH h)) (zp (.bool true) (fun _=>rfl) (zq (.pointer (some ⟨s,2,none⟩)) rfl (fun _=>rfl) (zo (.slice o a.length p) rfl (fun w hI=>ag hI 0 (.slice o a.length p) isAgg24 rfl rfl rfl br) (zq (iv l) rfl (fun _=>rfl) (gdE hF (fun aI hF=>?_))))))
      refine bt hF (fun y aE hF=>?_)
      obtain ⟨V,W,aJ,aK,aL⟩:=aR.at_ bf (by decide) aE
      refine zo (.pointer (some ⟨V,W+(l).toNat * 6,none⟩)) rfl (fun w hI=>cn (l).toNat underlying24 sizeOf30 rfl aJ rfl (Int.toNat_of_nonneg aI).symm (fa aE rfl) br) (zq (.pointer (some ⟨V,W+(l).toNat * 6,none⟩)) rfl (fun _=>rfl) (zo (iv y.src) rfl (fun w hI=>dj hI (iv y.src) isAgg3 rfl aK (by simp) (aL 0 _ rfl) br) (zq (slv U d.length P) rfl (fun _=>rfl) (zq (iv i) rfl (fun _=>rfl) (gdE hF (fun bD hF=>?_))))))
      refine bt hF (fun aV aW hF=>?_)
      obtain ⟨X,rfl,bE⟩:=aB.at_ bf (by decide) aW
      refine zo (.pointer (some ⟨X,(i).toNat * 6,none⟩)) rfl (fun w hI=>be (i).toNat underlying24 sizeOf30 rfl rfl (Int.toNat_of_nonneg bD).symm (fa aW rfl) br) (zq (.pointer (some ⟨X,(i).toNat * 6,none⟩)) rfl (fun _=>rfl) (zo (iv aV.src) rfl (fun w hI=>db hI 2 (iv aV.src) isAgg3 rfl rfl (bE 0 _ rfl) br) (ifE hF (fun aM hF=>?_) (fun aM hF=>?_))))
      ·
       refine zo (.bool true) rfl (fun w hI=>cm rfl rfl (fun _=>br) (fun h=>absurd aM h)) (zp (.bool true) (fun _=>rfl) (zh (fun w hI=>?_)))
       refine aa (.inr ?_)
       refine ah rfl (ak (dn (fun ρ w=>∃ (aF:Int),cd ρ [(2,iv e),(3,.pointer (some ⟨s,0,none⟩)),(4,.pointer (some ⟨A,0,none⟩)),(7,slv (some X) d.length P),(8,slv q g.length I),(9,iv i),(10,iv aF),(11,iv l)]∧Inv [] w0 w [(some s,blk [iv B,iv C,.slice o a.length p,.slice D t.length E,.slice F x.length G,iv H] 28),(some A,blk [iv M,.slice K f.length L] 57),(some X,blk R 30),(q,blk O 3)]∧F110j6 (F110l4 a f e (F110l1 a f e N d m1) d g i m4) l aF=some r) ?_ ?_))
       ·
        refine au ?_
        refine ab (gm 14 hI (by kernel_rfl) ?_)
        refine zp (.pointer (some ⟨s,2,none⟩)) (fun _=>rfl) (zc (.slice o a.length p) (fun w hI=>ag hI 0 (.slice o a.length p) isAgg24 rfl rfl rfl br) (zp (iv l) (fun _=>rfl) (zc (.pointer (some ⟨V,W+(l).toNat * 6,none⟩)) (fun w hI=>cn (l).toNat underlying24 sizeOf30 rfl aJ rfl (Int.toNat_of_nonneg aI).symm (fa aE rfl) br) (zp (.pointer (some ⟨V,W+(l).toNat * 6+4,none⟩)) (fun _=>rfl) (zc (iv y.kn) (fun w hI=>dj hI (iv y.kn) isAgg3 rfl aK (by simp) (aL 4 _ rfl) br) (zp (.pointer (some ⟨s,2,none⟩)) (fun _=>rfl) (zc (.slice o a.length p) (fun w hI=>ag hI 0 (.slice o a.length p) isAgg24 rfl rfl rfl br) (zp (iv l) (fun _=>rfl) (zc (.pointer (some ⟨V,W+(l).toNat * 6,none⟩)) (fun w hI=>cn (l).toNat underlying24 sizeOf30 rfl aJ rfl (Int.toNat_of_nonneg aI).symm (fa aE rfl) br) ?_)))))))))
        refine zp (.pointer (some ⟨V,W+(l).toNat * 6+5,none⟩)) (fun _=>rfl) (zc (iv y.un) (fun w hI=>dj hI (iv y.un) isAgg3 rfl aK (by simp) (aL 5 _ rfl) br) (zp (iv e) (fun _=>rfl) (bt hF (fun bS aX hF=>?_))))
        refine ifE hF (fun aN hF=>?_) (fun aN hF=>?_)
        ·
         refine zc (.bool true) (fun w hI=>co 147 [iv y.kn,iv y.un,iv e] (by kernel_rfl) (bn.mono (L147 _ y.kn y.un e _ aX) (fun v' w' h=>⟨h.1.trans (congrArg Value.bool aN),h.2⟩)) (fun v' w' h=>h)) (zh (fun w hI=>?_))
         refine aa (ah rfl (rgn rfl (pu (iv J) rfl (ckE hF (fun bF hF=>?_)))))
         refine ac (cj rfl rfl bF ?_)
         refine pu (iv (J+1)) rfl (aa ?_)
         exact .inl ⟨rfl,⟨J+1,⟨rfl,rfl,rfl,rfl,rfl,rfl,rfl,rfl,trivial⟩,hI.pk [0,1,2,3] rfl rfl,hF⟩⟩
        refine zc (.bool false) (fun w hI=>co 147 [iv y.kn,iv y.un,iv e] (by kernel_rfl) (bn.mono (L147 _ y.kn y.un e _ aX) (fun v' w' h=>⟨h.1.trans (congrArg Value.bool (Bool.eq_false_iff.2 aN)),h.2⟩)) (fun v' w' h=>h)) (zh (fun w hI=>?_))
        refine aa (ai rfl (ak ?_))
        exact .inl ⟨rfl,⟨J,⟨rfl,rfl,rfl,rfl,rfl,rfl,rfl,rfl,trivial⟩,hI.pk [0,1,2,3] rfl rfl,hF⟩⟩
       intro ρ w hJ
       obtain ⟨aF,hag,hI,hF⟩:=hJ
       obtain ⟨ρ,rfl⟩:=hag.form; clear hag
       unfold F110j6 at hF
       refine rgn rfl (pu (iv l) rfl (ckE hF (fun bG hF=>?_)))
       refine ac (cj rfl rfl bG ?_)
       refine pu (iv (l+1)) rfl (aa ?_)
       exact ⟨rfl,m4,Nat.lt_succ_self _,⟨some X,P,R,aF,l+1,m4,⟨rfl,rfl,rfl,rfl,rfl,rfl,rfl,rfl,trivial⟩,hI.pk [0,1,2,3] rfl rfl,(aB.to rfl rfl),hF,rfl⟩⟩
      refine zo (.bool false) rfl (fun w hI=>cm rfl rfl (fun h=>absurd h aM) (fun _=>br)) (zp (.bool false) (fun _=>rfl) (zh (fun w hI=>?_)))
      refine aa ?_
      exact .inl ⟨rfl,⟨some X,P,R,⟨rfl,rfl,rfl,rfl,rfl,rfl,rfl,rfl,rfl,trivial⟩,hI.pk [0,1,2,3] rfl rfl,(aB.to rfl rfl),hF⟩⟩
     refine zc (.bool false) (fun w hI=>cm rfl rfl (fun h=>absurd h aH) (fun _=>br)) (zp (.bool false) (fun _=>rfl) (zf 12 rfl (zp (.bool false) (fun _=>rfl) (zh (fun w hI=>?_)))))
     refine aa ?_
     exact .inl ⟨rfl,⟨U,P,R,⟨rfl,rfl,rfl,rfl,rfl,rfl,rfl,rfl,rfl,trivial⟩,hI.pk [0,1,2,3] rfl rfl,(aB.to rfl rfl),hF⟩⟩
    intro ρ w hJ
    obtain ⟨a3,aC,aD,hag,hI,bH,hF⟩:=hJ
    obtain ⟨ρ,rfl⟩:=hag.form; clear hag
    unfold F110j5 at hF
    refine ai rfl (bw ?_)
    exact .inl ⟨rfl,⟨a3,aC,aD,J,⟨rfl,rfl,rfl,rfl,rfl,rfl,rfl,trivial⟩,hI.pk [0,1,2,3] rfl rfl,(bH.to rfl rfl),hF⟩⟩
   intro ρ w hJ
   obtain ⟨a1,a9,aA,a2,hag,hI,bI,hF⟩:=hJ
   obtain ⟨ρ,rfl⟩:=hag.form; clear hag
   unfold F110j3 at hF
   refine rgn rfl (pu (slv q g.length I) rfl (pu (.pointer (some ⟨A,1,none⟩)) rfl (ac (ag hI 1 (.slice K f.length L) isAgg41 rfl rfl rfl ?_))))
   refine pu (iv a2) rfl (gdE hF (fun bJ hF=>?_))
   refine bt hF (fun Q aY hF=>?_)
   obtain ⟨bT,bU,bK,bL,bM⟩:=b8.at_ cy (by decide) aY
   refine ac (cn (a2).toNat underlying41 sizeOf3 rfl bK rfl (Int.toNat_of_nonneg bJ).symm (fa aY rfl) ?_)
   refine ac (dj hI (iv Q) isAgg3 rfl bL (by simp) (bM 0 _ rfl) ?_)
   refine ac (fu hI [iv Q] 3 (fun b=>slv (some b) 1 1) (by kernel_rfl) fun bV w hI=>gdE hF (fun bW hF=>?_))
   refine ac (s_appN hI underlying41 (z:=iv 0) (k:=1) (bytes:=8) rfl rfl rfl 4 rfl rfl aU [iv Q] rfl rfl (hI.cells 0 (off:=0) rfl (fun j u h=>by rw [Nat.zero_add]; exact h)) (by simp [Value.oneCell']) (by omega) (by omega) (n2:=(g++[Q]).length) (app_len rfl rfl) ?_)
   intro aO aP aZ w hI aQ
   have aQ:Row 1 aO ((g++[Q]).length) aP aZ (al dv (g++[Q])):=aQ.snoc _ rfl
   refine pu (slv aO ((g++[Q]).length) aP) rfl (aa ?_)
   exact .inl ⟨rfl,⟨a1,a9,aA,aO,aP,aZ,g++[Q],⟨rfl,rfl,rfl,rfl,rfl,rfl,trivial⟩,hI.pk [1,2,3,4] rfl rfl,(bI.to rfl rfl),(aQ.to rfl rfl),hF⟩⟩
  intro ρ w hJ
  obtain ⟨Z,a5,a6,a0,a7,a8,T,hag,hI,bN,bO,hF⟩:=hJ
  obtain ⟨ρ,rfl⟩:=hag.form; clear hag
  unfold F110j2 at hF
  refine rgn rfl (pu (iv i) rfl (ckE hF (fun bP hF=>?_)))
  refine ac (cj rfl rfl bP ?_)
  refine pu (iv (i+1)) rfl (aa ?_)
  exact ⟨rfl,m1,Nat.lt_succ_self _,⟨Z,a5,a6,a0,a7,a8,T,i+1,m1,⟨rfl,rfl,rfl,rfl,rfl,rfl,trivial⟩,hI.pk [0,1,2,3] rfl rfl,(bN.to rfl rfl),(bO.to rfl rfl),hF,rfl⟩⟩
 refine ac (cm rfl rfl (fun h=>absurd h aG) (fun _=>?_))
 refine aa (ai rfl (bw ?_))
 refine ab (rgn rfl (pu (slv q g.length I) rfl (pu (slv q g.length I) rfl (aa (aj ?_)))))
 replace hF:=Option.some.inj hF; subst hF
 exact ⟨slv q g.length I,Ret.r1 rfl rfl,⟨q,I,O,rfl,hI.pk [3] rfl rfl,aU.to rfl rfl⟩⟩


theorem L43 (w0:World) (i:Int) (j:Int) (k:Option Addr) (l:Nat) (d:List Ld) (o:Option Addr) (p:Nat) (e:List Ld) (q:Option Addr) (s:Nat) (f:List Sp) (t:Int) (y:Int) (A:Int) (K:Option Addr) (L:Nat) (z:List Int) (a2:bi w0 k (al eLd d)) (a3:d.length≤9223372036854775807) (a4:d.length≤l) (a5:bi w0 o (al eLd e)) (a6:e.length≤9223372036854775807) (a7:e.length≤p) (a8:bi w0 q (al eSp f)) (a9:f.length≤9223372036854775807) (aA:f.length≤s) (b1:bi w0 K (al dv z)) (b2:z.length≤9223372036854775807) (b3:z.length≤L) (N:Nat) (r:Int) (hF:F43 N i j d e f t y A z=some r):bn Tryz.prog 43 [.agg #[.int .i64 i,.int .i64 j,.slice k d.length l,.slice o e.length p,.slice q f.length s,.int .i64 t],.int .i64 y,.agg #[.int .i64 A,.slice K z.length L]] w0 fun v w=>v=.int .i64 r∧Below w0.heap.size w0 w:=by
 refine az (n:=88) func43 rfl ntmps43 rfl ?_
 have hI:=Inv.start w0
 unfold F43 at hF
 refine ab (rgn rfl (ac (ca hI [iv i,iv j,.slice k d.length l,.slice o e.length p,.slice q f.length s,iv t] rfl fun bH w hI=>ac (ca hI [iv A,.slice K z.length L] rfl fun aP w hI=>pu (iv 0) rfl (aa (ab (rgn rfl (ac (ar hI 1 6 [iv i,iv j,.slice k d.length l,.slice o e.length p,.slice q f.length s,iv t] isAgg28 sizeOf28 rfl rfl rfl rfl ?_)))))))))
 refine pu (iv y) rfl (bt hF (fun Q b4 hF=>?_))
 refine ac (bg hI 88 [.agg #[iv i,iv j,.slice k d.length l,.slice o e.length p,.slice q f.length s,iv t],iv 0,iv y] (iv Q) (by kernel_rfl) (L88 _ i j k l d o p e q s f t 0 y (a2.inv0 hI) a3 a4 (a5.inv0 hI) a6 a7 (a8.inv0 hI) a9 aA N _ b4) fun w hI=>pu (iv Q) rfl (aa (ab (ab (rgn rfl (pu (iv Q) rfl (ifE hF (fun aB hF=>?_) (fun aB hF=>?_))))))))
 ·
  refine ac (de rfl rfl (fun h=>absurd aB h) (fun _=>?_))
  refine aa (ai rfl (ak (ab (rgn rfl (ac (ar hI 1 6 [iv i,iv j,.slice k d.length l,.slice o e.length p,.slice q f.length s,iv t] isAgg28 sizeOf28 rfl rfl rfl rfl ?_))))))
  refine pu (iv y) rfl (pu (.agg #[.bool true,.slice none 0 0]) (by kernel_rfl) (bt hF (fun b b5 hF=>?_)))
  refine ac (co 109 [.agg #[iv i,iv j,.slice k d.length l,.slice o e.length p,.slice q f.length s,iv t],iv y,.agg #[.bool true,.slice none 0 0]] (by kernel_rfl) (L109 _ i j k l d o p e q s f t y true none 0 [] (a2.inv0 hI) a3 a4 (a5.inv0 hI) a6 a7 (a8.inv0 hI) a9 aA bi.nil0 (by decide) (Nat.le_refl _) N _ b5) ?_)
  rintro v w ⟨aC,aD,b6,aQ,aR,b7,rfl,hN,b8,b9⟩
  have hI:=hI.join hN; clear hN
  refine ac (bh hI [.slice none 0 0,.slice none 0 0] zeroValue132 rfl fun B w hI=>ac (aq hI 0 2 [slv aC b.1.length aD,slv aQ b.2.length aR] sizeOf132 rfl rfl rfl rfl rfl (Nat.le_of_ble_eq_true rfl) fun w hI=>aa (ab (ab (rgn rfl (pu (.pointer (some ⟨aP,1,none⟩)) rfl (ac (ag hI 3 (.slice K z.length L) isAgg41 rfl rfl rfl ?_))))))))
  refine pu (iv ((z.length:Nat):Int)) (by kernel_rfl) (pu (.pointer (some ⟨B,0,none⟩)) rfl (ac (ag hI 0 (slv aC b.1.length aD) isAgg24 rfl rfl rfl ?_)))
  refine pu (iv ((b.1.length:Nat):Int)) (by kernel_rfl) (ifE hF (fun aE hF=>?_) (fun aE hF=>?_))
  ·
   refine ac (de rfl rfl (fun h=>absurd aE h) (fun _=>?_))
   refine aa (ai rfl (ak (ab (rgn rfl (ac (ar hI 4 6 [iv i,iv j,.slice k d.length l,.slice o e.length p,.slice q f.length s,iv t] isAgg28 sizeOf28 rfl rfl rfl rfl ?_))))))
   refine ac (ar hI 3 2 [iv A,.slice K z.length L] isAgg57 sizeOf57 rfl rfl rfl rfl ?_)
   refine pu (iv y) rfl (bt hF (fun g bA hF=>?_))
   refine ac (co 110 [.agg #[iv i,iv j,.slice k d.length l,.slice o e.length p,.slice q f.length s,iv t],.agg #[iv A,.slice K z.length L],iv y] (by kernel_rfl) (L110 _ i j k l d o p e q s f t A K L z y (a2.inv0 hI) a3 a4 (a5.inv0 hI) a6 a7 (a8.inv0 hI) a9 aA (b1.inv0 hI) b2 b3 N _ bA) ?_)
   rintro v w ⟨aS,aT,bB,rfl,hN,bC⟩
   have hI:=hI.join hN; clear hN
   refine pu (slv aS g.length aT) rfl (aa (ab (rgn rfl (pu (.pointer (some ⟨aP,0,none⟩)) rfl (ac (ag hI 4 (iv A) isAgg3 rfl rfl rfl ?_))))))
   refine pu (iv A) rfl (aa (ab (ab (rgn rfl (pu (iv 0) rfl (aa (au ?_)))))))
   refine cb (fun m ρ w=>∃ (M:Option Nat) (C:Nat) (R:List Value) (H:Option Nat) (D:Nat) (S:List Value) (O:Option Nat) (I:Nat) (T:List Value) (J:Int) (a:Int) (mm:Nat),cd ρ [(8,.pointer (some ⟨B,0,none⟩)),(9,slv O g.length I),(10,iv J),(11,iv a)]∧Inv [] w0 w [(some B,blk [slv M b.1.length C,slv H b.2.length D] 132),(M,blk R 30),(H,blk S 23),(O,blk T 3)]∧(Row 6 M (b.1.length) C R (al eLd b.1))∧(Row 2 H (b.2.length) D S (al eRg b.2))∧(Row 1 O (g.length) I T (al dv g))∧F43l1 b g mm J a=some r∧mm=m) (m:=N) ⟨aC,aD,b6,aQ,aR,b7,aS,aT,bB,A,0,N,⟨rfl,rfl,rfl,rfl,trivial⟩,hI.pk [1,2,3,0] rfl rfl,(b8.to rfl rfl),(b9.to rfl rfl),(bC.to rfl rfl),hF,rfl⟩ ?_
   rintro m ρ w ⟨M,C,R,H,D,S,O,I,T,J,a,mm,hag,hI,aF,aU,aG,hF,hm⟩
   subst hm; obtain ⟨ρ,rfl⟩:=hag.form; clear hag
   obtain _ | m1:=mm
   ·cases (show (none:Option Int)=some r from hF)
   replace hF:F43b1 b g (F43l1 b g m1) J a=some r:=hF; unfold F43b1 at hF
   refine ab (ab (rgn rfl (pu (iv a) rfl (pu (slv O g.length I) rfl (pu (iv ((g.length:Nat):Int)) (by kernel_rfl) (ifE hF (fun aH hF=>?_) (fun aH hF=>?_)))))))
   ·
    refine ac (fq rfl rfl (fun _=>?_) (fun h=>absurd aH h))
    refine aa (ah rfl (ak (ab (au ?_))))
    refine dn (fun ρ w=>∃ (U:Option Nat) (W:Nat) (X:List Value) (V:Option Nat) (Y:Nat) (Z:List Value) (E:Int),cd ρ [(8,.pointer (some ⟨B,0,none⟩)),(9,slv V g.length Y),(10,iv E),(11,iv a)]∧Inv [] w0 w [(some B,blk [slv U b.1.length W,slv H b.2.length D] 132),(U,blk X 30),(H,blk S 23),(V,blk Z 3)]∧(Row 6 U (b.1.length) W X (al eLd b.1))∧(Row 1 V (g.length) Y Z (al dv g))∧F43j2 (F43l1 b g m1) b a E=some r) ?_ ?_
    ·
     refine ab (rgn rfl (pu (iv a) rfl (ifE hF (fun aI hF=>?_) (fun aI hF=>?_))))
     ·
      refine ac (fh rfl rfl (fun _=>?_) (fun h=>absurd aI h))
      refine aa (ah rfl (ab (ab (gm 23 hI (by kernel_rfl) ?_))))
      refine zp (slv O g.length I) (fun _=>rfl) (zp (iv a) (fun _=>rfl) (ckE hF (fun a0 hF=>?_)))
      refine zc (iv (a - 1)) (fun w hI=>dm rfl rfl a0 br) (gdE hF (fun a1 hF=>?_))
      refine bt hF (fun F aJ hF=>?_)
      obtain ⟨aK,rfl,aV⟩:=aG.at_ cy (by decide) aJ
      refine zc (.pointer (some ⟨aK,((a - 1).toNat) * 1,none⟩)) (fun w hI=>be ((a - 1).toNat) underlying41 sizeOf3 rfl rfl (Int.toNat_of_nonneg a1).symm (fa aJ rfl) br) (zc (iv F) (fun w hI=>db hI 3 (iv F) isAgg3 rfl rfl (aV 0 _ rfl) br) (zp (.pointer (some ⟨B,0,none⟩)) (fun _=>rfl) (zc (slv M b.1.length C) (fun w hI=>ag hI 0 (slv M b.1.length C) isAgg24 rfl rfl rfl br) (zp (iv a) (fun _=>rfl) (zc (iv (a - 1)) (fun w hI=>dm rfl rfl a0 br) (bt hF (fun u aL hF=>?_)))))))
      obtain ⟨G,rfl,aW⟩:=aF.at_ bf (by decide) aL
      refine zc (.pointer (some ⟨G,((a - 1).toNat) * 6,none⟩)) (fun w hI=>be ((a - 1).toNat) underlying24 sizeOf30 rfl rfl (Int.toNat_of_nonneg a1).symm (fa aL rfl) br) (zp (.pointer (some ⟨G,((a - 1).toNat) * 6+2,none⟩)) (fun _=>rfl) (zp (.pointer (some ⟨G,((a - 1).toNat) * 6+2,none⟩)) (fun _=>rfl) (zc (iv u.lo) (fun w hI=>db hI 1 (iv u.lo) isAgg3 rfl rfl (aW 2 _ rfl) br) (zp (.pointer (some ⟨B,0,none⟩)) (fun _=>rfl) (zc (slv (some G) b.1.length C) (fun w hI=>ag hI 0 (slv (some G) b.1.length C) isAgg24 rfl rfl rfl br) (zp (iv a) (fun _=>rfl) (zc (iv (a - 1)) (fun w hI=>dm rfl rfl a0 br) (zc (.pointer (some ⟨G,((a - 1).toNat) * 6,none⟩)) (fun w hI=>be ((a - 1).toNat) underlying24 sizeOf30 rfl rfl (Int.toNat_of_nonneg a1).symm (fa aL rfl) br) (zp (.pointer (some ⟨G,((a - 1).toNat) * 6+2,none⟩)) (fun _=>rfl) ?_)))))))))
      refine zp (.pointer (some ⟨G,((a - 1).toNat) * 6+3,none⟩)) (fun _=>rfl) (zc (iv u.hi) (fun w hI=>db hI 1 (iv u.hi) isAgg3 rfl rfl (aW 3 _ rfl) br) (bt hF (fun bI aX hF=>?_)))
      refine ifE hF (fun aM hF=>?_) (fun aM hF=>?_)
      ·
       refine zc (.bool true) (fun w hI=>co 80 [iv F,iv u.lo,iv u.hi] (by kernel_rfl) (bn.mono (L80 _ F u.lo u.hi _ aX) (fun v' w' h=>⟨h.1.trans (congrArg Value.bool aM),h.2⟩)) (fun v' w' h=>h)) (zp (.bool false) (fun _=>rfl) (zh (fun w hI=>?_)))
       refine aa (ai rfl (ak (rgn rfl (pu (iv J) rfl (pu (slv (some aK) g.length I) rfl (pu (iv a) rfl (ac (dm rfl rfl a0 ?_))))))))
       refine ac (be ((a - 1).toNat) underlying41 sizeOf3 rfl rfl (Int.toNat_of_nonneg a1).symm (fa aJ rfl) ?_)
       refine ac (db hI 3 (iv F) isAgg3 rfl rfl (aV 0 _ rfl) ?_)
       refine ckE hF (fun bD hF=>?_)
       refine ac (dm rfl rfl bD ?_)
       refine pu (iv (J - F)) rfl (aa ?_)
       exact .inl ⟨rfl,⟨some G,C,R,some aK,I,T,J - F,⟨rfl,rfl,rfl,rfl,trivial⟩,hI.pk [0,1,2,3] rfl rfl,(aF.to rfl rfl),(aG.to rfl rfl),hF⟩⟩
      refine zc (.bool false) (fun w hI=>co 80 [iv F,iv u.lo,iv u.hi] (by kernel_rfl) (bn.mono (L80 _ F u.lo u.hi _ aX) (fun v' w' h=>⟨h.1.trans (congrArg Value.bool (Bool.eq_false_iff.2 aM)),h.2⟩)) (fun v' w' h=>h)) (zp (.bool true) (fun _=>rfl) (zh (fun w hI=>?_)))
      refine aa (ah rfl (ab (rgn rfl (pu (iv 16) rfl (aa (aj ?_))))))
      replace hF:=Option.some.inj hF; subst hF
      exact ⟨iv 16,Ret.r1 rfl rfl,⟨rfl,hI.below⟩⟩
     refine ac (fh rfl rfl (fun h=>absurd h aI) (fun _=>?_))
     refine aa (ai rfl (ak ?_))
     exact .inl ⟨rfl,⟨M,C,R,O,I,T,J,⟨rfl,rfl,rfl,rfl,trivial⟩,hI.pk [0,1,2,3] rfl rfl,(aF.to rfl rfl),(aG.to rfl rfl),hF⟩⟩
    intro ρ w hJ
    obtain ⟨U,W,X,V,Y,Z,E,hag,hI,bE,bF,hF⟩:=hJ
    obtain ⟨ρ,rfl⟩:=hag.form; clear hag
    unfold F43j2 at hF
    refine ab (gm 15 hI (by kernel_rfl) ?_)
    refine zp (iv E) (fun _=>rfl) (zp (.pointer (some ⟨B,1,none⟩)) (fun _=>rfl) (zc (slv H b.2.length D) (fun w hI=>ag hI 0 (slv H b.2.length D) isAgg130 rfl rfl rfl br) (zp (iv a) (fun _=>rfl) (gdE hF (fun aY hF=>?_)))))
    refine bt hF (fun x aN hF=>?_)
    obtain ⟨P,rfl,aZ⟩:=aU.at_ da (by decide) aN
    refine zc (.pointer (some ⟨P,(a).toNat * 2,none⟩)) (fun w hI=>be (a).toNat underlying130 sizeOf23 rfl rfl (Int.toNat_of_nonneg aY).symm (fa aN rfl) br) (zp (.pointer (some ⟨P,(a).toNat * 2,none⟩)) (fun _=>rfl) (zc (iv x.lo) (fun w hI=>db hI 2 (iv x.lo) isAgg3 rfl rfl (aZ 0 _ rfl) br) (zp (.pointer (some ⟨B,1,none⟩)) (fun _=>rfl) (zc (slv (some P) b.2.length D) (fun w hI=>ag hI 0 (slv (some P) b.2.length D) isAgg130 rfl rfl rfl br) (zp (iv a) (fun _=>rfl) (zc (.pointer (some ⟨P,(a).toNat * 2,none⟩)) (fun w hI=>be (a).toNat underlying130 sizeOf23 rfl rfl (Int.toNat_of_nonneg aY).symm (fa aN rfl) br) (zp (.pointer (some ⟨P,(a).toNat * 2+1,none⟩)) (fun _=>rfl) (zc (iv x.hi) (fun w hI=>db hI 2 (iv x.hi) isAgg3 rfl rfl (aZ 1 _ rfl) br) (bt hF (fun bJ b0 hF=>?_))))))))))
    refine ifE hF (fun aO hF=>?_) (fun aO hF=>?_)
    ·
     refine zc (.bool true) (fun w hI=>co 80 [iv E,iv x.lo,iv x.hi] (by kernel_rfl) (bn.mono (L80 _ E x.lo x.hi _ b0) (fun v' w' h=>⟨h.1.trans (congrArg Value.bool aO),h.2⟩)) (fun v' w' h=>h)) (zp (.bool false) (fun _=>rfl) (zh (fun w hI=>?_)))
     refine aa (ai rfl (ak (rgn rfl (pu (iv a) rfl (ckE hF (fun bG hF=>?_))))))
     refine ac (cj rfl rfl bG ?_)
     refine pu (iv (a+1)) rfl (aa ?_)
     exact ⟨rfl,m1,Nat.lt_succ_self _,⟨U,W,X,some P,D,S,V,Y,Z,E,a+1,m1,⟨rfl,rfl,rfl,rfl,trivial⟩,hI.pk [0,1,2,3] rfl rfl,(bE.to rfl rfl),(aU.to rfl rfl),(bF.to rfl rfl),hF,rfl⟩⟩
    refine zc (.bool false) (fun w hI=>co 80 [iv E,iv x.lo,iv x.hi] (by kernel_rfl) (bn.mono (L80 _ E x.lo x.hi _ b0) (fun v' w' h=>⟨h.1.trans (congrArg Value.bool (Bool.eq_false_iff.2 aO)),h.2⟩)) (fun v' w' h=>h)) (zp (.bool true) (fun _=>rfl) (zh (fun w hI=>?_)))
    refine aa (ah rfl (ab (rgn rfl (pu (iv 16) rfl (aa (aj ?_))))))
    replace hF:=Option.some.inj hF; subst hF
    exact ⟨iv 16,Ret.r1 rfl rfl,⟨rfl,hI.below⟩⟩
   refine ac (fq rfl rfl (fun h=>absurd h aH) (fun _=>?_))
   refine aa (ai rfl (bw ?_))
   refine ab (rgn rfl (pu (iv 0) rfl (aa (aj ?_))))
   replace hF:=Option.some.inj hF; subst hF
   exact ⟨iv 0,Ret.r1 rfl rfl,⟨rfl,hI.below⟩⟩
  refine ac (de rfl rfl (fun _=>?_) (fun h=>absurd h aE))
  refine aa (ah rfl (ab (rgn rfl (pu (iv 16) rfl (aa (aj ?_))))))
  replace hF:=Option.some.inj hF; subst hF
  exact ⟨iv 16,Ret.r1 rfl rfl,⟨rfl,hI.below⟩⟩
 refine ac (de rfl rfl (fun _=>?_) (fun h=>absurd h aB))
 refine aa (ah rfl (ab (rgn rfl (pu (iv Q) rfl (pu (iv Q) rfl (aa (aj ?_)))))))
 replace hF:=Option.some.inj hF; subst hF
 exact ⟨iv Q,Ret.r1 rfl rfl,⟨rfl,hI.below⟩⟩


theorem L108 (w0:World) (k:Int) (l:Int) (o:Option Addr) (p:Nat) (a:List Ld) (q:Option Addr) (s:Nat) (d:List Ld) (t:Option Addr) (u:Nat) (e:List Sp) (x:Int) (y:Int) (D:Option Addr) (E:Nat) (z:List Int) (f:Int) (g:Int) (O:bi w0 o (al eLd a)) (P:a.length≤9223372036854775807) (Q:a.length≤p) (R:bi w0 q (al eLd d)) (S:d.length≤9223372036854775807) (T:d.length≤s) (U:bi w0 t (al eSp e)) (V:e.length≤9223372036854775807) (W:e.length≤u) (a2:bi w0 D (al dv z)) (a3:z.length≤9223372036854775807) (a4:z.length≤E) (N:Nat) (r:Int) (hF:F108 N k l a d e x y z f g=some r):bn Tryz.prog 108 [.agg #[.int .i64 k,.int .i64 l,.slice o a.length p,.slice q d.length s,.slice t e.length u,.int .i64 x],.agg #[.int .i64 y,.slice D z.length E],.agg #[.int .i64 f,.int .i64 g]] w0 fun v w=>v=.int .i64 r∧Below w0.heap.size w0 w:=by
 refine az (n:=38) func108 rfl ntmps108 rfl ?_
 have hI:=Inv.start w0
 unfold F108 at hF
 refine ab (rgn rfl (ac (ca hI [iv k,iv l,.slice o a.length p,.slice q d.length s,.slice t e.length u,iv x] rfl fun aI w hI=>ac (ca hI [iv y,.slice D z.length E] rfl fun a5 w hI=>ac (ca hI [iv f,iv g] rfl fun G w hI=>pu (iv 0) rfl (aa (ab (rgn rfl (ac (ar hI 2 6 [iv k,iv l,.slice o a.length p,.slice q d.length s,.slice t e.length u,iv x] isAgg28 sizeOf28 rfl rfl rfl rfl ?_))))))))))
 refine ac (ar hI 1 2 [iv y,.slice D z.length E] isAgg57 sizeOf57 rfl rfl rfl rfl ?_)
 refine pu (.pointer (some ⟨G,1,none⟩)) rfl (ac (ag hI 0 (iv g) isAgg3 rfl rfl rfl ?_))
 refine bt hF (fun B a6 hF=>?_)
 refine ac (co 110 [.agg #[iv k,iv l,.slice o a.length p,.slice q d.length s,.slice t e.length u,iv x],.agg #[iv y,.slice D z.length E],iv g] (by kernel_rfl) (L110 _ k l o p a q s d t u e x y D E z g (O.inv0 hI) P Q (R.inv0 hI) S T (U.inv0 hI) V W (a2.inv0 hI) a3 a4 N _ a6) ?_)
 rintro v w ⟨X,Y,a7,rfl,hN,a8⟩
 have hI:=hI.join hN; clear hN
 refine pu (slv X B.length Y) rfl (aa (ab (rgn rfl (ac (ar hI 3 6 [iv k,iv l,.slice o a.length p,.slice q d.length s,.slice t e.length u,iv x] isAgg28 sizeOf28 rfl rfl rfl rfl ?_)))))
 refine pu (.pointer (some ⟨G,1,none⟩)) rfl (ac (ag hI 1 (iv g) isAgg3 rfl rfl rfl ?_))
 refine bt hF (fun A a9 hF=>?_)
 refine ac (co 104 [.agg #[iv k,iv l,.slice o a.length p,.slice q d.length s,.slice t e.length u,iv x],iv g] (by kernel_rfl) (L104 _ k l o p a q s d t u e x g (O.inv0 hI) P Q (R.inv0 hI) S T (U.inv0 hI) V W N _ a9) ?_)
 rintro v w ⟨C,F,aA,rfl,hN,K⟩
 have hI:=hI.join hN; clear hN
 refine pu (.agg #[slv C A.length F,.slice none 0 0]) (by kernel_rfl) (ac (bh hI [.slice none 0 0,.slice none 0 0] zeroValue132 rfl fun Z w hI=>ac (aq hI 0 2 [slv C A.length F,.slice none 0 0] sizeOf132 rfl rfl rfl rfl rfl (Nat.le_of_ble_eq_true rfl) fun w hI=>aa (ab (rgn rfl (pu (.pointer (some ⟨a5,0,none⟩)) rfl (ac (ag hI 4 (iv y) isAgg3 rfl rfl rfl ?_))))))))
 refine pu (iv y) rfl (aa (ab (ab (rgn rfl (pu (iv 0) rfl (aa (au ?_)))))))
 refine cb (fun m ρ w=>∃ (H:Option Nat) (I:Nat) (J:List Value) (i:Int) (j:Int) (mm:Nat),cd ρ [(5,.pointer (some ⟨G,0,none⟩)),(7,slv H B.length I),(8,.pointer (some ⟨Z,0,none⟩)),(9,iv i),(10,iv j)]∧Inv [] w0 w [(some G,blk [iv f,iv g] 65),(H,blk J 3),(some Z,blk [slv C A.length F,.slice none 0 0] 132),(C,blk aA 30)]∧(Row 1 H (B.length) I J (al dv B))∧F108l1 f N B A mm i j=some r∧mm=m) (m:=N) ⟨X,Y,a7,y,0,N,⟨rfl,rfl,rfl,rfl,rfl,trivial⟩,hI.pk [3,2,0,1] rfl rfl,(a8.to rfl rfl),hF,rfl⟩ ?_
 rintro m ρ w ⟨H,I,J,i,j,mm,hag,hI,a0,hF,hm⟩
 subst hm; obtain ⟨ρ,rfl⟩:=hag.form; clear hag
 obtain _ | m1:=mm
 ·cases (show (none:Option Int)=some r from hF)
 replace hF:F108b1 f N B A (F108l1 f N B A m1) i j=some r:=hF; unfold F108b1 at hF
 refine ab (ab (rgn rfl (pu (iv j) rfl (ac (ar hI 2 2 [slv C A.length F,.slice none 0 0] isAgg132 sizeOf132 rfl rfl rfl rfl ?_)))))
 refine pu (.pointer (some ⟨G,0,none⟩)) rfl (ac (ag hI 0 (iv f) isAgg3 rfl rfl rfl ?_))
 refine bt hF (fun aB aC hF=>?_)
 refine ac (bg hI 100 [.agg #[slv C A.length F,.slice none 0 0],iv f] (iv aB) (by kernel_rfl) (L100 _ (C.map fun b=>⟨b,0,none⟩) F A none 0 [] f (hI.rowCells 3 rfl K) (am rfl K.big) (am rfl K.cap) bi.nil0 (by decide) (Nat.le_refl _) N _ aC) fun w hI=>ifE hF (fun L hF=>?_) (fun L hF=>?_))
 ·
  refine ac (cm rfl rfl (fun _=>?_) (fun h=>absurd L h))
  refine aa (ah rfl (ak (ab (au ?_))))
  refine rgn rfl (pu (iv i) rfl (pu (slv H B.length I) rfl (pu (iv j) rfl (gdE hF (fun aD hF=>?_)))))
  refine bt hF (fun M a1 hF=>?_)
  obtain ⟨aE,rfl,aF⟩:=a0.at_ cy (by decide) a1
  refine ac (be (j).toNat underlying41 sizeOf3 rfl rfl (Int.toNat_of_nonneg aD).symm (fa a1 rfl) ?_)
  refine ac (db hI 1 (iv M) isAgg3 rfl rfl (aF 0 _ rfl) ?_)
  refine ckE hF (fun aG hF=>?_)
  refine ac (dm rfl rfl aG ?_)
  refine pu (iv (i - M)) rfl (aa (rgn rfl (pu (iv j) rfl (ckE hF (fun aH hF=>?_)))))
  refine ac (cj rfl rfl aH ?_)
  refine pu (iv (j+1)) rfl (aa ?_)
  exact ⟨rfl,m1,Nat.lt_succ_self _,⟨some aE,I,J,i - M,j+1,m1,⟨rfl,rfl,rfl,rfl,rfl,trivial⟩,hI.pk [0,1,2,3] rfl rfl,(a0.to rfl rfl),hF,rfl⟩⟩
 refine ac (cm rfl rfl (fun h=>absurd h L) (fun _=>?_))
 refine aa (ai rfl (bw ?_))
 refine ab (rgn rfl (pu (iv i) rfl (pu (iv i) rfl (aa (aj ?_)))))
 replace hF:=Option.some.inj hF; subst hF
 exact ⟨iv i,Ret.r1 rfl rfl,⟨rfl,hI.below⟩⟩


theorem L41 (w0:World) (e:Int) (f:Int) (g:Option Addr) (i:Nat) (a:List Ld) (j:Option Addr) (k:Nat) (b:List Ld) (l:Option Addr) (m:Nat) (d:List Sp) (o:Int) (s:Int) (t:Option Addr) (u:Nat) (p:List Int) (x:Int) (q:Int) (z:bi w0 g (al eLd a)) (A:a.length≤9223372036854775807) (B:a.length≤i) (C:bi w0 j (al eLd b)) (D:b.length≤9223372036854775807) (E:b.length≤k) (F:bi w0 l (al eSp d)) (G:d.length≤9223372036854775807) (H:d.length≤m) (M:bi w0 t (al dv p)) (O:p.length≤9223372036854775807) (P:p.length≤u) (N:Nat) (r:(Int × Int)) (hF:F41 N e f a b d o s p x q=some r):bn Tryz.prog 41 [.agg #[.int .i64 e,.int .i64 f,.slice g a.length i,.slice j b.length k,.slice l d.length m,.int .i64 o],.agg #[.int .i64 s,.slice t p.length u],.agg #[.int .i64 x,.int .i64 q]] w0 fun v w=>v=.tuple #[.int .i64 r.1,.int .i64 r.2]∧Below w0.heap.size w0 w:=by
 refine az (n:=28) func41 rfl ntmps41 rfl ?_
 have hI:=Inv.start w0
 unfold F41 at hF
 refine ab (rgn rfl (ac (ca hI [iv e,iv f,.slice g a.length i,.slice j b.length k,.slice l d.length m,iv o] rfl fun U w hI=>ac (ca hI [iv s,.slice t p.length u] rfl fun V w hI=>ac (ca hI [iv x,iv q] rfl fun I w hI=>pu (iv 0) rfl (pu (iv 0) rfl (aa (ab (rgn rfl (ac (ar hI 2 6 [iv e,iv f,.slice g a.length i,.slice j b.length k,.slice l d.length m,iv o] isAgg28 sizeOf28 rfl rfl rfl rfl ?_)))))))))))
 refine pu (.pointer (some ⟨I,0,none⟩)) rfl (ac (ag hI 0 (iv x) isAgg3 rfl rfl rfl ?_))
 refine pu (.pointer (some ⟨I,1,none⟩)) rfl (ac (ag hI 0 (iv q) isAgg3 rfl rfl rfl ?_))
 refine bt hF (fun y Q hF=>?_)
 refine ac (bg hI 88 [.agg #[iv e,iv f,.slice g a.length i,.slice j b.length k,.slice l d.length m,iv o],iv x,iv q] (iv y) (by kernel_rfl) (L88 _ e f g i a j k b l m d o x q (z.inv0 hI) A B (C.inv0 hI) D E (F.inv0 hI) G H N _ Q) fun w hI=>pu (iv y) rfl (aa (ab (ab (rgn rfl (pu (iv y) rfl (ifE hF (fun J hF=>?_) (fun J hF=>?_))))))))
 ·
  refine ac (de rfl rfl (fun h=>absurd J h) (fun _=>?_))
  refine aa (ai rfl (ak (ab (ab (rgn rfl (ac (ar hI 2 6 [iv e,iv f,.slice g a.length i,.slice j b.length k,.slice l d.length m,iv o] isAgg28 sizeOf28 rfl rfl rfl rfl ?_)))))))
  refine pu (.pointer (some ⟨I,1,none⟩)) rfl (ac (ag hI 0 (iv q) isAgg3 rfl rfl rfl ?_))
  refine ac (ar hI 1 2 [iv s,.slice t p.length u] isAgg57 sizeOf57 rfl rfl rfl rfl ?_)
  refine bt hF (fun R S hF=>?_)
  refine ac (bg hI 43 [.agg #[iv e,iv f,.slice g a.length i,.slice j b.length k,.slice l d.length m,iv o],iv q,.agg #[iv s,.slice t p.length u]] (iv R) (by kernel_rfl) (L43 _ e f g i a j k b l m d o q s t u p (z.inv0 hI) A B (C.inv0 hI) D E (F.inv0 hI) G H (M.inv0 hI) O P N _ S) fun w hI=>ifE hF (fun K hF=>?_) (fun K hF=>?_))
  ·
   refine ac (de rfl rfl (fun h=>absurd K h) (fun _=>?_))
   refine aa (ai rfl (ak (ab (rgn rfl (ac (ar hI 2 6 [iv e,iv f,.slice g a.length i,.slice j b.length k,.slice l d.length m,iv o] isAgg28 sizeOf28 rfl rfl rfl rfl ?_))))))
   refine ac (ar hI 1 2 [iv s,.slice t p.length u] isAgg57 sizeOf57 rfl rfl rfl rfl ?_)
   refine ac (ar hI 0 2 [iv x,iv q] isAgg65 sizeOf65 rfl rfl rfl rfl ?_)
   refine bt hF (fun L T hF=>?_)
   refine ac (bg hI 108 [.agg #[iv e,iv f,.slice g a.length i,.slice j b.length k,.slice l d.length m,iv o],.agg #[iv s,.slice t p.length u],.agg #[iv x,iv q]] (iv L) (by kernel_rfl) (L108 _ e f g i a j k b l m d o s t u p x q (z.inv0 hI) A B (C.inv0 hI) D E (F.inv0 hI) G H (M.inv0 hI) O P N _ T) fun w hI=>pu (iv L) rfl (pu (iv 0) rfl (aa (aj ?_))))
   replace hF:=Option.some.inj hF; subst hF
   exact ⟨.tuple #[iv L,iv 0],Ret.r2 rfl rfl rfl,⟨rfl,hI.below⟩⟩
  refine ac (de rfl rfl (fun _=>?_) (fun h=>absurd h K))
  refine aa (ah rfl (ab (rgn rfl (pu (iv 0) rfl (pu (iv 16) rfl (aa (aj ?_)))))))
  replace hF:=Option.some.inj hF; subst hF
  exact ⟨.tuple #[iv 0,iv 16],Ret.r2 rfl rfl rfl,⟨rfl,hI.below⟩⟩
 refine ac (de rfl rfl (fun _=>?_) (fun h=>absurd h J))
 refine aa (ah rfl (ab (rgn rfl (pu (iv y) rfl (pu (iv 0) rfl (pu (iv y) rfl (aa (aj ?_))))))))
 replace hF:=Option.some.inj hF; subst hF
 exact ⟨.tuple #[iv 0,iv y],Ret.r2 rfl rfl rfl,⟨rfl,hI.below⟩⟩


end Go.K
